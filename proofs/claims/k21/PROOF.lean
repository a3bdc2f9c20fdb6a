import PyProof.Rows.All
import Wide.All
import OpenK.AllK
import Wide.FinOn
import Lean
import PyProof.EqAt
import PyProof.EqKinds
import PyProof.TupleCall
import PySem.Challenge.RW_readgrove_k21_papers_told
open PySem renaming wpAny_bind→Aa,Value→Ac,wpAny_pure→Ag,Shared→Ah,sizeLine→Aj,wpAny→Ax,starEach→Bj,model→Bk,Program→Bl,FuncData→Br,Around→Bu,World→Cd,compareOp→Cf,wpAny_holding→Cs,bootBuiltins→Cv,wpAny_newObj_type→Dd,wpAny_call_entry→De,wpAny_ite_split→Dh,wpAny_callSpecial?_slot→Ee,wpAny_rule→Ei,mainGlobals→El,intKind→En,wpAny_setField→Ex,wpAny_Call_Name_kw→Fh,tupleKind_room_in1→Fi,wpAny_field→Fl,wpAny_askSetting→Fm,wpAny_setState_of→Fq,binaryOp→Fs,codeAny_builtin→Fv,cLine→Fz,wpAny_seqItems→Gg,tupleKind→Gk,sysModules→Gm,rawInt→Gv,assignEach→Hd,Builtin→Hg,mem_of_lookup→Hk,sizeLine_eq→Hl,foldedSetIterable→Hm,SetTable→Ho,wpAny_mono→Hv,plainId_quiet→Hw,IsPair→Hy,pyNext→Hz,backTo→Ia,DictEntry→Ig,wpAny_typeNameOfWhole_keyiter→Ij,wpAny_setField_rec→Ip,holding→Iq,Paired→Ir,wpAny_passesOwn→Iy,behindInMarks→Ja,wpAny_notOrdered_dict→Jd,builtinLookup_eq_fast→Je,wpAny_truthy_bool→Jg,wpAny_pyIter_list→Jh,wpAny_dictEntries→Ji,NameKind→Jo,wpAny_isInstance→Jt,wpAny_eqBool_int→Ju,codeAny→Jv,wpAny_typeNameOf_keyiter→Kb,wpAny_attempt→Kd,attributeBase→Ke,Scope→Kf,swapsWith→Kj,wpAny_typeOf→Kq,firstArgMember→Kr,codeAny_mono→Ks,call_meets→Lh,sliceBounds→Li,typeLookup_type→Lm,call_meetsIn→Lu,pickOrder→Lx,wpAny_tupleItemsOf→Lz,setsByText→Ma,isSubtype_type→Mb,PyData→Md,Expr→Mp,keywordEach→Ms,Model→Mu,assign→Mx,wpAny_pyIter_zip→Nd,atKey→Nf,storedH→Nn,wpAny_execs_nil→Nu,size_of_entries→Nv,letOwnedTupleGo→Nw,wpAny_updateSeq_pair→Oc,wpAny_fieldsOf→Od,pyIter→Oe,IsZip→Of,standAt→Og,scanBound→Oh,getMethod→Oi,wpAny_setEntries_of→Oj,wpAny_standAt→Ol,wpAny_onRaise→Om
open List renaming length_map→Ab,getElem?_eq_getElem→Am,getElem?_eq_some_iff→An,map_cons→Ar,mem_map→Au,length_append→Aw,mem_singleton→Az,mem_cons→Ba,size_toArray→Bb,mem_of_getElem?→Bc,mem_cons_of_mem→Bd,mem_cons_self→Bg,getElem?_map→Bi,mem_append→Bo,length_cons→Bp,map_append→Bs,replicate→Bz,range→Cb,append_assoc→Ce,length_take→Cg,lookup→Cm,pairwise_append→Ct,mem_append_right→Dc,length→Dl,nodup_cons→Dq,take_of_length_le→Dw,length_singleton→Eb,map_map→Ed,mem_range→Eg,mem_nil_iff→Ej,mem_append_left→Ep,take_length→Eu,not_mem_nil→Ew,length_range→Ey,filter_cons→Ff,mem_filter→Fo,find?_cons→Fp,pairwise_iff_getElem→Ft,nodup_nil→Fy,take_add_one→Ga,pairwise_map→Gb,nodup_append→Gd,foldl_cons→Ge,append_nil→Gf,replicate_succ→Gh,mem_map_of_mem→Gi,filterMap_cons→Gj,any_cons→Gp,length_drop→Gs,perm_append_comm→Gx,eq_nil_or_concat→Gy,concat_eq_append→Gz,drop_eq_getElem_cons→Hb,mem_iff_getElem→Hf,mem_flatMap→Hs,lookup_cons→Ht,length_filter_le→Il,getElem?_eq_none→Im,flatten_cons→Iu,zipIdx_cons→Jj,getLastD_eq_getLast?→Jl,length_pos_iff→Jn,all_cons→Js,length_eq_zero_iff→Ka,map_nil→Kh,drop_of_length_le→Ki,any_eq_true→Km,all_eq_true→Kn,mem_of_mem_take→Ky,nil_append→Ld,drop_zero→Lk,map_take→Ly,perm_middle→Mf,pairwise_singleton→Mh,map→Mi,getElem?_cons_succ→Mj,append_inj'→Ml,length_pos_of_mem→Mv,take_append_drop→Nb,take_zero→Nj,mem_of_mem_drop→Nk,map_congr_left→Nx,map_drop→Oa
open PySem.W renaming Frag→Ae,findIn→Ci,kia_one→Ez,fnOf→Fb,emptyDict→Fj,keepIn→Fw,instObj→Ha,kitOne→Jx,codeIn→Jy,mg_of→Kk,plainGet→Lv,isFn→Mc,lookIn→My,plainGet_of→Ng
open PySem.Heap renaming get?_push_of_some→Af,lt_size→Ak,get?_push_size→Ap,size_push→Dr,SameBut→Dx,get?_update_self→Fc,get?_update_other→Fn
open Nat renaming le_refl→Ai,ne_of_lt→Be,le_trans→Bh,lt_of_lt_of_le→Bt,zero_le→Bx,ne_of_gt→Dy,le_of_eq→Fe,zero_add→Gn,lt_irrefl→Gr,lt_trans→Hh,lt_succ_of_lt→Hi,lt_of_succ_lt→Hj,add_le_add_left→Hr,lt_succ_self→Hx,le_of_lt→Ic,min_le_left→Ii,le_succ→Lb,lt_of_lt_of_eq→Lp,lt_of_le_of_lt→Lq,eq_or_lt_of_le→Lr,le_add_right→Mq,min_eq_left→Na,mul_le_mul→Nq,add_lt_add_left→Ny
open Bool renaming false_ne_true→Ao,false_eq_true→Cp,and_eq_true→Cr,eq_iff_iff→Er,not_true→Ku,and_eq_true_iff→Kz,not_eq_true'→Lw,not_false→Nm
open PyProof.Rows renaming wpS_bind→Av,Keyed→Ay,wpS_pure→Bf,SortSt→Cq,arrOf→Dg,callWith_type1→Du,pendingOf→Ec,wpS_forRange→Eh,wpS_mono→Hc,SortKind→He,failedOf→Hn,wpS_modify→Hu,IntsAre→Iv,slot_tuple_getitem→Jq,wpS_get→Ko,seqObj→Lg,lt_int→Me,envOfC→Mw,wpS_lift→Nc,AllBare→Nt
open Option renaming map_eq_some_iff→Bn,map_some→Kx
open Ne renaming symm→Bq
open Array renaming length_toList→Bv,toList_append→Bw,getElem?_eq_some_iff→Co,getElem?_toList→Ds,perm_iff_toList_perm→Iz,toList_reverse→Kv,toArray_toList→Kw,getElem?_eq_getElem→Ls
open PySem.Heap.SameBut renaming update→Ca
open Int renaming toNat_natCast→Cj,emod_lt_of_pos→Ie,emod_nonneg→Jw,zero_add→Lj,le_refl→Nr
open PySem.PassesOwn renaming never→Ck
open PySem.Txt renaming partition→Cu
open List.Perm renaming append_left→Cw,append_right→Hq
open List.cons renaming injEq→Cy
open PySem.Str renaming ofString→Cz
open Prod.mk renaming injEq→Dk
open Prod renaming fst→Dv,snd→Jr
open Option.some renaming inj→Dz,injEq→Es
open PySem.Builtin.SmallTypes renaming nextOf→Ea,ownedTupleIsFree→Fu
open PySem.F renaming plainAttrs_list→Ef,slot_dict_keyiterator_next→Fd,slot_list_append→Fg,type_list_append→Fx,plainAttrs_dict→Jc,slot_tuple_iterator_next→Jm,called_set→Jp,entry_dict_get→Jz,slot_dict_get→Kg,slot_list_getattribute→Mr,slot_zip_next→Nl
open Classical renaming propDecidable→Ek
open PySem.Around renaming under_plainId→Em
open PySem.Paired renaming length→Eo
open PySem.Obj renaming mapFields→Et,mapSeq→Gw,data_mapFields→Ib,data_mapDictKeys→La,isFreed_of_fields→Nh
open PySem.PyData renaming eqv→Gq,depth→Jb,eqvAll→Np
open False renaming elim→Gu
open PySem.Builtin.Slice renaming slicePlaces→Ih,sliceAdjust→Kt
open PySem.SetTable renaming grown→Ik
open PySem.Builtin.Tuple renaming tupleExact→Iw
open PySem.Builtin.Dict renaming updateFrom→Jf
open PySem.Builtin.Str renaming occurrences→Jk
open PySem.Builtin.List renaming listExtendWith→Kl,listTooLong→Lf
open List.Pairwise renaming imp_of_mem→Lc
open Sum.inl renaming injEq→Lo
open PySem.Walks renaming list→Mo
open PyProof.Rows.F renaming plain_set_update_loop→Mz
open Function renaming comp→Ni
open PySem.SeqAt renaming EqAt→Oo
set_option Elab.async false
set_option compiler.extract_closed false
set_option bootstrap.genMatcherCode false
set_option linter.all false
set_option maxRecDepth 100000
namespace L2
open PySem PySem.Spec PyProof.Rows
abbrev aD:=Sum Int Str
def lX:aD->Ac->Bool
 | .inl k,v=>Value.isInt k v
 | .inr x,v=>Value.isStrOf x v
def JR(w:Cd):aD->Int
 | .inl k=>hashInt k
 | .inr x=>hashStr w x
theorem jE:∀ {k:aD} {v:Ac},lX k v=true->(∃ i t,k=Sum.inl i/\v=Value.int i t)\/(∃ x t,k=Sum.inr x/\v=Value.str x t)
 | .inl i,v,h=>by
  obtain⟨t,e⟩:=Value.isInt_shape (k:=i) (v:=v) h
  exact .inl ⟨i,t,rfl,e⟩
 | .inr x,v,h=>by
  obtain⟨t,e⟩:=Value.isStrOf_shape (x:=x) (v:=v) h
  exact .inr ⟨x,t,rfl,e⟩
theorem JS(i:Int)(t:Tok):lX (.inl i) (.int i t)=true:=by simp[lX,Value.isInt]
theorem JT(x:Str)(t:Tok):lX (.inr x) (.str x t)=true:=by simp[lX,Value.isStrOf]
theorem JU(a b:Int):decide ((Sum.inl a:aD)=Sum.inl b)=(a == b):=by
 by_cases e:a=b
 ·subst e;simp
 ·have h:¬ (Sum.inl a:aD)=Sum.inl b:=fun q=>e (Sum.inl.inj q)
  rw[decide_eq_false h]
  exact(beq_eq_false_iff_ne.mpr e).symm
theorem JV(a b:Str):decide ((Sum.inr a:aD)=Sum.inr b)=decide (a=b):=by
 by_cases e:a=b
 ·subst e;simp
 ·have h:¬ (Sum.inr a:aD)=Sum.inr b:=fun q=>e (Sum.inr.inj q)
  rw[decide_eq_false h,decide_eq_false e]
theorem JW(a:Int)(b:Str):decide ((Sum.inl a:aD)=Sum.inr b)=false:=decide_eq_false (fun q=>nomatch q)
theorem JX(a:Str)(b:Int):decide ((Sum.inr a:aD)=Sum.inl b)=false:=decide_eq_false (fun q=>nomatch q)
def dA(prog:Bl)(w:Cd):PySem.KeyKind prog w aD where
 is:=lX
 hash:=JR w
 inj:=fun v a b ha hb=>by
  rcases jE ha with⟨i,t,rfl,rfl⟩ | ⟨x,t,rfl,rfl⟩
  ·rcases jE hb with⟨j,u,rfl,e⟩ | ⟨y,u,rfl,e⟩
   ·injection e with e1 _;rw[e1]
   ·exact nomatch e
  ·rcases jE hb with⟨j,u,rfl,e⟩ | ⟨y,u,rfl,e⟩
   ·exact nomatch e
   ·injection e with e1 _;rw[e1]
 byValue:=fun k v h=>by
  rcases jE h with⟨i,t,rfl,rfl⟩ | ⟨x,t,rfl,rfl⟩ <;> rfl
 pyHash:=fun c h=>by
  rcases jE c with⟨i,t,rfl,rfl⟩ | ⟨x,t,rfl,rfl⟩
  ·exact wpAny_pyHash_int h
  ·exact wpAny_pyHash_str h
 eqBool:=fun d c h=>by
  rcases jE d with⟨i,t,rfl,rfl⟩ | ⟨x,t,rfl,rfl⟩
  ·rcases jE c with⟨j,u,rfl,rfl⟩ | ⟨y,u,rfl,rfl⟩
   ·rw[JU] at h;exact Ju h
   ·rw[JW] at h;exact SeqAt.EqAt.int_str i t y u _ _ _ _ h
  ·rcases jE c with⟨j,u,rfl,rfl⟩ | ⟨y,u,rfl,rfl⟩
   ·rw[JX] at h;exact SeqAt.EqAt.str_int x t j u _ _ _ _ h
   ·rw[JV] at h;exact wpAny_eqBool_str h
 «strs»:=fun k x t v h=>by
  rcases jE h with⟨i,u,rfl,e⟩ | ⟨y,u,rfl,e⟩
  ·exact nomatch e
  ·injection e with e1 _
   subst e1
   cases v <;> rfl
theorem JY(prog:Bl)(w:Cd)(i:Int)(t:Tok):(dA prog w).is (.inl i) (.int i t)=true:=JS i t
theorem JZ(prog:Bl)(w:Cd)(x:Str)(t:Tok):(dA prog w).is (.inr x) (.str x t)=true:=JT x t
inductive V where
 | non | bl (b:Bool) | int (i:Int) | str (x:Str) | byt (b:Array UInt8) | flt (b:UInt64) | ref (a:Addr) | ty (n:String)
 deriving DecidableEq
def RelV:V->Ac->Prop
 | .non,u=>u=Value.none
 | .bl b,u=>u=Value.bool b
 | .int i,u=>∃ t,u=Value.int i t
 | .str x,u=>∃ t,u=Value.str x t
 | .byt b,u=>∃ t,u=Value.bytes b t
 | .flt b,u=>∃ t,u=Value.float b t
 | .ref a,u=>u=Value.ref a
 | .ty n,u=>u=Value.type n
abbrev aQ:List V->List Ac->Prop:=Ir RelV
theorem aQ.length{xs:List V}{us:List Ac}(r:aQ xs us):xs.length=us.length:=Eo r
theorem aQ.get:∀ {xs:List V} {us:List Ac} {i:Nat} {x:V},aQ xs us->xs[i]? = some x->∃ u,us[i]? = some u/\RelV x u
 | _,_,_,_,.nil,e=>by simp at e
 | _,_,0,_,.cons r _,e=>by simp at e;subst e;exact⟨_,rfl,r⟩
 | _,_,i + 1,x,.cons _ t,e=>by
  obtain⟨u,h1,h2⟩:=aQ.get (i:=i) (x:=x) t (by simpa using e)
  exact⟨u,by simpa using h1,h2⟩
theorem aQ.set{x:V}{u:Ac}(r:RelV x u):∀ {xs:List V} {us:List Ac} (i:Nat),aQ xs us->aQ (xs.set i x) (us.set i u)
 | _,_,_,.nil=>.nil
 | _,_,0,.cons _ t=>.cons r t
 | _,_,i + 1,.cons q t=>.cons q (aQ.set r i t)
theorem aQ.append:∀ {xs ys:List V} {us ws:List Ac},aQ xs us->aQ ys ws->aQ (xs ++ ys) (us ++ ws)
 | _,_,_,_,.nil,s=>s
 | _,_,_,_,.cons r t,s=>.cons r (aQ.append t s)
theorem aQ.take:∀ {xs:List V} {us:List Ac} (n:Nat),aQ xs us->aQ (xs.take n) (us.take n)
 | _,_,0,_=>.nil
 | _,_,_ + 1,.nil=>.nil
 | _,_,n + 1,.cons r t=>.cons r (aQ.take n t)
theorem aQ.drop:∀ {xs:List V} {us:List Ac} (n:Nat),aQ xs us->aQ (xs.drop n) (us.drop n)
 | _,_,0,r=>r
 | _,_,_ + 1,.nil=>.nil
 | _,_,n + 1,.cons _ t=>aQ.drop n t
def fD:Option V->Option Ac->Prop
 | some v,some u=>RelV v u
 | none,none=>True
 | _,_=>False
def KV{κ:Type}:List (κ×V)->List (κ×Ac)->Prop:=Ir fun(p:κ×V) (q:κ×Ac)=>p.1=q.1/\RelV p.2 q.2
def kV:aD->V
 | .inl i=>.int i
 | .inr x=>.str x
inductive HO where
 | lst (xs:List V)
 | tup (xs:List V)
 | dK (kvs:List (aD×V)) | dT (kvs:List (List aD×V))
 | set (S:Int->Bool) (n:Nat)
 | ins (C dx:Addr) (fs:List (Str×V))
 | own (x:Addr)
 | xd (fs:List (Str×V))
 | met (f x:Addr)
 | rng (lo hi:Int)
 | frz (o:Obj) (u:HO)
 | tbl (ps:Array Ac)
 | ext (φ:Heap->Prop)
abbrev Hp:=Addr->Option HO
def aN(H:Hp)(a:Addr)(o:HO):Hp:=fun b=>if b=a then some o else H b
theorem dZ{H:Hp}{a:Addr}{o:HO}:aN H a o a=some o:=by unfold aN;rw[if_pos rfl]
theorem bK{H:Hp}{a b:Addr}{o:HO}(h:b≠a):aN H a o b=H b:=by unfold aN;rw[if_neg h]
theorem uQ{H:Hp}{a b:Addr}{o u:HO}(h:H a=some o)(h':H b=some u)(d:o≠u):a≠b:=by
 intro e;subst e;rw[h] at h';exact d (Dz h')
theorem d6{H:Hp}{a b:Addr}{o:HO}(h:H a=some o)(h':H b=none):a≠b:=by
 intro e;subst e;rw[h] at h';cases h'
section
variable (P:Bl)(w:Cd)
def cN(H:Hp)(h:Heap)(a:Addr):HO->Prop
 | .lst xs=>xs.length<=Aj/\∃ (its:List Ac) (n:Nat),aQ xs its/\h.get? a=some {cls:=.type "list",data:=.seq its.toArray n}
 | .tup xs=>xs.length<=Aj/\∃ its:List Ac,aQ xs its/\IsTup h a its.toArray
 | .dK kvs=>kvs.length<=Aj/\(a == Gm)=false/\∃ vs,KV kvs vs/\h.DictOf (dA P w) a vs
 | .dT kvs=>kvs.length<=Aj/\(a == Gm)=false/\∃ xs:List (List aD×Addr×Ac),
   Ir (fun(p:List aD×V) (q:List aD×Addr×Ac)=>p.1=q.1/\H q.2.1=some (.tup (p.1.map kV))/\RelV p.2 q.2.2) kvs xs/\
   ∃ o es ep,h.get? a=some o/\o.ExactDict/\o.data=.dict es ep/\es.toList=xs.map (entryOfKey (Gk (dA P w)))/\(xs.map (·.1)).Nodup
 | .set S n=>h.SetOf (En P w) a S n
 | .ins C c fs=>H c=some (.own a)/\fs.length<=1000/\c≠a/\h.get? a=some (Ha C c)/\
   ∃ b,h.Ns1 c b/\(∀ f,fD (fs.lookup f) (b f))/\PySem.Within b (fs.map (·.1))
 | .own _=>∃ o,h.get? a=some o
 | .xd fs=>∃ b,h.Ns1 a b/\∀ f,fD (fs.lookup f) (b f)
 | .rng lo hi=>∃ t u v,h.get? a=some {cls:=.type "range",data:=.fields #[.int lo t,.int hi u,.int 1 v]}
 | .frz o u=>h.get? a=some o/\cN H h a u
 | .tbl ps=>h.get? a=some {cls:=.none,data:=.fields ps}
 | .met f x=>h.get? a=some (PySem.W.methodObj (.ref f) (.ref x))
 | .ext d=>d h/\(∃ o,h.get? a=some o)/\∀ h1 h2:Heap,d h1->(∀ o,h1.get? a=some o->h2.get? a=some o)->d h2
def cJ(H:Hp)(h:Heap):Prop:=∀ a o,H a=some o->cN P w H h a o
end
section
variable {P:Bl}{w:Cd}{H H':Hp}{h h':Heap}{a:Addr}{o:HO}
theorem cN.lt(x:cN P w H h a o):a < h.objs.size:=by
 cases o with
 | lst xs=>obtain⟨_,_,_,_,e⟩:=x;exact Ak e
 | tup xs=>obtain⟨_,_,_,p⟩:=x;exact p.lt
 | dK kvs=>obtain⟨_,_,_,_,o,_,_,e,_⟩:=x;exact Ak e
 | dT kvs=>obtain⟨_,_,_,_,o,_,_,e,_⟩:=x;exact Ak e
 | set S n=>obtain⟨o,_,_,_,e,_⟩:=x;exact Ak e
 | ins C b fs=>obtain⟨_,_,_,e,_⟩:=x;exact Ak e
 | own y=>obtain⟨_,e⟩:=x;exact Ak e
 | xd fs=>obtain⟨_,⟨_,_,_,e,_⟩,_⟩:=x;exact Ak e
 | rng lo hi=>obtain⟨_,_,_,e⟩:=x;exact Ak e
 | frz ob u=>obtain⟨e,_⟩:=x;exact Ak e
 | tbl ps=>exact Ak (show h.get? a=some _ from x)
 | met f y=>exact Ak (show h.get? a=some _ from x)
 | ext c=>obtain⟨_,⟨_,e⟩,_⟩:=x;exact Ak e
theorem Paired.mapP{e g:Type}{F G:e->g->Prop}:∀ {d:List e} {c:List g},Ir F d c->(∀ a b,F a b->G a b)->Ir G d c
 | _,_,.nil,_=>.nil
 | _,_,.cons r t,f=>.cons (f _ _ r) (Paired.mapP t f)
theorem cN.stay(x:cN P w H h a o)(k:∀ b u,(b=a\/H b=some (.own a))->h.get? b=some u->h'.get? b=some u)
  (m:∀ b,H b=some (.own a)->H' b=some (.own a)) (ht:∀ b xs,H b=some (.tup xs)->H' b=some (.tup xs)):cN P w H' h' a o:=by
 induction o with
 | lst xs=>obtain⟨z,its,n,r,e⟩:=x;exact⟨z,its,n,r,k _ _ (.inl rfl) e⟩
 | tup xs=>obtain⟨z,its,r,ob,e,c⟩:=x;exact⟨z,its,r,ob,k _ _ (.inl rfl) e,c⟩
 | dK kvs=>obtain⟨z,y,vs,r,ob,es,ep,e,c⟩:=x;exact⟨z,y,vs,r,ob,es,ep,k _ _ (.inl rfl) e,c⟩
 | dT kvs=>
  obtain⟨z,y,xs,r,ob,es,ep,e,c⟩:=x
  exact⟨z,y,xs,Paired.mapP r fun p q z=>⟨z.1,ht _ _ z.2.1,z.2.2⟩,ob,es,ep,k _ _ (.inl rfl) e,c⟩
 | set S n=>obtain⟨ob,es,ep,t,e,c⟩:=x;exact⟨ob,es,ep,t,k _ _ (.inl rfl) e,c⟩
 | ins C A fs=>
  obtain⟨d,z,ne,e,g,⟨i,es,ep,j,c⟩,r⟩:=x
  exact⟨m _ d,z,ne,k _ _ (.inl rfl) e,g,⟨i,es,ep,k _ _ (.inr d) j,c⟩,r⟩
 | own y=>obtain⟨ob,e⟩:=x;exact⟨ob,k _ _ (.inl rfl) e⟩
 | xd fs=>obtain⟨g,⟨i,es,ep,e,c⟩,r⟩:=x;exact⟨g,⟨i,es,ep,k _ _ (.inl rfl) e,c⟩,r⟩
 | rng lo hi=>obtain⟨t,u,v,e⟩:=x;exact⟨t,u,v,k _ _ (.inl rfl) e⟩
 | frz ob u l=>obtain⟨e,q⟩:=x;exact⟨k _ _ (.inl rfl) e,l q⟩
 | tbl ps=>
  have e:h.get? a=some {cls:=.none,data:=.fields ps}:=x
  show h'.get? a=some {cls:=.none,data:=.fields ps}
  exact k a _ (.inl rfl) e
 | met f y=>
  have e:h.get? a=some (PySem.W.methodObj (.ref f) (.ref y)):=x
  show h'.get? a=some (PySem.W.methodObj (.ref f) (.ref y))
  exact k a _ (.inl rfl) e
 | ext s=>obtain⟨p,⟨o,e⟩,st⟩:=x;exact⟨st _ _ p fun o q=>k _ _ (.inl rfl) q,⟨o,k _ _ (.inl rfl) e⟩,st⟩
theorem cJ.lt(x:cJ P w H h)(e:H a=some o):a < h.objs.size:=(x a o e).lt
theorem cJ.fresh(x:cJ P w H h)(e:h.objs.size<=a):H a=none:=by
 cases q:H a with
 | none=>rfl
 | some u=>exact absurd (Bt (x.lt q) e) (Gr _)
theorem cJ.kept(x:cJ P w H h)(k:∀ b u,h.get? b=some u->h'.get? b=some u):cJ P w H h':=fun a o e=>
 (x a o e).stay (fun b u _ q=>k b u q) (fun _ q=>q) fun _ _ q=>q
theorem cJ.laid(x:cJ P w H h)(k:∀ b u,h.get? b=some u->h'.get? b=some u)(f:h.objs.size<=a)(new:cN P w (aN H a o) h' a o):cJ P w (aN H a o) h':=fun b u e=>by
 have d:=x.fresh f
 by_cases hb:b=a
 ·subst hb;rw[dZ] at e;cases e;exact new
 ·rw[bK hb] at e
  exact(x b u e).stay (fun c v _ q=>k c v q) (fun c q=>by rw[bK (d6 q d)];exact q) fun c xs q=>by rw[bK (d6 q d)];exact q
end
def Rd(H:Hp)(a:Addr)(u:HO):Prop:=H a=some u\/∃ o,H a=some (.frz o u)
theorem Rd.ok{P:Bl}{w:Cd}{H:Hp}{h:Heap}{a:Addr}{u:HO}(r:Rd H a u)(x:cJ P w H h):cN P w H h a u:=by
 rcases r with r | ⟨o,r⟩
 ·exact x a u r
 ·obtain⟨_,q⟩:=x a _ r
  exact q
def oJ:Option HO->Prop
 | some (.lst _)=>True
 | some (.dK _)=>True
 | some (.dT _)=>True
 | some (.set _ _)=>True
 | some (.ins _ _ _)=>True
 | some (.ext _)=>True
 | _=>False
section
variable {P:Bl}{w:Cd}{H:Hp}{h h':Heap}{x e:Addr}{o':HO}
theorem cJ.write(ok:cJ P w H h)(g:oJ (H x))(j:e=x\/H e=some (.own x))(k:∀ b u,b≠e->h.get? b=some u->h'.get? b=some u)(i:∃ u,h'.get? e=some u)
  (new:cN P w (aN H x o') h' x o'):cJ P w (aN H x o') h':=fun b u q=>by
 have d:∀ c y,H c=some (.own y)->c≠x:=fun c y r z=>by subst z;rw[r] at g;exact g
 have f:∀ c xs,H c=some (.tup xs)->c≠x:=fun c xs r z=>by subst z;rw[r] at g;exact g
 by_cases hb:b=x
 ·subst hb;rw[dZ] at q;cases q;exact new
 ·rw[bK hb] at q
  by_cases a:b=e
  ·have l:H b=some (.own x):=by
    rcases j with z | z
    ·exact absurd (a.trans z) hb
    ·rw[a];exact z
   rw[q] at l;cases l
   obtain⟨v,m⟩:=i
   exact⟨v,by rw[a];exact m⟩
  ·refine(ok b u q).stay (fun c v hc r=>k c v ?_ r) (fun c r=>by rw[bK (d c b r)];exact r) fun c xs r=>by rw[bK (f c xs r)];exact r
   rcases hc with rfl | hc
   ·exact a
   ·rintro rfl
    rcases j with z | z
    ·exact d c b hc z
    ·rw[hc] at z;cases z;exact hb rfl
end
structure Un(fs ex:List Addr)(H H':Hp)(h h':Heap):Prop where
 keep:∀ b o,h.get? b=some o->H b=none->b∉fs->b∉ex->h'.get? b=some o
 slot:∀ b o,h.get? b=some o->H b=none->b∈fs->b∉ex->∃ sl,h'.get? b=some {o with slots:=sl}
 free:∀ b o,h.get? b=some o->H b=none->b∉ex->H' b=none
 there:∀ b o,h.get? b=some o->b∉ex->∃ o',h'.get? b=some o'
 tups:∀ b xs,H b=some (.tup xs)->H' b=some (.tup xs)
 frzs:∀ b o u,H b=some (.frz o u)->H' b=some (.frz o u)
 tbls:∀ b ps,H b=some (.tbl ps)->∃ more,H' b=some (.tbl (ps ++ more))
section
variable {fs fs' ex ex':List Addr}{H H1 H2:Hp}{h h1 h2 h':Heap}{a x e:Addr}{o:HO}
theorem Un.any(u:Un fs ex H H1 h h1){b:Addr}{ob:Obj}(q:h.get? b=some ob)(n:H b=none)(a:b∉ex):∃ sl,h1.get? b=some {ob with slots:=sl}:=by
 by_cases hb:b∈fs
 ·exact u.slot b ob q n hb a
 ·exact⟨ob.slots,u.keep b ob q n hb a⟩
theorem Un.kept(k:∀ b u,h.get? b=some u->h'.get? b=some u):Un fs ex H H h h':=
 ⟨fun b ob q _ _ _=>k b ob q,fun b ob q _ _ _=>⟨ob.slots,k b ob q⟩,fun _ _ _ n _=>n,fun b ob q _=>⟨ob,k b ob q⟩,fun _ _ q=>q,fun _ _ _ q=>q,fun _ ps q=>⟨#[],by rw[q];simp⟩⟩
theorem Un.refl:Un fs ex H H h h:=Un.kept fun _ _ q=>q
theorem Un.laid(k:∀ b u,h.get? b=some u->h'.get? b=some u)(d:h.objs.size<=a)(c:H a=none):Un fs ex H (aN H a o) h h' where
 keep:=fun b u q _ _ _=>k b u q
 slot:=fun b u q _ _ _=>⟨u.slots,k b u q⟩
 free:=fun b u q n _=>by rw[bK (Be (Bt (Ak q) d))];exact n
 there:=fun b u q _=>⟨u,k b u q⟩
 tups:=fun b xs q=>by rw[bK (d6 q c)];exact q
 frzs:=fun b u xs q=>by rw[bK (d6 q c)];exact q
 tbls:=fun b ps q=>⟨#[],by rw[bK (d6 q c),q];simp⟩
theorem Un.write(c:oJ (H x))(i:e=x\/H e=some (.own x))(k:∀ b u,b≠e->h.get? b=some u->h'.get? b=some u)(f:∃ u,h'.get? e=some u):Un fs ex H (aN H x o) h h':=by
 have g:∀ b,H b=none->b≠x:=fun b n z=>by subst z;rw[n] at c;exact c
 have hb:∀ b,H b=none->b≠e:=fun b n z=>by
  subst z
  rcases i with r | r
  ·exact g b n r
  ·rw[n] at r;cases r
 have d:∀ b u,H b=some u->¬ oJ (some u)->b≠x:=fun b u q nm z=>by subst z;rw[q] at c;exact nm c
 refine⟨fun b u q n _ _=>k b u (hb b n) q,fun b u q n _ _=>⟨u.slots,k b u (hb b n) q⟩,fun b u q n _=>by rw[bK (g b n)];exact n,fun b u q _=>?_,
  fun b xs q=>by rw[bK (d b _ q fun z=>z)];exact q,fun b u xs q=>by rw[bK (d b _ q fun z=>z)];exact q,fun b ps q=>⟨#[],by rw[bK (d b _ q fun z=>z),q];simp⟩⟩
 by_cases a:b=e
 ·subst a;exact f
 ·exact⟨u,k b u a q⟩
end
def qM(h:Heap)(H:Hp):List Addr:=(Cb h.objs.size).filter fun a=>(H a).isSome
def j9(h:Heap)(H:Hp):Heap:=PySem.W.hideAll h (qM h H)
theorem J0(h:Heap)(H:Hp):(j9 h H).objs.size=h.objs.size:=PySem.W.hideAll_size _ _
theorem J1{h:Heap}{H:Hp}{b:Addr}{o:Obj}(e:h.get? b=some o)(n:H b=none):(j9 h H).get? b=some o:=
 PySem.W.hideAll_get _ e fun a=>by
  have q:(H b).isSome=true:=(Fo.mp a).2
  rw[n] at q;simp at q
theorem J2{h:Heap}{H:Hp}{b:Addr}{o:Obj}(e:(j9 h H).get? b=some o):h.get? b=some o/\H b=none:=by
 have a:h.get? b=some o:=PySem.W.of_hideAll (qM h H) e
 refine⟨a,?_⟩
 cases q:H b with
 | none=>rfl
 | some x=>
  have c:b∈qM h H:=Fo.mpr ⟨Eg.mpr (Ak a),by simp[q]⟩
  have z:(j9 h H).get? b=none:=PySem.W.hideAll_none (qM h H) c
  rw[z] at e;cases e
structure Mod(K:Ae)(mg:Str->Option Ac)(base:Heap):Prop where
 kin:K.In base
 glob:base.Ns El mg
 blt:∃ mb,base.Ns builtinsNs mb/\∀ x:Str,x≠"__name__"->mb x=Cv x
 nolimit:base.NoLimit
structure Cx where
 prog:Bl
 w:Cd
 K:Ae
 mg:Str->Option Ac
 base:Heap
 A:Bu
 N:List Str
 s₀:Ah
 H₀:Hp
 env:Env
 outer:List Env
 stack:List Env
 ex:List Addr
 fn:Str->Bool
 calm:Bool
 pn:List (Addr×Obj)
 xe:Ac->Ah->Prop
def gS(l:List Env):List Addr:=l.filterMap (·.frame)
abbrev Cx.fs(X:Cx):List Addr:=gS X.outer
def uR(sc:Kf)(x:Str):Prop:=sc.names.lookup x=some .local\/sc.names.lookup x=some .cell\/sc.names.lookup x=some .free
def Loc(sc:Kf)(x:Str):Prop:=sc.names.lookup x=some .local\/sc.names.lookup x=some .cell
def Look(env:Env)(h:Heap)(m:Str->Option Ac)(x:Str)(u:Ac):Prop:=
 (env.kindOf x=some .local/\m x=some u)\/((env.kindOf x=some .cell\/env.kindOf x=some .free)/\∃ c,env.cells.lookup x=some c/\h.IsCell c (some u))
structure Cx.Ok(X:Cx):Prop where
 mod:Mod X.K X.mg X.base
 kind:X.env.scope.kind=.function
 glob:X.env.globals=El
 blt:X.env.builtins=builtinsNs
 above:X.s₀.heap.objs.size<=X.env.locals
 inj:∀ x y c,X.env.cells.lookup x=some c->X.env.cells.lookup y=some c->x=y
 has:∀ x,(X.env.kindOf x=some .cell\/X.env.kindOf x=some .free)->∃ c,X.env.cells.lookup x=some c
 cab:∀ x c,X.fn x=true->X.env.cells.lookup x=some c->X.s₀.heap.objs.size<=c
 hd:X.calm=true->X.A.handled=none
 frames:X.A.frames=some X.stack
 stk:X.stack=X.outer\/(X.stack=X.env :: X.outer/\X.env.frame=some X.env.locals)
 exf:∀ b∈X.ex,b≠X.env.locals/\∀ x c,X.env.cells.lookup x=some c->c≠b
 bs:∀ b o,X.base.get? b=some o->X.s₀.heap.get? b=some o/\X.H₀ b=none
 bsz:X.base.objs.size<=X.s₀.heap.objs.size
 noex:∀ b o,X.base.get? b=some o->b∉X.ex
 exfs:∀ b∈X.ex,b∉X.fs
 funs:X.s₀.heap.FunFrames X.base X.outer
 frf:∀ b∈X.fs,X.H₀ b=none
structure Inv(X:Cx)(pins:List (Addr×Obj))(σ:List (Option V))(H:Hp)(s:Ah):Prop where
 ok:X.Ok
 os:s.os=X.s₀.os
 bare:Nt s.gens
 base:Un X.fs X.ex X.H₀ H X.s₀.heap s.heap
 loc:∃ m,s.heap.Ns X.env.locals m/\∀ (i:Nat) (x:Str) (v:V),X.N[i]? = some x->σ[i]? = some (some v)->uR X.env.scope x->∃ u,RelV v u/\Look X.env s.heap m x u
 cell:∀ x c,X.env.cells.lookup x=some c->∃ v,s.heap.IsCell c v
 free:H X.env.locals=none
 freeC:∀ x c,X.env.cells.lookup x=some c->H c=none
 pin:∀ p∈X.pn ++ pins,s.heap.get? p.1=some p.2/\H p.1=none/\p.1≠X.env.locals/\p.1∉X.fs/\∀ v,p.2.data≠.cell v
 hok:cJ X.prog X.w H s.heap
 len:σ.length=X.N.length
section
variable {X:Cx}{pins:List (Addr×Obj)}{σ:List (Option V)}{H H':Hp}{s:Ah}{h':Heap}
theorem Cx.Ok.nofr(ok:X.Ok){b:Addr}{o:Obj}(e:X.base.get? b=some o):b∉X.fs:=fun hb=>by
 have:=(ok.funs.mem hb).1
 rw[e] at this;cases this
theorem Inv.bs(I:Inv X pins σ H s):∀ b o,X.base.get? b=some o->s.heap.get? b=some o/\H b=none:=fun b o e=>
 ⟨I.base.keep b o (I.ok.bs b o e).1 (I.ok.bs b o e).2 (I.ok.nofr e) (I.ok.noex b o e),I.base.free b o (I.ok.bs b o e).1 (I.ok.bs b o e).2 (I.ok.noex b o e)⟩
theorem Inv.bk(I:Inv X pins σ H s):∀ b o,X.base.get? b=some o->s.heap.get? b=some o:=fun b o e=>(I.bs b o e).1
theorem Inv.mod(I:Inv X pins σ H s):Mod X.K X.mg X.base:=I.ok.mod
theorem Inv.kIn(I:Inv X pins σ H s):X.K.In s.heap:=I.ok.mod.kin.keeps I.bk
theorem Inv.lt(I:Inv X pins σ H s):X.env.locals < s.heap.objs.size:=let ⟨_,hn,_⟩:=I.loc;hn.lt
theorem Inv.sz(I:Inv X pins σ H s):X.s₀.heap.objs.size<=s.heap.objs.size:=Bh I.ok.above (Ic I.lt)
theorem Inv.nofs(I:Inv X pins σ H s){a:Addr}(h:s.heap.objs.size<=a):a∉X.fs:=fun hb=>by
 obtain⟨_,o,b,_⟩:=I.ok.funs.mem hb
 exact absurd (Bt (Ak b) (Bh I.sz h)) (Gr _)
theorem Inv.cne(I:Inv X pins σ H s):∀ x c,X.env.cells.lookup x=some c->c≠X.env.locals:=fun x c e z=>by
 obtain⟨v,o,d,hd⟩:=I.cell x c e
 obtain⟨m,⟨o',es,ep,a,b,_⟩,_⟩:=I.loc
 rw[z,a] at d;cases d;rw[b] at hd;cases hd
theorem Inv.funs(I:Inv X pins σ H s):s.heap.FunFrames X.base X.outer:=by
 have all:∀ (l:List Env),(∀ b∈gS l,b∈X.fs)->X.s₀.heap.FunFrames X.base l->s.heap.FunFrames X.base l:=by
  intro l
  induction l with
  | nil=>intro _ _;trivial
  | cons env r f=>
   intro hs hl
   obtain⟨hk,⟨L,o,hf,d,g,hd⟩,c⟩:=hl
   have a:L∈X.fs:=hs L (by unfold gS;rw[Gj,hf];exact Bg)
   obtain⟨sl,e⟩:=I.base.slot L o g (I.ok.frf L a) a fun z=>I.ok.exfs L z a
   exact⟨hk,⟨L,_,hf,d,e,hd⟩,f (fun b hb=>hs b (by unfold gS;rw[Gj,hf];exact Bd _ hb)) c⟩
 exact all X.outer (fun _ hb=>hb) I.ok.funs
theorem Inv.stack(I:Inv X pins σ H s):s.heap.FunFrames X.base X.stack:=by
 rcases I.ok.stk with e | ⟨e,hf⟩
 ·rw[e];exact I.funs
 ·rw[e]
  obtain⟨m,a,_⟩:=I.loc
  refine .cons (by rw[I.ok.kind];decide) hf a ?_ I.funs
  exact Heap.get?_none_of_le (Bh I.ok.bsz I.ok.above)
theorem Inv.stkSub(I:Inv X pins σ H s):∀ b∈gS X.stack,b∈X.env.locals :: X.fs:=fun b hb=>by
 rcases I.ok.stk with e | ⟨e,hf⟩
 ·rw[e] at hb;exact Bd _ hb
 ·rw[e] at hb
  unfold gS at hb
  rw[Gj,hf] at hb
  exact hb
theorem Inv.stkFree(I:Inv X pins σ H s):∀ b∈gS X.stack,H b=none:=fun b hb=>by
 rcases Ba.mp (I.stkSub b hb) with e | hb
 ·rw[e];exact I.free
 ·obtain⟨_,o,a,_⟩:=I.ok.funs.mem hb
  exact I.base.free b o a (I.ok.frf b hb) fun z=>I.ok.exfs b z hb
theorem Inv.step{g':Array GenState}{t':Nat}{d':Drawn}{ch:List Addr}(I:Inv X pins σ H s)
  (g:∀ b∈ch,(b∈X.ex\/X.s₀.heap.objs.size<=b)/\b≠X.env.locals/\(∀ x c,X.env.cells.lookup x=some c->c≠b)/\∀ p∈X.pn ++ pins,p.1≠b)
  (keep:∀ b o,b≠X.env.locals->b∉X.fs->b∉ch->s.heap.get? b=some o->H b=none->h'.get? b=some o)
  (slot:∀ b o,b≠X.env.locals->b∈X.fs->b∉ch->s.heap.get? b=some o->H b=none->∃ sl,h'.get? b=some {o with slots:=sl}) (free:∀ b o,b∉ch->s.heap.get? b=some o->H b=none->H' b=none)
  (there:∀ b o,b∉ch->s.heap.get? b=some o->∃ o',h'.get? b=some o')
  (tups:∀ b xs,H b=some (.tup xs)->H' b=some (.tup xs)) (frzs:∀ b o u,H b=some (.frz o u)->H' b=some (.frz o u)) (tbls:∀ b ps,H b=some (.tbl ps)->∃ more,H' b=some (.tbl (ps ++ more)))
  (ns:∀ m,s.heap.Ns X.env.locals m->h'.Ns X.env.locals m) (hok:cJ X.prog X.w H' h') (J:Nt g') :
  Inv X pins σ H' {s with heap:=h',gens:=g',drawn:=d',toks:=t'}:=by
 have B:∀ b o,X.s₀.heap.get? b=some o->b≠X.env.locals:=fun b o e=>Be (Bt (Ak e) I.ok.above)
 have j:∀ b o,X.s₀.heap.get? b=some o->b∉X.ex->b∉ch:=fun b o e a hb=>by
  rcases(g b hb).1 with z | z
  ·exact a z
  ·exact absurd (Bt (Ak e) z) (Gr _)
 have f:∀ x c,X.env.cells.lookup x=some c->∀ v,s.heap.IsCell c v->h'.IsCell c v:=fun x c e v ⟨o,y,hd⟩=>by
  have h:c∉ch:=fun z=>(g c z).2.2.1 x c e rfl
  by_cases hc:c∈X.fs
  ·obtain⟨sl,q⟩:=slot c o (I.cne x c e) hc h y (I.freeC x c e)
   exact⟨_,q,hd⟩
  ·exact⟨o,keep c o (I.cne x c e) hc h y (I.freeC x c e),hd⟩
 refine⟨I.ok,I.os,J,⟨fun b o e n hb a=>?_,fun b o e n hb a=>?_,fun b o e n a=>?_,fun b o e a=>?_,fun b xs e=>tups b xs (I.base.tups b xs e),fun b o xs e=>frzs b o xs (I.base.frzs b o xs e),fun b ps e=>?_⟩,?_,fun x c e=>?_,?_,fun x c e=>?_,fun p D=>?_,hok,I.len⟩
 ·exact keep b o (B b o e) hb (j b o e a) (I.base.keep b o e n hb a) (I.base.free b o e n a)
 ·obtain⟨sl,t⟩:=I.base.slot b o e n hb a
  obtain⟨C,A⟩:=slot b _ (B b o e) hb (j b o e a) t (I.base.free b o e n a)
  exact⟨C,A⟩
 ·obtain⟨o',t⟩:=I.base.there b o e a
  exact free b o' (j b o e a) t (I.base.free b o e n a)
 ·obtain⟨o',t⟩:=I.base.there b o e a
  exact there b o' (j b o e a) t
 ·obtain⟨L,t⟩:=I.base.tbls b ps e
  obtain⟨F,A⟩:=tbls b _ t
  exact⟨L ++ F,by rw[A,Array.append_assoc]⟩
 ·obtain⟨m,K,hl⟩:=I.loc
  refine⟨m,ns m K,fun i x v t A G=>?_⟩
  obtain⟨u,r,l⟩:=hl i x v t A G
  refine⟨u,r,?_⟩
  rcases l with l | ⟨k,c,e,z⟩
  ·exact .inl l
  ·exact .inr ⟨k,c,e,f x c e _ z⟩
 ·obtain⟨v,z⟩:=I.cell x c e
  exact⟨v,f x c e v z⟩
 ·obtain⟨m,⟨o,_,_,y,_⟩,_⟩:=I.loc
  exact free _ o (fun z=>(g _ z).2.1 rfl) y I.free
 ·obtain⟨v,o,y,hd⟩:=I.cell x c e
  exact free c o (fun z=>(g c z).2.2.1 x c e rfl) y (I.freeC x c e)
 ·obtain⟨e,n,ne,E,d⟩:=I.pin p D
  have h:p.1∉ch:=fun z=>(g p.1 z).2.2.2 p D rfl
  exact⟨keep p.1 p.2 ne E h e n,free p.1 p.2 h e n,ne,E,d⟩
theorem Inv.un{t':Nat}(I:Inv X pins σ H s)(u:Un X.fs [] H H' s.heap h')(hok:cJ X.prog X.w H' h'):Inv X pins σ H' {s with heap:=h',toks:=t'}:=by
 obtain⟨m,⟨o,es,ep,f,r⟩,_⟩:=id I.loc
 obtain⟨sl,i⟩:=u.any f I.free (by simp)
 exact I.step (g':=s.gens) (d':=s.drawn) (ch:=[]) (fun _ z=>nomatch z) (fun b o _ hb _ e n=>u.keep b o e n hb (by simp)) (fun b o _ hb _ e n=>u.slot b o e n hb (by simp)) (fun b o _ e n=>u.free b o e n (by simp)) (fun b o _ e=>u.there b o e (by simp)) u.tups u.frzs u.tbls (fun j g=>by
  obtain⟨o',c,d,a,h⟩:=g
  rw[f] at a;cases a
  exact⟨_,c,d,i,h⟩) hok I.bare
theorem Inv.call{g':Array GenState}{t':Nat}{d':Drawn}{ch:List Addr}(I:Inv X pins σ H s)(u:Un (gS X.stack) ch H H' s.heap h')(hok:cJ X.prog X.w H' h')(j:Nt g')
  (a:∀ b∈ch,(b∈X.ex\/X.s₀.heap.objs.size<=b)/\b≠X.env.locals/\(∀ x c,X.env.cells.lookup x=some c->c≠b)/\∀ p∈X.pn ++ pins,p.1≠b) :
  Inv X pins σ H' {s with heap:=h',gens:=g',drawn:=d',toks:=t'}:=by
 obtain⟨m,⟨o,es,ep,i,r⟩,_⟩:=id I.loc
 obtain⟨sl,f⟩:=u.any i I.free fun z=>(a _ z).2.1 rfl
 exact I.step (ch:=ch) a (fun b o f hb hc e n=>u.keep b o e n (fun z=>(Ba.mp (I.stkSub b z)).elim f hb) hc) (fun b o _ _ hc e n=>u.any e n hc) (fun b o hc e n=>u.free b o e n hc) (fun b o hc e=>u.there b o e hc) u.tups u.frzs u.tbls (fun q k=>by
  obtain⟨o',g,h,d,l⟩:=k
  rw[i] at d;cases d
  exact⟨_,g,h,f,l⟩) hok j
theorem Inv.turned{t':Nat}{it:Addr}(I:Inv X pins σ H s)(k:∀ b o,b≠it->s.heap.get? b=some o->h'.get? b=some o)(h:H it=none)(d:it≠X.env.locals)
  (h1:it∈X.ex\/X.s₀.heap.objs.size<=it) (h2:∀ x c,X.env.cells.lookup x=some c->c≠it) (g:∀ p∈X.pn ++ pins,p.1≠it):Inv X pins σ H {s with heap:=h',toks:=t'}:=by
 have a:∀ b u,H b=some u->b≠it:=fun b u e z=>by rw[z,h] at e;cases e
 refine I.step (g':=s.gens) (d':=s.drawn) (ch:=[it]) (fun b hb=>?_) (fun b o _ _ hc e _=>k b o (fun z=>hc (by simp[z])) e) (fun b o _ _ hc e _=>⟨o.slots,k b o (fun z=>hc (by simp[z])) e⟩) (fun _ _ _ _ n=>n)
  (fun b o hc e=>⟨o,k b o (fun z=>hc (by simp[z])) e⟩) (fun _ _ e=>e) (fun _ _ _ e=>e) (fun b ps e=>⟨#[],by rw[e];simp⟩) (fun m f=>?_) (fun b u e=>?_) I.bare
 ·have e:b=it:=by simpa using hb
  subst e
  exact⟨h1,d,h2,g⟩
 ·obtain⟨o,es,ep,i,r⟩:=f
  exact⟨o,es,ep,k _ o (Bq d) i,r⟩
 ·refine(I.hok b u e).stay (fun c v hc q=>k c v ?_ q) (fun _ q=>q) fun _ _ q=>q
  rcases hc with z | z
  ·rw[z];exact a b u e
  ·exact a c _ z
theorem Inv.tok(I:Inv X pins σ H s)(t:Nat):Inv X pins σ H {s with toks:=t}:=I.un (h':=s.heap) (t':=t) Un.refl I.hok
theorem Inv.kept{t':Nat}(I:Inv X pins σ H s)(k:∀ b u,s.heap.get? b=some u->h'.get? b=some u):Inv X pins σ H {s with heap:=h',toks:=t'}:=I.un (Un.kept k) (I.hok.kept k)
theorem Inv.laid{a:Addr}{o:HO}{t':Nat}(I:Inv X pins σ H s)(k:∀ b u,s.heap.get? b=some u->h'.get? b=some u)(c:s.heap.objs.size<=a)(new:cN X.prog X.w (aN H a o) h' a o) :
  Inv X pins σ (aN H a o) {s with heap:=h',toks:=t'}:=I.un (Un.laid k c (I.hok.fresh c)) (I.hok.laid k c new)
theorem Inv.write{x e:Addr}{o:HO}{t':Nat}(I:Inv X pins σ H s)(c:oJ (H x))(d:e=x\/H e=some (.own x))(k:∀ b u,b≠e->s.heap.get? b=some u->h'.get? b=some u)(a:∃ u,h'.get? e=some u)
  (new:cN X.prog X.w (aN H x o) h' x o):Inv X pins σ (aN H x o) {s with heap:=h',toks:=t'}:=I.un (Un.write c d k a) (I.hok.write c d k a new)
theorem Inv.pins_of{a:List (Addr×Obj)}(I:Inv X pins σ H s)(h:∀ p∈a,s.heap.get? p.1=some p.2/\H p.1=none/\p.1≠X.env.locals/\p.1∉X.fs/\∀ v,p.2.data≠.cell v):Inv X a σ H s:=
 ⟨I.ok,I.os,I.bare,I.base,I.loc,I.cell,I.free,I.freeC,fun p b=>(Bo.mp b).elim (fun z=>I.pin p (Ep _ z)) (h p),I.hok,I.len⟩
theorem zW{N:List Str}(c:N.Nodup){i j:Nat}{x:Str}(a:N[i]? = some x)(b:N[j]? = some x):i=j:=by
 obtain⟨h1,d⟩:=An.mp a
 obtain⟨h2,e⟩:=An.mp b
 exact(List.getElem_inj c).mp (d.trans e.symm)
theorem zX{M:Mu}{A:Bu}{E:Ac->Ah->Prop}{i:Nat}{x:Str}{v:V}{u:Ac}{Q:Unit->Ah->Prop}(I:Inv X pins σ H s)(hN:X.N.Nodup)(hi:X.N[i]? = some x)(l:Loc X.env.scope x)(r:RelV v u)
  (h:∀ s',Inv X pins (σ.set i (some v)) H s'->(∃ a,Dx a s.heap s'.heap/\(a=X.env.locals\/X.env.cells.lookup x=some a))->Q () s') (hf:X.fn x=true\/X.env.scope.names.lookup x=some .local:=by first | exact .inl rfl | exact .inr rfl | assumption):Ax M A (storeName X.env x u) Q E s:=by
 obtain⟨m,hn,hl⟩:=id I.loc
 have L:(X.env.scope.kind == .class || (X.env.scope.kind == .module && X.env.locals != X.env.globals))=false:=by rw[I.ok.kind];rfl
 have C:i < σ.length:=by rw[I.len];exact(An.mp hi).1
 have cne:=I.cne
 have f:∀ {a:Addr} {h':Heap},(∃ o,s.heap.get? a=some o/\H a=none)->Dx a s.heap h'->cJ X.prog X.w H h':=fun {a h'} ha hs b ob e=>by
  obtain⟨_,_,t⟩:=ha
  refine(I.hok b ob e).stay (fun c P hc q=>(hs.2 c ?_).trans q) (fun _ q=>q) fun _ _ q=>q
  rintro rfl
  rcases hc with rfl | hc
  ·rw[t] at e;cases e
  ·rw[t] at hc;cases hc
 rcases l with hk | hk
 ·refine wpAny_storeName_local hk hn (fun h' W hs=>?_) L
  obtain⟨oL,_,_,Z,_⟩:=id hn
  refine h _ ⟨I.ok,I.os,I.bare,⟨fun b o e n hb l=>?_,fun b o e n hb l=>?_,I.base.free,fun b o e l=>?_,I.base.tups,I.base.frzs,I.base.tbls⟩,⟨_,W,fun j y v' g B U=>?_⟩,fun y c e=>?_,I.free,I.freeC,fun p S=>?_,f ⟨oL,Z,I.free⟩ hs,by simpa using I.len⟩ ⟨_,hs,.inl rfl⟩
  ·exact(hs.2 b (Be (Bt (Ak e) I.ok.above))).trans (I.base.keep b o e n hb l)
  ·obtain⟨sl,g⟩:=I.base.slot b o e n hb l
   exact⟨sl,(hs.2 b (Be (Bt (Ak e) I.ok.above))).trans g⟩
  ·obtain⟨o',g⟩:=I.base.there b o e l
   exact⟨o',(hs.2 b (Be (Bt (Ak e) I.ok.above))).trans g⟩
  ·by_cases D:j=i
   ·subst D
    rw[hi] at g;cases g
    rw[List.getElem?_set_self C] at B
    cases B
    exact⟨u,r,.inl ⟨hk,by simp⟩⟩
   ·rw[List.getElem?_set_ne (Bq D)] at B
    obtain⟨u',Y,q⟩:=hl j y v' g B U
    refine⟨u',Y,?_⟩
    rcases q with⟨k,e⟩ | ⟨k,c,e,z⟩
    ·refine .inl ⟨k,?_⟩
     have:y≠x:=fun e=>D (zW hN g (e ▸ hi))
     simp[this,e]
    ·exact .inr ⟨k,c,e,z.sameBut hs (cne y c e)⟩
  ·obtain⟨P,z⟩:=I.cell y c e
   exact⟨P,z.sameBut hs (cne y c e)⟩
  ·obtain⟨e,n,ne,T,d⟩:=I.pin p S
   exact⟨(hs.2 p.1 ne).trans e,n,ne,T,d⟩
 ·have F:X.fn x=true:=by
   rcases hf with z | z
   ·exact z
   ·rw[z] at hk;cases hk
  obtain⟨c,hc⟩:=I.ok.has x (.inl hk)
  obtain⟨P,z⟩:=I.cell x c hc
  refine wpAny_storeName_cell I.ok.kind hk hc z (fun h' O hs=>?_)
  obtain⟨oc,K,J⟩:=id z
  refine h {s with heap:=h'} ⟨I.ok,I.os,I.bare,⟨fun b o e n hb l=>?_,fun b o e n hb l=>?_,I.base.free,fun b o e l=>?_,I.base.tups,I.base.frzs,I.base.tbls⟩,⟨m,hn.sameBut hs (Bq (cne x c hc)),fun j y v' g B U=>?_⟩,fun y R e=>?_,I.free,I.freeC,fun p S=>?_,f ⟨oc,K,I.freeC x c hc⟩ hs,by simpa using I.len⟩ ⟨c,hs,.inr hc⟩
  ·exact(hs.2 b (Be (Bt (Ak e) (I.ok.cab x c F hc)))).trans (I.base.keep b o e n hb l)
  ·obtain⟨sl,g⟩:=I.base.slot b o e n hb l
   exact⟨sl,(hs.2 b (Be (Bt (Ak e) (I.ok.cab x c F hc)))).trans g⟩
  ·obtain⟨o',g⟩:=I.base.there b o e l
   exact⟨o',(hs.2 b (Be (Bt (Ak e) (I.ok.cab x c F hc)))).trans g⟩
  ·by_cases D:j=i
   ·subst D
    rw[hi] at g;cases g
    rw[List.getElem?_set_self C] at B
    cases B
    exact⟨u,r,.inr ⟨.inl hk,c,hc,O⟩⟩
   ·rw[List.getElem?_set_ne (Bq D)] at B
    obtain⟨u',Y,q⟩:=hl j y v' g B U
    refine⟨u',Y,?_⟩
    rcases q with q | ⟨k,R,e,z'⟩
    ·exact .inl q
    ·refine .inr ⟨k,R,e,z'.sameBut hs ?_⟩
     rintro rfl
     exact D (zW hN g (I.ok.inj _ _ _ e hc ▸ hi))
  ·by_cases G:R=c
   ·subst G;exact⟨_,O⟩
   ·obtain⟨w2,z2⟩:=I.cell y R e
    exact⟨w2,z2.sameBut hs G⟩
  ·obtain⟨e,n,ne,T,d⟩:=I.pin p S
   refine⟨(hs.2 p.1 ?_).trans e,n,ne,T,d⟩
   intro q
   rw[q,K] at e
   have q':oc=p.2:=Dz e
   exact d P (by rw[<-q'];exact J)
theorem zY{M:Mu}{A:Bu}{E:Ac->Ah->Prop}{i:Nat}{x:Str}{v:V}{u:Ac}{Q:Unit->Ah->Prop}(I:Inv X pins σ H s)(b:X.N.Nodup)(hi:X.N[i]? = some x)(c:Loc X.env.scope x)(r:RelV v u)
  (h:∀ a,Inv X pins (σ.set i (some v)) H a->Q () a) (hf:X.fn x=true\/X.env.scope.names.lookup x=some .local:=by first | exact .inl rfl | exact .inr rfl | assumption):Ax M A (storeName X.env x u) Q E s:=
 zX I b hi c r (fun a d _=>h a d) hf
theorem Inv.call'{a:Ah}{ch:List Addr}(I:Inv X pins σ H s)(g:a.os=s.os)(u:Un (gS X.stack) ch H H' s.heap a.heap)(hok:cJ X.prog X.w H' a.heap)(f:Nt a.gens)
  (d:∀ b∈ch,(b∈X.ex\/X.s₀.heap.objs.size<=b)/\b≠X.env.locals/\(∀ x c,X.env.cells.lookup x=some c->c≠b)/\∀ p∈X.pn ++ pins,p.1≠b):Inv X pins σ H' a:=by
 obtain⟨h',g',d',t',o'⟩:=a
 have e:o'=s.os:=g
 subst e
 exact I.call (g':=g') (t':=t') (d':=d') u hok f d
end
abbrev XK:=Ac->Option Addr->Hp->Prop
abbrev St:=List (Option V)
abbrev VK:=V->Hp->Prop
abbrev TE:=St->Hp->VK->Prop
abbrev TT:=St->Hp->(Bool->Hp->Prop)->Prop
abbrev TA:=St->Hp->(List V->Hp->Prop)->Prop
structure kA where
 nx:St->Hp->Prop
 rt:VK
 bk:St->Hp->Prop:=fun _ _=>False
 ct:St->Hp->Prop:=fun _ _=>False
abbrev TS:=kA->St->Hp->Prop
def EP(X:Cx)(pins:List (Addr×Obj))(σ:St)(Q:VK)(u:Ac)(a:Ah):Prop:=∃ v H',Inv X pins σ H' a/\RelV v u/\Q v H'
def TP(X:Cx)(pins:List (Addr×Obj))(σ:St)(Q:Bool->Hp->Prop)(b:Bool)(a:Ah):Prop:=∃ H',Inv X pins σ H' a/\Q b H'
def AP(X:Cx)(pins:List (Addr×Obj))(σ:St)(Q:List V->Hp->Prop)(us:List Ac)(a:Ah):Prop:=∃ vs H',Inv X pins σ H' a/\aQ vs us/\Q vs H'
def SP(X:Cx)(pins:List (Addr×Obj))(D:kA)(f:Flow)(b:Ah):Prop:=
 match f with
 | .next=>∃ a H',Inv X pins a H' b/\D.nx a H'
 | .brk=>∃ a H',Inv X pins a H' b/\D.bk a H'
 | .cont=>∃ a H',Inv X pins a H' b/\D.ct a H'
 | .ret u=>∃ v a H',Inv X pins a H' b/\RelV v u/\D.rt v H'
def PE(X:Cx)(e:Expr)(t:TE):Prop:=
 ∀ (pins:List (Addr×Obj)) (s:Ah) (σ:St) (H:Hp) (Q:VK),Inv X pins σ H s->t σ H Q->Ax (Bk X.prog X.w) X.A (eval e X.env) (EP X pins σ Q) X.xe s
def PT(X:Cx)(e:Expr)(t:TT):Prop:=
 ∀ (pins:List (Addr×Obj)) (s:Ah) (σ:St) (H:Hp) (Q:Bool->Hp->Prop),Inv X pins σ H s->t σ H Q->Ax (Bk X.prog X.w) X.A (isTrue e X.env (eval e X.env)) (TP X pins σ Q) X.xe s
def PW(X:Cx)(e:Expr)(t:TT):Prop:=
 ∀ (a:Sem Ac) (pins:List (Addr×Obj)) (s:Ah) (σ:St) (H:Hp) (Q:Bool->Hp->Prop),Inv X pins σ H s->t σ H Q->Ax (Bk X.prog X.w) X.A (isTrue e X.env a) (TP X pins σ Q) X.xe s
theorem PW.pt{X:Cx}{e:Expr}{t:TT}(h:PW X e t):PT X e t:=h _
def PA(X:Cx)(es:List Expr)(t:TA):Prop:=
 ∀ (pos:Pos) (pins:List (Addr×Obj)) (s:Ah) (σ:St) (H:Hp) (Q:List V->Hp->Prop),Inv X pins σ H s->t σ H Q->Ax (Bk X.prog X.w) X.A (spliced (Ia pos (Bj es X.env))) (AP X pins σ Q) X.xe s
def PS(X:Cx)(st:Stmt)(t:TS):Prop:=
 ∀ (pins:List (Addr×Obj)) (s:Ah) (σ:St) (H:Hp) (D:kA),Inv X pins σ H s->t D σ H->Ax (Bk X.prog X.w) X.A (exec st X.env) (SP X pins D) X.xe s
def fI(X:Cx)(st:List Stmt)(t:TS):Prop:=
 ∀ (pins:List (Addr×Obj)) (s:Ah) (σ:St) (H:Hp) (D:kA),Inv X pins σ H s->t D σ H->Ax (Bk X.prog X.w) X.A (execs st X.env) (SP X pins D) X.xe s
theorem aZ{b:Type}{t:Sem b}{Q c:b->Ah->Prop}{M:Mu}{A:Bu}{E:Ac->Ah->Prop}{s:Ah}(h:Ax M A t Q E s)(d:∀ a s,Q a s->c a s):Ax M A t c E s:=Hv h d fun _ _ x=>x
section
variable {X:Cx}
def J3(i:Nat):TE:=fun σ H Q=>∃ v,σ[i]? = some (some v)/\Q v H
def tC(v:V):TE:=fun _ H Q=>Q v H
theorem J4{i:Nat}{x:Str}{pos:Pos}(j:X.N[i]? = some x)(d:uR X.env.scope x)(hd:(x == ("__debug__" : Str))=false:=by decide)(b:(x == ("__classdict__" : Str))=false:=by decide):PE X (.Name x pos) (J3 i):=by
 intro pins s σ H Q I h
 obtain⟨v,e,h⟩:=h
 obtain⟨m,g,hl⟩:=I.loc
 obtain⟨u,r,l⟩:=hl i x v j e d
 have fin:EP X pins σ Q u s:=⟨v,H,I,r,h⟩
 rcases l with⟨hk,f⟩ | ⟨hk,c,hc,a⟩
 ·exact wpAny_Name (wpAny_loadName_local I.ok.kind hk g f fin) hd
 ·rcases hk with hk | hk
  ·exact wpAny_Name (wpAny_loadName_cell I.ok.kind hk hc a fin) hd
  ·exact wpAny_Name (wpAny_loadName_free I.ok.kind hk hc a fin b) hd
theorem J5{i j pos}:PE X (.Constant (.int i) j pos) (tC (.int i)):=fun _ _ _ H _ I h=>wpAny_Constant_int ⟨.int i,H,I.tok _,⟨_,rfl⟩,h⟩
theorem J6{b j pos}:PE X (.Constant (.bool b) j pos) (tC (.bl b)):=fun _ _ _ H _ I h=>Constant_bool ⟨.bl b,H,I,rfl,h⟩
theorem J7{j pos}:PE X (.Constant .none j pos) (tC .non):=fun _ _ _ H _ I h=>Constant_none ⟨.non,H,I,rfl,h⟩
theorem J8{x j pos}:PE X (.Constant (.str x) j pos) (tC (.str x)):=fun _ _ _ H _ I h=>Calls.Constant_str ⟨.str x,H,I.tok _,⟨_,rfl⟩,h⟩
def Gl(X:Cx)(x:Str):Prop:=X.env.kindOf x=some .globalImplicit
theorem qN{E:Ac->Ah->Prop}{pins:List (Addr×Obj)}{s:Ah}{σ:St}{H:Hp}{x:Str}{u:Ac}{pos:Pos}{Q:Ac->Ah->Prop}(I:Inv X pins σ H s)(a:Gl X x)(b:X.mg x=some u)(h:Q u s)
  (hd:(x == ("__debug__" : Str))=false:=by decide):Ax (Bk X.prog X.w) X.A (eval (.Name x pos) X.env) Q E s:=
 Calls.Name_function_global I.ok.kind a (Calls.loadGlobal_global (by rw[I.ok.glob];exact I.mod.glob.keeps I.bk) b h) hd
theorem iU{E:Ac->Ah->Prop}{pins:List (Addr×Obj)}{s:Ah}{σ:St}{H:Hp}{x:Str}{u:Ac}{pos:Pos}{Q:Ac->Ah->Prop}(I:Inv X pins σ H s)(c:Gl X x)(d:X.mg x=none)(b:Cv x=some u)(h:Q u s)
  (a:x≠"__name__":=by decide) (hd:(x == ("__debug__" : Str))=false:=by decide):Ax (Bk X.prog X.w) X.A (eval (.Name x pos) X.env) Q E s:=by
 obtain⟨mb,h1,h2⟩:=I.mod.blt
 exact Calls.Name_function_global I.ok.kind c (Calls.loadGlobal_builtin (by rw[I.ok.glob];exact I.mod.glob.keeps I.bk) d (by rw[I.ok.blt];exact h1.keeps I.bk) ((h2 x a).trans b) h) hd
theorem J9{x:Str}{v:V}{u:Ac}{pos:Pos}(a:Gl X x)(b:X.mg x=some u)(r:RelV v u)(hd:(x == ("__debug__" : Str))=false:=by decide):PE X (.Name x pos) (tC v):=
 fun _ _ _ H _ I h=>qN I a b ⟨v,H,I,r,h⟩ hd
theorem KA{x:Str}{v:V}{u:Ac}{pos:Pos}(c:Gl X x)(d:X.mg x=none)(b:Cv x=some u)(r:RelV v u)(a:x≠"__name__":=by decide)(hd:(x == ("__debug__" : Str))=false:=by decide):PE X (.Name x pos) (tC v):=
 fun _ _ _ H _ I h=>iU I c d b ⟨v,H,I,r,h⟩ a hd
variable {a b:Expr}{ta tb:TE}{pos:Pos}
variable {tA tB':TT}{rest:List Expr}
def KC(t u:TT):TT:=fun σ H Q=>t σ H fun c H1=>if c=true then u σ H1 Q else Q false H1
def KD(t u:TT):TT:=fun σ H Q=>t σ H fun c H1=>if c=true then Q true H1 else u σ H1 Q
def KG(t:TT):TT:=fun σ H Q=>t σ H fun c H1=>Q (!c) H1
theorem KH(ha:PT X a tA):PW X (.BoolOp .And [a] pos) tA:=by
 intro b pins s σ H Q I h
 refine isTrue_and (aZ (ha pins s σ H Q I h) fun c d e=>?_)
 cases c with
 | true=>exact isTrue_and_nil e
 | false=>exact e
theorem KI(ha:PT X a tA):PW X (.BoolOp .Or [a] pos) tA:=by
 intro b pins s σ H Q I h
 refine isTrue_or (aZ (ha pins s σ H Q I h) fun c d e=>?_)
 cases c with
 | false=>exact isTrue_or_nil e
 | true=>exact e
theorem KJ(ha:PT X a tA)(hb:PW X (.BoolOp .And (b :: rest) pos) tB'):PW X (.BoolOp .And (a :: b :: rest) pos) (KC tA tB'):=by
 intro g pins s σ H Q I h
 refine isTrue_and (aZ (ha pins s σ H _ I h) fun c f ⟨H1,d,e⟩=>?_)
 cases c with
 | true=>exact hb g pins f σ H1 Q d e
 | false=>exact⟨H1,d,e⟩
theorem KL(ha:PT X a tA)(hb:PW X (.BoolOp .Or (b :: rest) pos) tB'):PW X (.BoolOp .Or (a :: b :: rest) pos) (KD tA tB'):=by
 intro g pins s σ H Q I h
 refine isTrue_or (aZ (ha pins s σ H _ I h) fun c f ⟨H1,d,e⟩=>?_)
 cases c with
 | true=>exact⟨H1,d,e⟩
 | false=>exact hb g pins f σ H1 Q d e
theorem KN(ha:PT X a tA):PT X (.UnaryOp .Not a pos) (KG tA):=by
 intro pins s σ H Q I h
 exact isTrue_not (ha pins s σ H (fun c H1=>Q (!c) H1) I h)
def KO(ta tb:TE):TE:=fun σ H Q=>ta σ H fun x H1=>∃ c,x=.bl c/\if c=true then tb σ H1 Q else Q (.bl false) H1
def KP(ta tb:TE):TE:=fun σ H Q=>ta σ H fun x H1=>∃ c,x=.bl c/\if c=true then Q (.bl true) H1 else tb σ H1 Q
theorem KQ{op}{t:TE}(h:PE X a t):PE X (.BoolOp op [a] pos) t:=fun pins s σ H Q I hw=>BoolOp_one (h pins s σ H Q I hw)
theorem KR(ha:PE X a ta)(hb:PE X (.BoolOp .And (b :: rest) pos) tb):PE X (.BoolOp .And (a :: b :: rest) pos) (KO ta tb):=by
 intro pins s σ H Q I h
 refine BoolOp_and (aZ (ha pins s σ H _ I h) fun v f ⟨x,H1,e,g,d⟩=>?_)
 obtain⟨c,rfl,d⟩:=d
 cases g
 refine Jg ?_
 cases c with
 | true=>exact hb pins f σ H1 Q e d
 | false=>exact⟨.bl false,H1,e,rfl,d⟩
theorem KU(ha:PE X a ta)(hb:PE X (.BoolOp .Or (b :: rest) pos) tb):PE X (.BoolOp .Or (a :: b :: rest) pos) (KP ta tb):=by
 intro pins s σ H Q I h
 refine BoolOp_or (aZ (ha pins s σ H _ I h) fun v f ⟨x,H1,e,g,d⟩=>?_)
 obtain⟨c,rfl,d⟩:=d
 cases g
 refine Jg ?_
 cases c with
 | false=>exact hb pins f σ H1 Q e d
 | true=>exact⟨.bl true,H1,e,rfl,d⟩
def KW(t:TT)(ta tb:TE):TE:=fun σ H Q=>t σ H fun c H1=>if c=true then ta σ H1 Q else tb σ H1 Q
theorem KY{c:Expr}(hc:PT X c tA)(ha:PE X a ta)(hb:PE X b tb):PE X (.IfExp c a b pos) (KW tA ta tb):=by
 intro pins s σ H Q I h
 refine wpAny_IfExp (aZ (hc pins s σ H _ I h) fun d f ⟨H1,e,g⟩=>?_)
 cases d with
 | true=>exact ha pins f σ H1 Q e g
 | false=>exact hb pins f σ H1 Q e g
end
def bC(K:Ae)(H:Hp)(a:Addr)(xs:List V):Prop:=
 Rd H a (.lst xs)\/
  ∃ (o:Obj) (its:Array Ac) (n:Nat),K.lookup a=some o/\o.cls=.type "list"/\o.dict=none/\o.data=.seq its n/\its.size<=Aj/\aQ xs its.toList
def bM(K:Ae)(H:Hp)(a:Addr)(xs:List V):Prop:=
 Rd H a (.tup xs)\/
  ∃ (o:Obj) (its:Array Ac) (n:Nat),K.lookup a=some o/\o.cls=.type "tuple"/\o.data=.seq its n/\its.size<=Aj/\aQ xs its.toList
def KZ:Ac->Option V
 | .none=>some .non
 | .bool b=>some (.bl b)
 | .int i _=>some (.int i)
 | .str x _=>some (.str x)
 | .bytes b _=>some (.byt b)
 | .float b _=>some (.flt b)
 | .ref a=>some (.ref a)
 | .type n=>some (.ty n)
 | _=>none
theorem RelV.abs{x:V}{u:Ac}(r:RelV x u):KZ u=some x:=by
 cases x with
 | non=>cases r;rfl
 | bl _=>cases r;rfl
 | int _=>obtain⟨t,rfl⟩:=r;rfl
 | str _=>obtain⟨t,rfl⟩:=r;rfl
 | byt _=>obtain⟨t,rfl⟩:=r;rfl
 | flt _=>obtain⟨t,rfl⟩:=r;rfl
 | ref _=>cases r;rfl
 | ty _=>cases r;rfl
theorem RelV.inj{x y:V}{u:Ac}(r:RelV x u)(q:RelV y u):x=y:=Dz (r.abs.symm.trans q.abs)
theorem aQ.inj:∀ {xs ys:List V} {us:List Ac},aQ xs us->aQ ys us->xs=ys
 | _,_,_,.nil,.nil=>rfl
 | _,_,_,.cons r t,.cons a t'=>by rw[r.inj a,aQ.inj t t']
section
variable {X:Cx}{pins:List (Addr×Obj)}{σ:St}{H:Hp}{s:Ah}{a:Addr}{xs ys:List V}
theorem bC.of{K:Ae}(h:H a=some (.lst xs)):bC K H a xs:=.inl (.inl h)
theorem bM.of{K:Ae}(h:H a=some (.tup xs)):bM K H a xs:=.inl (.inl h)
theorem Inv.list(I:Inv X pins σ H s)(h:bC X.K H a xs):∃ its:List Ac,aQ xs its/\PlainL s.heap a its.toArray/\xs.length<=Aj:=by
 rcases h with h | ⟨o,its,n,hk,hc,hd,hs,hz,r⟩
 ·obtain⟨z,its,n,r,e⟩:=h.ok I.hok
  exact⟨its,r,⟨_,n,e,rfl,rfl,rfl⟩,z⟩
 ·refine⟨its.toList,r,⟨o,n,I.kIn a o hk,hc,hd,by simpa using hs⟩,?_⟩
  have e:=r.length
  simp only[Bv] at e
  lia
theorem Inv.tuple(I:Inv X pins σ H s)(h:bM X.K H a xs):∃ its:List Ac,aQ xs its/\IsTup s.heap a its.toArray/\xs.length<=Aj:=by
 rcases h with h | ⟨o,its,n,hk,hc,hs,hz,r⟩
 ·obtain⟨z,its,r,p⟩:=h.ok I.hok
  exact⟨its,r,p,z⟩
 ·refine⟨its.toList,r,⟨o,I.kIn a o hk,hc,n,by simpa using hs⟩,?_⟩
  have e:=r.length
  simp only[Bv] at e
  lia
theorem Inv.list_inj(I:Inv X pins σ H s)(h:bC X.K H a xs)(h':bC X.K H a ys):xs=ys:=by
 obtain⟨its,r,⟨o,n,e,_,_,d⟩,_⟩:=I.list h
 obtain⟨its',c,⟨g,f,b,_,_,d'⟩,_⟩:=I.list h'
 rw[e] at b;cases b
 rw[d] at d'
 injection d' with d1 _
 have:its=its':=by simpa using congrArg Array.toList d1
 subst this
 exact r.inj c
theorem Inv.tuple_inj(I:Inv X pins σ H s)(h:bM X.K H a xs)(h':bM X.K H a ys):xs=ys:=by
 obtain⟨its,r,⟨o,e,_,n,d⟩,_⟩:=I.tuple h
 obtain⟨its',c,⟨g,b,_,f,d'⟩,_⟩:=I.tuple h'
 rw[e] at b;cases b
 rw[d] at d'
 injection d' with d1 _
 have:its=its':=by simpa using congrArg Array.toList d1
 subst this
 exact r.inj c
end
abbrev Cx.wish(X:Cx)(E:Ac->Ah->Prop):Cx:={X with xe:=E}
abbrev Cx.nox(X:Cx):Cx:=X.wish fun _ _=>False
theorem Cx.Ok.wish{X:Cx}(ok:X.Ok)(E:Ac->Ah->Prop):(X.wish E).Ok:=
 ⟨ok.mod,ok.kind,ok.glob,ok.blt,ok.above,ok.inj,ok.has,ok.cab,ok.hd,ok.frames,ok.stk,ok.exf,ok.bs,ok.bsz,ok.noex,ok.exfs,ok.funs,ok.frf⟩
theorem Cx.Ok.unwish{X:Cx}{E:Ac->Ah->Prop}(ok:(X.wish E).Ok):X.Ok:=
 ⟨ok.mod,ok.kind,ok.glob,ok.blt,ok.above,ok.inj,ok.has,ok.cab,ok.hd,ok.frames,ok.stk,ok.exf,ok.bs,ok.bsz,ok.noex,ok.exfs,ok.funs,ok.frf⟩
section
variable {X:Cx}{pins:List (Addr×Obj)}{σ:St}{H:Hp}{s:Ah}{E:Ac->Ah->Prop}
theorem Inv.wish(I:Inv X pins σ H s)(E:Ac->Ah->Prop):Inv (X.wish E) pins σ H s:=⟨I.ok.wish E,I.os,I.bare,I.base,I.loc,I.cell,I.free,I.freeC,I.pin,I.hok,I.len⟩
theorem Inv.unwish(I:Inv (X.wish E) pins σ H s):Inv X pins σ H s:=⟨I.ok.unwish,I.os,I.bare,I.base,I.loc,I.cell,I.free,I.freeC,I.pin,I.hok,I.len⟩
theorem SP.unwish{D:kA}{f:Flow}{s':Ah}(h:SP (X.wish E) pins D f s'):SP X pins D f s':=by
 cases f with
 | next=>obtain⟨σ',H',I,q⟩:=h;exact⟨σ',H',I.unwish,q⟩
 | brk=>obtain⟨σ',H',I,q⟩:=h;exact⟨σ',H',I.unwish,q⟩
 | cont=>obtain⟨σ',H',I,q⟩:=h;exact⟨σ',H',I.unwish,q⟩
 | ret u=>obtain⟨v,σ',H',I,r,q⟩:=h;exact⟨v,σ',H',I.unwish,r,q⟩
theorem fI.nox{st:List Stmt}{t:TS}(h:fI X.nox st t):fI X st t:=fun pins s σ H D I hw=>
 Hv (h pins s σ H D (I.wish _) hw) (fun _ _ q=>q.unwish) fun _ _ z=>Gu z
end
section
variable {X:Cx}{st:Stmt}{rest:List Stmt}{t u:TS}{e:Expr}{te:TE}{pos:Pos}
def K0:TS:=fun D σ H=>D.nx σ H
def K1(t u:TS):TS:=fun D σ H=>t {D with nx:=u D} σ H
theorem K2:fI X [] K0:=fun _ _ σ H _ I h=>Nu ⟨σ,H,I,h⟩
theorem K5(h1:PS X st t)(h2:fI X rest u):fI X (st :: rest) (K1 t u):=by
 intro pins s σ H D I h
 refine wpAny_execs_cons (aZ (h1 pins s σ H {D with nx:=u D} I h) fun f s1 q=>?_)
 cases f with
 | next=>
  obtain⟨σ',H',I',q⟩:=q
  exact h2 pins s1 σ' H' D I' q
 | ret v=>exact q
 | brk=>exact q
 | cont=>exact q
theorem K6(h1:PS X st t):fI X [st] t:=by
 intro pins s σ H D I h
 refine wpAny_execs_cons (aZ (h1 pins s σ H D I h) fun f s1 q=>?_)
 cases f with
 | next=>exact Nu q
 | ret v=>exact q
 | brk=>exact q
 | cont=>exact q
theorem Inv.quiet{pins:List (Addr×Obj)}{σ:St}{H:Hp}{s:Ah}(I:Inv X pins σ H s):interactive X.env=false:=by simp[interactive,I.ok.kind]
def K7(te:TE):TS:=fun D σ H=>te σ H fun _ a=>D.nx σ a
theorem K8(b:PE X e te)(hs:Kj e none pos.line X.env=pure false:=by rfl):PS X (.Expr e pos) (K7 te):=by
 intro pins s σ H D I h
 exact wpAny_Expr_any (aZ (b pins s σ H _ I h) fun v f ⟨x,a,d,g,c⟩=>⟨σ,a,d,c⟩) I.quiet hs
def K9(te:TE):TS:=fun D σ H=>te σ H D.rt
theorem LA(b:PE X e te):PS X (.Return (some e) pos) (K9 te):=by
 intro pins s σ H D I h
 exact wpAny_Return_some (aZ (b pins s σ H _ I h) fun v g ⟨x,a,d,f,c⟩=>⟨x,σ,a,d,f,c⟩)
def LB:TS:=fun D _ H=>D.rt .non H
theorem LC:PS X (.Return none pos) LB:=fun _ _ σ H _ I h=>wpAny_Return_none ⟨.non,σ,H,I,rfl,h⟩
def LD(c:TT)(t u:TS):TS:=fun D σ H=>c σ H fun b a=>if b=true then t D σ a else u D σ a
theorem LF{c:Expr}{a b:List Stmt}{tc:TT}(hc:PT X c tc)(ha:fI X a t)(hb:fI X b u):PS X (.If c a b pos) (LD tc t u):=by
 intro pins s σ H D I h
 refine wpAny_If (aZ (hc pins s σ H _ I h) fun d f ⟨e,i,g⟩=>?_)
 cases d with
 | true=>exact ha pins f σ e D i g
 | false=>exact hb pins f σ e D i g
def LG:TS:=fun _ _ _=>False
theorem LH:PS X st LG:=fun _ _ _ _ _ _ h=>h.elim
end
abbrev TG:=V->St->Hp->(St->Hp->Prop)->Prop
abbrev iV:=List V->St->Hp->(St->Hp->Prop)->Prop
def PG(X:Cx)(a:Expr)(t:TG):Prop:=
 ∀ (pins:List (Addr×Obj)) (s:Ah) (σ:St) (H:Hp) (v:V) (u:Ac) (Q:St->Hp->Prop),Inv X pins σ H s->RelV v u->t v σ H Q->
  Ax (Bk X.prog X.w) X.A (Mx a X.env u) (fun _ d=>∃ b c,Inv X pins b c d/\Q b c) X.xe s
def iJ(X:Cx)(ts:List Expr)(t:iV):Prop:=
 ∀ (pins:List (Addr×Obj)) (s:Ah) (σ:St) (H:Hp) (vs:List V) (us:List Ac) (Q:St->Hp->Prop),Inv X pins σ H s->aQ vs us->t vs σ H Q->
  Ax (Bk X.prog X.w) X.A (assignInOrder ((Hd ts X.env).map (·.2)) us) (fun _ c=>∃ a b,Inv X pins a b c/\Q a b) X.xe s
abbrev qO:=V->V->V->Hp->(Hp->Prop)->Prop
def qP(X:Cx)(t:qO):Prop:=
 ∀ (pins:List (Addr×Obj)) (s:Ah) (σ:St) (H:Hp) (o i v:V) (c b u:Ac) (Q:Hp->Prop),Inv X pins σ H s->RelV o c->RelV i b->RelV v u->t o i v H Q->
  Ax (Bk X.prog X.w) X.A (setItem c b u) (fun _ d=>∃ a,Inv X pins σ a d/\Q a) X.xe s
section
variable {X:Cx}{pos:Pos}
def uS(i:Nat):TG:=fun v σ H Q=>Q (σ.set i (some v)) H
theorem LI{i:Nat}{x:Str}(b:X.N.Nodup)(hi:X.N[i]? = some x)(c:Loc X.env.scope x)(hf:X.fn x=true\/X.env.scope.names.lookup x=some .local:=by first | exact .inl rfl | exact .inr rfl | assumption):PG X (.Name x pos) (uS i):=by
 intro pins s σ H v u Q I r h
 exact wpAny_assign_Name (zY I b hi c r (fun d a=>⟨_,H,a,h⟩) hf)
def LJ:iV:=fun vs σ H Q=>vs=[]/\Q σ H
def LK(t:TG)(u:iV):iV:=fun vs σ H Q=>∃ v r,vs=v :: r/\t v σ H fun a b=>u r a b Q
theorem LL:iJ X [] LJ:=by
 intro pins s σ H vs us Q I r h
 obtain⟨e,h⟩:=h
 subst e
 cases r
 exact assignInOrder_nil ⟨σ,H,I,h⟩
theorem LM{e:Expr}{es:List Expr}{t:TG}{u:iV}(f:PG X e t)(j:iJ X es u)
  (hs:(Hd (e :: es) X.env).map (·.2)=Mx e X.env :: (Hd es X.env).map (·.2):=by rfl):iJ X (e :: es) (LK t u):=by
 intro pins s σ H vs us Q I r h
 obtain⟨v,l,b,h⟩:=h
 subst b
 cases r with
 | cons r d=>
  rw[hs]
  refine assignInOrder_cons (aZ (f pins s σ H _ _ _ I r h) fun _ g ⟨a,c,k,i⟩=>?_)
  exact j pins g a c _ _ Q k d i
def LN(K:Ae)(n:Nat)(t:iV):TG:=fun v σ H Q=>∃ a xs,v=.ref a/\bM K H a xs/\xs.length=n/\t xs σ H Q
theorem LO{es:List Expr}{k:Nat}{t:iV}{n:Nat}(hc:X.calm=true)(h:iJ X es t)
  (f:(Hd es X.env).length=n:=by rfl) (c:(Hd es X.env).findIdx? (·.1)=none:=by rfl):PG X (.Tuple es k pos) (LN X.K n t):=by
 intro pins s σ H v u Q I r hw
 obtain⟨a,xs,j,g,hl,hw⟩:=hw
 subst j
 cases r
 obtain⟨its,d,ht,hz⟩:=I.tuple g
 refine assign_Tuple_tuple (I.ok.hd hc) ht (by simp[f,<-hl,d.length]) c fun h' i=>?_
 have l:Inv X pins σ H {s with heap:=h'}:=I.kept (t':=s.toks) fun b o e=>i b o (Be (Ak e)) e
 exact h pins _ σ H xs _ Q l (by simpa using d) hw
def LP(d a:TE)(t:qO):TG:=fun v σ H Q=>d σ H fun o b=>a σ b fun i c=>t o i v c fun e=>Q σ e
theorem LQ{o i:Expr}{c d:TE}{t:qO}(g:PE X o c)(hi:PE X i d)(hs:qP X t)
  (ha:∀ v,Mx (.Subscript o i pos) X.env v=(do
   let a <-Iq [v] (eval o X.env)
   let b <-Iq [v,a] (eval i X.env)
   Og pos
   Iq [v,a,b] (setItem a b v)
   release [v,a,b] []):=by intro _;rfl):PG X (.Subscript o i pos) (LP c d t):=by
 intro pins s σ H v u Q I r h
 rw[ha]
 refine Aa (Cs (aZ (g pins s σ H _ I h) fun a p ⟨x,f,j,B,q⟩=>?_))
 refine Aa (Cs (aZ (hi pins p σ f _ j q) fun b l ⟨y,z,k,n,e⟩=>?_))
 refine Aa (Ol (Aa (Cs (aZ (hs pins l σ z x y v a b u _ k B n r e) fun _ C ⟨m,w,A⟩=>?_))))
 exact wpAny_release ⟨σ,m,w,A⟩
def qQ(te:TE)(g:TG):TS:=fun D σ H=>te σ H fun x a=>g x σ a D.nx
theorem LR{tg e:Expr}{te:TE}{g:TG}(c:PE X e te)(b:PG X tg g)(hs:swapsWithSole [tg] e pos.line X.env=pure false:=by rfl)(hw:swappedStores [tg] e X.env=pure none:=by rfl)
  (d:(Hd [tg] X.env).map (·.2)=[Mx tg X.env]:=by rfl):PS X (.Assign [tg] e pos) (qQ te g):=by
 intro pins s σ H D I h
 refine wpAny_Assign_stores (aZ (c pins s σ H _ I h) fun v f ⟨x,a,j,k,i⟩=>?_) hs hw
 rw[d]
 exact aZ (b pins f σ a x v _ j k i) fun _ l q=>q
theorem LS{i:Nat}{x:Str}{e:Expr}{te:TE}{a:Pos}(f:X.N.Nodup)(hi:X.N[i]? = some x)(j:Loc X.env.scope x)(d:PE X e te)(hs:Kj e (some (.Name x a)) pos.line X.env=pure false:=by rfl)(hf:X.fn x=true\/X.env.scope.names.lookup x=some .local:=by first | exact .inl rfl | exact .inr rfl | assumption) :
  PS X (.Assign [.Name x a] e pos) (qQ te (uS i)):=by
 intro pins s σ H D I h
 refine wpAny_Assign_Name (aZ (d pins s σ H _ I h) fun v m ⟨y,b,k,l,g⟩=>?_) hs
 exact zY k f hi j l (fun n c=>⟨_,b,c,g⟩) hf
end
section
variable {X:Cx}{pos:Pos}
def LU(c:TT)(tb:TS):TS:=fun D σ H=>∃ W:Nat->St->Hp->Prop,(∃ m,W m σ H)/\∀ m σ H,W m σ H->
 c σ H fun b d=>if b=true then ∃ N:St->Hp->Prop,(∀ a f,N a f->∃ e,e < m/\W e a f)/\tb {D with nx:=N,ct:=N,bk:=D.nx} σ d else D.nx σ d
theorem LV{c:Expr}{body:List Stmt}{tc:TT}{tb:TS}(hp:PassesOwn (Bk X.prog X.w) X.A X.env X.xe)(hc:PT X c tc)(hb:fI X body tb):PS X (.While c body [] pos) (LU tc tb):=by
 intro pins s σ H D I h
 obtain⟨W,⟨m0,w0⟩,turn⟩:=h
 refine wpAny_While (codeAny_whileLoop (fun n s'=>∃ σ' H',Inv X pins σ' H' s'/\W n σ' H') ?_ m0 ⟨σ,H,I,w0⟩)
 rintro n s1 ⟨σ1,H1,I1,w1⟩
 refine Iy hp (aZ (hc pins s1 σ1 H1 _ I1 (turn n σ1 H1 w1)) fun b s2 ⟨H2,I2,q2⟩=>?_)
 cases b with
 | true=>
  obtain⟨N,hN,q2⟩:=q2
  rw[if_pos rfl]
  refine Iy hp (aZ (hb pins s2 σ1 H2 _ I2 q2) fun f s3 q3=>?_)
  cases f with
  | next=>
   obtain⟨σ3,H3,I3,n3⟩:=q3
   obtain⟨m',hm,w3⟩:=hN σ3 H3 n3
   exact⟨m',hm,σ3,H3,I3,w3⟩
  | cont=>
   obtain⟨σ3,H3,I3,n3⟩:=q3
   obtain⟨m',hm,w3⟩:=hN σ3 H3 n3
   exact⟨m',hm,σ3,H3,I3,w3⟩
  | brk=>exact q3
  | ret v=>exact q3
 | false=>
  rw[if_neg Ao]
  exact Nu ⟨σ1,H2,I2,q2⟩
end
structure It where
 go:Nat->Hp->Prop
 yld:Nat->Hp->V->Hp->Prop
 stop:Nat->Hp->Prop
def iA(X:Cx)(pins:List (Addr×Obj))(H:Hp)(b:Addr):Prop:=
 H b=none/\b≠X.env.locals/\b∉X.fs/\(b∈X.ex\/X.s₀.heap.objs.size<=b)/\(∀ x c,X.env.cells.lookup x=some c->c≠b)/\∀ p∈X.pn ++ pins,p.1≠b
theorem Inv.fpOk{X:Cx}{pins:List (Addr×Obj)}{σ:St}{H a:Hp}{s:Ah}{b:Addr}(I:Inv X pins σ H s)(hb:s.heap.objs.size<=b)(d:a b=none):iA X pins a b:=by
 refine⟨d,Dy (Bt I.lt hb),I.nofs hb,.inr (Bh I.sz hb),fun x c e z=>?_,fun p f z=>?_⟩
 ·obtain⟨v,q⟩:=I.cell x c e
  exact absurd (Bt q.lt (by rw[z];exact hb)) (Gr _)
 ·exact absurd (Bt (Ak (I.pin p f).1) (by rw[z];exact hb)) (Gr _)
structure kB(P:Bl)(w:Cd)(K:Ae)(tg:Expr)(J:It)(fp:List Addr)(it:Addr)(tn:Nat->Heap->Prop):Prop where
 mem:it∈fp
 obj:∀ i h,tn i h->∀ b∈fp,∃ o,h.get? b=some o/\∀ v,o.data≠.cell v
 keep:∀ i h h',tn i h->(∀ b∈fp,∀ o,h.get? b=some o->h'.get? b=some o)->tn i h'
 item:∀ (X:Cx),X.prog=P->X.w=w->X.K=K->X.calm=true->∀ (i:Nat) (pins:List (Addr×Obj)) (s:Ah) (σ:St) (H:Hp) (E:Ac->Ah->Prop),Inv X pins σ H s->(∀ b∈fp,iA X pins H b)->tn i s.heap->J.go i H->
  Ax (Bk P w) X.A (Hz (.ref it)) (fun r s1=>∃ u,r=some u/\
   Ax (Bk P w) X.A (Nw tg (.ref it) u) (fun _ s2=>∃ x H',Inv X pins σ H' s2/\RelV x u/\J.yld i H x H'/\tn (i + 1) s2.heap/\∀ b∈fp,H' b=none) E s1) E s
 done:∀ (X:Cx),X.prog=P->X.w=w->X.K=K->X.calm=true->∀ (i:Nat) (pins:List (Addr×Obj)) (s:Ah) (σ:St) (H:Hp) (E:Ac->Ah->Prop),Inv X pins σ H s->(∀ b∈fp,iA X pins H b)->tn i s.heap->J.stop i H->
  Ax (Bk P w) X.A (Hz (.ref it)) (fun r s1=>r=none/\Inv X pins σ H s1) E s
 self:∀ (A:Bu) (i:Nat) (s:Ah) (Q:Ac->Ah->Prop) (E:Ac->Ah->Prop),tn i s.heap->Q (.ref it) s->Ax (Bk P w) A (Oe (.ref it)) Q E s
abbrev TI:=St->Hp->(It->Hp->Prop)->Prop
def oK(X:Cx)(pins:List (Addr×Obj))(σ:St)(tg:Expr)(R:It->Hp->Prop)(a:Ac)(e:Ah):Prop:=
 ∃ (it:Addr) (fp:List Addr) (d:Nat->Heap->Prop) (J:It) (c:Hp),a=.ref it/\Inv X pins σ c e/\kB X.prog X.w X.K tg J fp it d/\d 0 e.heap/\(∀ b∈fp,iA X pins c b)/\R J c
def PI(X:Cx)(tg a:Expr)(b:TI):Prop:=
 ∀ (pins:List (Addr×Obj)) (s:Ah) (σ:St) (H:Hp) (R:It->Hp->Prop),Inv X pins σ H s->b σ H R->
  Ax (Bk X.prog X.w) X.A (eval a X.env) (fun v c=>Ax (Bk X.prog X.w) X.A (Oe v) (oK X pins σ tg R) X.xe c) X.xe s
theorem uU{M:Mu}{A:Bu}{E:Ac->Ah->Prop}{s:Ah}{tg:Expr}{it:Addr}{u:Ac}{o:Obj}{n:String}{vs:Array Ac}{Q:Unit->Ah->Prop}(c:s.heap.get? it=some o)(hc:o.cls=.type n)(hd:o.data=.fields vs)
  (b : ["enumerate","zip","dict_itemiterator","dict_reverseitemiterator","odict_iterator","itertools.zip_longest","itertools.pairwise"].contains n=false) (a:Q () s):Ax M A (Nw tg (.ref it) u) Q E s:=by
 unfold Nw
 cases tg <;> first
  | exact Ag a
  | (cases u <;> first
    | exact Ag a
    | (refine Aa (wpAny_load c ?_)
       rw[hc,hd]
       show Ax M A (if (["enumerate","zip","dict_itemiterator","dict_reverseitemiterator","odict_iterator","itertools.zip_longest","itertools.pairwise"].contains n && vs[0]? == some (Gv _))=true then _ else _) Q E s
       rw[if_neg (by intro h;rw[b,Bool.false_and] at h;cases h)]
       exact Ag a))
def nC(K:Ae)(a:Addr):It:=
 ⟨fun i H=>∃ xs x,bC K H a xs/\xs[i]? = some x,fun i H x b=>b=H/\∀ xs,bC K H a xs->xs[i]? = some x,fun i H=>∃ xs,bC K H a xs/\xs.length<=i⟩
def uV(K:Ae)(a:Addr):It:=
 ⟨fun i H=>∃ xs x,bM K H a xs/\xs[i]? = some x,fun i H x b=>b=H/\∀ xs,bM K H a xs->xs[i]? = some x,fun i H=>∃ xs,bM K H a xs/\xs.length<=i⟩
def oM(lo:Int)(n:Nat):It:=⟨fun i _=>i < n,fun i H x a=>a=H/\x=.int (lo + i),fun i _=>n<=i⟩
theorem LW{P:Bl}{w:Cd}{K:Ae}{tg:Expr}(a it:Addr):kB P w K tg (nC K a) [it] it (fun i h=>h.IsListIter it a i) where
 mem:=by simp
 obj:=fun i h st b hb=>by
  have e:b=it:=by simpa using hb
  subst e
  obtain⟨o,e,c,d⟩:=st
  exact⟨o,e,fun v z=>by rw[d] at z;cases z⟩
 keep:=fun i h h' st k=>st.at fun o e=>k it (by simp) o e
 item:=by
  intro X y hw n hc i pins s σ H E I hf st j
  subst y hw n
  obtain⟨xs,x,f,t⟩:=j
  obtain⟨its,g,p,hz⟩:=I.list f
  obtain⟨u,B,D⟩:=g.get t
  obtain⟨l,r,C,A,q,m⟩:=hf it (by simp)
  refine wpAny_pyNext_list_item st p.isList (x:=u) (by simpa using B) fun h' st' sb=>?_
  have G:Inv X pins σ H {s with heap:=h'}:=I.turned (t':=s.toks) (fun b o hb e=>(sb.2 b hb).trans e) l r A q m
  obtain⟨o,e,c,d⟩:=id st'
  exact⟨u,rfl,uU (s:={s with heap:=h'}) e c d (by decide) ⟨x,H,G,D,⟨rfl,fun ys F=>by rw[I.list_inj F f];exact t⟩,st',fun b hb=>(hf b hb).1⟩⟩
 done:=by
  intro X y hw n hc i pins s σ H E I hf st j
  subst y hw n
  obtain⟨xs,f,t⟩:=j
  obtain⟨its,g,p,hz⟩:=I.list f
  obtain⟨l,r,C,A,q,m⟩:=hf it (by simp)
  have hl:=g.length
  exact wpAny_pyNext_list_end (I.ok.hd hc) st p.isList (by simp;lia) fun h' eb=>⟨rfl,I.turned (t':=s.toks) (fun b o hb e=>eb b o hb e) l r A q m⟩
 self:=fun _ _ _ _ _ st h=>wpAny_pyIter_listiter st h
theorem LX{P:Bl}{w:Cd}{K:Ae}{tg:Expr}(a it:Addr):kB P w K tg (uV K a) [it] it (fun i h=>h.IsTupleIter it a i) where
 mem:=by simp
 obj:=fun i h st b hb=>by
  have e:b=it:=by simpa using hb
  subst e
  obtain⟨o,e,c,d⟩:=st
  exact⟨o,e,fun v z=>by rw[d] at z;cases z⟩
 keep:=fun i h h' st k=>st.at fun o e=>k it (by simp) o e
 item:=by
  intro X y hw n hc i pins s σ H E I hf st j
  subst y hw n
  obtain⟨xs,x,f,t⟩:=j
  obtain⟨its,g,p,hz⟩:=I.tuple f
  obtain⟨u,B,D⟩:=g.get t
  obtain⟨l,r,C,A,q,m⟩:=hf it (by simp)
  refine wpAny_pyNext_tuple_item st (show s.heap.IsTuple a its.toArray from p) (x:=u) (by simpa using B) fun h' st' sb=>?_
  have G:Inv X pins σ H {s with heap:=h'}:=I.turned (t':=s.toks) (fun b o hb e=>(sb.2 b hb).trans e) l r A q m
  obtain⟨o,e,c,d⟩:=id st'
  exact⟨u,rfl,uU (s:={s with heap:=h'}) e c d (by decide) ⟨x,H,G,D,⟨rfl,fun ys F=>by rw[I.tuple_inj F f];exact t⟩,st',fun b hb=>(hf b hb).1⟩⟩
 done:=by
  intro X y hw n hc i pins s σ H E I hf st j
  subst y hw n
  obtain⟨xs,f,t⟩:=j
  obtain⟨its,g,p,hz⟩:=I.tuple f
  obtain⟨l,r,C,A,q,m⟩:=hf it (by simp)
  have hl:=g.length
  exact wpAny_pyNext_tuple_end (I.ok.hd hc) st (show s.heap.IsTuple a its.toArray from p) (by simp;lia) fun h' eb=>⟨rfl,I.turned (t':=s.toks) (fun b o hb e=>eb b o hb e) l r A q m⟩
 self:=fun _ _ _ _ _ st h=>wpAny_pyIter_tupleiter st h
theorem LY{P:Bl}{w:Cd}{K:Ae}{tg:Expr}(it:Addr)(lo:Int)(n:Nat):kB P w K tg (oM lo n) [it] it (fun i h=>IsRangeIter h it (lo + (i:Nat) * 1) ((n:Int) - (i:Nat)) 1) where
 mem:=by simp
 obj:=fun i h st b hb=>by
  have e:b=it:=by simpa using hb
  subst e
  exact⟨_,st,fun v z=>by
   have p:Data.fields _=Data.cell v:=z
   cases p⟩
 keep:=fun i h h' st k=>k it (by simp) _ st
 item:=by
  intro X l hw f hc i pins s σ H E I hf st a
  subst l hw f
  obtain⟨c,j,r,m,g,d⟩:=hf it (by simp)
  have W:=Walks.range (prog:=X.prog) (w:=X.w) (I.ok.hd hc) it lo 1 n
  refine W.item i s _ _ a st fun v h' tk q st' u=>?_
  obtain⟨t,rfl⟩:=q
  have x:Inv X pins σ H {s with heap:=h',toks:=tk}:=I.turned (fun b o hb e=>u b o (by simpa using hb) e) c j m g d
  refine⟨_,rfl,uU (s:={s with heap:=h',toks:=tk}) (n:="range_iterator") st' rfl rfl (by decide) ⟨.int (lo + i),H,x,⟨t,?_⟩,⟨rfl,rfl⟩,st',fun b hb=>(hf b hb).1⟩⟩
  rw[Int.mul_one]
 done:=by
  intro X l hw f hc i pins s σ H E I hf st a
  subst l hw f
  obtain⟨c,j,r,m,g,d⟩:=hf it (by simp)
  exact wpAny_pyNext_range_end (I.ok.hd hc) st (by have:n<=i:=a;lia) fun h' eb=>⟨rfl,I.turned (t':=s.toks) (fun b o hb e=>eb b o hb e) c j m g d⟩
 self:=fun _ _ _ _ _ st h=>wpAny_pyIter_rangeiter st h
section
variable {X:Cx}{tg:Expr}
theorem zZ{pins:List (Addr×Obj)}{σ:St}{H:Hp}{s:Ah}{R:It->Hp->Prop}{E:Ac->Ah->Prop}{lo hi:Int}{t u v:Tok}{tk:Nat}(I:Inv X pins σ H s)(d : -(2 ^ 62)<=lo)(i:lo < 2 ^ 62)(c : -(2 ^ 62)<=hi)(g:hi < 2 ^ 62)
  (q:R (oM lo (hi - lo).toNat) H):Ax (Bk X.prog X.w) X.A (Oe (.ref s.heap.objs.size)) (oK X pins σ tg R) E {s with heap:=s.heap.push {cls:=.type "range",data:=.fields #[.int lo t,.int hi u,.int 1 v]},toks:=tk}:=by
 refine wpAny_pyIter_range (IsRange.new ..) (small_one d i c g) ?_
 have a:Inv X pins σ H {s with heap:=s.heap.push {cls:=.type "range",data:=.fields #[.int lo t,.int hi u,.int 1 v]},toks:=tk}:=I.kept fun b o e=>Af _ e
 refine⟨(s.heap.push {cls:=.type "range",data:=.fields #[.int lo t,.int hi u,.int 1 v]}).objs.size,[(s.heap.push {cls:=.type "range",data:=.fields #[.int lo t,.int hi u,.int 1 v]}).objs.size],_,_,H,rfl,
  a.kept (t':=tk) fun b o e=>Af _ e,LY _ lo (hi - lo).toNat,?_,fun b hb=>?_,q⟩
 ·have h:lo + ((0:Nat):Int) * 1=lo:=by simp
  have f:(((hi - lo).toNat:Nat):Int) - ((0:Nat):Int)=Builtin.Range.rangeSize lo hi 1:=by rw[rangeSize_one];split <;> lia
  show IsRangeIter _ _ (lo + ((0:Nat):Int) * 1) ((((hi - lo).toNat:Nat):Int) - ((0:Nat):Int)) 1
  rw[h,f]
  exact Ap _ rfl
 ·have e:b=(s.heap.push {cls:=.type "range",data:=.fields #[.int lo t,.int hi u,.int 1 v]}).objs.size:=by simpa using hb
  subst e
  exact a.fpOk (Ai _) (a.hok.fresh (Ai _))
def LZ(ta:TA):TI:=fun σ H R=>ta σ H fun vs a=>∃ j:Int,vs=[.int j]/\-(2 ^ 62)<=j/\j < 2 ^ 62/\R (oM 0 j.toNat) a
def L0(ta:TA):TI:=fun σ H R=>ta σ H fun vs a=>∃ i j:Int,vs=[.int i,.int j]/\(-(2 ^ 62)<=i/\i < 2 ^ 62/\-(2 ^ 62)<=j/\j < 2 ^ 62)/\R (oM i (j - i).toNat) a
theorem L4{a:Expr}{ta:TA}{p pos:Pos}(d:Gl X "range")(g:X.mg "range" = none)(ha:PA X [a] ta)(hs:Bj [a] X.env=[(false,eval a X.env)]:=by rfl):PI X tg (.Call (.Name "range" p) [a] [] pos) (LZ ta):=by
 intro pins s σ H R I h
 refine Call_ (iU I d g boot_range (Du (aZ (ha pos pins s σ H _ I h) fun us m ⟨vs,l,i,k,b⟩=>?_) hs rfl))
 obtain⟨j,e,b,c,q⟩:=b
 subst e
 cases k with
 | cons r f=>
  cases f
  obtain⟨t,rfl⟩:=r
  exact call_range_1 (zZ i (by lia) (by lia) b c (by simpa using q))
theorem L5{a b:Expr}{ta:TA}{p pos:Pos}(k:Gl X "range")(n:X.mg "range" = none)(ha:PA X [a,b] ta)(hs:Bj [a,b] X.env=[(false,eval a X.env),(false,eval b X.env)]:=by rfl)(c:Bj [b] X.env=[(false,eval b X.env)]:=by rfl) :
  PI X tg (.Call (.Name "range" p) [a,b] [] pos) (L0 ta):=by
 intro pins s σ H R I h
 refine Call_ (iU I k n boot_range (Du (aZ (ha pos pins s σ H _ I h) fun us x ⟨vs,w,v,l,f⟩=>?_) (by rw[hs,c]) (by rw[c];rfl)))
 obtain⟨i,j,e,⟨f,g,u,o⟩,q⟩:=f
 subst e
 cases l with
 | cons r d=>
  cases d with
  | cons m d=>
   cases d
   obtain⟨t,rfl⟩:=r
   obtain⟨t',rfl⟩:=m
   exact call_range_2 (zZ v f g u o q)
def L6(h:TI)(g:TG)(tb:TS):TS:=fun D σ H=>h σ H fun J e=>∃ W:Nat->Nat->St->Hp->Prop,(∃ m,W 0 m σ e)/\∀ i m σ H,W i m σ H->
 (J.stop i H/\D.nx σ H)\/(J.go i H/\∃ N:St->Hp->Prop,(∀ b a,N b a->∃ d,d < m/\W (i + 1) d b a)/\∀ x a,J.yld i H x a->g x σ a fun c f=>tb {D with nx:=N,ct:=N,bk:=D.nx} c f)
def oN(fp:List Addr)(h:Heap):List (Addr×Obj):=fp.filterMap fun b=>(h.get? b).map fun o=>(b,o)
theorem qR{fp:List Addr}{h:Heap}{b:Addr}{o:Obj}(hb:b∈fp)(e:h.get? b=some o):(b,o)∈oN fp h:=List.mem_filterMap.mpr ⟨b,hb,by rw[e];rfl⟩
theorem L7{fp:List Addr}{h:Heap}{p:Addr×Obj}(a:p∈oN fp h):p.1∈fp/\h.get? p.1=some p.2:=by
 obtain⟨b,hb,e⟩:=List.mem_filterMap.mp a
 cases q:h.get? b with
 | none=>rw[q] at e;cases e
 | some o=>
  rw[q] at e
  have c:(b,o)=p:=Dz e
  subst c
  exact⟨hb,q⟩
theorem Inv.pinned{pins:List (Addr×Obj)}{σ:St}{H:Hp}{s:Ah}{fp:List Addr}(I:Inv X pins σ H s)(hf:∀ b∈fp,iA X pins H b)(f:∀ b∈fp,∃ o,s.heap.get? b=some o/\∀ v,o.data≠.cell v):Inv X (pins ++ oN fp s.heap) σ H s:=
 I.pins_of fun p c=>(Bo.mp c).elim (fun z=>I.pin p (Dc _ z)) fun z=>by
  obtain⟨hb,e⟩:=L7 z
  obtain⟨h,i,g,_⟩:=hf p.1 hb
  obtain⟨o,a,d⟩:=f p.1 hb
  rw[e] at a;cases a
  exact⟨e,h,i,g,d⟩
theorem Inv.unpinned{pins pl:List (Addr×Obj)}{σ:St}{H:Hp}{s:Ah}(I:Inv X (pins ++ pl) σ H s):Inv X pins σ H s:=I.pins_of fun p a=>I.pin p (Dc _ (Ep _ a))
theorem L8{l:Expr}{B:List Stmt}{wi:TI}{g:TG}{tb:TS}{pos:Pos}(G:PassesOwn (Bk X.prog X.w) X.A X.env X.xe)(hc:X.calm=true)(hi:PI X tg l wi)(hg:PG X tg g)(hb:fI X B tb)
  (hs:∀ x,Hm l X.env x=pure x:=by intro _;rfl):PS X (.For tg l B [] pos) (L6 wi g tb):=by
 intro pins s σ H D I h
 refine wpAny_For (aZ (hi pins s σ H _ I h) fun v s1 h1=>aZ h1 fun itv s2 h2=>?_) hs
 obtain⟨it,fp,tn,J,H2,e,I2,T,R,f2,W,⟨m0,w0⟩,L⟩:=h2
 subst e
 have p:∀ {y:Hp},(∀ b∈fp,y b=none)->∀ b∈fp,iA X pins y b:=fun hn b hb=>⟨hn b hb,(f2 b hb).2⟩
 refine codeAny_forLoop_any (fun n Y=>∃ i q y,Inv X pins q y Y/\tn i Y.heap/\(∀ b∈fp,y b=none)/\W i n q y) ?_ m0 ⟨0,σ,H2,I2,R,fun b hb=>(f2 b hb).1,w0⟩
 rintro n s3 ⟨i,c,M,I3,F,K,w3⟩
 rcases L i n c M w3 with⟨stop,qn⟩ | ⟨go,N,hN,step⟩
 ·refine Iy G (aZ (T.done X rfl rfl rfl hc i pins s3 c M X.xe I3 (p K) F stop) fun r s4 ⟨P,I4⟩=>?_)
  subst P
  exact Nu ⟨c,M,I4,qn⟩
 ·refine Iy G (aZ (T.item X rfl rfl rfl hc i pins s3 c M X.xe I3 (p K) F go) fun r s4 ⟨u,P,h4⟩=>?_)
  subst P
  refine Iy G (aZ h4 fun _ V ⟨x,Z,I5,r5,y5,C,Q⟩=>?_)
  have O:=I5.pinned (p Q) (T.obj _ _ C)
  refine Iy G (aZ (hg _ V c Z x u _ O r5 (step x Z y5)) fun _ s6 ⟨S,H6,I6,q6⟩=>?_)
  refine Iy G (aZ (hb _ s6 S H6 _ I6 q6) fun f U z=>?_)
  have k:∀ {a:St} {j:Hp},Inv X (pins ++ oN fp V.heap) a j U->N a j->∃ m,m < n/\∃ i q y,Inv X pins q y U/\tn i U.heap/\(∀ b∈fp,y b=none)/\W i m q y:=fun {a j} t E=>by
   obtain⟨m',hm,w7⟩:=hN a j E
   refine⟨m',hm,i + 1,a,j,t.unpinned,T.keep _ _ _ C fun b hb o e=>(t.pin (b,o) (Dc _ (Dc _ (qR hb e)))).1,fun b hb=>?_,w7⟩
   obtain⟨o,e,d⟩:=T.obj _ _ C b hb
   exact(t.pin (b,o) (Dc _ (Dc _ (qR hb e)))).2.1
  cases f with
  | next=>obtain⟨a,j,t,E⟩:=z;exact k t E
  | cont=>obtain⟨a,j,t,E⟩:=z;exact k t E
  | brk=>obtain⟨a,j,t,z⟩:=z;exact⟨a,j,t.unpinned,z⟩
  | ret v=>obtain⟨x7,a,j,t,r7,z⟩:=z;exact⟨x7,a,j,t.unpinned,r7,z⟩
end
abbrev R2:=V->V->Hp->VK->Prop
def bB(X:Cx)(f:Ac->Ac->Sem Ac)(r:R2):Prop:=
 ∀ (pins:List (Addr×Obj)) (s:Ah) (σ:St) (H:Hp) (x y:V) (v u:Ac) (Q:VK),Inv X pins σ H s->RelV x v->RelV y u->r x y H Q->
  Ax (Bk X.prog X.w) X.A (f v u) (EP X pins σ Q) X.xe s
def oO(X:Cx)(f:Ac->Sem Ac)(r:V->Hp->VK->Prop):Prop:=
 ∀ (pins:List (Addr×Obj)) (s:Ah) (σ:St) (H:Hp) (x:V) (v:Ac) (Q:VK),Inv X pins σ H s->RelV x v->r x H Q->
  Ax (Bk X.prog X.w) X.A (f v) (EP X pins σ Q) X.xe s
def cU(X:Cx)(f:Ac)(r:List V->Hp->VK->Prop):Prop:=
 ∀ (pins:List (Addr×Obj)) (s:Ah) (σ:St) (H:Hp) (xs:List V) (us:List Ac) (Q:VK),Inv X pins σ H s->aQ xs us->r xs H Q->
  Ax (Bk X.prog X.w) X.A (call f us) (EP X pins σ Q) X.xe s
def L9(X:Cx)(r:V->Hp->(Bool->Hp->Prop)->Prop):Prop:=
 ∀ (pins:List (Addr×Obj)) (s:Ah) (σ:St) (H:Hp) (x:V) (v:Ac) (Q:Bool->Hp->Prop),Inv X pins σ H s->RelV x v->r x H Q->
  Ax (Bk X.prog X.w) X.A (truthy v) (TP X pins σ Q) X.xe s
def oP(r:R2)(ta tb:TE):TE:=fun σ H Q=>ta σ H fun x a=>tb σ a fun y b=>r x y b Q
def MA(r:V->Hp->VK->Prop)(ta:TE):TE:=fun σ H Q=>ta σ H fun x a=>r x a Q
def rI(C:Int->Int->Prop)(g:Int->Int->V):R2:=fun x y H Q=>∃ i j,x=.int i/\y=.int j/\C i j/\Q (g i j) H
def kC(g:Int->Int->V):R2:=fun x y H Q=>∃ i j,x=.int i/\y=.int j/\Q (g i j) H
def rU(g:Int->V):V->Hp->VK->Prop:=fun x H Q=>∃ i,x=.int i/\Q (g i) H
section
variable {X:Cx}{a b c:Expr}{ta tb tc:TE}{pos:Pos}
theorem uW(ha:PE X a ta)(hb:PE X b tb){pins:List (Addr×Obj)}{s:Ah}{σ:St}{H:Hp}{R:V->V->Hp->Prop}(I:Inv X pins σ H s)
  (h:ta σ H fun x i=>tb σ i fun y c=>R x y c) {Q:Ac->Ah->Prop} {f:Ac->Ac->Sem Ac}
  (hf:∀ v u g x y c,Inv X pins σ c g->RelV x v->RelV y u->R x y c->Ax (Bk X.prog X.w) X.A (f v u) Q X.xe g) :
  Ax (Bk X.prog X.w) X.A (eval a X.env) (fun v e=>Ax (Bk X.prog X.w) X.A (eval b X.env) (fun u d=>Ax (Bk X.prog X.w) X.A (f v u) Q X.xe d) X.xe e) X.xe s:=by
 refine aZ (ha pins s σ H _ I h) fun v l ⟨x,i,n,p,m⟩=>?_
 refine aZ (hb pins l σ i _ n m) fun u g ⟨y,c,o,k,j⟩=>?_
 exact hf v u g x y c o p k j
theorem MB{op:Operator}{r:R2}(d:bB X (Fs op) r)(ha:PE X a ta)(hb:PE X b tb):PE X (.BinOp a op b pos) (oP r ta tb):=by
 intro pins s σ H Q I h
 exact wpAny_BinOp (uW ha hb I h fun v u f x y e i g c q=>d pins f σ e x y v u Q i g c q)
theorem MD{op:UnaryOp}{r:V->Hp->VK->Prop}(c:oO X (unaryOp op) r)(ha:PE X a ta):PE X (.UnaryOp op a pos) (MA r ta):=by
 intro pins s σ H Q I h
 exact UnaryOp_ (aZ (ha pins s σ H _ I h) fun v d ⟨x,b,f,g,e⟩=>c pins d σ b x v Q f g e)
theorem oQ{f:Ac->Ac->Sem Ac}{C:Int->Int->Prop}{g:Int->Int->Int}
  (rule:∀ (i j:Int) (t u:Tok) (s:Ah) (Q:Ac->Ah->Prop) (E:Ac->Ah->Prop),C i j->Q (.int (g i j) s.toks) {s with toks:=s.toks + 1}->Ax (Bk X.prog X.w) X.A (f (.int i t) (.int j u)) Q E s) :
  bB X f (rI C fun i j=>.int (g i j)):=by
 intro pins s σ H x y v u Q I a b h
 obtain⟨i,j,rfl,rfl,hc,q⟩:=h
 obtain⟨t,rfl⟩:=a
 obtain⟨t',rfl⟩:=b
 exact rule i j t t' s _ _ hc ⟨.int (g i j),H,I.tok _,⟨_,rfl⟩,q⟩
theorem z9{f:Ac->Ac->Sem Ac}{g:Int->Int->Int}
  (rule:∀ (i j:Int) (t u:Tok) (s:Ah) (Q:Ac->Ah->Prop) (E:Ac->Ah->Prop),Q (.int (g i j) s.toks) {s with toks:=s.toks + 1}->Ax (Bk X.prog X.w) X.A (f (.int i t) (.int j u)) Q E s) :
  bB X f (kC fun i j=>.int (g i j)):=by
 intro pins s σ H x y v u Q I a b h
 obtain⟨i,j,rfl,rfl,q⟩:=h
 obtain⟨t,rfl⟩:=a
 obtain⟨t',rfl⟩:=b
 exact rule i j t t' s _ _ ⟨.int (g i j),H,I.tok _,⟨_,rfl⟩,q⟩
theorem qS{f:Ac->Ac->Sem Ac}{g:Int->Int->Bool}
  (rule:∀ (i j:Int) (t u:Tok) (s:Ah) (Q:Ac->Ah->Prop) (E:Ac->Ah->Prop),Q (.bool (g i j)) s->Ax (Bk X.prog X.w) X.A (f (.int i t) (.int j u)) Q E s) :
  bB X f (kC fun i j=>.bl (g i j)):=by
 intro pins s σ H x y v u Q I a b h
 obtain⟨i,j,rfl,rfl,q⟩:=h
 obtain⟨t,rfl⟩:=a
 obtain⟨t',rfl⟩:=b
 exact rule i j t t' s _ _ ⟨.bl (g i j),H,I,rfl,q⟩
def AA(i j:Int):Prop:=0<=j/\j<=1000000/\i.natAbs < 2 ^ 64
def nD(i j:Int):Prop:=(-(2 ^ 64) < i/\i < 2 ^ 64)\/(-(2 ^ 64) < j/\j < 2 ^ 64)
theorem nD.ok{i j:Int}(h:nD i j):IntMulOk i j:=by
 rcases h with⟨b,a⟩ | ⟨b,a⟩
 ·exact .of_left (intBits_le_64 b a)
 ·exact .of_right (intBits_le_64 b a)
theorem ME:bB X (Fs .Add) (kC fun i j=>.int (i + j)):=z9 fun _ _ _ _ _ _ _ q=>add_int q
theorem MF:bB X (Fs .Sub) (kC fun i j=>.int (i - j)):=z9 fun _ _ _ _ _ _ _ q=>sub_int q
theorem MG:bB X (Fs .Mult) (rI nD fun i j=>.int (i * j)):=oQ fun _ _ _ _ _ _ _ hc q=>mul_int q hc.ok
theorem MH:bB X (Fs .Mod) (rI (fun _ j=>0 < j) fun i j=>.int (i % j)):=oQ fun i j _ _ _ _ _ hc q=>by
 have a:(0:Int) < j:=hc
 exact mod_int' (by lia) (by rw[Int.fmod_eq_emod_of_nonneg i (by lia)];exact q)
theorem MI:bB X (Fs .Pow) (rI AA fun i j=>.int (i ^ j.toNat)):=oQ fun _ _ _ _ _ _ _ hc q=>pow_int_small hc.1 hc.2.1 hc.2.2 q
theorem MJ{f:Ac->Sem Ac}{g:Int->Int}
  (rule:∀ (i:Int) (t:Tok) (s:Ah) (Q:Ac->Ah->Prop) (E:Ac->Ah->Prop),Q (.int (g i) s.toks) {s with toks:=s.toks + 1}->Ax (Bk X.prog X.w) X.A (f (.int i t)) Q E s) :
  oO X f (rU fun i=>.int (g i)):=by
 intro pins s σ H x v Q I a h
 obtain⟨i,rfl,q⟩:=h
 obtain⟨t,rfl⟩:=a
 exact rule i t s _ _ ⟨.int (g i),H,I.tok _,⟨_,rfl⟩,q⟩
theorem MK:oO X (unaryOp .USub) (rU fun i=>.int (-i)):=MJ fun _ _ _ _ _ q=>neg_int q
end
def qT:V->V->Bool
 | .non,.non=>true | .non,.int _=>true | .int _,.non=>true | .non,.bl _=>true | .bl _,.non=>true | .non,.str _=>true | .str _,.non=>true
 | .int _,.int _=>true | .bl _,.bl _=>true | .str _,.str _=>true | .byt _,.byt _=>true
 | .int _,.str _=>true | .str _,.int _=>true | .bl _,.str _=>true | .str _,.bl _=>true
 | _,_=>false
def rEq:R2:=fun x y H Q=>qT x y=true/\Q (.bl (decide (x=y))) H
def ML:R2:=fun x y H Q=>qT x y=true/\Q (.bl (!decide (x=y))) H
theorem AB{i j:Int}:decide (V.int i=V.int j)=(i == j):=by
 rw[Er]
 simp
theorem AD{i j:Bool}:decide (V.bl i=V.bl j)=(i == j):=by
 rw[Er]
 simp
theorem AE{i j:Str}:decide (V.str i=V.str j)=(i == j):=by
 rw[Er]
 simp
theorem AF{i j:Array UInt8}:decide (V.byt i=V.byt j)=(i.toList == j.toList):=by
 rw[Er]
 cases i
 cases j
 simp
section
variable {X:Cx}{a b c:Expr}{ta tb tc:TE}{pos:Pos}
theorem cP{pins:List (Addr×Obj)}{σ:St}{H:Hp}{s:Ah}{Q:VK}{k a:Bool}(I:Inv X pins σ H s)(q:Q (.bl k) H)(e:k=a):EP X pins σ Q (.bool a) s:=by
 subst e
 exact⟨.bl k,H,I,rfl,q⟩
theorem MM:bB X (Cf .Eq) rEq:=by
 intro pins s σ H x y v u Q I rx ry h
 obtain⟨hs,q⟩:=h
 cases x with
 | non=>
  cases rx
  cases y with
  | non=>cases ry;exact PySem.EqNone.eq_none_none (cP I q (by simp))
  | bl j=>cases ry;exact PySem.EqNone.eq_none_bool (cP I q (by simp))
  | int j=>obtain⟨t',rfl⟩:=ry;exact PySem.EqNone.eq_none_int (cP I q (by simp))
  | str j=>obtain⟨t',rfl⟩:=ry;exact PySem.EqNone.eq_none_str (cP I q (by simp))
  | _=>exact absurd (show false=true from hs) Ao
 | bl i=>
  cases rx
  cases y with
  | non=>cases ry;exact PySem.EqNone.eq_bool_none (cP I q (by simp))
  | bl j=>cases ry;exact eq_bool (cP I q AD)
  | str j=>obtain⟨t',rfl⟩:=ry;exact PySem.EqMixed.eq_bool_str (cP I q (by simp))
  | _=>exact absurd (show false=true from hs) Ao
 | int i=>
  obtain⟨t,rfl⟩:=rx
  cases y with
  | non=>cases ry;exact PySem.EqNone.eq_int_none (cP I q (by simp))
  | int j=>obtain⟨t',rfl⟩:=ry;exact eq_int (cP I q AB)
  | str j=>obtain⟨t',rfl⟩:=ry;exact PySem.EqMixed.eq_int_str (cP I q (by simp))
  | _=>exact absurd (show false=true from hs) Ao
 | str i=>
  obtain⟨t,rfl⟩:=rx
  cases y with
  | non=>cases ry;exact PySem.EqNone.eq_str_none (cP I q (by simp))
  | bl j=>cases ry;exact PySem.EqMixed.eq_str_bool (cP I q (by simp))
  | int j=>obtain⟨t',rfl⟩:=ry;exact PySem.EqMixed.eq_str_int (cP I q (by simp))
  | str j=>obtain⟨t',rfl⟩:=ry;exact eq_str (cP I q AE)
  | _=>exact absurd (show false=true from hs) Ao
 | byt i=>
  obtain⟨t,rfl⟩:=rx
  cases y with
  | byt j=>obtain⟨t',rfl⟩:=ry;exact PySem.W.eq_bytes (cP I q AF)
  | _=>exact absurd (show false=true from hs) Ao
 | _=>cases y <;> exact absurd (show false=true from hs) Ao
theorem MN:bB X (Cf .NotEq) ML:=by
 intro pins s σ H x y v u Q I rx ry h
 obtain⟨hs,q⟩:=h
 cases x with
 | non=>
  cases rx
  cases y with
  | non=>cases ry;exact PySem.EqNone.ne_none_none (cP I q (by simp))
  | bl j=>cases ry;exact PySem.EqNone.ne_none_bool (cP I q (by simp))
  | int j=>obtain⟨t',rfl⟩:=ry;exact PySem.EqNone.ne_none_int (cP I q (by simp))
  | str j=>obtain⟨t',rfl⟩:=ry;exact PySem.EqNone.ne_none_str (cP I q (by simp))
  | _=>exact absurd (show false=true from hs) Ao
 | bl i=>
  cases rx
  cases y with
  | non=>cases ry;exact PySem.EqNone.ne_bool_none (cP I q (by simp))
  | bl j=>cases ry;exact ne_bool (cP I q (congrArg not AD))
  | str j=>obtain⟨t',rfl⟩:=ry;exact PySem.EqMixed.ne_bool_str (cP I q (by simp))
  | _=>exact absurd (show false=true from hs) Ao
 | int i=>
  obtain⟨t,rfl⟩:=rx
  cases y with
  | non=>cases ry;exact PySem.EqNone.ne_int_none (cP I q (by simp))
  | int j=>obtain⟨t',rfl⟩:=ry;exact ne_int (cP I q (congrArg not AB))
  | str j=>obtain⟨t',rfl⟩:=ry;exact PySem.EqMixed.ne_int_str (cP I q (by simp))
  | _=>exact absurd (show false=true from hs) Ao
 | str i=>
  obtain⟨t,rfl⟩:=rx
  cases y with
  | non=>cases ry;exact PySem.EqNone.ne_str_none (cP I q (by simp))
  | bl j=>cases ry;exact PySem.EqMixed.ne_str_bool (cP I q (by simp))
  | int j=>obtain⟨t',rfl⟩:=ry;exact PySem.EqMixed.ne_str_int (cP I q (by simp))
  | str j=>obtain⟨t',rfl⟩:=ry;exact ne_str (cP I q (congrArg not AE))
  | _=>exact absurd (show false=true from hs) Ao
 | byt i=>
  obtain⟨t,rfl⟩:=rx
  cases y with
  | byt j=>obtain⟨t',rfl⟩:=ry;exact PySem.W.ne_bytes (cP I q (congrArg not AF))
  | _=>exact absurd (show false=true from hs) Ao
 | _=>cases y <;> exact absurd (show false=true from hs) Ao
theorem MP:bB X (Cf .Lt) (kC fun i j=>.bl (decide (i < j))):=qS fun _ _ _ _ _ _ _ q=>lt_int q
theorem MQ:bB X (Cf .LtE) (kC fun i j=>.bl (decide (i<=j))):=qS fun _ _ _ _ _ _ _ q=>le_int q
theorem MR:bB X (Cf .Gt) (kC fun i j=>.bl (decide (j < i))):=qS fun _ _ _ _ _ _ _ q=>gt_int q
theorem MS:bB X (Cf .GtE) (kC fun i j=>.bl (decide (j<=i))):=qS fun _ _ _ _ _ _ _ q=>ge_int q
theorem MT:bB X (Cf .In) (fun x y H Q=>∃ i j,x=.str i/\y=.str j/\Q (.bl (!(Jk j i 0 j.length 1).isEmpty)) H):=by
 intro pins s σ H x y v u Q I a b h
 obtain⟨i,j,rfl,rfl,q⟩:=h
 obtain⟨t,rfl⟩:=a
 obtain⟨t',rfl⟩:=b
 exact in_str (cP I q rfl)
theorem MU:bB X (Cf .Is) (fun x y H Q=>y=.non/\Q (.bl (decide (x=.non))) H):=by
 intro pins s σ H x y v u Q I a b h
 obtain⟨rfl,q⟩:=h
 cases b
 refine is_none_gen (cP I q ?_)
 cases x <;> first
  | (cases a;rfl)
  | (obtain⟨t,rfl⟩:=a;rfl)
theorem MV:bB X (Cf .NotIn) (fun x y H Q=>∃ i j,x=.str i/\y=.str j/\Q (.bl (!(!(Jk j i 0 j.length 1).isEmpty))) H):=by
 intro pins s σ H x y v u Q I a b h
 obtain⟨i,j,rfl,rfl,q⟩:=h
 obtain⟨t,rfl⟩:=a
 obtain⟨t',rfl⟩:=b
 exact notIn_str (cP I q rfl)
theorem bB.or{f:Ac->Ac->Sem Ac}{r a:R2}(h:bB X f r)(h':bB X f a):bB X f (fun x y H Q=>r x y H Q\/a x y H Q):=by
 intro pins s σ H x y v u Q I c b q
 rcases q with q | q
 ·exact h pins s σ H x y v u Q I c b q
 ·exact h' pins s σ H x y v u Q I c b q
theorem AG(b:Expr){op:CmpOp}(h:op≠.In:=by decide)(a:op≠.NotIn:=by decide):Ja op b=false:=by
 have d:(op == CmpOp.In)=false:=by cases op <;> first | rfl | exact absurd rfl h
 have c:(op == CmpOp.NotIn)=false:=by cases op <;> first | rfl | exact absurd rfl a
 cases b <;> simp[Ja,d,c]
theorem MW{op:CmpOp}{r:R2}(i:bB X (Cf op) r)(ha:PE X a ta)(hb:PE X b tb)(d:Ja op b=false):PE X (.Compare a [op] [b] pos) (oP r ta tb):=by
 intro pins s σ H Q I h
 exact wpAny_Compare1 (uW ha hb I h fun v u g x y e j f c q=>i pins g σ e x y v u Q j f c q) d
def AH(t:TE):TT:=fun σ H Q=>t σ H fun x a=>∃ k,x=.bl k/\Q k a
theorem MX{op:CmpOp}{r:R2}(i:bB X (Cf op) r)(ha:PE X a ta)(hb:PE X b tb)(l:Ja op b=false):PT X (.Compare a [op] [b] pos) (AH (oP r ta tb)):=by
 intro pins s σ H Q I h
 refine wpAny_isTrue_Compare1 (aZ (ha pins s σ H _ I h) fun v j ⟨x,g,w,C,m⟩=>aZ (hb pins j σ g _ w m) fun u t ⟨y,o,B,f,d⟩=>
  aZ (i pins t σ o x y v u _ B C f d) fun c D ⟨z,A,n,q,k,e,p⟩=>?_) l
 subst e
 cases q
 exact Jg ⟨A,n,p⟩
def AI(r d:R2)(ta tb tc:TE):TE:=fun σ H Q=>ta σ H fun x c=>tb σ c fun y e=>r x y e fun z a=>∃ k,z=.bl k/\
 (if k=true then tc σ a fun f b=>d y f b Q else Q (.bl false) a)
theorem MY{op f:CmpOp}{r i:R2}(D:bB X (Cf op) r)(g:bB X (Cf f) i)(ha:PE X a ta)(hb:PE X b tb)(hc:PE X c tc)
  (F:lastMarks [op,f] [b,c]=false:=by with_unfolding_all rfl):PT X (.Compare a [op,f] [b,c] pos) (AH (AI r i ta tb tc)):=by
 intro pins s σ H Q I h
 refine isTrue_chain (aZ (ha pins s σ H _ I h) fun v N ⟨x,q,C,Z,O⟩=>test_link (aZ (hb pins N σ q _ C O) fun u J ⟨y,V,E,l,o⟩=>
  aZ (D pins J σ V x y v u _ E Z l o) fun d W ⟨z,j,m,R,k,e,n⟩=>?_)) F
 subst e
 cases R
 refine Jg ?_
 cases k with
 | false=>
  obtain⟨k',w,S⟩:=n
  cases w
  exact ite_ff ⟨j,m,S⟩
 | true=>
  refine ite_tt (test_last (aZ (hc pins W σ j _ m n) fun L G ⟨T,p,Y,U,A⟩=>aZ (g pins G σ p y T u L _ Y l U A) fun d' s5 ⟨z2,B,K,t,k2,M,P⟩=>?_))
  subst M
  cases t
  exact Jg ⟨B,K,P⟩
def AJ(K:Ae)(x:V)(H:Hp)(k:Bool):Prop:=
 match x with
 | .non=>k=false
 | .bl b=>k=b
 | .int i=>k=(i != 0)
 | .str y=>y.length<=Aj/\k=((y.length:Int) != 0)
 | .byt y=>y.size<=Aj/\k=((y.size:Int) != 0)
 | .ref p=>(∃ xs,bC K H p xs/\k = !xs.isEmpty)\/(∃ xs,bM K H p xs/\k = !xs.isEmpty)\/∃ kvs,H p=some (.dK kvs)/\k = !kvs.isEmpty
 | _=>False
theorem MZ{κ:Type}{kvs:List (κ×V)}{vs:List (κ×Ac)}(r:KV kvs vs):(!vs.isEmpty) = !kvs.isEmpty:=by
 cases r <;> rfl
theorem AK{xs:List V}{its:List Ac}(r:aQ xs its):(!its.toArray.isEmpty) = !xs.isEmpty:=by
 cases r <;> simp
theorem lY:(Aj:Nat) < 2 ^ 63:=by rw[Hl];decide
theorem M8:L9 X (fun x H Q=>∃ k,AJ X.K x H k/\Q k H):=by
 intro pins s σ H x v Q I rx h
 obtain⟨k,e,q⟩:=h
 have hl:=lY
 have hs:Aj=16777216:=Hl
 cases x with
 | non=>
  cases rx
  have e':k=false:=e
  subst e'
  exact truthy_none ⟨H,I,q⟩
 | bl b=>
  cases rx
  have e':k=b:=e
  subst e'
  exact Jg ⟨H,I,q⟩
 | int i=>
  obtain⟨t,rfl⟩:=rx
  have e':k=(i != 0):=e
  subst e'
  exact PySem.P.truthy_int ⟨H,I,q⟩
 | str y=>
  obtain⟨t,rfl⟩:=rx
  obtain⟨hy,e'⟩:y.length<=Aj/\k=((y.length:Int) != 0):=e
  subst e'
  exact PySem.P.truthy_str (by lia) ⟨H,I.tok _,q⟩
 | byt y=>
  obtain⟨t,rfl⟩:=rx
  obtain⟨hy,e'⟩:y.size<=Aj/\k=((y.size:Int) != 0):=e
  subst e'
  exact PySem.W.truthy_bytes (by lia) ⟨H,I.tok _,q⟩
 | ref p=>
  cases rx
  have e':(∃ xs,bC X.K H p xs/\k = !xs.isEmpty)\/(∃ xs,bM X.K H p xs/\k = !xs.isEmpty)\/∃ kvs,H p=some (.dK kvs)/\k = !kvs.isEmpty:=e
  rcases e' with⟨xs,hx,e'⟩ | ⟨xs,hx,e'⟩ | ⟨kvs,hx,e'⟩
  ·subst e'
   obtain⟨its,r,pl,hz⟩:=I.list hx
   have hlen:=r.length
   exact wpAny_truthy_list pl.isList (by simp only[Bb];lia) ⟨H,I.tok _,by rw[AK r];exact q⟩
  ·subst e'
   obtain⟨its,r,pl,hz⟩:=I.tuple hx
   have hlen:=r.length
   exact truthy_tuple pl (by simp only[Bb];lia) ⟨H,I.tok _,by rw[AK r];exact q⟩
  ·subst e'
   obtain⟨hz,hS,vs,r,m⟩:kvs.length<=Aj/\(p == Gm)=false/\∃ vs,KV kvs vs/\s.heap.DictOf (dA X.prog X.w) p vs:=I.hok p _ hx
   have hlen:kvs.length=vs.length:=Eo r
   exact wpAny_truthy_dict hS m (by lia) ⟨H,I.tok _,by rw[MZ r];exact q⟩
 | _=>exact(show False from e).elim
theorem M9(ha:PE X a ta)(e:∀ b,isTrue a X.env b=(do let v <-b;Og a.pos;Iq [v] (truthy v))) :
  PT X a (fun σ H Q=>ta σ H fun x c=>∃ k,AJ X.K x c k/\Q k c):=by
 intro pins s σ H Q I h
 exact isTrue_plain (aZ (ha pins s σ H _ I h) fun v f ⟨x,d,i,j,g⟩=>M8 pins f σ d x v Q i j g) (e _)
theorem vals1{x:V}{us:List Ac}(r:aQ [x] us):∃ u,us=[u]/\RelV x u:=by
 cases r with
 | cons a b=>cases b;exact⟨_,rfl,a⟩
theorem vals2{x y:V}{us:List Ac}(r:aQ [x,y] us):∃ u a,us=[u,a]/\RelV x u/\RelV y a:=by
 cases r with
 | cons e b=>
  cases b with
  | cons d c=>cases c;exact⟨_,_,rfl,e,d⟩
end
structure lZ(h:Heap)(x dx C:Addr)(mA:Str->Option Ac):Prop where
 obj:h.get? x=some (Ha C dx)
 ns:h.Ns1 dx mA
 ne:dx≠x
theorem NA{h:Heap}{dx:Addr}{mA:Str->Option Ac}(n:h.Ns1 dx mA):∃ c,h.get? dx=some c/\∀ name,My name c=some (mA name):=by
 obtain⟨o,es,ep,f,hd,hk,_,i⟩:=n
 refine⟨o,f,fun name=>?_⟩
 have e:=i name
 unfold nsFind findBy at e
 rw[<-Array.find?_toList] at e
 unfold My
 rw[hd]
 dsimp only
 split
 ·rename_i y q
  rw[q] at e
  exact congrArg some e
 ·rename_i q
  rw[q] at e
  have a:es.toList.any (·.refKey)=false:=by
   rw[List.any_eq_false]
   intro y d
   obtain⟨z,t,b⟩:=hk y (Array.mem_toList_iff.mp d)
   simp[DictEntry.refKey,b]
  have g:¬ es.toList.any (·.refKey)=true:=by rw[a];exact Ao
  rw[if_neg g]
  exact congrArg some e
theorem lZ.look{h:Heap}{x dx C:Addr}{mA:Str->Option Ac}(I:lZ h x dx C mA):∃ a,PySem.W.InstAt h x (Ha C dx) C (some a)/\∀ name,My name a=some (mA name):=
 let ⟨a,ho,hl⟩:=NA I.ns
 ⟨a,⟨I.obj,rfl,rfl,ho⟩,hl⟩
section
variable {prog:Bl}{w:Cd}{A:Bu}{E:Ac->Ah->Prop}{s:Ah}{K:Ae}{x dx C f:Addr}{mA:Str->Option Ac}{name:Str}{v:Ac}
theorem NB{a:Bool}{Q:Ac->Ah->Prop}(X:K.In s.heap)(I:lZ s.heap x dx C mA)(e:Lv K C name=true)(c:PySem.W.hasDictIn K C=true)
  (ha:Ci K (.ref C) name=some none) (d:mA name=some v) (b:PySem.W.handedIn v=true) (h:Q v {s with toks:=s.toks + 1}) :
  Ax (Bk prog w) A (getAttr (.ref x) name a) Q E s:=by
 obtain⟨f,J,hl⟩:=I.look
 exact PySem.W.get_value X J (Ng e).1 (PySem.W.findObj_own c ha rfl (by rw[hl,d])) b h
theorem NC{pl:Sem Bool}{Q:Ac×List Ac->Ah->Prop}(X:K.In s.heap)(I:lZ s.heap x dx C mA)(a:Lv K C name=true)
  (hf:Ci K (.ref C) name=some (some (.ref f))) (ht:Mc K (.ref f)=true) (c:mA name=none) (h:Q (.ref f,[.ref x]) s) :
  Ax (Bk prog w) A (Oi (.ref x) name pl) Q E s:=by
 obtain⟨b,J,hl⟩:=I.look
 exact PySem.W.method_fn X J (Ng a).1 (Ng a).2 hf (beq_iff_eq.mp ht) (by show(My name b).map (·.isSome)=some false;rw[hl,c];rfl) h
theorem ND{ns:List Str}{Q:Unit->Ah->Prop}(X:K.In s.heap)(I:lZ s.heap x dx C mA)
  (hs:Ci K (.ref C) "__setattr__" = some (some (.builtin "object.__setattr__"))) (j:PySem.W.plainOver K C=true) (ht:PySem.W.takerIn K C name=some none) (l:PySem.W.hasDictIn K C=true)
  (hw:PySem.Within mA ns) (hsz:ns.length<=Aj)
  (h:∀ h',lZ h' x dx C (fun y=>if y=name then some v else mA y)->Dx dx s.heap h'->Q () {s with heap:=h',toks:=s.toks + 2}) :
  Ax (Bk prog w) A (setAttr (.ref x) name v) Q E s:=by
 obtain⟨p,J,hl⟩:=I.look
 refine PySem.W.set_plain X J hs (PySem.W.osa_open (s:={s with toks:=s.toks + 1}) (r:=none) X J j ht fun b=>?_)
 obtain⟨q,hc,i⟩:=PySem.W.any_some l
 have m:s.heap.get? x=some ⟨.ref C,some dx,.plain,#[]⟩:=I.obj
 refine Aa (Ag (Aa (Aa (wpAny_loadPart m (Aa (PySem.W.Looks.here (s:={s with toks:=s.toks + 1}) (PySem.W.looks_clsIn X hc) ?_))))))
 rw[i]
 refine Ag (a:=some dx) (Aa (Ag (Aa ?_)))
 refine wpAny_nsSet1 (s:={s with toks:=s.toks + 1}) I.ns fun h' d c=>?_
 obtain⟨o,k,n,e,f,g⟩:=d.count (PySem.Within.cons name v hw)
 refine Aa (wpAny_lookBehind e (by rw[f];exact pastItsLine_dict (Bh g (by rw[Bp];lia))) ?_)
 exact Ag (h _ ⟨(c.2 _ (Bq I.ne)).trans I.obj,d,I.ne⟩ c)
theorem NF{R:Result->Ah->Prop}{vs:List Ac}{a:List (Str×Ac)}(X:K.In s.heap)(b:PySem.W.makesIn K C=true)
  (hi:Ci K (.ref C) "__init__" = some (some (.ref f))) (hf:PySem.W.typeIn K (.ref f)=some (.type "function"))
  (h:Jv (Bk prog w) (A.under (.builtin "type.__call__" ⟨.ref C :: vs,a⟩)) (.call (.ref f) ⟨.ref (s.heap.objs.size + 1) :: vs,a⟩) (PySem.W.InitBack (s.heap.objs.size + 1) R)
   {s with heap:=(s.heap.push Fj).push (Ha C s.heap.objs.size)}) :
  Jv (Bk prog w) A (.call (.ref C) ⟨vs,a⟩) R s:=by
 obtain⟨c,g,d,t,os⟩:=s
 exact PySem.W.make_core (PySem.W.makes_of X b) (PySem.W.looks_findIn X hi) (fun self=>PySem.W.bind_fn X self hf) (.inl rfl) h
end
def putF(f:Str)(v:V):List (Str×V)->List (Str×V)
 | []=>[(f,v)]
 | (g,x) :: r=>if g=f then(g,v) :: r else(g,x) :: putF f v r
theorem AL(f g:Str)(v:V):∀ fs:List (Str×V),(putF f v fs).lookup g=if g=f then some v else fs.lookup g
 | []=>by
  show Cm g [(f,v)]=_
  by_cases h:g=f
  ·have hb:(g == f)=true:=beq_iff_eq.mpr h
   simp only[Cm,hb,if_pos h]
  ·have hb:(g == f)=false:=beq_eq_false_iff_ne.mpr h
   simp only[Cm,hb,if_neg h]
 | (k,x) :: r=>by
  have a:=AL f g v r
  rw[show putF f v ((k,x) :: r)=(if k=f then(k,v) :: r else(k,x) :: putF f v r) from rfl]
  by_cases hk:k=f
  ·rw[if_pos hk]
   by_cases h:g=k
   ·have hb:(g == k)=true:=beq_iff_eq.mpr h
    simp only[Cm,hb,if_pos (h.trans hk)]
   ·have hb:(g == k)=false:=beq_eq_false_iff_ne.mpr h
    simp only[Cm,hb,if_neg (fun e:g=f=>h (e.trans hk.symm))]
  ·rw[if_neg hk]
   by_cases h:g=k
   ·have hb:(g == k)=true:=beq_iff_eq.mpr h
    simp only[Cm,hb,if_neg (fun e:g=f=>hk (h.symm.trans e))]
   ·have hb:(g == k)=false:=beq_eq_false_iff_ne.mpr h
    simp only[Cm,hb]
    exact a
theorem uX(f:Str)(v:V):∀ fs:List (Str×V),f∈(putF f v fs).map (·.1)/\∀ g,g∈fs.map (·.1)->g∈(putF f v fs).map (·.1)
 | []=>⟨by simp[putF],fun g h=>by simp at h⟩
 | (k,x) :: r=>by
  obtain⟨b,a⟩:=uX f v r
  rw[show putF f v ((k,x) :: r)=(if k=f then(k,v) :: r else(k,x) :: putF f v r) from rfl]
  by_cases hk:k=f
  ·rw[if_pos hk]
   subst hk
   exact⟨by simp,fun g h=>by simpa using h⟩
  ·rw[if_neg hk]
   refine⟨?_,fun g h=>?_⟩
   ·rw[Ar]
    exact Bd _ b
   ·rw[Ar] at h ⊢
    rcases Ba.mp h with e | e
    ·exact Ba.mpr (.inl e)
    ·exact Bd _ (a g e)
theorem AN(f:Str)(v:V):∀ fs:List (Str×V),(putF f v fs).length<=fs.length + 1
 | []=>by simp[putF]
 | (k,x) :: r=>by
  have a:=AN f v r
  rw[show putF f v ((k,x) :: r)=(if k=f then(k,v) :: r else(k,x) :: putF f v r) from rfl]
  by_cases hk:k=f
  ·rw[if_pos hk,Bp,Bp];lia
  ·rw[if_neg hk,Bp,Bp];lia
theorem fD.some_of{v:V}{o:Option Ac}(r:fD (some v) o):∃ u,o=some u/\RelV v u:=by
 cases o with
 | none=>exact(show False from r).elim
 | some u=>exact⟨u,rfl,r⟩
theorem fD.none_of{o:Option Ac}(r:fD none o):o=none:=by
 cases o with
 | none=>rfl
 | some u=>exact(show False from r).elim
theorem NG{v:V}{u:Ac}(r:RelV v u):PySem.W.handedIn u=true:=by
 cases v with
 | non=>cases (show u=Value.none from r);rfl
 | bl b=>cases (show u=Value.bool b from r);rfl
 | int i=>obtain⟨t,e⟩:=(show ∃ t,u=Value.int i t from r);cases e;rfl
 | str x=>obtain⟨t,e⟩:=(show ∃ t,u=Value.str x t from r);cases e;rfl
 | byt b=>obtain⟨t,e⟩:=(show ∃ t,u=Value.bytes b t from r);cases e;rfl
 | flt b=>obtain⟨t,e⟩:=(show ∃ t,u=Value.float b t from r);cases e;rfl
 | ref a=>cases (show u=Value.ref a from r);rfl
 | ty n=>cases (show u=Value.type n from r);rfl
section
variable {P:Bl}{w:Cd}{H H':Hp}{h h':Heap}{a C dx:Addr}{fs fs':List (Str×V)}
theorem qU(hok:cJ P w H h)(e:H a=some (.ins C dx fs)):∃ mA,lZ h a dx C mA/\(∀ f,fD (fs.lookup f) (mA f))/\PySem.Within mA (fs.map (·.1))/\fs.length<=1000/\H dx=some (.own a):=by
 obtain⟨d,z,ne,ob,mA,n,r,q⟩:=(show cN P w H h a (.ins C dx fs) from hok a _ e)
 exact⟨mA,⟨ob,n,ne⟩,r,q,z,d⟩
end
structure fX(K:Ae)(C:Addr):Prop where
 pg:Lv K C Str.empty=true
 hd:PySem.W.hasDictIn K C=true
 po:PySem.W.plainOver K C=true
 sa:Ci K (.ref C) "__setattr__" = some (some (.builtin "object.__setattr__"))
theorem fX.get{K:Ae}{C:Addr}(c:fX K C)(f:Str):Lv K C f=true:=c.pg
def fJ(K:Ae)(C:Addr)(f:Str):Prop:=Ci K (.ref C) f=some none
theorem fJ.taker{K:Ae}{C:Addr}{f:Str}(n:fJ K C f):PySem.W.takerIn K C f=some none:=by
 unfold PySem.W.takerIn
 rw[show Ci K (.ref C) f=some none from n]
 rfl
structure nE(K:Ae)(C:Addr)(m:Str)(f:Addr):Prop where
 at_:Ci K (.ref C) m=some (some (.ref f))
 fn:Mc K (.ref f)=true
 kp:Fw K (.ref f)=true
section
variable {X:Cx}{pins:List (Addr×Obj)}{σ:St}{H:Hp}{s:Ah}{a C dx:Addr}{fs:List (Str×V)}{f:Str}{v:V}{A:Bu}{E:Ac->Ah->Prop}
theorem NH{b:Bool}{Q:Ac->Ah->Prop}(I:Inv X pins σ H s)(e:H a=some (.ins C dx fs))(c:fX X.K C)(n:fJ X.K C f)(l:fs.lookup f=some v)
  (h:∀ u s',Inv X pins σ H s'->RelV v u->Q u s'):Ax (Bk X.prog X.w) A (getAttr (.ref a) f b) Q E s:=by
 obtain⟨mA,O,r,_,_,_⟩:=qU I.hok e
 obtain⟨u,g,d⟩:=fD.some_of (v:=v) (o:=mA f) (by rw[<-l];exact r f)
 exact NB I.kIn O (c.get f) c.hd n g (NG d) (h u _ (I.tok _) d)
theorem AQ{m:Str}{g:Addr}{pl:Sem Bool}{Q:Ac×List Ac->Ah->Prop}(I:Inv X pins σ H s)(e:H a=some (.ins C dx fs))(c:fX X.K C)(k:nE X.K C m g)(l:fs.lookup m=none)
  (h:Q (.ref g,[.ref a]) s):Ax (Bk X.prog X.w) A (Oi (.ref a) m pl) Q E s:=by
 obtain⟨mA,O,r,_,_,_⟩:=qU I.hok e
 have b:mA m=none:=fD.none_of (by rw[<-l];exact r m)
 exact NC I.kIn O (c.get m) k.at_ k.fn b h
theorem NI{y:V}{u:Ac}{Q:Unit->Ah->Prop}(I:Inv X pins σ H s)(e:H a=some (.ins C dx fs))(c:fX X.K C)(n:fJ X.K C f)(hl:fs.length < 1000)(k:RelV y u)
  (h:∀ s',Inv X pins σ (aN H a (.ins C dx (putF f y fs))) s'->Q () s'):Ax (Bk X.prog X.w) A (setAttr (.ref a) f u) Q E s:=by
 obtain⟨mA,O,r,i,_,j⟩:=qU I.hok e
 have hz:(fs.map (·.1)).length<=Aj:=by rw[Ab,Hl];lia
 refine ND I.kIn O c.sa c.po n.taker c.hd i hz fun h' d sb=>h _ ?_
 have hd:∃ o,h'.get? dx=some o:=let ⟨o,_,_,e',_⟩:=d.ns;⟨o,e'⟩
 refine I.write (x:=a) (e:=dx) (by rw[e];exact True.intro) (.inr j) (fun b q hb z=>(sb.2 b hb).trans z) hd ?_
 refine⟨by rw[bK O.ne];exact j,?_,O.ne,d.obj,_,d.ns,fun g=>?_,fun g l=>?_⟩
 ·have:=AN f y fs;lia
 ·show fD ((putF f y fs).lookup g) (if g=f then some u else mA g)
  rw[AL]
  by_cases q:g=f
  ·rw[if_pos q,if_pos q];exact k
  ·rw[if_neg q,if_neg q];exact r g
 ·by_cases q:g=f
  ·rw[q];exact(uX f y fs).1
  ·refine(uX f y fs).2 g (i g fun z=>l ?_)
   show(if g=f then some u else mA g)=none
   rw[if_neg q];exact z
theorem Inv.made(I:Inv X pins σ H s):Inv X pins σ (aN (aN H s.heap.objs.size (.own (s.heap.objs.size + 1))) (s.heap.objs.size + 1) (.ins C s.heap.objs.size []))
  {s with heap:=(s.heap.push Fj).push (Ha C s.heap.objs.size)}:=by
 have c:(s.heap.push Fj).get? s.heap.objs.size=some Fj:=Ap s.heap rfl
 have g:((s.heap.push Fj).push (Ha C s.heap.objs.size)).get? (s.heap.objs.size + 1)=some (Ha C s.heap.objs.size):=by
  have:=Ap (s.heap.push Fj) (o:=Ha C s.heap.objs.size) rfl
  rwa [Dr] at this
 have h:(s.heap.push Fj).Ns s.heap.objs.size (fun _=>none):=⟨Fj,#[],_,c,rfl,(fun e d=>absurd d (by simp)),fun _=>rfl⟩
 have i:=I.laid (a:=s.heap.objs.size) (o:=.own (s.heap.objs.size + 1)) (h':=s.heap.push Fj) (t':=s.toks) (fun b u q=>Af _ q) (Ai _) ⟨_,c⟩
 refine i.laid (a:=s.heap.objs.size + 1) (o:=.ins C s.heap.objs.size []) (t':=s.toks) (fun b u q=>Af _ q) (Fe (Dr _ _)) ?_
 have ne:s.heap.objs.size≠s.heap.objs.size + 1:=Be (Hx _)
 refine⟨by rw[bK ne,dZ],Bx _,ne,g,fun _=>none,(Heap.Ns1.of_empty h).at fun o q=>Af _ q,fun _=>True.intro,fun y f=>absurd rfl f⟩
theorem NJ{prog:Bl}{w:Cd}{env:Env}{e:Expr}{f:Str}{pos:Pos}{s:Ah}{Q:Ac->Ah->Prop}(hb:Ke e f env (eval e env)=eval e env)
  (h:Ax (Bk prog w) A (eval e env) (fun o a=>Ax (Bk prog w) A (getAttr o f true) Q E a) E s):Ax (Bk prog w) A (eval (.Attribute e f pos) env) Q E s:=
 Attribute_any_ h (by rw[arm_eval_Attribute,hb])
end
def NK(K:Ae)(ta:TE)(f:Str):TE:=fun σ H Q=>ta σ H fun x b=>∃ a C dx fs v,x=.ref a/\b a=some (.ins C dx fs)/\fX K C/\fJ K C f/\fs.lookup f=some v/\Q v b
def NL(K:Ae)(ta tv:TE)(f:Str):TS:=fun D σ H=>tv σ H fun y c=>ta σ c fun x b=>∃ a C dx fs,x=.ref a/\b a=some (.ins C dx fs)/\fX K C/\fJ K C f/\fs.length < 1000/\
 D.nx σ (aN b a (.ins C dx (putF f y fs)))
section
variable {X:Cx}{o e value:Expr}{f:Str}{pos pos' tpos:Pos}{ta tv:TE}
theorem NN(d:PE X e ta)(hb:Ke e f X.env (eval e X.env)=eval e X.env):PE X (.Attribute e f pos) (NK X.K ta f):=by
 intro pins s σ H Q I h
 refine NJ hb (aZ (d pins s σ H _ I h) fun u o ⟨x,j,k,b,a,C,dx,fs,v,ex,ea,c,n,l,q⟩=>?_)
 subst ex
 obtain rfl:u=Value.ref a:=b
 exact NH k ea c n l fun m p i g=>⟨v,j,i,g,q⟩
theorem NO(ha:PE X o ta)(k:PE X value tv)(hs:Kj value (some (.Attribute o f pos')) pos.line X.env=pure false):PS X (.Assign [.Attribute o f pos'] value pos) (NL X.K ta tv f):=by
 intro pins s σ H D I h
 refine plainObj_wpAny_Assign_Attribute (aZ (k pins s σ H _ I h) fun u i ⟨y,e,j,m,q⟩=>aZ (ha pins i σ e _ j q) fun p w ⟨x,t,d,b,a,C,dx,fs,ex,ea,c,n,l,g⟩=>?_) hs
 subst ex
 obtain rfl:p=Value.ref a:=b
 exact NI d ea c n l m fun v r=>⟨σ,_,r,g⟩
end
section
variable {X:Cx}{pins:List (Addr×Obj)}{σ:St}{H:Hp}{s:Ah}{A:Bu}{E:Ac->Ah->Prop}{Q:Ac->Ah->Prop}{c:Ac}{b:Bool}
inductive gT(K:Ae)(H:Hp):V->Ac->Prop where
 | non:gT K H .non (.type "NoneType")
 | bl (x:Bool):gT K H (.bl x) (.type "bool")
 | int (i:Int):gT K H (.int i) (.type "int")
 | str (x:Str):gT K H (.str x) (.type "str")
 | flt (x:UInt64):gT K H (.flt x) (.type "float")
 | lst {a:Addr} {xs:List V} (e:H a=some (.lst xs)):gT K H (.ref a) (.type "list")
 | frz {a:Addr} {o:Obj} {xs:List V} (e:H a=some (.frz o (.lst xs))):gT K H (.ref a) (.type "list")
 | tup {a:Addr} {xs:List V} (e:H a=some (.tup xs)):gT K H (.ref a) (.type "tuple")
 | dK {a:Addr} {kvs:List (aD×V)} (e:H a=some (.dK kvs)):gT K H (.ref a) (.type "dict")
 | dT {a:Addr} {kvs:List (List aD×V)} (e:H a=some (.dT kvs)):gT K H (.ref a) (.type "dict")
 | ins {a C dx:Addr} {fs:List (Str×V)} (e:H a=some (.ins C dx fs)) (cl:fX K C) (ha:Ci K (.ref C) "__class__" = some (some (.builtin "object.__class__")))
   (hn:PySem.W.specialIn K (.builtin "object.__class__") "__get__" = some (some (.builtin "getset_descriptor.__get__"))) (htk:PySem.W.takesIn K (.builtin "object.__class__")=some true)
   (hm:PySem.W.mroIn K C (.type "object")=some true):gT K H (.ref a) (.ref C)
theorem NP{x:V}{u t:Ac}(I:Inv X pins σ H s)(d:RelV x u)(ty:gT X.K H x t)(e:Jx X.K t c=some b)(h:∀ tk,Q (.bool b) {s with toks:=tk}) :
  Ax (Bk X.prog X.w) A (call (.builtin "isinstance") [u,c]) Q E s:=by
 cases ty with
 | non=>cases (show u=Value.none from d);exact Ez PySem.W.kitx_none I.kIn True.intro e (fun z=>nomatch z) h
 | bl y=>cases (show u=Value.bool y from d);exact Ez PySem.W.kitx_bool I.kIn True.intro e (fun z=>nomatch z) h
 | int i=>obtain⟨t,q⟩:=(show ∃ t,u=Value.int i t from d);cases q;exact Ez PySem.W.kitx_int I.kIn True.intro e (fun z=>nomatch z) h
 | str y=>obtain⟨t,q⟩:=(show ∃ t,u=Value.str y t from d);cases q;exact Ez PySem.W.kitx_str I.kIn True.intro e (fun z=>nomatch z) h
 | flt y=>obtain⟨t,q⟩:=(show ∃ t,u=Value.float y t from d);cases q;exact Ez PySem.W.kitx_float I.kIn True.intro e (fun z=>nomatch z) h
 | @lst a xs ea=>
  cases (show u=Value.ref a from d)
  obtain⟨_,_,n,_,f⟩:=(show cN X.prog X.w H s.heap a (.lst xs) from I.hok a _ ea)
  exact Ez PySem.W.kitx_list I.kIn ⟨_,f,rfl⟩ e (fun z=>nomatch z) h
 | @frz a ob xs ea=>
  cases (show u=Value.ref a from d)
  obtain⟨_,_,_,n,_,f⟩:=(show cN X.prog X.w H s.heap a (.frz ob (.lst xs)) from I.hok a _ ea)
  exact Ez PySem.W.kitx_list I.kIn ⟨_,f,rfl⟩ e (fun z=>nomatch z) h
 | @tup a xs ea=>
  cases (show u=Value.ref a from d)
  obtain⟨_,_,_,p⟩:=(show cN X.prog X.w H s.heap a (.tup xs) from I.hok a _ ea)
  obtain⟨o,f,g,_⟩:=p
  exact Ez PySem.W.kitx_tuple I.kIn ⟨o,f,g⟩ e (fun z=>nomatch z) h
 | @dK a kvs ea=>
  cases (show u=Value.ref a from d)
  obtain⟨_,_,vs,_,p⟩:=(show cN X.prog X.w H s.heap a (.dK kvs) from I.hok a _ ea)
  obtain⟨o,es,ep,f,g,_⟩:=p
  exact Ez PySem.W.kitx_dict I.kIn ⟨o,f,g.1⟩ e (fun z=>nomatch z) h
 | @dT a kvs ea=>
  cases (show u=Value.ref a from d)
  obtain⟨_,_,xs,_,o,es,ep,f,g,_⟩:=(show cN X.prog X.w H s.heap a (.dT kvs) from I.hok a _ ea)
  exact Ez PySem.W.kitx_dict I.kIn ⟨o,f,g.1⟩ e (fun z=>nomatch z) h
 | @ins a C dx fs ea cl ha k j l=>
  cases (show u=Value.ref a from d)
  obtain⟨mA,O,_⟩:=qU I.hok ea
  obtain⟨m,J,_⟩:=O.look
  exact Ez (PySem.W.kitx_own (cl.get _) cl.hd ha k j l) I.kIn J e (fun z=>nomatch z) h
end
structure cF(k:Nat)(A:Bu):Prop where
 hd:A.handled=none
 dp:A.depth + 3 * k + 5 < recursionLimit
 un:A.units + 16 * k + 200 < Fz
theorem cF.mono{j k:Nat}{A:Bu}(r:cF k A)(h:j<=k):cF j A:=⟨r.hd,by have:=r.dp;lia,by have:=r.un;lia⟩
theorem cF.deeper{k:Nat}{A:Bu}(r:cF (k + 1) A)(env:Env):cF k (A.deeper env):=
 ⟨r.hd,by have:=r.dp;show A.depth + 1 + 3 * k + 5 < _;lia,by have:=r.un;show A.units + 3 + 16 * k + 200 < _;lia⟩
theorem NQ{A:Bu}{C:Addr}{us:List Ac}{a:List (Str×Ac)}:(A.under (.builtin "type.__call__" ⟨.ref C :: us,a⟩)).depth=A.depth + 1:=by
 first | rfl | simp[Around.under,Code.weight,Code.isCreation,Code.isGuard,Code.isCaller,Code.frames,Code.isFrame,guardIds]
theorem NR{A:Bu}{C:Addr}{us:List Ac}{a:List (Str×Ac)}:(A.under (.builtin "type.__call__" ⟨.ref C :: us,a⟩)).units=A.units + 1:=by
 first | rfl | simp[Around.under,Code.cUnits,Code.frames,Code.isFrame]
theorem cF.make{k:Nat}{A:Bu}(r:cF (k + 1) A)(C:Addr)(us:List Ac)(a:List (Str×Ac)):cF k (A.under (.builtin "type.__call__" ⟨.ref C :: us,a⟩)):=
 ⟨r.hd,by have:=r.dp;rw[NQ];lia,by have:=r.un;rw[NR];lia⟩
theorem cF.depth{k:Nat}{A:Bu}(r:cF k A):A.depth < recursionLimit:=by have:=r.dp;lia
theorem cF.units{k:Nat}{A:Bu}(r:cF k A):A.units + 64 < Fz:=by have:=r.un;lia
def uY:TA:=fun _ H Q=>Q [] H
def NS(ta:TE)(a:TA):TA:=fun σ H Q=>ta σ H fun x c=>a σ c fun xs b=>Q (x :: xs) b
section
variable {X:Cx}{e:Expr}{es:List Expr}{te:TE}{t:TA}{pos:Pos}
theorem NT:PA X [] uY:=fun _ _ _ _ H Q I h=>Calls.spliced_nil ⟨[],H,I,.nil,h⟩
theorem NU(ha:PE X e te)(j:PA X es t)(hs:Bj (e :: es) X.env=(false,eval e X.env) :: Bj es X.env:=by rfl):PA X (e :: es) (NS te t):=by
 intro pos pins s σ H Q I h
 rw[hs]
 show Ax _ _ (spliced ((false,eval e X.env) :: Ia pos (Bj es X.env))) _ _ s
 refine Calls.spliced_cons (aZ (ha pins s σ H _ I h) fun u i ⟨x,d,k,l,c⟩=>?_)
 exact aZ (j pos pins i σ d _ k c) fun us m ⟨xs,a,b,g,f⟩=>⟨x :: xs,a,b,.cons l g,f⟩
def NV(t:TA):TE:=fun σ H Q=>t σ H fun xs a=>xs.length<=Aj/\∀ p,a p=none->Q (.ref p) (aN a p (.tup xs))
def NW(t:TA):TE:=fun σ H Q=>t σ H fun xs a=>xs.length<=Aj/\∀ p,a p=none->Q (.ref p) (aN a p (.lst xs))
theorem NX{x1}(h:PA X es t):PE X (.Tuple es x1 pos) (NV t):=by
 intro pins s σ H Q I f
 refine wpAny_Tuple_spliced (aZ (h pos pins s σ H _ I f) fun us a ⟨xs,d,c,r,z,q⟩=>⟨by rw[<-r.length];exact z,?_⟩)
 have hf:d a.heap.objs.size=none:=c.hok.fresh (Ai _)
 refine⟨.ref a.heap.objs.size,aN d a.heap.objs.size (.tup xs),c.laid (t':=a.toks) (fun b u e=>Af _ e) (Ai _) ?_,rfl,q _ hf⟩
 exact⟨z,us,r,⟨_,Ap _ rfl,rfl,_,rfl⟩⟩
theorem AR(h:PA X es t):PE X (.List es pos) (NW t):=by
 intro pins s σ H Q I f
 refine wpAny_List_spliced (aZ (h pos pins s σ H _ I f) fun us a ⟨xs,d,c,r,z,q⟩=>⟨by rw[<-r.length];exact z,?_⟩)
 have hf:d a.heap.objs.size=none:=c.hok.fresh (Ai _)
 refine⟨.ref a.heap.objs.size,aN d a.heap.objs.size (.lst xs),c.laid (t':=a.toks) (fun b u e=>Af _ e) (Ai _) ?_,rfl,q _ hf⟩
 exact⟨z,us,0,r,Ap _ rfl⟩
end
abbrev Sp:=List V->Hp->VK->XK->Prop
abbrev iW:=List Env->Hp->Ah->XK->Ac->Ah->Prop
structure l8(P:Bl)(w:Cd)(K:Ae)(mg:Str->Option Ac)(base:Heap)(A:Bu)(outer:List Env)(s:Ah)(H:Hp):Prop where
 frames:A.frames=some outer
 mod:Mod K mg base
 bs:∀ b o,base.get? b=some o->s.heap.get? b=some o/\H b=none
 bsz:base.objs.size<=s.heap.objs.size
 funs:s.heap.FunFrames base outer
 frf:∀ b∈gS outer,H b=none
 hok:cJ P w H s.heap
 bare:Nt s.gens
def CE(outer:List Env)(P:Bl)(w:Cd)(H:Hp)(s:Ah)(Q:VK)(u:Ac)(s':Ah):Prop:=
 ∃ v H',s'.os=s.os/\Nt s'.gens/\Un (gS outer) [] H H' s.heap s'.heap/\cJ P w H' s'.heap/\RelV v u/\Q v H'
def CR(CX:iW)(outer:List Env)(P:Bl)(w:Cd)(H:Hp)(s:Ah)(Q:VK)(E:XK)(r:Result)(s':Ah):Prop:=
 match r with
 | .ok (.ret u)=>CE outer P w H s Q u s'
 | .ok _=>False
 | .error e=>CX outer H s E e s'
structure eW(P:Bl)(w:Cd)(K:Ae)(mg:Str->Option Ac)(base:Heap)(CX:iW)(k:Nat)(f:Addr)(fd:Br)(ps:List Str)(sp:Sp):Prop where
 len:∀ vs H Q E,sp vs H Q E->vs.length=ps.length
 run:∀ (A:Bu) (outer:List Env) (s:Ah) (H:Hp) (args:Args) (us:List Ac) (vs:List V) (Q:VK) (E:XK),cF k A->l8 P w K mg base A outer s H->BindsTo s fd args (ps.zip us)->aQ vs us->sp vs H Q E->
  Jv (Bk P w) A (.call (.ref f) args) (CR CX outer P w H s Q E) s
theorem l8.make{P:Bl}{w:Cd}{K:Ae}{mg:Str->Option Ac}{base:Heap}{A:Bu}{outer:List Env}{s:Ah}{H:Hp}(e:l8 P w K mg base A outer s H)(C:Addr)(us:List Ac)(a:List (Str×Ac)) :
  l8 P w K mg base (A.under (.builtin "type.__call__" ⟨.ref C :: us,a⟩)) outer s H:=⟨by first | exact e.frames | (simpa [Around.under,Code.envs,Code.isFrame,pushEnvs] using e.frames),e.mod,e.bs,e.bsz,e.funs,e.frf,e.hok,e.bare⟩
section
variable {X:Cx}{pins:List (Addr×Obj)}{σ:St}{H:Hp}{s s':Ah}
theorem Inv.env0(I:Inv X pins σ H s):l8 X.prog X.w X.K X.mg X.base X.A X.stack s H:=
 ⟨I.ok.frames,I.ok.mod,I.bs,Bh I.ok.bsz I.sz,I.stack,I.stkFree,I.hok,I.bare⟩
theorem Inv.after{Q:VK}{u:Ac}(I:Inv X pins σ H s)(h:CE X.stack X.prog X.w H s Q u s'):EP X pins σ Q u s':=by
 obtain⟨v,H',os,bare,un,hok,r,q⟩:=h
 obtain⟨c,g,d,t,a⟩:=s'
 obtain rfl:a=s.os:=os
 exact⟨v,H',I.call (h':=c) (g':=g) (d':=d) (t':=t) (ch:=[]) un hok bare (fun b z=>absurd z (by simp)),r,q⟩
end
def AU(sp:Sp)(dvs:List V)(E:XK)(t:TA):TE:=fun σ H Q=>t σ H fun vs a=>sp (vs ++ dvs) a Q E
def uZ(C:Addr)(m:Str)(sp:Sp)(dvs:List V)(E:XK)(ta:TE)(t:TA):TE:=fun σ H Q=>ta σ H fun x b=>∃ a dx fs,x=.ref a/\b a=some (.ins C dx fs)/\fs.lookup m=none/\
 t σ b fun vs c=>sp (x :: (vs ++ dvs)) c Q E
def AW(C:Addr)(sp:Sp)(dvs:List V)(E:XK)(t:TA):TE:=fun σ H Q=>t σ H fun vs a=>∀ x dx,a x=none->a dx=none->dx≠x->
 sp (.ref x :: (vs ++ dvs)) (aN (aN a dx (.own x)) x (.ins C dx [])) (fun v b=>v=.non/\Q (.ref x) b) E
def Binds(K:Ae)(fd:Br)(ps:List Str)(ds:List Ac):Prop:=
 ∀ (s:Ah) (us:List Ac),K.In s.heap->(us ++ ds).length=ps.length->BindsTo s fd ⟨us,[]⟩ (ps.zip (us ++ ds))
theorem Binds.all{K:Ae}{fd:Br}{ps:List Str}(h:∀ us:List Ac,us.length=ps.length->bindArgs fd ⟨us,[]⟩=pure (ps.zip us)):Binds K fd ps []:=fun s us _ hl=>by
 rw[Gf] at hl ⊢
 exact .of_eq (h us hl)
def k9(CX:iW)(X:Cx)(E:XK):Prop:=∀ (pins:List (Addr×Obj)) (σ:St) (H:Hp) (s:Ah) (e:Ac) (s':Ah),Inv X pins σ H s->CX X.stack H s E e s'->X.xe e s'
section
variable {X:Cx}{CX:iW}{k:Nat}{f C:Addr}{fd:Br}{ps:List Str}{sp:Sp}{dvs:List V}{ds:List Ac}{E:XK}{x m:Str}{p pos apos:Pos}{e o:Expr}{es:List Expr}{ta:TE}{t:TA}
theorem u0{pins:List (Addr×Obj)}{σ:St}{H:Hp}{s:Ah}{Q:VK}{us:List Ac}{vs:List V}(F:eW X.prog X.w X.K X.mg X.base CX k f fd ps sp)(hr:cF k X.A)(hb:Binds X.K fd ps ds)(hd:aQ dvs ds)(hx:k9 CX X E)
  (I:Inv X pins σ H s) (r:aQ vs us) (h:sp (vs ++ dvs) H Q E):Ax (Bk X.prog X.w) X.A (call (.ref f) us) (EP X pins σ Q) X.xe s:=by
 have r2:aQ (vs ++ dvs) (us ++ ds):=r.append hd
 have hl:(us ++ ds).length=ps.length:=by rw[<-r2.length];exact F.len _ _ _ _ h
 refine wpAny_call (Ks (F.run X.A X.stack s H ⟨us,[]⟩ (us ++ ds) (vs ++ dvs) Q E hr I.env0 (hb s us I.kIn hl) r2 h) fun r s' hq=>?_)
 cases r with
 | error e=>exact hx pins σ H s e s' I hq
 | ok fl=>
  cases fl with
  | ret u=>exact I.after hq
  | next=>exact Gu hq
  | brk=>exact Gu hq
  | cont=>exact Gu hq
theorem NY(F:eW X.prog X.w X.K X.mg X.base CX k f fd ps sp)(i:cF k X.A)(l:Gl X x)(j:X.mg x=some (.ref f))(hk:Fw X.K (.ref f)=true)(hb:Binds X.K fd ps ds)(hd:aQ dvs ds)(d:k9 CX X E)
  (ha:PA X (e :: es) t) (b:(x == ("__debug__" : Str))=false:=by decide) (g:Bj (e :: es) X.env=(false,eval e X.env) :: Bj es X.env:=by rfl) (a:(Ia pos (Bj es X.env)).any (·.1)=false:=by rfl) :
  PE X (.Call (.Name x p) (e :: es) [] pos) (AU sp dvs E t):=by
 intro pins s σ H Q I h
 refine Fh (qN I l j ?_ b)
 refine PySem.W.callWith_K (h₀:=X.base) I.ok.mod.kin hk (aZ (ha pos pins s σ H _ I h) fun us n ⟨vs,m,c,r,q⟩=>⟨c.kIn,?_⟩) g a
 exact u0 F i hb hd d c r q
theorem NZ{pl:Sem Bool}(v:PE X o ta)(c:fX X.K C)(i:nE X.K C m f)(F:eW X.prog X.w X.K X.mg X.base CX k f fd ps sp)(G:cF k X.A)(hb:Binds X.K fd ps ds)(hd:aQ dvs ds)(y:k9 CX X E)(ha:PA X (e :: es) t)
  (b:Bj (e :: es) X.env=(false,eval e X.env) :: Bj es X.env:=by rfl) (d:(Ia pos (Bj es X.env)).any (·.1)=false:=by rfl)
  (ht:eval (.Call (.Attribute o m apos) (e :: es) [] pos) X.env=(do
   let n <-eval o X.env
   Og apos.atName
   let (f,first) <-Iq [n] (Oi n m pl)
   callWith pos f first (Ia pos (Bj (e :: es) X.env)) (backToKw pos (Ms [] X.env))):=by rfl) :
  PE X (.Call (.Attribute o m apos) (e :: es) [] pos) (uZ C m sp dvs E ta t):=by
 intro pins s σ H Q I h
 refine PySem.W.methodCall_KW (pl:=pl) (aZ (v pins s σ H _ I h) fun u D ⟨x,z,j,p,a,dx,fs,ex,ea,l,q⟩=>?_) ht
 subst ex
 obtain rfl:u=Value.ref a:=p
 refine AQ j ea c i l ?_
 refine PySem.W.callWith_K (first:=[.ref a]) (h₀:=X.base) I.ok.mod.kin i.kp (aZ (ha pos pins D σ z _ j q) fun us L ⟨vs,J,g,r,B⟩=>⟨g.kIn,?_⟩) b d
 exact u0 (us:=.ref a :: us) (vs:=.ref a :: vs) F G hb hd y g (.cons rfl r) B
theorem N0{pl:Sem Bool}(i:PE X o ta)(c:fX X.K C)(d:nE X.K C m f)(F:eW X.prog X.w X.K X.mg X.base CX k f fd ps sp)(n:cF k X.A)(hb:Binds X.K fd ps ds)(hd:aQ dvs ds)(j:k9 CX X E)
  (ht:eval (.Call (.Attribute o m apos) [] [] pos) X.env=(do
   let e <-eval o X.env
   Og apos.atName
   let (f,first) <-Iq [e] (Oi e m pl)
   callWith pos f first (Ia pos (Bj [] X.env)) (backToKw pos (Ms [] X.env))):=by rfl) :
  PE X (.Call (.Attribute o m apos) [] [] pos) (uZ C m sp dvs E ta uY):=by
 intro pins s σ H Q I h
 refine PySem.W.methodCall_KW (pl:=pl) (aZ (i pins s σ H _ I h) fun u r ⟨x,p,b,g,a,dx,fs,ex,ea,l,q⟩=>?_) ht
 subst ex
 obtain rfl:u=Value.ref a:=g
 refine AQ b ea c d l ?_
 exact PySem.W.callWith_K0 (first:=[.ref a]) b.kIn d.kp (u0 (us:=[.ref a]) (vs:=[.ref a]) F n hb hd j b (.cons rfl .nil) q)
structure Mk(K:Ae)(C f:Addr):Prop where
 makes:PySem.W.makesIn K C=true
 init:Ci K (.ref C) "__init__" = some (some (.ref f))
 fn:Mc K (.ref f)=true
 kp:Fw K (.ref C)=true
theorem AX{pins:List (Addr×Obj)}{σ:St}{H:Hp}{s:Ah}{Q:VK}{us:List Ac}{vs:List V}(M:Mk X.K C f)(F:eW X.prog X.w X.K X.mg X.base CX k f fd ps sp)(hr:cF (k + 1) X.A)(hb:Binds X.K fd ps ds)(hd:aQ dvs ds)
  (hx:k9 CX X E) (I:Inv X pins σ H s) (r:aQ vs us)
  (h:∀ x dx,H x=none->H dx=none->dx≠x->sp (.ref x :: (vs ++ dvs)) (aN (aN H dx (.own x)) x (.ins C dx [])) (fun v H2=>v=.non/\Q (.ref x) H2) E) :
  Ax (Bk X.prog X.w) X.A (call (.ref C) us) (EP X pins σ Q) X.xe s:=by
 have hq:=h (s.heap.objs.size + 1) s.heap.objs.size (I.hok.fresh (Lb _)) (I.hok.fresh (Ai _)) (Be (Hx _))
 have I2:=Inv.made (C:=C) I
 have r2:aQ (V.ref (s.heap.objs.size + 1) :: (vs ++ dvs)) (Value.ref (s.heap.objs.size + 1) :: (us ++ ds)):=.cons rfl (r.append hd)
 have hl:(Value.ref (s.heap.objs.size + 1) :: us ++ ds).length=ps.length:=by
  have e:=r2.length
  rw[F.len _ _ _ _ hq] at e
  exact e.symm
 refine wpAny_call (NF (f:=f) I.kIn M.makes M.init (beq_iff_eq.mp M.fn) (Ks (F.run _ X.stack _ _ ⟨Value.ref (s.heap.objs.size + 1) :: us,[]⟩ (Value.ref (s.heap.objs.size + 1) :: (us ++ ds)) _ _ E (hr.make C us [])
  (I2.env0.make C us []) (hb _ (Value.ref (s.heap.objs.size + 1) :: us) I2.kIn hl) r2 hq) fun r s' hq'=>?_))
 cases r with
 | error e=>exact hx pins σ _ _ e s' I2 hq'
 | ok fl=>
  cases fl with
  | ret u=>
   obtain⟨v,H',I3,rv,ev,q3⟩:=I2.after hq'
   subst ev
   exact⟨rv,⟨V.ref (s.heap.objs.size + 1),H',I3,rfl,q3⟩⟩
  | next=>exact Gu hq'
  | brk=>exact Gu hq'
  | cont=>exact Gu hq'
theorem N2(M:Mk X.K C f)(F:eW X.prog X.w X.K X.mg X.base CX k f fd ps sp)(i:cF (k + 1) X.A)(l:Gl X x)(j:X.mg x=some (.ref C))(hb:Binds X.K fd ps ds)(hd:aQ dvs ds)(d:k9 CX X E)
  (ha:PA X (e :: es) t) (b:(x == ("__debug__" : Str))=false:=by decide) (g:Bj (e :: es) X.env=(false,eval e X.env) :: Bj es X.env:=by rfl) (a:(Ia pos (Bj es X.env)).any (·.1)=false:=by rfl) :
  PE X (.Call (.Name x p) (e :: es) [] pos) (AW C sp dvs E t):=by
 intro pins s σ H Q I h
 refine Fh (qN I l j ?_ b)
 refine PySem.W.callWith_K (h₀:=X.base) I.ok.mod.kin M.kp (aZ (ha pos pins s σ H _ I h) fun us n ⟨vs,m,c,r,q⟩=>⟨c.kIn,?_⟩) g a
 exact AX M F i hb hd d c r q
theorem N3(M:Mk X.K C f)(F:eW X.prog X.w X.K X.mg X.base CX k f fd ps sp)(c:cF (k + 1) X.A)(e:Gl X x)(d:X.mg x=some (.ref C))(hb:Binds X.K fd ps ds)(hd:aQ dvs ds)(b:k9 CX X E)
  (a:(x == ("__debug__" : Str))=false:=by decide):PE X (.Call (.Name x p) [] [] pos) (AW C sp dvs E uY):=by
 intro pins s σ H Q I h
 refine Fh (qN I e d ?_ a)
 exact PySem.W.callWith_K0 I.kIn M.kp (AX (us:=[]) M F c hb hd b I .nil h)
end
section
variable {X:Cx}{CX:iW}{k:Nat}{f C:Addr}{fd:Br}{ps ks:List Str}{sp:Sp}{E:XK}{x m:Str}{p pos apos kpos:Pos}{e o:Expr}{es:List Expr}{kws:List Keyword}{te ta:TE}{t tk:TA}{nm:Option Str}
variable {g:List Ac->List Ac->List Ac}{gV:List V->List V->List V}
end
structure nF(N P:List Str)(sc:Kf):Prop where
 kind:sc.kind=.function
 co:sc.isCoroutine=false
 gen:sc.isGenerator=false
 nd:N.Nodup
 pre:N.take P.length=P
 par:∀ x∈P,sc.names.lookup x=some .local\/sc.names.lookup x=some .cell
 nofree:∀ y∈sc.names,y.2≠.free
theorem AY{a:Str->Option Jo}{x:Str}:∀ {binds:List (Str×Ac)} {m:Str->Option Ac},(∀ v,(x,v)∉binds)->bindL a binds m x=m x
 | [],_,_=>rfl
 | (n,v) :: r,m,h=>by
  unfold bindL
  rw[AY fun w hw=>h w (Bd _ hw)]
  split
  ·have:x≠n:=by rintro rfl;exact h v Bg
   simp[this]
  ·rfl
theorem AZ{a:Str->Option Jo}{x:Str}:∀ {binds:List (Str×Ac)} {m:Str->Option Ac},(∀ v,(x,v)∉binds)->bindC a binds m x=m x
 | [],_,_=>rfl
 | (n,v) :: r,m,h=>by
  unfold bindC
  rw[AZ fun w hw=>h w (Bd _ hw)]
  split
  ·rfl
  ·have:x≠n:=by rintro rfl;exact h v Bg
   simp[this]
theorem A0{a:Str->Option Jo}{x:Str}{v:Ac}:∀ {P:List Str} {vs:List Ac} {i:Nat} {m:Str->Option Ac},P.Nodup->P[i]? = some x->vs[i]? = some v->a x=some .local->
  bindL a (P.zip vs) m x=some v
 | [],_,_,_,_,h,_,_=>by simp at h
 | _ :: _,[],_,_,_,_,h,_=>by simp at h
 | p :: P,w :: vs,0,m,nd,c,b,hk=>by
  simp at c b;subst c;subst b
  show bindL a ((p,w) :: P.zip vs) m p=_
  unfold bindL
  rw[AY fun v d=>(Dq.mp nd).1 (List.of_mem_zip d).1,if_pos hk]
  simp
 | p :: P,w :: vs,i + 1,m,nd,c,b,hk=>by
  show bindL a ((p,w) :: P.zip vs) m x=_
  unfold bindL
  exact A0 (i:=i) (Dq.mp nd).2 (by simpa using c) (by simpa using b) hk
theorem A1{a:Str->Option Jo}{x:Str}{v:Ac}:∀ {P:List Str} {vs:List Ac} {i:Nat} {m:Str->Option Ac},P.Nodup->P[i]? = some x->vs[i]? = some v->a x≠some .local->
  bindC a (P.zip vs) m x=some v
 | [],_,_,_,_,h,_,_=>by simp at h
 | _ :: _,[],_,_,_,_,h,_=>by simp at h
 | p :: P,w :: vs,0,m,nd,c,b,hk=>by
  simp at c b;subst c;subst b
  show bindC a ((p,w) :: P.zip vs) m p=_
  unfold bindC
  rw[AZ fun v d=>(Dq.mp nd).1 (List.of_mem_zip d).1,if_neg hk]
  simp
 | p :: P,w :: vs,i + 1,m,nd,c,b,hk=>by
  show bindC a ((p,w) :: P.zip vs) m x=_
  unfold bindC
  exact A1 (i:=i) (Dq.mp nd).2 (by simpa using c) (by simpa using b) hk
def start(N:List Str)(vs:List V):St:=vs.map some ++ Bz (N.length - vs.length) none
def lA(CX:iW)(P:Bl)(w:Cd)(K:Ae)(mg:Str->Option Ac)(base:Heap)(N:List Str)(b:Str)(a:Kf)(f:Addr)(d:Ac)(A:Bu)(outer:List Env)(s:Ah)(H:Hp)(E:XK):Cx where
 prog:=P
 w:=w
 K:=K
 mg:=mg
 base:=base
 A:=A.deeper (Mw b a s.heap.objs.size f d)
 N:=N
 s₀:=s
 H₀:=H
 env:=Mw b a s.heap.objs.size f d
 outer:=outer
 stack:=Mw b a s.heap.objs.size f d :: outer
 ex:=[]
 calm:=true
 fn:=fun _=>true
 pn:=[]
 xe:=fun e s'=>Ax (Bk P w) (A.deeper (Mw b a s.heap.objs.size f d)) (leaving (Mw b a s.heap.objs.size f d) e) (fun _ c=>CX outer H s E e c) (fun g c=>CX outer H s E g c) s'
theorem A2{sc:Kf}{n:Nat}{x:Str}(h:sc.names.lookup x=some .cell):∃ c,(cellsFrom n sc.names []).lookup x=some c:=by
 have q:=PySem.W.cellsFrom_some sc.names n [] (.inl h)
 exact Option.isSome_iff_exists.mp q
theorem N4{CX:iW}{P:Bl}{w:Cd}{K:Ae}{mg:Str->Option Ac}{base:Heap}{N ps:List Str}{g:Str}{d:Kf}{f:Addr}{D:Ac}{A:Bu}{outer:List Env}{s G:Ah}{H:Hp}{E:XK}{us:List Ac}{vs:List V}
  (S:nF N ps d) (hd:A.handled=none) (l:l8 P w K mg base A outer s H) (hl:vs.length=ps.length) (r:aQ vs us)
  (x:InCallC s s.heap.objs.size (bindL (Mw g d s.heap.objs.size f D).kindOf (ps.zip us) fun _=>none) (cellsFrom (s.heap.objs.size + 1) d.names []) (bindC (Mw g d s.heap.objs.size f D).kindOf (ps.zip us) fun _=>none) G) :
  Inv (lA CX P w K mg base N g d f D A outer s H E) [] (start N vs) H G:=by
 have J:ps.length<=N.length:=by have:=congrArg Dl S.pre;rw[Cg] at this;lia
 obtain⟨C,tk,rfl,hk⟩:=x.done
 have o:∀ b:Addr,b∉(lA CX P w K mg base N g d f D A outer s H E).ex:=fun b z=>absurd (show b∈([]:List Addr) from z) (by simp)
 refine⟨⟨l.mod,S.kind,rfl,rfl,Ai _,fun y z c C j=>?_,fun y m=>?_,fun y c _ h=>?_,fun _=>hd,Around.frames_deeper l.frames,.inr ⟨rfl,rfl⟩,fun b z=>absurd z (o b),l.bs,l.bsz,fun b _ _=>o b,fun b z=>absurd z (o b),l.funs,l.frf⟩,
  rfl,l.bare,Un.kept hk,⟨_,x.toInCall.ns,fun i y v C j L=>?_⟩,fun y c h=>⟨_,x.cell y c h⟩,l.hok.fresh (Ai _),fun y c h=>?_,fun p t=>absurd (show p∈([]:List (Addr×Obj)) from t) (by simp),l.hok.kept hk,?_⟩
 ·exact name_of_addr x.apart (Hk C) (Hk j)
 ·have m:d.names.lookup y=some .cell\/d.names.lookup y=some .free:=m
  rcases m with m | m
  ·exact A2 m
  ·exact absurd rfl (S.nofree _ (Hk m))
 ·exact Ic (x.above y c (Hk h))
 ·have hi:i < vs.length:=by
   unfold start at j
   by_cases hi:i < vs.length
   ·exact hi
   ·rw[List.getElem?_append_right (by simpa using hi)] at j
    rw[List.getElem?_replicate] at j
    split at j <;> cases j
  have ha:vs[i]? = some v:=by
   unfold start at j
   rw[List.getElem?_append_left (by simpa using hi),Bi] at j
   cases e:vs[i]? with
   | none=>rw[e] at j;cases j
   | some a=>rw[e] at j;cases j;rfl
  obtain⟨u,F,I⟩:=r.get ha
  have t:ps[i]? = some y:=by
   rw[<-S.pre,List.getElem?_take_of_lt (by lia)];exact C
  have B:ps.Nodup:=by rw[<-S.pre];exact S.nd.sublist (List.take_sublist _ _)
  refine⟨u,I,?_⟩
  rcases S.par y (Bc t) with k | k
  ·exact .inl ⟨k,A0 B t F k⟩
  ·obtain⟨c,e⟩:=A2 (n:=s.heap.objs.size + 1) k
   refine .inr ⟨.inl k,c,e,?_⟩
   have q:=x.cell y c e
   rw[A1 B t F (by show d.names.lookup y≠_;rw[k];decide)] at q
   exact q
 ·exact l.hok.fresh (Ic (x.above y c (Hk h)))
 ·unfold start
  show _=N.length
  rw[Aw,Ab,List.length_replicate]
  lia
theorem N5{CX:iW}{P:Bl}{w:Cd}{K:Ae}{mg:Str->Option Ac}{base:Heap}{k:Nat}{f:Addr}{name qual:Str}{params:Arguments}{body:List Stmt}{scope:Kf}{dV kV doc pm cdv ct oc:Ac}{an od:Option Addr}
  {osl:Array (Option Ac)} {N ps:List Str} {sp:Sp} (lk:K.lookup f=some ⟨oc,od,.func (Fb name qual params body scope dV kV doc pm an cdv ct),osl⟩) (hcd:Jy K cdv qual=true) (S:nF N ps scope)
  (len:∀ vs H Q E,sp vs H Q E->vs.length=ps.length)
  (hbody:∀ (A:Bu) (outer:List Env) (s:Ah) (H:Hp) (vs:List V) (Q:VK) (E:XK),cF k (A.deeper (Mw qual scope s.heap.objs.size f cdv))->sp vs H Q E->
   ∃ t,fI (lA CX P w K mg base N qual scope f cdv A outer s H E) body t/\t {nx:=fun _ H'=>Q .non H',rt:=Q} (start N vs) H) :
  eW P w K mg base CX (k + 1) f (Fb name qual params body scope dV kV doc pm an cdv ct) ps sp:=by
 refine⟨len,fun A outer s H args us vs Q E hr e0 hb r hsp=>?_⟩
 have hl:=len _ _ _ _ hsp
 have KX:K.In s.heap:=e0.mod.kin.keeps fun b o e=>(e0.bs b o e).1
 have lim:s.heap.NoLimit:=e0.mod.nolimit.keeps fun b o e=>(e0.bs b o e).1
 have hkind:∀ y∈ps.zip us,scope.names.lookup y.1=some .local\/(scope.names.lookup y.1=some .cell/\((cellsFrom (s.heap.objs.size + 1) scope.names []).lookup y.1).isSome=true):=fun⟨n,v⟩ hy=>by
  rcases S.par n (List.of_mem_zip hy).1 with q | q
  ·exact .inl q
  ·exact .inr ⟨q,PySem.W.cellsFrom_some _ _ _ (.inl q)⟩
 refine codeAny_call_function hr.depth (KX _ _ lk) rfl S.co S.gen rfl (PySem.W.codeRec_of KX hcd) (hb _ _ _ _ ?_)
 refine wpAny_newFunctionEnv_cells S.kind hkind fun env he s1 x=>?_
 subst he
 refine⟨lim.keeps x.toInCall.keep,codeAny_func ?_⟩
 obtain⟨t,ht,hq⟩:=hbody A outer s H vs Q E (hr.deeper _) hsp
 have I:Inv (lA CX P w K mg base N qual scope f cdv A outer s H E) [] (start N vs) H s1:=N4 S hr.hd e0 hl r x
 refine Hv (ht [] s1 (start N vs) H _ I hq) (fun fl s' hs=>?_) fun e s' hs=>hs
 have fin:∀ {σ':St} {H':Hp} {v:V} {u:Ac},Inv (lA CX P w K mg base N qual scope f cdv A outer s H E) [] σ' H' s'->RelV v u->Q v H'->CE outer P w H s Q u s':=
  fun {σ' H' v u} J rv q=>⟨v,H',J.os,J.bare,J.base,J.hok,rv,q⟩
 cases fl with
 | ret u=>
  obtain⟨v,σ',H',J,rv,q⟩:=hs
  exact fin J rv q
 | next=>
  obtain⟨σ',H',J,q⟩:=hs
  exact fin (v:=V.non) (u:=Value.none) J rfl q
 | brk=>
  obtain⟨_,_,_,q⟩:=hs
  exact Gu q
 | cont=>
  obtain⟨_,_,_,q⟩:=hs
  exact Gu q
section
variable {X:Cx}{x:Str}{p pos:Pos}{e:Expr}{es:List Expr}{t:TA}{id T:String}{r:List V->Hp->VK->Prop}
def u3(r:List V->Hp->VK->Prop)(t:TA):TE:=fun a H Q=>t a H fun vs b=>r vs b Q
theorem N6(hc:cU X (.builtin id) r)(k:Gl X x)(j:X.mg x=none)(l:Cv x=some (.builtin id))(ha:PA X (e :: es) t)(n:x≠"__name__":=by decide)(b:(x == ("__debug__" : Str))=false:=by decide)
  (q:Bj (e :: es) X.env=(false,eval e X.env) :: Bj es X.env:=by rfl) (c:(Ia pos (Bj es X.env)).any (·.1)=false:=by rfl):PE X (.Call (.Name x p) (e :: es) [] pos) (u3 r t):=by
 intro a s d H Q I h
 refine Fh (iU I k j l ?_ n b)
 exact PyProof.Rows.callWith_builtin1 (aZ (ha pos a s d H _ I h) fun us f ⟨vs,o,m,i,g⟩=>hc a f d o vs us Q m i g) q c
theorem N7(hc:cU X (.type T) r)(k:Gl X x)(j:X.mg x=none)(l:Cv x=some (.type T))(ha:PA X (e :: es) t)(n:x≠"__name__":=by decide)(b:(x == ("__debug__" : Str))=false:=by decide)
  (q:Bj (e :: es) X.env=(false,eval e X.env) :: Bj es X.env:=by rfl) (c:(Ia pos (Bj es X.env)).any (·.1)=false:=by rfl):PE X (.Call (.Name x p) (e :: es) [] pos) (u3 r t):=by
 intro a s d H Q I h
 refine Fh (iU I k j l ?_ n b)
 exact Du (aZ (ha pos a s d H _ I h) fun us f ⟨vs,o,m,i,g⟩=>hc a f d o vs us Q m i g) q c
end
end L2
namespace HT
open PySem PyProof.Rows
section
open PySem.SeqAt
open PySem.AutoSeq1 (wpAny_loadPart')
open PySem.MeetsSeq PySem.MeetsSeq2 PySem.MeetsSeq3
end
section
variable {prog:Bl}{w:Cd}{A:Bu}{E:Ac->Ah->Prop}{s:Ah}
theorem cat_tup{t b:Addr}{vs ws:List Ac}{Q:Ac->Ah->Prop}(ht:IsTup s.heap t vs.toArray)(hb:IsTup s.heap b ws.toArray)(j:vs≠[])
  (o:ws=[]->Q (.ref t) s) (p:ws≠[]->Q (.ref s.heap.objs.size) {s with heap:=s.heap.push {cls:=.type "tuple",data:=.seq (vs ++ ws).toArray}})
  (hsz:vs.length + ws.length<=Aj):Ax (Bk prog w) A (Fs .Add (.ref t) (.ref b)) Q E s:=by
 obtain⟨⟨cls,l,data,sl⟩,h,hc,n,hd⟩:=id ht
 obtain⟨⟨k,f,i,g⟩,a,c,m,d⟩:=id hb
 simp only at hc hd c d
 subst hc hd c d
 have e:vs.toArray ++ ws.toArray=(vs ++ ws).toArray:=by simp
 by_cases hw:ws=[]
 ·exact concat_meets ⟨_,h,rfl⟩ ⟨_,a,rfl⟩ noFill_tuple_add seq_tuple_add PySem.F.slot_tuple_add PySem.F.entry_tuple_add (PySem.F.args_tuple_add_2 _ _)
   (tuple_addW1 t b vs.toArray ws.toArray n m l f sl g (by simpa using j) (by simp[hw])) ⟨h,a,o hw⟩
 ·refine concat_meets ⟨_,h,rfl⟩ ⟨_,a,rfl⟩ noFill_tuple_add seq_tuple_add PySem.F.slot_tuple_add PySem.F.entry_tuple_add (PySem.F.args_tuple_add_2 _ _)
   (tuple_addW2 t b vs.toArray ws.toArray n m l f sl g (by simpa using j) (by simpa using hw) (by rw[Bb,Bb];exact hsz)) ⟨h,a,?_⟩
  rw[e]
  exact p hw
def sIx(n d:Nat):Option Int->Nat
 | none=>d
 | some v=>if v < 0 then(v + (n:Int)).toNat else min v.toNat n
theorem sIx_none(n d:Nat):sIx n d none=d:=rfl
theorem sIx_nat(n d k:Nat):sIx n d (some (k:Int))=min k n:=by
 show(if (k:Int) < 0 then((k:Int) + (n:Int)).toNat else min (k:Int).toNat n)=min k n
 rw[if_neg (by lia),Cj]
theorem N8(n d:Nat)(hd:d<=n)(o:Option Int):sIx n d o<=n:=by
 cases o with
 | none=>exact hd
 | some v=>
  show(if v < 0 then(v + (n:Int)).toNat else min v.toNat n)<=n
  by_cases a:v < 0
  ·rw[if_pos a];lia
  ·rw[if_neg a];exact Nat.min_le_right _ _
theorem A5(v:Int)(n d:Nat):(if v < 0 then max (v + (n:Int)) 0 else min v (n:Int))=((sIx n d (some v):Nat):Int):=by
 show(if v < 0 then max (v + (n:Int)) 0 else min v (n:Int))=(((if v < 0 then(v + (n:Int)).toNat else min v.toNat n):Nat):Int)
 by_cases a:v < 0
 ·simp only[if_pos a];lia
 ·simp only[if_neg a];lia
theorem N9(lo hi:Option Int)(n:Nat):Kt lo hi 1 (n:Int)=(((sIx n 0 lo:Nat):Int),((sIx n n hi:Nat):Int)):=by
 have a:¬ ((1:Int) < 0):=by lia
 unfold Kt
 simp only[a,if_false]
 refine Prod.ext ?_ ?_
 ·cases lo with
  | none=>rfl
  | some v=>exact A5 v n 0
 ·cases hi with
  | none=>rfl
  | some v=>exact A5 v n n
theorem OA(i j:Nat):Ih (i:Int) (j:Int) 1=j - i:=by
 unfold Ih
 have a:(1:Int) > 0:=by lia
 simp only[a,if_true,Int.ediv_one]
 split <;> lia
theorem A6{v:Ac}{o:Option Int}{Q:Option Int->Ah->Prop}(p:IsPart v o)(h:Q o s):Ax (Bk prog w) A (Builtin.Slice.slicePartIndex v) Q E s:=by
 cases p with
 | none=>exact slicePart_none h
 | int i t=>exact slicePart_int h
theorem OB{sl:Addr}{d c:Ac}{lo hi:Option Int}{n:Nat}{Q:Int×Int×Nat->Ah->Prop}(hs:s.heap.IsSliceOf sl d c .none)(pl:IsPart d lo)(f:IsPart c hi)
  (h:Q (((sIx n 0 lo:Nat):Int),1,sIx n n hi - sIx n 0 lo) s):Ax (Bk prog w) A (Builtin.Slice.sliceApplied (.ref sl) (pure (n:Int))) Q E s:=by
 obtain⟨os,a,e,b⟩:=id hs
 unfold Builtin.Slice.sliceApplied Builtin.Slice.sliceFields
 refine Aa (Aa (Fl a b (x:=d) rfl (Aa (Fl a b (x:=c) rfl (Aa (Fl a b (x:=.none) rfl (Ag ?_)))))))
 refine Aa (slicePart_none ?_)
 show Ax _ _ (if ((1:Int) == 0)=true then _ else _) _ _ s
 rw[if_neg (by decide)]
 refine Aa (A6 pl (Aa (A6 f (Aa (Ag ?_)))))
 show Ax _ _ (match Kt lo hi 1 (n:Int) with | (lo,hi)=>pure (lo,(1:Int),Ih lo hi 1)) _ _ s
 rw[N9 lo hi n]
 show Ax _ _ (pure (((sIx n 0 lo:Nat):Int),(1:Int),Ih ((sIx n 0 lo:Nat):Int) ((sIx n n hi:Nat):Int) 1)) _ _ s
 rw[OA]
 exact Ag h
theorem OC(xs:Array Ac)(i k:Nat):((Cb k).filterMap fun(m:Nat)=>xs[((i:Int) + (m:Int) * 1).toNat]?).toArray=((xs.toList.drop i).take k).toArray:=by
 have e:(fun(m:Nat)=>xs[((i:Int) + (m:Int) * 1).toNat]?)=fun m=>xs[i + m]?:=by
  funext m
  have:((i:Int) + (m:Int) * 1).toNat=i + m:=by lia
  rw[this]
 rw[e]
 have:=pick_run xs i k
 rw[List.filterMap_map] at this
 have a:((fun x=>xs[x]?) ∘ fun x=>i + x)=fun m=>xs[i + m]?:=rfl
 rw[a] at this
 rw[this]
theorem getItem_tuple_cut{t sl:Addr}{items:Array Ac}{g f:Ac}{lo hi:Option Int}{Q:Ac->Ah->Prop}(ht:IsTup s.heap t items)(hs:s.heap.IsSliceOf sl g f .none)(pl:IsPart g lo)(j:IsPart f hi)
  (hw:¬ (sIx items.size 0 lo=0/\sIx items.size items.size hi=items.size))
  (h:Q (.ref s.heap.objs.size) {s with heap:=s.heap.push {cls:=.type "tuple",data:=.seq ((items.toList.drop (sIx items.size 0 lo)).take (sIx items.size items.size hi - sIx items.size 0 lo)).toArray}})
  (hsz:items.size<=Aj):Ax (Bk prog w) A (getItem (.ref t) (.ref sl)) Q E s:=by
 have a:sizeOk (.seq ((items.toList.drop (sIx items.size 0 lo)).take (sIx items.size items.size hi - sIx items.size 0 lo)).toArray):=by
  show((items.toList.drop (sIx items.size 0 lo)).take (sIx items.size items.size hi - sIx items.size 0 lo)).toArray.size<=Aj
  rw[Bb,Cg,Gs,Bv]
  lia
 have n:sIx items.size items.size hi<=items.size:=N8 _ _ (Ai _) hi
 obtain⟨os,b,c,i⟩:=id hs
 have d:s.TypeIs (.ref sl) "slice":=⟨os,b,c⟩
 unfold getItem
 try with_reducible refine Cs ?_
 first | refine Aa (Ag ?_) | skip
 refine Aa (wpAny_sequenceKey ht.typeIs (by decide) ?_)
 refine Aa (Ee (name:=Cz "__getitem__") ht.typeIs Jq
  (De Jq ht.typeIs entry_tuple_getitem ?_ (args_tuple_getitem _ _)))
 show Ax _ _ (Builtin.Tuple.tupleItemsOf (.ref t) >>= _) _ _ s
 refine Aa (tupleItemsOf_ ht ?_)
 refine Aa (Kq d ?_)
 rw[if_pos (by decide)]
 refine Aa (OB hs pl j ?_)
 have e:¬ ((((sIx items.size 0 lo:Nat):Int) == 0 && (1:Int) == 1 && (sIx items.size items.size hi - sIx items.size 0 lo) == items.size)=true):=by
  intro q
  rw[Cr,Cr] at q
  have k:((sIx items.size 0 lo:Nat):Int)=0:=eq_of_beq q.1.1
  have l:sIx items.size items.size hi - sIx items.size 0 lo=items.size:=eq_of_beq q.2
  exact hw ⟨by lia,by lia⟩
 show Ax _ _ (if (((sIx items.size 0 lo:Nat):Int) == 0 && (1:Int) == 1 && (sIx items.size items.size hi - sIx items.size 0 lo) == items.size)=true then _ else _) _ _ s
 rw[if_neg e,OC]
 first
  | exact Aa (m:=Iw _) (Dd (Ag ⟨_,rfl,Ag h⟩) a)
  | exact Aa (m:=Iw _) (Dd (Aa (Ag (Ag ⟨_,rfl,Ag h⟩))) a)
  | exact Aa (Aa (m:=Iw _) (Dd (Ag (Ag ⟨_,rfl,Ag h⟩)) a))
  | exact Aa (Aa (m:=Iw _) (Dd (Ag ⟨_,rfl,Ag h⟩) a))
end
end HT
namespace L2
open PySem PySem.Spec PyProof.Rows
abbrev TO:=St->Hp->(Option Int->Hp->Prop)->Prop
def PO(X:Cx)(e:Option Expr)(t:TO):Prop:=
 ∀ (a:List (Addr×Obj)) (s:Ah) (b:St) (H:Hp) (Q:Option Int->Hp->Prop),Inv X a b H s->t b H Q->
  Ax (Bk X.prog X.w) X.A (evalPart e X.env) (fun u d=>∃ o c,Inv X a b c d/\IsPart u o/\Q o c) X.xe s
def OD:TO:=fun _ H Q=>Q none H
def OE(t:TE):TO:=fun a H Q=>t a H fun x b=>∃ i,x=.int i/\Q (some i) b
theorem intsAre_of{ns:List Int}:∀ {us:List Ac},aQ (ns.map V.int) us->Iv us ns:=by
 induction ns with
 | nil=>intro us r;rw[Kh] at r;cases r;exact .nil
 | cons n ns a=>
  intro us r
  rw[Ar] at r
  cases r with
  | cons c b=>
   obtain⟨t,e⟩:=c
   subst e
   exact .cons n t (a b)
section
variable {X:Cx}{e:Expr}{te:TE}{lo hi:Option Expr}{tl th:TO}{pos p2:Pos}
theorem OF:PO X none OD:=by
 intro a s b H Q I h
 rw[evalPart_none]
 exact Ag ⟨none,H,I,.none,h⟩
theorem OG(h:PE X e te):PO X (some e) (OE te):=by
 intro a s d H Q I hw
 rw[evalPart_some]
 refine aZ (h a s d H _ I hw) fun u j ⟨x,g,f,c,b⟩=>?_
 obtain⟨i,rfl,q⟩:=b
 obtain⟨t,rfl⟩:=c
 exact⟨some i,g,f,.int i t,q⟩
def qV(X:Cx)(r:V->Option Int->Option Int->Hp->VK->Prop):Prop:=
 ∀ (a:List (Addr×Obj)) (s:Ah) (c:St) (H:Hp) (x:V) (v b d:Ac) (lo hi:Option Int) (sl:Addr) (Q:VK),Inv X a c H s->RelV x v->s.heap.IsSliceOf sl b d .none->IsPart b lo->IsPart d hi->r x lo hi H Q->
  ∃ T id,typeLookup (.type T) "__getitem__" = pure (some (.builtin id))/\s.TypeIs v T/\Ax (Bk X.prog X.w) X.A (getItem v (.ref sl)) (EP X a c Q) X.xe s
def OH(r:V->Option Int->Option Int->Hp->VK->Prop)(te:TE)(tl th:TO):TE:=fun a H Q=>te a H fun x b=>tl a b fun l d=>th a d fun u c=>r x l u c Q
theorem A7{r:V->Option Int->Option Int->Hp->VK->Prop}(C:qV X r)(L:PE X e te)(hl:PO X lo tl)(G:PO X hi th):PE X (.Subscript e (.Slice lo hi none p2) pos) (OH r te tl th):=by
 intro a s d H Q I h
 refine Subscript_ (aZ (L a s d H _ I h) fun v j ⟨x,y,t,m,z⟩=>?_)
 refine wpAny_Slice (aZ (hl a j d y _ t z) fun f n ⟨l,B,F,pl,D⟩=>aZ (G a n d B _ F D) fun g c ⟨u,i,o,k,J⟩=>?_)
 rw[evalPart_none]
 refine Ag ?_
 have E:Inv X a d i {c with heap:=c.heap.push {cls:=.type "slice",data:=.fields #[f,g,.none]}}:=o.kept (t':=c.toks) fun b ob q=>Af _ q
 obtain⟨T,id,K,ht,p⟩:=C a {c with heap:=c.heap.push {cls:=.type "slice",data:=.fields #[f,g,.none]}} d i x v f g l u c.heap.objs.size Q E m (Heap.IsSliceOf.new ..) pl k J
 show Ax (Bk X.prog X.w) X.A (subscriptTail e (.Slice lo hi none p2) v (.ref c.heap.objs.size)) (EP X a d Q) X.xe {c with heap:=c.heap.push {cls:=.type "slice",data:=.fields #[f,g,.none]}}
 exact tail_any (ops:=[.ref c.heap.objs.size,v]) ht K p (by with_unfolding_all rfl)
def lB(xs:List V)(lo hi:Option Int):List V:=(xs.drop (HT.sIx xs.length 0 lo)).take (HT.sIx xs.length xs.length hi - HT.sIx xs.length 0 lo)
theorem A8(xs:List V)(lo hi:Option Int):(lB xs lo hi).length<=xs.length:=by
 unfold lB
 rw[Cg,Gs]
 lia
def OI(K:Ae):V->Option Int->Option Int->Hp->VK->Prop:=fun x lo hi H Q=>∃ a xs,x=.ref a/\bM K H a xs/\
 ¬ (HT.sIx xs.length 0 lo=0/\HT.sIx xs.length xs.length hi=xs.length)/\∀ p,H p=none->Q (.ref p) (aN H p (.tup (lB xs lo hi)))
theorem OJ:qV X (OI X.K):=by
 intro d s j H x v k i lo hi sl Q I f hs pl g h
 obtain⟨a,xs,rfl,e,hw,q⟩:=h
 cases f
 obtain⟨its,r,ht,hz⟩:=I.tuple e
 have c:its.toArray.size=xs.length:=by rw[Bb];exact r.length.symm
 refine⟨"tuple",_,Jq.lookup,ht.typeIs,?_⟩
 refine HT.getItem_tuple_cut ht hs pl g (by rw[c];exact hw) ?_ (by rw[c];exact hz)
 rw[c]
 refine⟨.ref s.heap.objs.size,_,I.laid (t':=s.toks) (o:=.tup (lB xs lo hi)) (fun b ob q=>Af _ q) (Ai _) ?_,rfl,q _ (I.hok.fresh (Ai _))⟩
 exact⟨Bh (A8 xs lo hi) hz,_,(r.drop (HT.sIx xs.length 0 lo)).take (HT.sIx xs.length xs.length hi - HT.sIx xs.length 0 lo),IsTup.new _ _⟩
def OK(K:Ae):R2:=fun x y H Q=>∃ a b xs ys,x=.ref a/\y=.ref b/\bM K H a xs/\bM K H b ys/\xs≠[]/\xs.length + ys.length<=Aj/\
 (ys=[]->Q (.ref a) H)/\(ys≠[]->∀ p,H p=none->Q (.ref p) (aN H p (.tup (xs ++ ys))))
theorem aQ.nil_iff{xs:List V}{us:List Ac}(r:aQ xs us):us=[]↔xs=[]:=by
 cases r with
 | nil=>simp
 | cons _ _=>simp
theorem OL:bB X (Fs .Add) (OK X.K):=by
 intro e s n H x y v u Q I l m h
 obtain⟨a,b,xs,ys,rfl,rfl,ha,hb,i,hz,g,j⟩:=h
 cases l
 cases m
 obtain⟨its,d,k,_⟩:=I.tuple ha
 obtain⟨f,c,p2,_⟩:=I.tuple hb
 refine HT.cat_tup k p2 (fun z=>i (d.nil_iff.mp z)) (fun z=>⟨.ref a,H,I,rfl,g (c.nil_iff.mp z)⟩) (fun z=>?_) (by rw[<-d.length,<-c.length];exact hz)
 refine⟨.ref s.heap.objs.size,_,I.laid (t':=s.toks) (o:=.tup (xs ++ ys)) (fun b ob q=>Af _ q) (Ai _) ?_,rfl,j (fun w=>z (c.nil_iff.mpr w)) _ (I.hok.fresh (Ai _))⟩
 exact⟨by rw[Aw];exact hz,_,d.append c,IsTup.new _ _⟩
end
def iB(n:Nat)(i:Int):Option Nat:=if 0<=i then(if i < n then some i.toNat else none) else if -(n:Int)<=i then some (i + n).toNat else none
def b9{a:Type}(xs:List a)(i:Int):Option a:=(iB xs.length i).bind fun j=>xs[j]?
theorem A9{n:Nat}{i:Int}{j:Nat}(h:iB n i=some j):seqIndex? i n=some j/\j < n/\-(n:Int)<=i/\i < n:=by
 unfold iB at h
 by_cases b:0<=i
 ·rw[if_pos b] at h
  by_cases a:i < n
  ·rw[if_pos a] at h
   have e:i.toNat=j:=Dz h
   exact⟨by rw[seqIndex_of b a,e],by lia,by lia,a⟩
  ·rw[if_neg a] at h;cases h
 ·rw[if_neg b] at h
  by_cases a : -(n:Int)<=i
  ·rw[if_pos a] at h
   have e:(i + n).toNat=j:=Dz h
   exact⟨by rw[seqIndex_neg (by lia) a,e],by lia,a,by lia⟩
  ·rw[if_neg a] at h;cases h
theorem u5{a:Type}{xs:List a}{i:Int}{v:a}(h:b9 xs i=some v):∃ j,seqIndex? i xs.length=some j/\xs[j]? = some v/\j < xs.length/\-(xs.length:Int)<=i/\i < xs.length:=by
 unfold b9 at h
 cases e:iB xs.length i with
 | none=>rw[e] at h;cases h
 | some j=>
  rw[e] at h
  obtain⟨b,c,f,d⟩:=A9 e
  exact⟨j,b,h,c,f,d⟩
theorem jF{a:Type}{xs:List a}{j:Nat}{v:a}(h:xs[j]? = some v):b9 xs (j:Int)=some v:=by
 have b:j < xs.length:=(An.mp h).1
 have e:iB xs.length (j:Int)=some j:=by
  unfold iB
  rw[if_pos (by lia),if_pos (by lia)];simp
 unfold b9;rw[e];exact h
theorem BA{a:Type}(xs:List a)(v:a):b9 (xs ++ [v]) (-1)=some v:=by
 have hl:(xs ++ [v]).length=xs.length + 1:=by simp
 have e:iB (xs ++ [v]).length (-1)=some xs.length:=by
  unfold iB
  rw[hl,if_neg (by decide),if_pos (by lia)]
  congr 1
  lia
 unfold b9
 rw[e]
 show(xs ++ [v])[xs.length]? = some v
 simp
def BC(b:Expr):Prop:=∀ o i,subscripted b false o i=operate [o,i] (getItem o i)
def iK(X:Cx)(r:R2):Prop:=
 ∀ (c a:Expr) (b:List (Addr×Obj)) (s:Ah) (d:St) (H:Hp) (x y:V) (v u:Ac) (Q:VK),Inv X b d H s->RelV x v->RelV y u->r x y H Q->
  subscripted a false v u=operate [v,u] (getItem v u)->Ax (Bk X.prog X.w) X.A (subscriptTail c a v u) (EP X b d Q) X.xe s
def iC(X:Cx)(id:String)(r:V->List V->Hp->VK->Prop):Prop:=
 ∀ (a:List (Addr×Obj)) (s:Ah) (b:St) (H:Hp) (x:V) (xs:List V) (v:Ac) (us:List Ac) (Q:VK),Inv X a b H s->RelV x v->aQ xs us->r x xs H Q->
  Ax (Bk X.prog X.w) X.A (call (.builtin id) (v :: us)) (EP X a b Q) X.xe s
section
variable {X:Cx}{a b:Expr}{ta tb:TE}{pos:Pos}
theorem iK.or{r g:R2}(h:iK X r)(h':iK X g):iK X (fun x y H Q=>r x y H Q\/g x y H Q):=by
 intro b a c s d H x y v u Q I e f q hs
 rcases q with q | q
 ·exact h b a c s d H x y v u Q I e f q hs
 ·exact h' b a c s d H x y v u Q I e f q hs
theorem OM{r:R2}(d:iK X r)(ha:PE X a ta)(hb:PE X b tb)(hs:BC b):PE X (.Subscript a b pos) (oP r ta tb):=by
 intro c s j H Q I h
 exact Subscript_ (uW ha hb I h fun v u e x y k f i g q=>d a b c e j k x y v u Q f i g q (hs _ _))
def ON(K:Ae):R2:=fun x y H Q=>∃ p xs i v,x=.ref p/\y=.int i/\bC K H p xs/\b9 xs i=some v/\Q v H
def OO(K:Ae):R2:=fun x y H Q=>∃ p xs i v,x=.ref p/\y=.int i/\bM K H p xs/\b9 xs i=some v/\Q v H
def OP:R2:=fun x y H Q=>∃ z i c,x=.str z/\y=.int i/\z.length<=Aj/\b9 z.cps.toList i=some c/\Q (.str ⟨#[c]⟩) H
theorem OQ:iK X (ON X.K):=by
 intro d c a s l H x y v u Q I m B h hs
 obtain⟨p,xs,i,z,rfl,rfl,n,E,q⟩:=h
 cases m
 obtain⟨t,rfl⟩:=B
 obtain⟨its,r,pl,hz⟩:=I.list n
 obtain⟨j,b,o,G,D,C⟩:=u5 E
 obtain⟨w,k,e⟩:=r.get o
 have hl:=r.length
 have F:=lY
 have fin:EP X a l Q w s:=⟨z,H,I,e,q⟩
 by_cases g:0<=i
 ·have f:i.toNat=j:=by
   rw[seqIndex_of g C] at b
   exact Dz b
  exact item_listR pl.isList g (by lia) (by rw[f];simpa using k) fin hs
 ·have f:(i + (its.toArray.size:Int)).toNat=j:=by
   rw[seqIndex_neg (by lia) D] at b
   rw[Bb,<-hl]
   exact Dz b
  exact subscriptTail_builtinR (x:=w) pl.isList.typeIs slot_list_getitem.lookup
   (wpAny_getItem_list_neg (Q:=fun r A=>r=w/\EP X a l Q r A) pl.isList (by lia) (by rw[Bb] <;> lia) (by lia) (by rw[f];simpa using k) ⟨rfl,fin⟩) hs
theorem OR:iK X (OO X.K):=by
 intro d b a s e H x y v u Q I l m h hs
 obtain⟨p,xs,i,z,rfl,rfl,o,g,q⟩:=h
 cases l
 obtain⟨t,rfl⟩:=m
 obtain⟨its,r,pl,hz⟩:=I.tuple o
 obtain⟨j,f,n,E,D,B⟩:=u5 g
 obtain⟨w,A,c⟩:=r.get n
 have hl:=r.length
 have C:=lY
 have fin:EP X a e Q w s:=⟨z,H,I,c,q⟩
 exact subscriptTail_builtinR (x:=w) pl.typeIs slot_tuple_getitem.lookup
  (getItem_tuple (j:=j) (Q:=fun r k=>r=w/\EP X a e Q r k) pl (by lia) (by lia) (by rw[Bb,<-hl];exact f) (by simpa using A) ⟨rfl,fin⟩) hs
theorem OS:iK X OP:=by
 intro b a e s r H x y v u Q I l m h hs
 obtain⟨z,i,c,rfl,rfl,hz,p,q⟩:=h
 obtain⟨t,rfl⟩:=l
 obtain⟨t',rfl⟩:=m
 obtain⟨j,d,n,A,o,f⟩:=u5 p
 have hl:z.cps.toList.length=z.length:=by simp[Str.length]
 rw[hl] at d o f
 have w:=lY
 exact tail_any (typeIs_str s z t) slot_str_getitem.lookup (getItem_str (c:=c) (by
  have k:decide (i < -(2 ^ 63:Int))=false:=decide_eq_false (by lia)
  have g:decide (i ≥ 2 ^ 63)=false:=decide_eq_false (by lia)
  rw[k,g,Bool.or_false]) (by rw[d];simpa using n) ⟨.str ⟨#[c]⟩,H,I.tok _,⟨_,rfl⟩,q⟩) hs
theorem OT(its:List Ac)(n j:Nat)(u:Ac):Gw (·.setIfInBounds j u) {cls:=.type "list",data:=.seq its.toArray n} = {cls:=.type "list",data:=.seq (its.set j u).toArray n}:=by
 simp[Gw]
theorem Inv.lst{a:List (Addr×Obj)}{b:St}{H:Hp}{s:Ah}{p:Addr}{xs:List V}(I:Inv X a b H s)(h:H p=some (.lst xs)) :
  ∃ (its:List Ac) (n:Nat),aQ xs its/\s.heap.get? p=some {cls:=.type "list",data:=.seq its.toArray n}/\xs.length<=Aj:=by
 obtain⟨z,its,n,r,e⟩:=I.hok p _ h
 exact⟨its,n,r,e,z⟩
theorem Inv.lstUpd{a:List (Addr×Obj)}{d:St}{H:Hp}{s:Ah}{p:Addr}{xs ys:List V}{its its':List Ac}{n c:Nat}{f:Obj->Obj}(I:Inv X a d H s)(h:H p=some (.lst xs))
  (g:s.heap.get? p=some {cls:=.type "list",data:=.seq its.toArray n}) (hf:f {cls:=.type "list",data:=.seq its.toArray n} = {cls:=.type "list",data:=.seq its'.toArray c}) (r:aQ ys its') (hz:ys.length<=Aj) (t:Nat) :
  Inv X a d (aN H p (.lst ys)) {s with heap:=s.heap.update p f,toks:=t}:=by
 have e:(s.heap.update p f).get? p=some {cls:=.type "list",data:=.seq its'.toArray c}:=by
  rw[Fc f g (by rw[hf] <;> rfl),hf]
 refine I.write (x:=p) (e:=p) (by rw[h];trivial) (.inl rfl) (fun b u hb q=>(Fn _ _ (Bq hb)).trans q) ⟨_,e⟩ ?_
 exact⟨hz,its',c,r,e⟩
def OU:V->V->V->Hp->(Hp->Prop)->Prop:=fun o i v H Q=>∃ p xs k j,o=.ref p/\i=.int k/\H p=some (.lst xs)/\iB xs.length k=some j/\Q (aN H p (.lst (xs.set j v)))
theorem OV:qP X OU:=by
 intro a s x H o i v A B u Q I y w m h
 obtain⟨p,xs,k,j,rfl,rfl,d,z,q⟩:=h
 cases y
 obtain⟨t,rfl⟩:=w
 obtain⟨its,n,r,c,hz⟩:=I.lst d
 obtain⟨b,C,l,f⟩:=A9 z
 have hl:=r.length
 have D:=lY
 have e:Inv X a x (aN H p (.lst (xs.set j v))) {s with heap:=s.heap.update p (Gw (·.setIfInBounds j u))}:=
  I.lstUpd d c (OT its n j u) (r.set m j) (by rw[List.length_set];exact hz) s.toks
 by_cases g:0<=k
 ·have hk:k.toNat=j:=by
   rw[seqIndex_of g f] at b
   exact Dz b
  exact PySem.W.ki_setAt c g (by lia) (by rw[Bb,<-hl];exact f) (by rw[hk];exact⟨_,e,q⟩)
 ·have hk:(k + (its.toArray.size:Int)).toNat=j:=by
   rw[seqIndex_neg (by lia) l] at b
   rw[Bb,<-hl]
   exact Dz b
  exact PySem.W.ki_setBack c (by lia) (by rw[Bb,<-hl];exact l) (by lia) (by rw[hk];exact⟨_,e,q⟩)
theorem OW(lo hi:Option Int)(n:Nat):(Li lo hi none n).1=((HT.sIx n 0 lo:Nat):Int)/\(Li lo hi none n).2.1=((HT.sIx n n hi:Nat):Int)/\(Li lo hi none n).2.2=1:=by
 refine⟨?_,?_,rfl⟩
 ·cases lo with
  | none=>simp[Li,HT.sIx]
  | some i=>
   simp only[Li,HT.sIx,Option.getD_none,show(1:Int) > 0 by decide,if_true]
   by_cases h:i < 0
   ·simp only[h,if_true] <;> lia
   ·simp only[h,if_false] <;> lia
 ·cases hi with
  | none=>simp[Li,HT.sIx]
  | some i=>
   simp only[Li,HT.sIx,Option.getD_none,show(1:Int) > 0 by decide,if_true]
   by_cases h:i < 0
   ·simp only[h,if_true] <;> lia
   ·simp only[h,if_false] <;> lia
theorem OX(its:List Ac)(lo hi:Option Int):slicePick its.toArray lo hi none=((its.drop (HT.sIx its.length 0 lo)).take (HT.sIx its.length its.length hi - HT.sIx its.length 0 lo)).toArray:=by
 obtain⟨a,c,b⟩:=OW lo hi its.toArray.size
 unfold slicePick
 rw[a,c,b]
 simp only[sliceRange_one,pick_run,Bb] <;> rfl
def OY(K:Ae):V->Option Int->Option Int->Hp->VK->Prop:=fun x lo hi H Q=>∃ a xs,x=.ref a/\bC K H a xs/\∀ p,H p=none->Q (.ref p) (aN H p (.lst (lB xs lo hi)))
theorem u6:qV X (OY X.K):=by
 intro d s j H x v k i lo hi sl Q I f hs pl g h
 obtain⟨a,xs,rfl,e,q⟩:=h
 cases f
 obtain⟨its,r,ht,hz⟩:=I.list e
 have c:=r.length
 refine⟨"list",_,slot_list_getitem.lookup,ht.isList.typeIs,?_⟩
 refine wpAny_getItem_list_slice ht.isList hs pl g .none (by simp) ?_ (by rw[Bb] <;> lia)
 rw[OX,<-c]
 refine⟨.ref s.heap.objs.size,_,I.laid (t':=s.toks) (o:=.lst (lB xs lo hi)) (fun b ob q=>Af _ q) (Ai _) ?_,rfl,q _ (I.hok.fresh (Ai _))⟩
 exact⟨Bh (A8 xs lo hi) hz,_,0,(r.drop (HT.sIx xs.length 0 lo)).take (HT.sIx xs.length xs.length hi - HT.sIx xs.length 0 lo),Ap _ rfl⟩
def jG:V->Bool
 | .non=>true
 | .bl _=>true
 | .int _=>true
 | .str _=>true
 | _=>false
def jH:V->V->Bool
 | .non,.non=>true
 | .bl a,.bl b=>a == b
 | .bl a,.int b=>(if a then 1 else 0) == b
 | .int a,.bl b=>a == (if b then 1 else 0)
 | .int a,.int b=>a == b
 | .str a,.str b=>a == b
 | _,_=>false
theorem OZ{A:Bu}{s:Ah}{y x:V}{u v:Ac}(d:RelV y u)(c:RelV x v)(f:jG y=true)(e:jG x=true):Oo A s u v (jH y x):=by
 cases y with
 | non=>
  cases d
  cases x with
  | non=>cases c;exact SeqAt.EqAt.same _
  | bl b=>cases c;exact SeqAt.EqAt.none_bool b
  | int b=>obtain⟨t,rfl⟩:=c;exact SeqAt.EqAt.none_int b t
  | str b=>obtain⟨t,rfl⟩:=c;exact SeqAt.EqAt.none_str b t
  | _=>exact absurd (show false=true from e) Ao
 | bl a=>
  cases d
  cases x with
  | non=>cases c;exact SeqAt.EqAt.bool_none a
  | bl b=>cases c;exact SeqAt.EqAt.bool_bool a b
  | int b=>obtain⟨t,rfl⟩:=c;exact SeqAt.EqAt.bool_int a b t
  | str b=>obtain⟨t,rfl⟩:=c;exact SeqAt.EqAt.bool_str a b t
  | _=>exact absurd (show false=true from e) Ao
 | int a=>
  obtain⟨t',rfl⟩:=d
  cases x with
  | non=>cases c;exact SeqAt.EqAt.int_none a t'
  | bl b=>cases c;exact SeqAt.EqAt.int_bool a t' b
  | int b=>obtain⟨t,rfl⟩:=c;exact SeqAt.EqAt.int_int a t' b t
  | str b=>obtain⟨t,rfl⟩:=c;exact SeqAt.EqAt.int_str a t' b t
  | _=>exact absurd (show false=true from e) Ao
 | str a=>
  obtain⟨t',rfl⟩:=d
  cases x with
  | non=>cases c;exact SeqAt.EqAt.str_none a t'
  | bl b=>cases c;exact SeqAt.EqAt.str_bool a t' b
  | int b=>obtain⟨t,rfl⟩:=c;exact SeqAt.EqAt.str_int a t' b t
  | str b=>obtain⟨t,rfl⟩:=c;exact SeqAt.EqAt.str_str a t' b t
  | _=>exact absurd (show false=true from e) Ao
 | _=>exact absurd (show false=true from f) Ao
def gE(x:V)(u:Ac):Bool:=match u with
 | .none=>jH .non x
 | .bool b=>jH (.bl b) x
 | .int i _=>jH (.int i) x
 | .str z _=>jH (.str z) x
 | _=>false
theorem BD{x y:V}{u:Ac}(r:RelV y u)(f:jG y=true):gE x u=jH y x:=by
 cases y with
 | non=>cases r;rfl
 | bl b=>cases r;rfl
 | int i=>obtain⟨t,rfl⟩:=r;rfl
 | str z=>obtain⟨t,rfl⟩:=r;rfl
 | _=>exact absurd (show false=true from f) Ao
theorem oR{x:V}:∀ {xs:List V} {us:List Ac},aQ xs us->xs.all jG=true->us.any (gE x)=xs.any fun y=>jH y x
 | _,_,.nil,_=>rfl
 | y :: xs,u :: us,.cons r t,f=>by
  rw[Js,Cr] at f
  rw[Gp,Gp,BD r f.1,oR t f.2]
theorem oS{A:Bu}{s:Ah}{x:V}{v:Ac}(b:RelV x v)(c:jG x=true):∀ {xs:List V} {us:List Ac},aQ xs us->xs.all jG=true->∀ u∈us,Oo A s u v (gE x u)
 | _,_,.nil,_=>fun u a=>by cases a
 | y :: xs,u :: us,.cons r t,f=>fun d a=>by
  rw[Js,Cr] at f
  rcases Ba.mp a with rfl | a
  ·rw[BD r f.1];exact OZ r b f.1 c
  ·exact oS b c t f.2 d a
def inV(x:V)(xs:List V):Bool:=xs.any fun y=>jH y x
def rIn(K:Ae)(neg:Bool):R2:=fun x y H Q=>∃ p xs,y=.ref p/\(bC K H p xs\/bM K H p xs)/\jG x=true/\xs.all jG=true/\Q (.bl (if neg then !inV x xs else inV x xs)) H
theorem O0:bB X (Cf .In) (rIn X.K false):=by
 intro b s f H x y v u Q I d e h
 obtain⟨p,xs,rfl,a,c,fs,q⟩:=h
 cases e
 rcases a with a | a
 ·obtain⟨its,r,pl,hz⟩:=I.list a
  refine SeqAt.in_listAt (gE x) pl.isList (fun w hw=>oS d c r fs w (by simpa using hw)) ⟨.bl _,H,I,rfl,?_⟩
  rw[show its.toArray.any (gE x)=its.any (gE x) by simp,oR r fs]
  exact q
 ·obtain⟨its,r,pl,hz⟩:=I.tuple a
  refine SeqAt.in_tupleAt (gE x) pl (fun w hw=>oS d c r fs w (by simpa using hw)) ⟨.bl _,H,I,rfl,?_⟩
  rw[show its.toArray.any (gE x)=its.any (gE x) by simp,oR r fs]
  exact q
theorem O3:bB X (Cf .NotIn) (rIn X.K true):=by
 intro b s f H x y v u Q I d e h
 obtain⟨p,xs,rfl,a,c,fs,q⟩:=h
 cases e
 rcases a with a | a
 ·obtain⟨its,r,pl,hz⟩:=I.list a
  refine SeqAt.notIn_listAt (gE x) pl.isList (fun w hw=>oS d c r fs w (by simpa using hw)) ⟨.bl _,H,I,rfl,?_⟩
  rw[show its.toArray.any (gE x)=its.any (gE x) by simp,oR r fs]
  exact q
 ·obtain⟨its,r,pl,hz⟩:=I.tuple a
  refine SeqAt.notIn_tupleAt (gE x) pl (fun w hw=>oS d c r fs w (by simpa using hw)) ⟨.bl _,H,I,rfl,?_⟩
  rw[show its.toArray.any (gE x)=its.any (gE x) by simp,oR r fs]
  exact q
theorem O4:cU X (.builtin "len") (fun xs H Q=>∃ p ys,xs=[.ref p]/\(bC X.K H p ys\/bM X.K H p ys)/\Q (.int ys.length) H):=by
 intro d s f H xs us Q I r h
 obtain⟨p,ys,rfl,b,q⟩:=h
 obtain⟨u,rfl,e⟩:=vals1 r
 cases e
 have g:=lY
 rcases b with b | b
 ·obtain⟨its,c,pl,hz⟩:=I.list b
  have a:=c.length
  exact Calls.call_len_list pl.isList (by simp only[Bb] <;> lia) ⟨.int ys.length,H,I.tok _,⟨s.toks + 1,by rw[Bb,a]⟩,q⟩
 ·obtain⟨its,c,pl,hz⟩:=I.tuple b
  have a:=c.length
  exact len_tuple pl (by simp only[Bb] <;> lia) ⟨.int ys.length,H,I.tok _,⟨s.toks + 1,by rw[Bb,a]⟩,q⟩
theorem O5:cU X (.builtin "len") (fun xs H Q=>∃ z,xs=[.str z]/\z.length<=Aj/\Q (.int z.length) H):=by
 intro a s c H xs us Q I r h
 obtain⟨z,rfl,hz,q⟩:=h
 obtain⟨u,rfl,t,rfl⟩:=vals1 r
 have b:=lY
 exact len_str (by lia) ⟨.int z.length,H,I.tok _,⟨_,rfl⟩,q⟩
theorem cU.or{f:Ac}{r b:List V->Hp->VK->Prop}(h:cU X f r)(h':cU X f b):cU X f (fun xs H Q=>r xs H Q\/b xs H Q):=by
 intro a s c H xs us Q I rs q
 rcases q with q | q
 ·exact h a s c H xs us Q I rs q
 ·exact h' a s c H xs us Q I rs q
theorem O6:cU X (.type "list") (fun xs H Q=>∃ p ys,xs=[.ref p]/\(bC X.K H p ys\/bM X.K H p ys)/\∀ l,H l=none->Q (.ref l) (aN H l (.lst ys))):=by
 intro d s k H xs us Q I r h
 obtain⟨p,ys,rfl,g,q⟩:=h
 obtain⟨u,rfl,m⟩:=vals1 r
 cases m
 have fin:∀ (its:List Ac),aQ ys its->ys.length<=Aj->∀ (h':Heap) (a:Nat),(∀ b j,s.heap.get? b=some j->h'.get? b=some j)->
   h'.get? s.heap.objs.size=some {cls:=.type "list",dict:=none,data:=.seq its.toArray a,slots:=#[]}->EP X d k Q (.ref s.heap.objs.size) {s with heap:=h'}:=fun its c hz h' a kp e=>
  ⟨.ref s.heap.objs.size,_,I.laid (t':=s.toks) kp (Ai _) (show cN X.prog X.w _ h' _ (.lst ys) from⟨hz,its,a,c,e⟩),rfl,q _ (I.hok.fresh (Ai _))⟩
 rcases g with g | g
 ·obtain⟨its,c,pl,hz⟩:=I.list g
  have f:=c.length
  obtain⟨o,i,hc,n,hd⟩:=pl.isList
  exact call_list_seq p (.inl rfl) i hc hd (fun h' a kp e=>fin its c hz h' a kp e) (by simp only[Bb] <;> lia)
 ·obtain⟨its,c,pl,hz⟩:=I.tuple g
  have f:=c.length
  obtain⟨o,i,hc,n,hd⟩:=pl
  exact call_list_seq p (.inr rfl) i hc hd (fun h' a kp e=>fin its c hz h' a kp e) (by simp only[Bb] <;> lia)
theorem O7:cU X (.type "tuple") (fun xs H Q=>∃ p ys,xs=[.ref p]/\((bC X.K H p ys/\∀ l,H l=none->Q (.ref l) (aN H l (.tup ys)))\/(bM X.K H p ys/\Q (.ref p) H))):=by
 intro a s g H xs us Q I r h
 obtain⟨p,ys,rfl,h⟩:=h
 obtain⟨u,rfl,k⟩:=vals1 r
 cases k
 rcases h with⟨d,q⟩ | ⟨d,q⟩
 ·obtain⟨its,c,pl,hz⟩:=I.list d
  have f:=c.length
  refine call_tuple_list pl.isList (fun h' kp=>?_) (by simp only[Bb] <;> lia)
  have i:Inv X a g H {s with heap:=h'}:=I.kept (t':=s.toks) kp
  have j:Inv X a g (aN H h'.objs.size (.tup ys)) {s with heap:=h'.push {cls:=.type "tuple",data:=.seq its.toArray}}:=
   i.laid (t':=s.toks) (fun b o e=>Af _ e) (Ai _) (show cN X.prog X.w _ _ _ (.tup ys) from⟨hz,its,c,IsTup.new _ _⟩)
  exact⟨.ref h'.objs.size,_,j,rfl,q _ (i.hok.fresh (Ai _))⟩
 ·obtain⟨its,c,pl,hz⟩:=I.tuple d
  exact call_tuple_same pl ⟨.ref p,H,I,rfl,q⟩
def qW(K:Ae)(T:String)(x:V)(H:Hp):Prop:=match x with
 | .str _=>T = "str"
 | .int _=>T = "int"
 | .ref p=>(T = "list"/\∃ xs,bC K H p xs)\/(T = "tuple"/\∃ o,K.lookup p=some o/\o.cls=.type "tuple"/\o.dict=none)\/
   (T = "dict"/\((∃ kvs,Rd H p (.dK kvs))\/∃ kvs,Rd H p (.dT kvs)))\/(T = "set"/\∃ S n,H p=some (.set S n))
 | _=>False
theorem BE{b:List (Addr×Obj)}{f:St}{H:Hp}{s:Ah}{T:String}{x:V}{v:Ac}(I:Inv X b f H s)(r:RelV x v)(ty:qW X.K T x H) :
  s.TypeIs v T/\∀ a,v=.ref a->∃ ob,s.heap.get? a=some ob/\ob.dict=none:=by
 cases x with
 | str z=>
  obtain⟨t,rfl⟩:=r
  cases (show T = "str" from ty)
  exact⟨typeIs_str s z t,fun _ e=>nomatch e⟩
 | int i=>
  obtain⟨t,rfl⟩:=r
  cases (show T = "int" from ty)
  exact⟨typeIs_int s i t,fun _ e=>nomatch e⟩
 | ref p=>
  cases r
  rcases ty with⟨rfl,xs,g⟩ | ⟨rfl,o,hk,hc,hd⟩ | ⟨rfl,hk⟩ | ⟨rfl,S,n,hk⟩
  ·obtain⟨its,_,pl,_⟩:=I.list g
   refine⟨pl.isList.typeIs,fun a e=>?_⟩
   cases e
   obtain⟨o,n,e,c,hd,_⟩:=pl
   exact⟨o,e,hd⟩
  ·refine⟨⟨o,I.kIn p o hk,hc⟩,fun a e=>?_⟩
   cases e
   exact⟨o,I.kIn _ o hk,hd⟩
  ·have z:∃ o,s.heap.get? p=some o/\o.ExactDict:=by
    rcases hk with⟨kvs,hk⟩ | ⟨kvs,hk⟩
    ·obtain⟨_,_,_,_,o,_,_,e,ex,_⟩:=hk.ok I.hok
     exact⟨o,e,ex⟩
    ·obtain⟨_,_,_,_,o,_,_,e,ex,_⟩:=hk.ok I.hok
     exact⟨o,e,ex⟩
   obtain⟨o,e,ex⟩:=z
   refine⟨⟨o,e,ex.1⟩,fun a d=>?_⟩
   cases d
   exact⟨o,e,ex.2.1⟩
  ·obtain⟨o,_,_,_,e,ex,_⟩:=I.hok p _ hk
   refine⟨⟨o,e,ex.1⟩,fun a d=>?_⟩
   cases d
   exact⟨o,e,ex.2.1⟩
 | _=>exact Gu ty
def O8(K:Ae)(T:String)(r:V->List V->Hp->VK->Prop)(to:TE):TE:=fun b H Q=>to b H fun x a=>qW K T x a/\r x [] a Q
def O9(K:Ae)(T:String)(r:V->List V->Hp->VK->Prop)(to:TE)(t:TA):TE:=fun a H Q=>to a H fun x b=>qW K T x b/\t a b fun xs c=>r x xs c Q
variable {o e:Expr}{es:List Expr}{to:TE}{t:TA}{name:Str}{apos cpos:Pos}{T id:String}{r:V->List V->Hp->VK->Prop}
theorem PB(pa:PlainAttrs T)(slot:Slot T name id)(d:typeOf (.builtin id)=pure (.type "method_descriptor"))(l:iC X id r)(m:PE X o to)
  (c:Ke o name X.env (eval o X.env)=eval o X.env:=by rfl) (b:(apos.endLine == cpos.line)=true:=by rfl):PE X (.Call (.Attribute o name apos) [] [] cpos) (O8 X.K T r to):=by
 intro a s f H Q I h
 refine wpAny_Call_method0_late c b (aZ (m a s f H _ I h) fun v i ⟨x,p,g,e,ty,k⟩=>?_)
 obtain⟨j,n⟩:=BE g e ty
 exact⟨T,id,pa,slot,d,j,n,Calls.callWith_builtin rfl (PySem.evalArgs_none (l a i f p x [] v [] Q g e .nil k))⟩
theorem PC(pa:PlainAttrs T)(slot:Slot T name id)(g:typeOf (.builtin id)=pure (.type "method_descriptor"))(w:iC X id r)(z:PE X o to)(ha:PA X (e :: es) t)
  (c:Ke o name X.env (eval o X.env)=eval o X.env:=by rfl)
  (f:((Ia cpos (Bj (e :: es) X.env)).all (fun x=>!x.1) && (backToKw cpos (Ms [] X.env)).all (fun x=>x.1.isSome)
   && decide ((e :: es).length + ([]:List Keyword).length + (if ([]:List Keyword).isEmpty then 0 else 1) < 30))=true:=by rfl)
  (d:(apos.endLine == cpos.line)=true:=by rfl) (hs:Bj (e :: es) X.env=(false,eval e X.env) :: Bj es X.env:=by rfl) (b:(Ia cpos (Bj es X.env)).any (·.1)=false:=by rfl) :
  PE X (.Call (.Attribute o name apos) (e :: es) [] cpos) (O9 X.K T r to t):=by
 intro a s i H Q I h
 refine wpAny_Call_method_late c f d rfl (aZ (z a s i H _ I h) fun v m ⟨x,q,l,k,ty,u⟩=>?_)
 obtain⟨B,p⟩:=BE l k ty
 refine⟨T,id,pa,slot,g,B,p,?_⟩
 have j:=ha cpos a m i q _ l u
 rw[hs] at j ⊢
 refine Calls.callWith_builtin (by show(false || (Ia cpos (Bj es X.env)).any (·.1))=false;rw[b] <;> rfl) (Calls.evalArgs_plain ?_)
 exact aZ j fun us n ⟨vs,A,D,y,C⟩=>w a n i A x vs v us Q D k y C
end
def qX(X:Cx)(a:String)(r:V->List V->Hp->VK->Prop):Prop:=
 ∀ (pins:List (Addr×Obj)) (s:Ah) (σ:St) (H:Hp) (x:V) (xs:List V) (v:Ac) (us:List Ac) (Q:VK),Inv X pins σ H s->RelV x v->aQ xs us->r x xs H Q->
  Ax (Bk X.prog X.w) X.A (call (.builtin a) (v :: us)) (EP X pins σ Q) X.xe s
theorem aQ.one:∀ {x:V} {us:List Ac},aQ [x] us->∃ u,us=[u]/\RelV x u
 | _,_,.cons r .nil=>⟨_,rfl,r⟩
theorem aQ.zero:∀ {us:List Ac},aQ [] us->us=[]
 | _,.nil=>rfl
theorem aQ.dropLast{xs:List V}{us:List Ac}(h:aQ xs us):aQ xs.dropLast us.dropLast:=by
 induction h with
 | nil=>exact .nil
 | cons r t a=>
  cases t with
  | nil=>exact .nil
  | cons q t'=>exact .cons r a
theorem aQ.rep{xs:List V}{us:List Ac}(h:aQ xs us):∀ k:Nat,aQ (Bz k xs).flatten (Bz k us).flatten
 | 0=>.nil
 | k + 1=>by
  rw[Gh,Gh,Iu,Iu]
  exact aQ.append h (aQ.rep h k)
theorem PD{c:Type}(l:List c):l.eraseIdx (l.length - 1)=l.dropLast:=by
 induction l with
 | nil=>rfl
 | cons a r d=>
  cases r with
  | nil=>rfl
  | cons b r=>
   have e:(a :: b :: r).length - 1=((b :: r).length - 1) + 1:=by
    have f:(a :: b :: r).length=r.length + 2:=rfl
    have g:(b :: r).length=r.length + 1:=rfl
    lia
   rw[e,List.eraseIdx_cons_succ,d]
   all_goals rfl
theorem foldl_rep(its:List Ac):∀ (k:Nat) (acc:List Ac),
  List.foldl (fun x1 x2=>x1 ++ x2) acc.toArray (Bz k its.toArray)=(acc ++ (Bz k its).flatten).toArray
 | 0,acc=>by simp
 | k + 1,acc=>by
  have e:acc.toArray ++ its.toArray=(acc ++ its).toArray:=by simp
  have a:(acc ++ its) ++ (Bz k its).flatten=acc ++ (Bz (k + 1) its).flatten:=by
   rw[Gh,Iu,Ce]
  rw[<-a,<-foldl_rep its k (acc ++ its),<-e,Gh,Ge]
section
variable {X:Cx}{pins:List (Addr×Obj)}{σ:St}{H:Hp}{s:Ah}{l b:Addr}{xs ys zs:List V}
theorem Inv.lset{its its':List Ac}{n:Nat}{f:Array Ac->Array Ac}{t':Nat}(I:Inv X pins σ H s)(b:H l=some (.lst xs))
  (e:s.heap.get? l=some {cls:=.type "list",data:=.seq its.toArray n}) (hf:f its.toArray=its'.toArray) (c:aQ ys its') (hz:ys.length<=Aj) :
  Inv X pins σ (aN H l (.lst ys)) {s with heap:=s.heap.update l (Gw f),toks:=t'}:=by
 have q:=PySem.IsL.update e f
 rw[hf] at q
 refine I.write (x:=l) (e:=l) (by rw[b];exact trivial) (.inl rfl) (fun d u hb a=>(Fn s.heap (Gw f) (Bq hb)).trans a) ⟨_,q⟩ ?_
 exact⟨hz,its',_,c,q⟩
theorem Inv.lnew{its:List Ac}{t':Nat}(I:Inv X pins σ H s)(a:aQ ys its)(hz:ys.length<=Aj) :
  Inv X pins σ (aN H s.heap.objs.size (.lst ys)) {s with heap:=s.heap.push {cls:=.type "list",data:=.seq its.toArray},toks:=t'}:=
 I.laid (fun _ _ q=>Af _ q) (Ai _) ⟨hz,its,0,a,Ap _ rfl⟩
theorem Inv.fresh(I:Inv X pins σ H s):H s.heap.objs.size=none:=I.hok.fresh (Ai _)
theorem Inv.lstM(I:Inv X pins σ H s)(a:H l=some (.lst xs)):xs.length<=Aj/\∃ (its:List Ac) (n:Nat),aQ xs its/\xs.length=its.length/\s.heap.get? l=some {cls:=.type "list",data:=.seq its.toArray n}:=by
 obtain⟨z,its,n,r,e⟩:=I.hok l _ a
 exact⟨z,its,n,r,r.length,e⟩
theorem PF{n:Nat}(h:n<=Aj):Lf n=false:=by
 unfold Lf
 exact decide_eq_false (by lia)
end
section
variable {X:Cx}
def rAppend:V->List V->Hp->VK->Prop:=fun x vs H Q=>∃ l xs y,x=.ref l/\vs=[y]/\H l=some (.lst xs)/\xs.length < Aj/\Q .non (aN H l (.lst (xs ++ [y])))
theorem BF:qX X "list.append" rAppend:=by
 intro pins s σ H x vs v us Q I c d h
 obtain⟨l,xs,y,rfl,rfl,a,hz,q⟩:=h
 cases c
 obtain⟨u,rfl,b⟩:=d.one
 obtain⟨z,its,n,r,hl,e⟩:=I.lstM a
 refine Lh Fg ⟨_,e,rfl⟩ F.entry_list_append (F.args_list_append_2 _ _) (PySem.list_append l its.toArray n u (by rw[Bb];lia)) ⟨e,?_⟩
 refine⟨.non,_,I.lset (its':=its ++ [u]) a e (by simp) (r.append (.cons b .nil)) ?_,rfl,q⟩
 rw[Aw,Eb]
 lia
def rPop:V->List V->Hp->VK->Prop:=fun x vs H Q=>∃ l xs y,x=.ref l/\vs=[]/\H l=some (.lst xs)/\xs[xs.length - 1]? = some y/\Q y (aN H l (.lst xs.dropLast))
theorem PH:qX X "list.pop" rPop:=by
 intro pins s σ H x vs v us Q I j d h
 obtain⟨l,xs,y,rfl,rfl,c,i,q⟩:=h
 cases j
 have b:=d.zero
 subst b
 obtain⟨z,its,n,r,hl,e⟩:=I.lstM c
 obtain⟨u,g,f⟩:=r.get i
 have a:its.toArray[its.toArray.size - 1]? = some u:=by
  show its.toArray[its.length - 1]? = some u
  rw[<-Ds,<-hl]
  exact g
 refine Lh F.slot_list_pop ⟨_,e,rfl⟩ F.entry_list_pop (F.args_list_pop_1 _) (MeetsSeq.list_pop_last l its.toArray n u a (by rw[Bb];lia)) ⟨e,?_⟩
 refine⟨y,_,I.lset (its':=its.dropLast) c e ?_ r.dropLast ?_,f,q⟩
 ·show its.toArray.eraseIdxIfInBounds (its.toArray.size - 1)=its.dropLast.toArray
  rw[Bb,List.eraseIdxIfInBounds_toArray,PD]
 ·rw[List.length_dropLast]
  lia
def rClear:V->List V->Hp->VK->Prop:=fun x vs H Q=>∃ l xs,x=.ref l/\vs=[]/\H l=some (.lst xs)/\Q .non (aN H l (.lst []))
theorem PJ:qX X "list.clear" rClear:=by
 intro pins s σ H x vs v us Q I c d h
 obtain⟨l,xs,rfl,rfl,b,q⟩:=h
 cases c
 have a:=d.zero
 subst a
 obtain⟨z,its,n,r,hl,e⟩:=I.lstM b
 refine Lh F.slot_list_clear ⟨_,e,rfl⟩ F.entry_list_clear (F.args_list_clear_1 _) (AutoSeq1.list_clear_list_0 l its.toArray n (by rw[Bb];lia)) ⟨e,?_⟩
 exact⟨.non,_,I.lset (its':=[]) (ys:=[]) b e rfl .nil (Bx _),rfl,q⟩
def PK:R2:=fun x y H Q=>∃ l b xs zs,x=.ref l/\y=.ref b/\H l=some (.lst xs)/\H b=some (.lst zs)/\xs.length + zs.length<=Aj/\∀ p,H p=none->Q (.ref p) (aN H p (.lst (xs ++ zs)))
theorem PL:bB X (Fs .Add) PK:=by
 intro pins s σ H x y v u Q I i d h
 obtain⟨l,b,xs,zs,rfl,rfl,k,j,hz,q⟩:=h
 cases i
 cases d
 obtain⟨z,its,n,r,hl,e⟩:=I.lstM k
 obtain⟨z2,a,m,f,c,g⟩:=I.lstM j
 refine PySem.P.add_list e g ?_ (by rw[Bb,Bb];lia)
 have ea:its.toArray ++ a.toArray=(its ++ a).toArray:=by simp
 rw[ea]
 exact⟨.ref _,_,I.lnew (t':=s.toks) (r.append f) (by rw[Aw];lia),rfl,q _ I.fresh⟩
def PM:R2:=fun x y H Q=>∃ l k xs,x=.ref l/\y=.int k/\H l=some (.lst xs)/\-(2 ^ 63)<=k/\k < 2 ^ 63/\xs.length * k.toNat<=Aj/\
 ∀ p,H p=none->Q (.ref p) (aN H p (.lst (Bz k.toNat xs).flatten))
theorem PN{b:Type}(xs:List b)(k:Nat):(Bz k xs).flatten.length=k * xs.length:=by
 induction k with
 | zero=>simp
 | succ k a=>rw[Gh,Iu,Aw,a,Nat.succ_mul,Nat.add_comm]
theorem PQ:bB X (Fs .Mult) PM:=by
 intro pins s σ H x y v u Q I rx ry h
 obtain⟨l,k,xs,rfl,rfl,hH,h1,h2,hz,q⟩:=h
 cases rx
 obtain⟨t,rfl⟩:=ry
 obtain⟨z,its,n,r,hl,e⟩:=I.lstM hH
 have hlen:its.toArray.size * k.toNat<=Aj:=by rw[Bb,<-hl];exact hz
 have hcap:¬ its.toArray.size * k.toNat > (2 ^ 63 - 1) / 8:=by
  have:(Aj:Nat)<=(2 ^ 63 - 1) / 8:=by decide
  lia
 have hfit:¬ (!Builtin.List.listFitsIndex k)=true:=by
  rw[fitsIndex_both h1 h2]
  exact Ao
 have hlong:¬ Lf (its.toArray.size * k.toNat)=true:=by
  rw[PF hlen]
  exact Ao
 have hnew:List.foldl (fun x1 x2=>x1 ++ x2) #[] (Bz (if its.toArray.isEmpty=true then 0 else k.toNat) its.toArray)=(Bz k.toNat its).flatten.toArray:=by
  have f0:∀ m:Nat,List.foldl (fun x1 x2=>x1 ++ x2) #[] (Bz m its.toArray)=(Bz m its).flatten.toArray:=fun m=>by
   have:=foldl_rep its m []
   rw[Ld] at this
   exact this
  rw[f0]
  cases its with
  | nil=>simp
  | cons a r'=>rw[if_neg (by simp)]
 refine wpAny_binaryOp_repeat_ref (T:="list") (U:="int") (by decide) ⟨_,e,rfl⟩ (fun s'=>typeIs_int s' k t) noFill_list_mul F.fills_int_mul F.slot_int_rmul repeat_list F.slot_int_index.lookup
  (Lh F.slot_int_rmul (typeIs_int s k t) F.entry_int_rmul (F.args_int_rmul_2 _ _) (int___rmul___int_list k t l its.toArray n)
   ⟨e,rfl,⟨_,e,rfl⟩,Lh F.slot_list_mul ⟨_,e,rfl⟩ F.entry_list_mul (F.args_list_mul_2 _ _) (AutoListH.list___mul___list_int_3 l its.toArray n k t hfit hcap hlong) ⟨e,?_⟩⟩)
 rw[hnew]
 exact⟨.ref _,_,I.lnew (t':=s.toks) (r.rep k.toNat) (by rw[PN,Nat.mul_comm];exact hz),rfl,q _ I.fresh⟩
end
section
variable {prog:Bl}{w:Cd}{A:Bu}{E:Ac->Ah->Prop}{s:Ah}
end
section
variable {X:Cx}
end
section
variable {κ:Type}[DecidableEq κ]
def fL(kvs:List (κ×V))(k:κ):Option V:=(kvs.find? fun a=>decide (a.1=k)).map (·.2)
def eI(kvs:List (κ×V))(k:κ)(v:V):List (κ×V):=
 if (kvs.any fun a=>decide (a.1=k))=true then kvs.map (fun a=>if a.1=k then(a.1,v) else a) else kvs ++ [(k,v)]
def l9(kvs:List (κ×V))(k:κ):List (κ×V):=kvs.filter fun a=>decide (a.1≠k)
theorem qY{p:κ×V}{r:List (κ×V)}{k:κ}(e:p.1=k):fL (p :: r) k=some p.2:=by simp[fL,Fp,e]
theorem qZ{p:κ×V}{r:List (κ×V)}{k:κ}(e:¬ p.1=k):fL (p :: r) k=fL r k:=by simp[fL,Fp,e]
theorem BG(k:κ):∀ kvs:List (κ×V),(kvs.any fun a=>decide (a.1=k))=(fL kvs k).isSome
 | []=>rfl
 | p :: r=>by
  rw[Gp]
  by_cases e:p.1=k
  ·simp only[qY e,decide_eq_true e,Bool.true_or,Option.isSome_some]
  ·rw[qZ e,decide_eq_false e,Bool.false_or];exact BG k r
theorem oT(kvs:List (κ×V))(k:κ)(v:V):(eI kvs k v).length<=kvs.length + 1:=by
 unfold eI
 split
 ·rw[Ab];lia
 ·rw[Aw,Bp,List.length_nil];lia
theorem fD.isSome_eq{o:Option V}{u:Option Ac}(r:fD o u):o.isSome=u.isSome:=by
 cases o with
 | none=>cases u with
  | none=>rfl
  | some _=>exact(show False from r).elim
 | some _=>cases u with
  | none=>exact(show False from r).elim
  | some _=>rfl
theorem fD.getD{o:Option V}{u:Option Ac}{d:V}{d':Ac}(r:fD o u)(a:RelV d d'):RelV (o.getD d) (u.getD d'):=by
 cases o with
 | none=>cases u with
  | none=>exact a
  | some _=>exact(show False from r).elim
 | some _=>cases u with
  | none=>exact(show False from r).elim
  | some _=>exact r
theorem KV.val{kvs:List (κ×V)}{vs:List (κ×Ac)}(r:KV kvs vs)(k:κ):fD (fL kvs k) (valueAt vs k):=by
 unfold KV at r
 induction r with
 | nil=>exact True.intro
 | @cons p q ps a h t g=>
  obtain⟨d,f⟩:=h
  by_cases e:p.1=k
  ·have c:q.1=k:=d.symm.trans e
   have b:valueAt (q :: a) k=some q.2:=by simp[valueAt,Fp,c]
   rw[qY e,b];exact f
  ·have c:¬ q.1=k:=fun z=>e (d.trans z)
   have b:valueAt (q :: a) k=valueAt a k:=by simp[valueAt,Fp,c]
   rw[qZ e,b];exact g
theorem KV.any{kvs:List (κ×V)}{vs:List (κ×Ac)}(r:KV kvs vs)(k:κ):(kvs.any fun a=>decide (a.1=k))=vs.any fun a=>decide (a.1=k):=by
 unfold KV at r
 induction r with
 | nil=>rfl
 | cons h t b=>rw[Gp,Gp,b,h.1]
theorem KV.repl{kvs:List (κ×V)}{vs:List (κ×Ac)}(r:KV kvs vs)(k:κ){y:V}{u:Ac}(c:RelV y u) :
  KV (kvs.map fun a=>if a.1=k then(a.1,y) else a) (vs.map fun a=>if a.1=k then(a.1,u) else a):=by
 unfold KV at r ⊢
 induction r with
 | nil=>exact .nil
 | @cons p q ps g h t f=>
  rw[Ar,Ar]
  refine .cons ?_ f
  obtain⟨b,d⟩:=h
  by_cases e:p.1=k
  ·rw[if_pos e,if_pos (b.symm.trans e)];exact⟨b,c⟩
  ·rw[if_neg e,if_neg (fun z=>e (b.trans z))];exact⟨b,d⟩
theorem KV.put{kvs:List (κ×V)}{vs:List (κ×Ac)}(r:KV kvs vs)(k:κ){y:V}{u:Ac}(a:RelV y u):KV (eI kvs k y) (stored vs k u):=by
 unfold eI stored
 rw[r.any k]
 by_cases e:(vs.any fun b=>decide (b.1=k))=true
 ·rw[if_pos e,if_pos e];exact r.repl k a
 ·rw[if_neg e,if_neg e];exact Paired.snoc r ⟨rfl,a⟩
theorem KV.length{kvs:List (κ×V)}{vs:List (κ×Ac)}(r:KV kvs vs):kvs.length=vs.length:=Eo r
theorem PR(kvs:List (κ×V))(k:κ):(l9 kvs k).length<=kvs.length:=Il _ _
end
theorem lC{P:Bl}{w:Cd}{k:aD}{u:Ac}(r:RelV (kV k) u):(dA P w).is k u=true:=by
 cases k with
 | inl i=>obtain⟨t,e⟩:=(show ∃ t,u=Value.int i t from r);subst e;exact JY P w i t
 | inr x=>obtain⟨t,e⟩:=(show ∃ t,u=Value.str x t from r);subst e;exact JZ P w x t
theorem BH{P:Bl}{w:Cd}:∀ {ks:List aD} {us:List Ac},aQ (ks.map kV) us->ItemsAre (dA P w) ks us
 | [],_,r=>by rw[Kh] at r;cases r;exact .nil
 | k :: ks,_,r=>by
  rw[Ar] at r
  cases r with
  | cons h t=>exact .cons (lC h) (BH t)
abbrev KT(H:Hp):List (List aD×V)->List (List aD×Addr×Ac)->Prop:=Ir fun p q=>p.1=q.1/\H q.2.1=some (.tup (p.1.map kV))/\RelV p.2 q.2.2
theorem KT.val{H:Hp}{kvs:List (List aD×V)}{xs:List (List aD×Addr×Ac)}(r:KT H kvs xs)(k:List aD):fD (fL kvs k) ((Nf xs k).map (·.2)):=by
 induction r with
 | nil=>exact True.intro
 | @cons p q ps a h t g=>
  obtain⟨d,_,f⟩:=h
  by_cases e:p.1=k
  ·have c:q.1=k:=d.symm.trans e
   have b:Nf (q :: a) k=some q.2:=by simp[Nf,Fp,c]
   rw[qY e,b];exact f
  ·have c:¬ q.1=k:=fun z=>e (d.trans z)
   have b:Nf (q :: a) k=Nf a k:=by simp[Nf,Fp,c]
   rw[qZ e,b];exact g
theorem KT.repl{H:Hp}{kvs:List (List aD×V)}{xs:List (List aD×Addr×Ac)}(r:KT H kvs xs)(k:List aD){y:V}{u:Ac}(d:RelV y u) :
  KT H (kvs.map fun b=>if b.1=k then(b.1,y) else b) (xs.map (putAt k u)):=by
 induction r with
 | nil=>exact .nil
 | @cons p q ps i h t g=>
  rw[Ar,Ar]
  refine .cons ?_ g
  obtain⟨a,c,f⟩:=h
  unfold putAt
  by_cases e:p.1=k
  ·rw[if_pos e,if_pos (a.symm.trans e)];exact⟨a,c,d⟩
  ·rw[if_neg e,if_neg (fun z=>e (a.trans z))];exact⟨a,c,f⟩
theorem KT.put{H:Hp}{kvs:List (List aD×V)}{xs:List (List aD×Addr×Ac)}(r:KT H kvs xs)(k:List aD){b:Addr}{y:V}{u:Ac}(hb:H b=some (.tup (k.map kV)))(a:RelV y u) :
  KT H (eI kvs k y) (Nn xs k b u):=by
 have e:(kvs.any fun c=>decide (c.1=k))=(Nf xs k).isSome:=by
  rw[BG,(r.val k).isSome_eq,Option.isSome_map]
 unfold eI Nn
 rw[e]
 by_cases q:(Nf xs k).isSome=true
 ·rw[if_pos q,if_pos q];exact r.repl k a
 ·rw[if_neg q,if_neg q];exact Paired.snoc r ⟨rfl,hb,a⟩
theorem KT.keeps{H a:Hp}{kvs:List (List aD×V)}{xs:List (List aD×Addr×Ac)}(r:KT H kvs xs)(ht:∀ b ys,H b=some (.tup ys)->a b=some (.tup ys)):KT a kvs xs:=
 Paired.mapP r fun _ _ z=>⟨z.1,ht _ _ z.2.1,z.2.2⟩
section
variable {P:Bl}{w:Cd}{H:Hp}{h:Heap}{a:Addr}
theorem u7{u:HO}(ok:cJ P w H h)(e:Rd H a u):cN P w H h a u:=e.ok ok
theorem lD{kvs:List (aD×V)}(ok:cJ P w H h)(e:Rd H a (.dK kvs)):kvs.length<=Aj/\(a == Gm)=false/\∃ vs,KV kvs vs/\h.DictOf (dA P w) a vs:=
 show cN P w H h a (.dK kvs) from u7 ok e
theorem PU{kvs:List (aD×V)}(ok:cJ P w H h)(e:H a=some (.dK kvs)):kvs.length<=Aj/\(a == Gm)=false/\∃ vs,KV kvs vs/\h.DictOf (dA P w) a vs:=lD ok (.inl e)
theorem jI{ks:List aD}(ok:cJ P w H h)(e:H a=some (.tup (ks.map kV))):(Gk (dA P w)).is h ks a:=by
 obtain⟨_,its,r,o,b,d,n,c⟩:=(show cN P w H h a (.tup (ks.map kV)) from ok a _ e)
 exact⟨o,its.toArray,n,b,d,c,by simpa using BH r⟩
theorem mB{kvs:List (List aD×V)}(ok:cJ P w H h)(e:Rd H a (.dT kvs)):kvs.length<=Aj/\(a == Gm)=false/\
  ∃ xs,KT H kvs xs/\h.DictOfH (Gk (dA P w)) a xs:=by
 obtain⟨z,y,xs,r,o,es,ep,g,i,j,d,f⟩:=(show cN P w H h a (.dT kvs) from u7 ok e)
 refine⟨z,y,xs,r,o,es,ep,g,i,j,d,fun x b=>?_,f⟩
 have all:∀ {l:List (List aD×V)} {m:List (List aD×Addr×Ac)},KT H l m->∀ x∈m,(Gk (dA P w)).is h x.1 x.2.1:=by
  intro l m q
  induction q with
  | nil=>intro x b;exact nomatch b
  | @cons p q ps n c t k=>
   intro x b
   rcases Ba.mp b with e | b
   ·subst e
    exact jI ok (by rw[<-c.1];exact c.2.1)
   ·exact k x b
 exact all r x b
theorem u9{kvs:List (List aD×V)}(ok:cJ P w H h)(e:H a=some (.dT kvs)):kvs.length<=Aj/\(a == Gm)=false/\
  ∃ xs,KT H kvs xs/\h.DictOfH (Gk (dA P w)) a xs:=mB ok (.inl e)
end
def gF(H:Hp)(a:Addr)(y:V)(r:Option V):Prop:=
 (∃ kvs k,Rd H a (.dK kvs)/\y=kV k/\r=fL kvs k)\/∃ kvs k b,Rd H a (.dT kvs)/\y=.ref b/\H b=some (.tup (k.map kV))/\r=fL kvs k
def lE(H:Hp)(a:Addr)(y v:V)(c:Hp):Prop:=
 (∃ kvs k,H a=some (.dK kvs)/\y=kV k/\kvs.length < Aj/\c=aN H a (.dK (eI kvs k v)))\/
 ∃ kvs k b,H a=some (.dT kvs)/\y=.ref b/\H b=some (.tup (k.map kV))/\kvs.length < Aj/\c=aN H a (.dT (eI kvs k v))
theorem lE.k{H:Hp}{a:Addr}{kvs:List (aD×V)}{k:aD}{v:V}(e:H a=some (.dK kvs))(hl:kvs.length < Aj):lE H a (kV k) v (aN H a (.dK (eI kvs k v))):=.inl ⟨kvs,k,e,rfl,hl,rfl⟩
theorem lE.t{H:Hp}{a b:Addr}{kvs:List (List aD×V)}{k:List aD}{v:V}(e:H a=some (.dT kvs))(eb:H b=some (.tup (k.map kV)))(hl:kvs.length < Aj) :
  lE H a (.ref b) v (aN H a (.dT (eI kvs k v))):=.inr ⟨kvs,k,b,e,rfl,eb,hl,rfl⟩
section
variable {X:Cx}{pins:List (Addr×Obj)}{σ:St}{H:Hp}{s:Ah}{a:Addr}{y v:V}{u r:Ac}{o:Option V}{A:Bu}{E:Ac->Ah->Prop}
theorem Inv.big(I:Inv X pins σ H s):Gm < s.heap.objs.size:=by
 have h:El < s.heap.objs.size:=(I.mod.glob.keeps I.bk).lt
 exact Hh (by decide) h
theorem PV{Q:Ac->Ah->Prop}(t:A.units + 1 < Fz)(I:Inv X pins σ H s)(g:gF H a y (some v))(n:RelV y u)(h:∀ f q,Inv X pins σ H q->RelV v f->Q f q) :
  Ax (Bk X.prog X.w) A (getItem (.ref a) u) Q E s:=by
 rcases g with⟨kvs,k,e,m,l⟩ | ⟨kvs,k,b,e,m,eb,l⟩
 ·subst m
  obtain⟨z,hd,vs,c,i⟩:=lD I.hok e
  obtain⟨f,hw,d⟩:=fD.some_of (v:=v) (o:=valueAt vs k) (by rw[l];exact c.val k)
  exact wpAny_getItem_of (lC n) i.mapOf hw (h f _ (I.tok _) d)
 ·subst m
  cases (show u=Value.ref b from n)
  obtain⟨z,hd,xs,c,i⟩:=mB I.hok e
  obtain⟨f,hw,d⟩:=fD.some_of (v:=v) (o:=(Nf xs k).map (·.2)) (by rw[l];exact c.val k)
  obtain⟨p,r,j⟩:=Bn.mp hw
  refine wpAny_getItem_heap (Fi t) (jI I.hok eb) i r ?_
  rw[j]
  exact h f _ (I.tok _) d
theorem PX{Q:Ac->Ah->Prop}(m:A.units + 1 < Fz)(I:Inv X pins σ H s)(g:gF H a y o)(i:RelV y u)(h:∀ j,Inv X pins σ H j->Q (.bool o.isSome) j) :
  Ax (Bk X.prog X.w) A (Cf .In u (.ref a)) Q E s:=by
 rcases g with⟨kvs,k,e,f,l⟩ | ⟨kvs,k,b,e,f,eb,l⟩
 ·subst f
  obtain⟨z,hd,vs,c,d⟩:=lD I.hok e
  refine wpAny_in_of (lC i) hd d.mapOf ?_
  rw[<-(c.val k).isSome_eq,<-l]
  exact h _ (I.tok _)
 ·subst f
  cases (show u=Value.ref b from i)
  obtain⟨z,hd,xs,c,d⟩:=mB I.hok e
  refine wpAny_in_heap (Fi m) (jI I.hok eb) hd d ?_
  have q:=(c.val k).isSome_eq
  rw[Option.isSome_map] at q
  rw[<-q,<-l]
  exact h _ (I.tok _)
theorem PY{Q:Ac->Ah->Prop}(m:A.units + 1 < Fz)(I:Inv X pins σ H s)(g:gF H a y o)(i:RelV y u)(h:∀ j,Inv X pins σ H j->Q (.bool (!o.isSome)) j) :
  Ax (Bk X.prog X.w) A (Cf .NotIn u (.ref a)) Q E s:=by
 rcases g with⟨kvs,k,e,f,l⟩ | ⟨kvs,k,b,e,f,eb,l⟩
 ·subst f
  obtain⟨z,hd,vs,c,d⟩:=lD I.hok e
  refine wpAny_notIn_of (lC i) hd d.mapOf ?_
  rw[<-(c.val k).isSome_eq,<-l]
  exact h _ (I.tok _)
 ·subst f
  cases (show u=Value.ref b from i)
  obtain⟨z,hd,xs,c,d⟩:=mB I.hok e
  refine wpAny_notIn_heap (Fi m) (jI I.hok eb) hd d ?_
  have q:=(c.val k).isSome_eq
  rw[Option.isSome_map] at q
  rw[<-q,<-l]
  exact h _ (I.tok _)
theorem rA{h':Heap}{t':Nat}{ob:HO}(I:Inv X pins σ H s)(d:oJ (H a))(hs:Dx a s.heap h')(c:∃ q,h'.get? a=some q)(new:cN X.prog X.w (aN H a ob) h' a ob) :
  Inv X pins σ (aN H a ob) {s with heap:=h',toks:=t'}:=
 I.write (x:=a) (e:=a) d (.inl rfl) (fun b q hb z=>(hs.2 b hb).trans z) c new
theorem PZ{P:Bl}{w:Cd}{c:Hp}{h':Heap}{kvs:List (aD×V)}{vs:List (aD×Ac)}(z:kvs.length<=Aj)(hd:(a == Gm)=false)(b:KV kvs vs)(d:h'.DictOf (dA P w) a vs) :
  cN P w c h' a (.dK kvs):=⟨z,hd,vs,b,d⟩
theorem P0{o:Hp}{Q:Unit->Ah->Prop}(J:A.units + 1 < Fz)(I:Inv X pins σ H s)(g:lE H a y v o)(p:RelV y u)(t:RelV v r)(h:∀ B,Inv X pins σ o B->Q () B) :
  Ax (Bk X.prog X.w) A (setItem (.ref a) u r) Q E s:=by
 rcases g with⟨kvs,k,e,n,l,m⟩ | ⟨kvs,k,b,e,n,eb,l,m⟩
 ·subst n m
  obtain⟨z,hd,vs,d,j⟩:=PU I.hok e
  have hz:vs.length<=Aj:=by rw[<-d.length];exact z
  have hl:(eI kvs k v).length<=Aj:=by have:=oT kvs k v;lia
  refine wpAny_setItem_pairs (hsz:=hz) (lC p) j fun h' f hs=>h _ ?_
  have F:∃ q,h'.get? a=some q:=let ⟨q,_,_,i,_⟩:=f;⟨q,i⟩
  exact rA I (by rw[e];exact True.intro) hs F (PZ hl hd (d.put k t) f)
 ·subst n m
  cases (show u=Value.ref b from p)
  obtain⟨z,hd,xs,d,j⟩:=u9 I.hok e
  have hz:xs.length<=Aj:=by rw[<-Eo d];exact z
  have hl:(eI kvs k v).length<=Aj:=by have:=oT kvs k v;lia
  refine wpAny_setItem_heap (hsz:=hz) (Fi J) (jI I.hok eb) j fun h' f hs=>h _ ?_
  obtain⟨q,es,ep,i,K,C,D,_,G⟩:=f
  refine rA I (by rw[e];exact True.intro) hs ⟨q,i⟩ ⟨hl,hd,_,(d.put k eb t).keeps fun c ys x=>?_,q,es,ep,i,K,C,D,G⟩
  rw[bK (uQ x e (fun z=>nomatch z))]
  exact x
end
section
variable {X:Cx}{pins:List (Addr×Obj)}{σ:St}{H:Hp}{s:Ah}{a:Addr}{kvs:List (aD×V)}{k:aD}{u:Ac}{A:Bu}{E:Ac->Ah->Prop}
theorem P1{Q:Ac->Ah->Prop}(I:Inv X pins σ H s)(e:Rd H a (.dK kvs))(h:∀ t c,Inv X pins σ H c->Q (.int kvs.length t) c):Ax (Bk X.prog X.w) A (call (.builtin "len") [.ref a]) Q E s:=by
 obtain⟨z,hd,vs,b,d⟩:=lD I.hok e
 refine call_len_dict hd d (by rw[<-b.length];rw[Hl] at z;lia) ?_
 rw[<-b.length]
 exact h _ _ (I.tok _)
end
theorem P2{X:Cx}{pins:List (Addr×Obj)}{σ:St}{H:Hp}{s:Ah}{a:Addr}{y:V}{o:Option V}(I:Inv X pins σ H s)(g:gF H a y o):s.TypeIs (.ref a) "dict":=by
 rcases g with⟨kvs,k,e,_,_⟩ | ⟨kvs,k,b,e,_,_,_⟩
 ·obtain⟨_,_,vs,_,c⟩:=lD I.hok e
  exact c.typeIs
 ·obtain⟨_,_,xs,_,c⟩:=mB I.hok e
  exact c.typeIs
section
variable {X:Cx}{o i e value:Expr}{pos pos' tpos:Pos}{td ty tv:TE}
end
theorem P4{P:Bl}{w:Cd}{H:Hp}(h:Heap)(hb:Gm < h.objs.size):cN P w H (h.push {cls:=.type "dict",data:=.dict #[]}) h.objs.size (.dK []):=
 ⟨Bx _,beq_eq_false_iff_ne.mpr (Bq (Be hb)),[],.nil,Heap.DictOf.new h⟩
theorem P5{P:Bl}{w:Cd}{H:Hp}(h:Heap)(hb:Gm < h.objs.size):cN P w H (h.push {cls:=.type "dict",data:=.dict #[]}) h.objs.size (.dT []):=
 ⟨Bx _,beq_eq_false_iff_ne.mpr (Bq (Be hb)),[],.nil,_,#[],0,Ap _ rfl,⟨rfl,rfl,rfl⟩,rfl,rfl,Fy⟩
def P6:TE:=fun _ H Q=>∀ p,H p=none->Q (.ref p) (aN H p (.dK []))
def P7:TE:=fun _ H Q=>∀ p,H p=none->Q (.ref p) (aN H p (.dT []))
section
variable {X:Cx}{pos:Pos}
theorem P8:PE X (.Dict [] [] pos) P6:=fun pins s σ H Q I h=>
 wpAny_Dict_empty ⟨.ref s.heap.objs.size,_,I.laid (a:=s.heap.objs.size) (o:=.dK []) (t':=s.toks) (fun _ _ q=>Af _ q) (Ai _) (P4 s.heap I.big),rfl,h _ (I.hok.fresh (Ai _))⟩
theorem P9:PE X (.Dict [] [] pos) P7:=fun pins s σ H Q I h=>
 wpAny_Dict_empty ⟨.ref s.heap.objs.size,_,I.laid (a:=s.heap.objs.size) (o:=.dT []) (t':=s.toks) (fun _ _ q=>Af _ q) (Ai _) (P5 s.heap I.big),rfl,h _ (I.hok.fresh (Ai _))⟩
end
section
variable {X:Cx}{pins:List (Addr×Obj)}{σ:St}{H:Hp}{s:Ah}{a:Addr}{y d:V}{u r:Ac}{o:Option V}{A:Bu}{E:Ac->Ah->Prop}
theorem BI{Q:Ac->Ah->Prop}(n:A.units + 1 < Fz)(I:Inv X pins σ H s)(g:gF H a y o)(i:RelV y u)(h:∀ j m,Inv X pins σ H m->RelV (o.getD .non) j->Q j m) :
  Ax (Bk X.prog X.w) A (call (.builtin "dict.get") [.ref a,u]) Q E s:=by
 rcases g with⟨kvs,k,e,f,l⟩ | ⟨kvs,k,b,e,f,eb,l⟩
 ·subst f
  obtain⟨z,hd,vs,c,d⟩:=lD I.hok e
  refine Lu Kg d.typeIs Jz (PySem.F.args_dict_get_2 _ _) (meets_dict_get (dA X.prog X.w) a (lC i) hd) ⟨_,d.mapOf,h _ _ (I.tok _) ?_⟩
  rw[l]
  exact(c.val k).getD rfl
 ·subst f
  cases (show u=Value.ref b from i)
  obtain⟨z,hd,xs,c,d⟩:=mB I.hok e
  refine Lu Kg d.typeIs Jz (PySem.F.args_dict_get_2 _ _) (meetsH_dict_get (Gk (dA X.prog X.w)) a b hd) ⟨Fi n,k,xs,jI I.hok eb,d,h _ _ (I.tok _) ?_⟩
  rw[l]
  exact(c.val k).getD rfl
theorem BJ{Q:Ac->Ah->Prop}(q:A.units + 1 < Fz)(I:Inv X pins σ H s)(g:gF H a y o)(j:RelV y u)(n:RelV d r)(h:∀ m p,Inv X pins σ H p->RelV (o.getD d) m->Q m p) :
  Ax (Bk X.prog X.w) A (call (.builtin "dict.get") [.ref a,u,r]) Q E s:=by
 rcases g with⟨kvs,k,e,i,l⟩ | ⟨kvs,k,b,e,i,eb,l⟩
 ·subst i
  obtain⟨z,hd,vs,c,f⟩:=lD I.hok e
  refine Lu Kg f.typeIs Jz (PySem.F.args_dict_get_3 _ _ _) (meets_dict_get_default (dA X.prog X.w) a (lC j) hd r) ⟨_,f.mapOf,h _ _ (I.tok _) ?_⟩
  rw[l]
  exact(c.val k).getD n
 ·subst i
  cases (show u=Value.ref b from j)
  obtain⟨z,hd,xs,c,f⟩:=mB I.hok e
  refine Lu Kg f.typeIs Jz (PySem.F.args_dict_get_3 _ _ _) (meetsH_dict_get_default (Gk (dA X.prog X.w)) a b hd r) ⟨Fi q,k,xs,jI I.hok eb,f,h _ _ (I.tok _) ?_⟩
  rw[l]
  exact(c.val k).getD n
end
section
variable {X:Cx}{o e f:Expr}{apos cpos:Pos}{td ty tx:TE}
end
section
variable {X:Cx}{pins:List (Addr×Obj)}{σ:St}{H:Hp}{s:Ah}{a:Addr}{kvs:List (aD×V)}{A:Bu}{E:Ac->Ah->Prop}
end
section
variable {X:Cx}{pins:List (Addr×Obj)}{σ:St}{H:Hp}{s:Ah}{a:Addr}{y:V}{u:Ac}{A:Bu}{E:Ac->Ah->Prop}
end
end L2
namespace Att
open PySem PySem.W PySem.Calls PyProof.Rows
theorem QA{P:Params}{h:Heap}:∀ (ns:List Int) (vs:List Ac),WellAll P h vs (ns.map WData.int)->Iv vs ns:=by
 intro ns
 induction ns with
 | nil=>
  intro vs w
  rw[Kh] at w
  cases w
  exact .nil
 | cons n ns c=>
  intro vs w
  rw[Ar] at w
  cases w with
  | cons a b=>
   cases a
   exact .cons _ _ (c _ b)
theorem QB{l:OpenLaw}{n:Nat}(p:l.most=some n){P:Params}{h:Heap}{args:List WData}{vals:List Ac}
  (b:l.row.toRowW.claim.pre args=true) (j:WellAll P h vals args) :
  ∃ a vs ns,vals=[Value.ref a]/\args=[WData.list (ns.map WData.int)]/\h.get? a=some {cls:=.type "list",data:=.seq vs.toArray}/\Iv vs ns/\ns.length<=n:=by
 have i:WShape.hasAll [] args [.list .int]=true:=(pre_splitW b).1
 have hc:l.pre.holds [] {args:=args} = true:=(pre_splitW b).2
 obtain⟨d,r,rfl,o,t⟩:=hasAllW_cons i
 obtain rfl:=hasAllW_nil t
 obtain⟨xs,rfl,s⟩:=hasW_list o
 obtain⟨ns,rfl⟩:=items_int s
 have e:ns.length<=n:=by
  unfold OpenLaw.pre at hc
  have f:(WTm.not (.lt (.lit (.int (n:Int))) (.len (.arg 0)))).holds [] {args:=[.list (ns.map .int)]} = true:=by
   have f:=(holds_andW hc).1
   rw[p] at f
   exact f
  have g:=condW_of f (w_not (w_lt w_lit (w_len_list (w_arg rfl))))
  rw[Ab] at g
  refine Nat.le_of_not_lt fun q=>?_
  have m:(n:Int) < ((ns.length:Nat):Int):=by lia
  first
   | (rw[decide_eq_true m] at g;exact absurd g (by decide))
   | (simp at g;lia)
 cases j with
 | cons v k=>
  cases k
  cases v with
  | list u c=>exact⟨_,_,ns,rfl,rfl,u,QA ns _ c,e⟩
theorem QC(l:OpenLaw)(args:List WData):l.row.toRowW.claim.post args (.bool true) args=true:=
 postW_of (r:=l.row.toRowW) (X:=(true == true))
  (show WShape.has [] (.bool true) .bool=true by first | rfl | decide | simp[WShape.has,WShape.arms,WShape.armsAll])
  (show(WTm.eq .res (.lit (.bool true))).value [] {args:=args,res:=some (.bool true),after:=args} = some (.bool (true == true)) from w_eq_bool (w_res rfl) w_lit) rfl
theorem attach_call{l:OpenLaw}{n:Nat}{q:Bl}{loose:List Str}{XP:(Str->Option Ac)->Heap->Prop}{YP:Cd->Heap->Prop}{d:DefRec}
  (B:l.most=some n) (t:d.params.defaults=[])
  (call:∀ (w:Cd) (s₀ b:Ah) (mg mb:Str->Option Ac) (g:Addr) (o:Obj) (pm k c:Ac) (a:Addr) (vs:List Ac) (ns:List Int),
   Ground q loose [] XP w s₀ mg mb b.heap->YP w b.heap->
   b.heap.get? g=some o->o.data=.func (docDef d.name d.params d.body d.scope pm k c)->b.heap.CodeRec k d.name->mg d.name=some (.ref g)->
   b.heap.get? a=some {cls:=.type "list",data:=.seq vs.toArray}->Iv vs ns->ns.length<=n->b.gens = #[]->
   Jv (Bk l.prog w) callerA (.call (.ref g) ⟨[.ref a],[]⟩) (fun r m=>r=.ok (.ret (.bool true))/\OldK b.heap m.heap/\m.os=b.os/\Nt m.gens) b) :
  WalkO q loose XP YP l.row.toRowW d [] (fun f vs=>PySem.call f vs):=by
 intro w s₀ b mg mb G Y g o pm k c dV kV C hd u x s H args vals J h v F p D
 obtain rfl:dV=.none:=Dflts.none x t
 obtain rfl:kV=.none:=Dflts.noKw x
 obtain⟨a,vs,ns,rfl,rfl,j,e,i⟩:=QB B h p
 refine enter_call (Ks (call w s₀ b mg mb g o pm k c a vs ns G Y C (fd_plain hd) u s j e i H) fun r m A=>?_)
 obtain⟨rfl,z,I,y⟩:=A
 exact⟨.inl ⟨.bool true,.bool true,[],rfl,fun _=>rfl,.bool true,QC l _,fun _=>⟨List.Pairwise.nil,fun _ E=>(nomatch E)⟩⟩,z,I,y⟩
section
variable {prog:Bl}{w:Cd}{A:Bu}{E:Ac->Ah->Prop}{s:Ah}{K:Frag}
end
end Att
namespace L2
open PySem PySem.Spec PyProof.Rows
theorem BK:∀ {vs:List Ac} {ns:List Int},Iv vs ns->aQ (ns.map V.int) vs
 | _,_,.nil=>.nil
 | _,_,.cons n t h=>.cons ⟨t,rfl⟩ (BK h)
def rB(H:Hp):Prop:=∀ b,H b=none\/∃ o xs,H b=some (.frz o (.lst xs))
theorem QD{P:Bl}{w:Cd}{K:Ae}{mg mb:Str->Option Ac}{CX:iW}{k:Nat}{fa a:Addr}{fd:Br}{x:Str}{sp:Sp}{s₁:Ah}{vs:List Ac}{ns:List Int}
  (KX:K.In s₁.heap) (hns:s₁.heap.Ns El mg) (hb:s₁.heap.Ns builtinsNs mb) (hbb:∀ x:Str,x≠"__name__"->mb x=Cv x) (hlim:s₁.heap.NoLimit) (hg:s₁.gens = #[])
  (ha:s₁.heap.get? a=some {cls:=.type "list",data:=.seq vs.toArray}) (hi:Iv vs ns) (hl:ns.length<=Aj) (hr:cF k callerA)
  (F:∀ base:Heap,K.In base->base.Ns El mg->eW P w K mg base CX k fa fd [x] sp) (hbind:∀ (s:Ah) (u:Ac),BindsTo s fd ⟨[u],[]⟩ [(x,u)])
  (hsp:∀ H:Hp,rB H->bC K H a (ns.map V.int)->sp [.ref a] H (fun v _=>v=.bl true) fun _ _ _=>False)
  (hCX:∀ H e s',CX [] H s₁ (fun _ _ _=>False) e s'->False) :
  Jv (Bk P w) callerA (.call (.ref fa) ⟨[.ref a],[]⟩) (fun r s'=>r=.ok (.ret (.bool true))/\OldK s₁.heap s'.heap/\s'.os=s₁.os/\Nt s'.gens) s₁:=by
 have rv:=BK hi
 have lenV:=hi.length
 have core:∀ H:Hp,rB H->bC K H a (ns.map V.int)->cJ P w H s₁.heap->(∀ b,H b≠none->b=a)->(H a≠none->K.lookup a=none)->
   Jv (Bk P w) callerA (.call (.ref fa) ⟨[.ref a],[]⟩) (fun r s'=>r=.ok (.ret (.bool true))/\OldK s₁.heap s'.heap/\s'.os=s₁.os/\Nt s'.gens) s₁:=by
  intro H hO hS hok hA hK
  have base_of:∀ {b:Addr} {o:Obj},s₁.heap.get? b=some o->H b=none->(j9 s₁.heap H).get? b=some o:=fun e n=>J1 e n
  have noA:∀ {b:Addr} {o:Obj} {es:Array Ig} {ep:Nat},s₁.heap.get? b=some o->o.data=.dict es ep->H b=none:=fun {b o es ep} e d=>by
   cases q:H b with
   | none=>rfl
   | some u=>
    have e':b=a:=hA b (by rw[q];simp)
    subst e'
    rw[ha] at e;cases e
    have d':Data.seq vs.toArray _=Data.dict es ep:=d
    cases d'
  have nsK:∀ {b:Addr} {m:Str->Option Ac},s₁.heap.Ns b m->(j9 s₁.heap H).Ns b m:=fun {b m} ⟨o,es,ep,e,d,r⟩=>⟨o,es,ep,base_of e (noA e d),d,r⟩
  have hKb:K.In (j9 s₁.heap H):=fun b o e=>base_of (KX b o e) (by
   cases q:H b with
   | none=>rfl
   | some u=>
    have e':b=a:=hA b (by rw[q];simp)
    subst e'
    rw[hK (by rw[q];simp)] at e;cases e)
  have hM:Mod K mg (j9 s₁.heap H):=⟨hKb,nsK hns,⟨mb,nsK hb,hbb⟩,let ⟨mc,h1,h2⟩:=hlim;⟨mc,nsK h1,h2⟩⟩
  have e0:l8 P w K mg (j9 s₁.heap H) callerA [] s₁ H:=⟨rfl,hM,fun b o e=>J2 e,Fe (J0 _ _),trivial,fun b hb=>absurd (show b∈([]:List Addr) from hb) (by simp),hok,.of_eq hg⟩
  refine Ks ((F _ hKb (nsK hns)).run callerA [] s₁ H ⟨[.ref a],[]⟩ [.ref a] [.ref a] _ _ hr e0 (hbind s₁ (.ref a)) (.cons rfl .nil) (hsp H hO hS)) fun r s' h=>?_
  cases r with
  | error e=>exact(hCX H e s' h).elim
  | ok fl=>
   cases fl with
   | next=>exact Gu h
   | brk=>exact Gu h
   | cont=>exact Gu h
   | ret u=>
    obtain⟨v,H',os,bare,un,hok',r',q⟩:=h
    have q':v=.bl true:=q
    subst q'
    obtain rfl:u=Value.bool true:=r'
    refine⟨rfl,OldK.of_keep fun b o e=>?_,os,bare⟩
    cases q:H b with
    | none=>exact un.keep b o e q (by intro z;exact absurd (show b∈([]:List Addr) from z) (by simp)) (by simp)
    | some u=>
     rcases hO b with z | ⟨ob,xs,z⟩
     ·rw[q] at z;cases z
     ·have z2:=un.frzs b ob _ z
      obtain⟨e1,_⟩:=hok b _ z
      obtain⟨e2,_⟩:=hok' b _ z2
      rw[e] at e1;cases e1
      exact e2
 cases hk:K.lookup a with
 | some o=>
  have e:=KX a o hk
  rw[ha] at e
  cases e
  refine core (fun _=>none) (fun _=>.inl rfl) (.inr ⟨_,vs.toArray,_,hk,rfl,rfl,rfl,by rw[Bb,lenV];exact hl,by simpa using rv⟩) (fun b u z=>by have z':(none:Option HO)=some u:=z;cases z') (fun b z=>absurd rfl z) fun z=>absurd rfl z
 | none=>
  refine core (fun b=>if b=a then some (.frz {cls:=.type "list",data:=.seq vs.toArray} (.lst (ns.map V.int))) else none) (fun b=>?_) (.inl (.inr ⟨{cls:=.type "list",data:=.seq vs.toArray},if_pos rfl⟩)) (fun b u z=>?_) (fun b z=>?_) fun _=>hk
  ·by_cases hb:b=a
   ·exact .inr ⟨_,_,if_pos hb⟩
   ·exact .inl (if_neg hb)
  ·by_cases hb:b=a
   ·have z':=(if_pos hb).symm.trans z
    cases z'
    subst hb
    exact⟨ha,by rw[Ab];exact hl,vs,_,rv,ha⟩
   ·have z':=(if_neg hb).symm.trans z
    cases z'
  ·by_cases hb:b=a
   ·exact hb
   ·exact absurd (if_neg hb) z
theorem QE{l:PySem.W.OpenLaw}{n k:Nat}{q:Bl}{loose:List Str}{XP:(Str->Option Ac)->Heap->Prop}{YP:Cd->Heap->Prop}{d:DefRec}{K:Params->Ae}{CX:Cd->iW}{sp:Cd->Sp}{x:Str}
  (L:l.most=some n) (r:n<=Aj) (z:d.params.defaults=[]) (D:cF k callerA)
  (M:∀ (w:Cd) (h:Heap),YP w h->(K w.params).In h)
  (F:∀ (w:Cd) (mg:Str->Option Ac) (p:Addr) (h:Heap),(K w.params).In h->h.Ns El mg->mg d.name=some (.ref p)->
   ∃ fd:Br,(∀ (s:Ah) (u:Ac),BindsTo s fd ⟨[u],[]⟩ [(x,u)])/\
    ∀ base:Heap,(K w.params).In base->base.Ns El mg->eW l.prog w (K w.params) mg base (CX w) k p fd [x] (sp w))
  (y:∀ (w:Cd) (H:Hp) (a:Addr) (ns:List Int),ns.length<=n->rB H->bC (K w.params) H a (ns.map V.int)->sp w [.ref a] H (fun v _=>v=.bl true) fun _ _ _=>False)
  (B:∀ (w:Cd) (H:Hp) (s:Ah) (e:Ac) (A:Ah),CX w [] H s (fun _ _ _=>False) e A->False) :
  PySem.W.WalkO q loose XP YP l.row.toRowW d [] (fun f vs=>PySem.call f vs):=by
 refine Att.attach_call L z fun w s₀ j mg mb p o pm R J a vs ns G Y Q hd P t m i c N=>?_
 have C:=M w _ Y
 obtain⟨fd,hb,E⟩:=F w mg p _ C G.T.g t
 exact QD C G.T.g G.T.b G.T.builtins G.T.nolimit N m i (Bh c r) D E hb (fun H O I=>y w H a ns c O I) fun H e A=>B w H j e A
def jJ(s:Stmt)(j:Nat):Stmt:=match s with
 | .ClassDef _ _ _ a _ _ _ _ _ _ _=>a.getD j (.Pass ⟨0,0,0,0⟩)
 | _=>.Pass ⟨0,0,0,0⟩
def iL(s:Stmt):Arguments:=match s with
 | .FunctionDef _ a _ _ _ _ _ _ _ _=>a
 | _=>{posonlyargs:=[],args:=[],vararg:=none,kwonlyargs:=[],kw_defaults:=[],kwarg:=none,defaults:=[]}
def gH(s:Stmt):List Stmt:=match s with
 | .FunctionDef _ _ b _ _ _ _ _ _ _=>b
 | _=>[]
def eP(s:Stmt):Kf:=match s with
 | .FunctionDef _ _ _ _ _ _ sc _ _ _=>sc
 | _=>{kind:=.function,names:=[],isGenerator:=false,isCoroutine:=false}
abbrev fY:iW:=fun _ _ _ _ _ _=>False
abbrev E0:XK:=fun _ _ _=>False
theorem oU{X:Cx}:k9 fY X E0:=fun _ _ _ _ _ _ _ h=>h.elim
structure jK(K:Ae)(x qual:Str)(st:Stmt)(f:Addr)(fd:Br):Prop where
 ex:∃ (oc:Ac) (od:Option Addr) (kV doc pm:Ac) (an:Option Addr) (cdv ct:Ac) (osl:Array (Option Ac)),
  fd=Fb x qual (iL st) (gH st) (eP st) .none kV doc pm an cdv ct/\K.lookup f=some ⟨oc,od,.func fd,osl⟩/\Jy K cdv qual=true
 kp:Fw K (.ref f)=true
section
variable {P:Bl}{w:Cd}{K:Ae}{mg:Str->Option Ac}{base:Heap}
theorem jK.ok{x a:Str}{st:Stmt}{f:Addr}{fd:Br}{N ps:List Str}{k:Nat}{sp:Sp}(F:jK K x a st f fd)(S:nF N ps (eP st))(len:∀ vs H Q E,sp vs H Q E->vs.length=ps.length)
  (c:∀ (b:Ac) (A:Bu) (outer:List Env) (s:Ah) (H:Hp) (vs:List V) (Q:VK) (E:XK),cF k (A.deeper (Mw a (eP st) s.heap.objs.size f b))->sp vs H Q E->
   ∃ t,fI (lA fY P w K mg base N a (eP st) f b A outer s H E).nox (gH st) t/\t {nx:=fun _ g=>Q .non g,rt:=Q} (start N vs) H):eW P w K mg base fY (k + 1) f fd ps sp:=by
 obtain⟨p,n,kV,j,pm,o,b,ct,m,rfl,i,e⟩:=F.ex
 refine N5 i e S len fun A outer s H vs Q E l d=>?_
 obtain⟨t,h,q⟩:=c b A outer s H vs Q E l d
 exact⟨t,h.nox,q⟩
theorem jK.binds{x a:Str}{st:Stmt}{f:Addr}{fd:Br}{ps:List Str}(F:jK K x a st f fd)
  (h:∀ (kV b pm:Ac) (d:Option Addr) (c ct:Ac) (us:List Ac),us.length=ps.length->bindArgs (Fb x a (iL st) (gH st) (eP st) .none kV b pm d c ct) ⟨us,[]⟩=pure (ps.zip us)):Binds K fd ps []:=by
 obtain⟨k,i,kV,b,pm,d,c,ct,g,rfl,j,e⟩:=F.ex
 exact .all (h kV b pm d c ct)
theorem nG{x a:Str}{st:Stmt}{f:Addr}{i:Ac}{h g:Option Addr}{e:Array (Option Ac)}{kV d pm b ct:Ac}(l:K.lookup f=some ⟨i,h,.func (Fb x a (iL st) (gH st) (eP st) .none kV d pm g b ct),e⟩)
  (c:Jy K b a=true) (k:Fw K (.ref f)=true):jK K x a st f (Fb x a (iL st) (gH st) (eP st) .none kV d pm g b ct):=⟨⟨i,h,kV,d,pm,g,b,ct,e,rfl,l,c⟩,k⟩
end
theorem QF{A:Bu}{k:Nat}(a:cF k A):A.units + 1 < Fz:=Lq (Hr (by decide:1<=64) _) a.units
section
variable {X:Cx}
theorem QG:cU X (.builtin "len") (fun xs H Q=>∃ a kvs,xs=[V.ref a]/\H a=some (.dK kvs)/\Q (.int kvs.length) H):=by
 intro pins s σ H xs us Q I r h
 obtain⟨a,kvs,rfl,ha,q⟩:=h
 obtain⟨u,rfl,c⟩:=vals1 r
 cases c
 exact P1 I (.inl ha) fun t d b=>⟨.int kvs.length,H,b,⟨t,rfl⟩,q⟩
end
theorem QH{A B:Prop}(h:B):if false=true then A else B:=by
 rw[if_neg Ao]
 exact h
theorem QI{A B:Prop}(h:A):if true=true then A else B:=by
 rw[if_pos rfl]
 exact h
section
variable {κ:Type}[DecidableEq κ]
end
end L2
set_option maxHeartbeats 4000000
namespace L2
open PySem PySem.Spec PyProof.Rows
structure jL where
 cl:List (Str×Addr)
 s:Ah
 H:Hp
 fp:List Addr
 C:Addr
def dG(X:Cx)(sc:Kf)(N':List Str)(B:jL):Cx where
 prog:=X.prog
 w:=X.w
 K:=X.K
 mg:=X.mg
 base:=X.base
 A:=X.A
 N:=N'
 s₀:=B.s
 H₀:=B.H
 env:=compEnvC sc B.cl B.C X.env
 outer:=X.stack
 stack:=X.stack
 ex:=B.fp
 fn:=fun _=>false
 calm:=X.calm
 pn:=[]
 xe:=fun _ _=>False
def fQ(cells:List (Str×Addr)):List (Str×Jo)->List (Str×Addr)->List (Str×Addr)
 | [],acc=>acc
 | (n,k) :: r,acc=>if k=.free then fQ cells r ((n,(cells.lookup n).getD 0) :: acc) else fQ cells r acc
theorem BL{scope:Kf}{env:Env}(h:∀ y∈scope.names,y.2=.free->∃ c,env.cells.lookup y.1=some c):closureFor scope env=pure (fQ env.cells scope.names []):=by
 have key:∀ (names:List (Str×Jo)) (acc:List (Str×Addr)),(∀ y∈names,y.2=.free->∃ c,env.cells.lookup y.1=some c)->
   (forIn names acc fun(x:Str×Jo) (cs:List (Str×Addr))=>(if (x.2 == NameKind.free)=true then(do let a <-cellOf env x.1;pure (ForInStep.yield ((x.1,a) :: cs))) else pure (ForInStep.yield cs):Sem (ForInStep (List (Str×Addr)))))=(pure (fQ env.cells names acc):Sem _):=by
  intro names
  induction names with
  | nil=>intro acc _;rfl
  | cons y r ih=>
   intro acc hy
   obtain⟨n,k⟩:=y
   rw[List.forIn_cons]
   by_cases hk:k=.free
   ·subst hk
    obtain⟨c,hc⟩:=hy (n,.free) Bg rfl
    have e1:cellOf env n=(pure c:Sem Addr):=by
     unfold cellOf
     rw[show env.cells.lookup n=some c from hc]
    simp only[beq_self_eq_true,if_true,e1,pure_bind]
    rw[ih _ fun z hz=>hy z (Bd _ hz)]
    simp only[fQ,if_true]
    rw[show env.cells.lookup n=some c from hc]
    rfl
   ·have hb:(k == NameKind.free)=false:=by simpa using hk
    simp only[hb,Cp,if_false,pure_bind]
    rw[ih _ fun z hz=>hy z (Bd _ hz)]
    simp only[fQ,if_neg hk]
 have e:closureFor scope env=((forIn scope.names [] fun(x:Str×Jo) (cs:List (Str×Addr))=>(if (x.2 == NameKind.free)=true then(do let a <-cellOf env x.1;pure (ForInStep.yield ((x.1,a) :: cs))) else pure (ForInStep.yield cs):Sem (ForInStep (List (Str×Addr))))) >>= fun cs=>pure cs):=by
  unfold closureFor
  rfl
 rw[e,key _ _ h,pure_bind]
theorem vA{cells:List (Str×Addr)}{x:Str}{c:Addr}:∀ {names:List (Str×Jo)} {acc:List (Str×Addr)},(∀ y∈names,y.2=.free->∃ c,cells.lookup y.1=some c)->
  (∀ x c,acc.lookup x=some c->cells.lookup x=some c)->(fQ cells names acc).lookup x=some c->cells.lookup x=some c
 | [],acc,_,ha,e=>ha x c e
 | (n,k) :: r,acc,f,ha,e=>by
  have a:∀ y∈r,y.2=.free->∃ c,cells.lookup y.1=some c:=fun z hz=>f z (Bd _ hz)
  unfold fQ at e
  by_cases hk:k=.free
  ·subst hk
   rw[if_pos rfl] at e
   obtain⟨d,hd⟩:=f (n,.free) Bg rfl
   have hd:cells.lookup n=some d:=hd
   refine vA a (fun z b q=>?_) e
   rw[Ht] at q
   by_cases hz:z=n
   ·subst hz
    rw[beq_self_eq_true,hd] at q
    rw[hd];exact q
   ·have:(z == n)=false:=beq_eq_false_iff_ne.mpr hz
    rw[this] at q
    exact ha z b q
  ·rw[if_neg hk] at e
   exact vA a ha e
theorem rC{cells:List (Str×Addr)}{x:Str}:∀ {names:List (Str×Jo)} {acc:List (Str×Addr)},((x,NameKind.free)∈names\/∃ c,acc.lookup x=some c)->∃ c,(fQ cells names acc).lookup x=some c
 | [],acc,h=>by
  rcases h with h | h
  ·cases h
  ·exact h
 | (n,k) :: r,acc,h=>by
  unfold fQ
  by_cases hk:k=.free
  ·subst hk
   rw[if_pos rfl]
   refine rC ?_
   by_cases a:x=n
   ·subst a
    right
    rw[Ht,beq_self_eq_true]
    exact⟨_,rfl⟩
   ·have hb:(x == n)=false:=beq_eq_false_iff_ne.mpr a
    rcases h with h | ⟨c,h⟩
    ·rcases Ba.mp h with e | h
     ·cases e;exact absurd rfl a
     ·exact .inl h
    ·right
     rw[Ht,hb]
     exact⟨c,h⟩
  ·rw[if_neg hk]
   refine rC ?_
   rcases h with h | h
   ·rcases Ba.mp h with e | h
    ·cases e;exact absurd rfl hk
    ·exact .inl h
   ·exact .inr h
structure mC(N':List Str)(sc osc:Kf):Prop where
 kind:sc.kind=.function
 nd:N'.Nodup
 nocell:∀ y∈sc.names,y.2≠.cell
 loc:∀ y∈sc.names,y.2=.local->sc.names.lookup y.1=some .local
 free:∀ y∈sc.names,y.2=.free->osc.names.lookup y.1=some .cell\/osc.names.lookup y.1=some .free
def mD(N':List Str)(sc a:Kf):Bool:=
 decide (sc.kind=.function) && decide N'.Nodup && sc.names.all (fun y=>decide (y.2≠.cell)) && sc.names.all (fun y=>decide (y.2=.local->sc.names.lookup y.1=some .local)) &&
  sc.names.all (fun y=>decide (y.2=.free->a.names.lookup y.1=some .cell\/a.names.lookup y.1=some .free))
theorem mC.of{N':List Str}{sc a:Kf}(h:mD N' sc a=true):mC N' sc a:=by
 unfold mD at h
 simp only[Cr] at h
 obtain⟨⟨⟨⟨g,f⟩,c⟩,e⟩,d⟩:=h
 exact⟨of_decide_eq_true g,of_decide_eq_true f,fun y b=>of_decide_eq_true (Kn.mp c y b),fun y b=>of_decide_eq_true (Kn.mp e y b),fun y b=>of_decide_eq_true (Kn.mp d y b)⟩
def cmap(js:List (Option Nat))(σ:St):St:=js.map fun o=>o.bind fun j=>(σ[j]?).join
def e8(N' N:List Str)(sc:Kf):List (Option Nat)->List Str->Bool
 | [],[]=>true
 | none :: js,_ :: r=>e8 N' N sc js r
 | some j :: js,x :: r=>decide (N[j]? = some x) && decide (sc.names.lookup x=some .free) && e8 N' N sc js r
 | _,_=>false
theorem vB{N' N:List Str}{sc:Kf}:∀ {js:List (Option Nat)} {r:List Str},e8 N' N sc js r=true->js.length=r.length
 | [],[],_=>rfl
 | none :: js,_ :: r,h=>by
  have:=vB (js:=js) (r:=r) h
  simp[this]
 | some j :: js,x :: r,h=>by
  unfold e8 at h
  rw[Cr] at h
  have:=vB (js:=js) (r:=r) h.2
  simp[this]
 | [],_ :: _,h=>by simp[e8] at h
 | none :: _,[],h=>by simp[e8] at h
 | some _ :: _,[],h=>by simp[e8] at h
theorem vD{N' N:List Str}{sc:Kf}:∀ {js:List (Option Nat)} {r:List Str} {i j:Nat} {x:Str},e8 N' N sc js r=true->js[i]? = some (some j)->r[i]? = some x->N[j]? = some x/\sc.names.lookup x=some .free
 | [],[],i,j,x,_,e,_=>by simp at e
 | none :: js,_ :: r,0,j,x,h,e,_=>by simp at e
 | none :: js,_ :: r,i + 1,j,x,h,e,a=>vD (js:=js) (r:=r) (i:=i) h (by simpa using e) (by simpa using a)
 | some k :: js,y :: r,0,j,x,h,e,a=>by
  unfold e8 at h
  rw[Cr,Cr] at h
  simp at e a
  subst e;subst a
  exact⟨of_decide_eq_true h.1.1,of_decide_eq_true h.1.2⟩
 | some k :: js,y :: r,i + 1,j,x,h,e,a=>by
  unfold e8 at h
  rw[Cr,Cr] at h
  exact vD (js:=js) (r:=r) (i:=i) h.2 (by simpa using e) (by simpa using a)
 | [],_ :: _,_,_,_,h,_,_=>by simp[e8] at h
 | none :: _,[],_,_,_,h,_,_=>by simp[e8] at h
 | some _ :: _,[],_,_,_,h,_,_=>by simp[e8] at h
theorem vE{env:Env}{x:Str}:∀ {names:List (Str×Jo)},(∀ y∈names,y.2≠.cell)->
  (((names.map fun(n,k)=>if (k == NameKind.free && env.scope.kind == .function && env.kindOf n == some .cell) then(n,NameKind.cell) else(n,k)).lookup x=some .cell\/
    (names.map fun(n,k)=>if (k == NameKind.free && env.scope.kind == .function && env.kindOf n == some .cell) then(n,NameKind.cell) else(n,k)).lookup x=some .free)↔names.lookup x=some .free)
 | [],_=>by simp
 | (n,k) :: r,h=>by
  have b:=@vE env x r fun y c=>h y (Bd _ c)
  have hk:k≠.cell:=h (n,k) Bg
  rw[Ar]
  dsimp only
  by_cases a:(x == n)=true
  ·by_cases hc:(k == NameKind.free && env.scope.kind == .function && env.kindOf n == some .cell)=true
   ·rw[if_pos hc]
    simp only[Ht,a]
    have:k=.free:=by
     rw[Cr,Cr] at hc
     exact beq_iff_eq.mp hc.1.1
    simp[this]
   ·rw[if_neg hc]
    simp only[Ht,a]
    constructor
    ·rintro(e | e)
     ·cases e;exact absurd rfl hk
     ·exact e
    ·intro e;exact .inr e
  ·have a:(x == n)=false:=by simpa using a
   by_cases hc:(k == NameKind.free && env.scope.kind == .function && env.kindOf n == some .cell)=true
   ·rw[if_pos hc]
    simp only[Ht,a]
    exact b
   ·rw[if_neg hc]
    simp only[Ht,a]
    exact b
theorem vF{x:Str}{k:Jo}:∀ {names:List (Str×Jo)},names.lookup x=some k->(x,k)∈names:=fun h=>Hk h
section
variable {X:Cx}{sc:Kf}{N':List Str}{js:List (Option Nat)}{pins:List (Addr×Obj)}{σ:St}{H H1:Hp}{s:Ah}{fp:List Addr}{C:Addr}
theorem vG(S:mC N' sc X.env.scope)(I:Inv X pins σ H s):∀ y∈sc.names,y.2=.free->∃ c,X.env.cells.lookup y.1=some c:=fun y a hk=>
 I.ok.has y.1 (S.free y a hk)
theorem QJ(S:mC N' sc X.env.scope)(M:e8 N' X.N sc js N'=true)(I:Inv X pins σ H s)(hf:∀ b∈fp,iA X pins H b)(U:∀ b∈fp,∃ o,s.heap.get? b=some o)
  {t:Heap} {tk:Nat} {m:Str->Option Ac} (L:s.heap.objs.size<=C) (keep:∀ b o,s.heap.get? b=some o->t.get? b=some o) (un:Un (gS X.stack) fp H H1 s.heap t) (hok:cJ X.prog X.w H1 t) (R:t.Ns C m) (f:H1 C=none) :
  Inv (dG X sc N' ⟨fQ X.env.cells sc.names [],s,H,fp,C⟩) [] (cmap js σ) H1 {s with heap:=t,toks:=tk}:=by
 have cs:=vG S I
 have sub:∀ x c,(fQ X.env.cells sc.names []).lookup x=some c->X.env.cells.lookup x=some c:=fun x c e=>vA cs (fun _ _ z=>by simp at z) e
 refine⟨⟨I.ok.mod,S.kind,I.ok.glob,I.ok.blt,L,fun x y c A a=>I.ok.inj x y c (sub x c A) (sub y c a),fun x O=>?_,fun _ _ h _=>absurd (show false=true from h) Ao,I.ok.hd,I.ok.frames,.inl rfl,fun b hb=>?_,I.bs,Bh I.ok.bsz I.sz,fun b o e hb=>?_,fun b hb G=>?_,I.stack,I.stkFree⟩,
  rfl,I.bare,un,⟨m,R,fun i x v A a W=>?_⟩,fun x c e=>?_,f,fun x c e=>?_,fun p Q=>absurd (show p∈([]:List (Addr×Obj)) from Q) (by simp),hok,?_⟩
 ·have q:sc.names.lookup x=some .free:=(vE (env:=X.env) S.nocell).mp O
  exact rC (.inl (vF q))
 ·obtain⟨o,e⟩:=U b hb
  exact⟨Be (Bt (Ak e) L),fun x c q=>(hf b hb).2.2.2.2.1 x c (sub x c q)⟩
 ·rcases(hf b hb).2.2.2.1 with z | z
  ·exact I.ok.noex b o e z
  ·exact absurd (Bt (Ak e) (Bh I.ok.bsz z)) (Gr _)
 ·rcases Ba.mp (I.stkSub b G) with z | z
  ·exact(hf b hb).2.1 z
  ·exact(hf b hb).2.2.1 z
 ·
  have A:N'[i]? = some x:=A
  unfold cmap at a
  rw[Bi] at a
  cases g:js[i]? with
  | none=>rw[g] at a;cases a
  | some o=>
   rw[g] at a
   cases o with
   | none=>cases a
   | some j=>
    obtain⟨a1,a2⟩:=vD M g A
    have a:(σ[j]?).join=some v:=by simpa using a
    have F:σ[j]? = some (some v):=by
     cases q:σ[j]? with
     | none=>rw[q] at a;cases a
     | some z=>rw[q] at a;simpa using a
    obtain⟨V,T,E⟩:=I.loc
    have K:=S.free _ (vF a2) rfl
    obtain⟨u,r,l⟩:=E j x v a1 F (K.elim (fun z=>.inr (.inl z)) fun z=>.inr (.inr z))
    refine⟨u,r,.inr ⟨(vE (env:=X.env) S.nocell).mpr a2,?_⟩⟩
    rcases l with⟨k,_⟩ | ⟨_,c,P,hc⟩
    ·have k:X.env.scope.names.lookup x=some .local:=k
     rcases K with z | z
     ·rw[k] at z;cases z
     ·rw[k] at z;cases z
    ·obtain⟨J,B⟩:=rC (cells:=X.env.cells) (acc:=[]) (.inl (vF a2))
     have:J=c:=Dz ((sub x J B).symm.trans P)
     subst this
     obtain⟨n,d,hd⟩:=hc
     exact⟨J,B,n,keep _ _ d,hd⟩
 ·obtain⟨v,n,d,hd⟩:=I.cell x c (sub x c e)
  exact⟨v,n,keep _ _ d,hd⟩
 ·obtain⟨v,n,d,hd⟩:=I.cell x c (sub x c e)
  have D:c∉fp:=fun z=>(hf c z).2.2.2.2.1 x c (sub x c e) rfl
  exact un.free c n d (I.freeC x c (sub x c e)) D
 ·show(cmap js σ).length=N'.length
  unfold cmap
  rw[Ab]
  exact vB M
end
section
variable {prog:Bl}{w:Cd}{A:Bu}{R:Result->Ah->Prop}{s:Ah}
theorem QK{elt a iter:Expr}{ifs:List Expr}{e:Kf}{pos:Pos}{it acc:Ac}{env:Env}(I:Nat->Ah->Prop)
  (q:∀ n s,I n s->Ax (Bk prog w) A (Hz it) (fun r b=>match r with
   | none=>R (.ok .next) b
   | some v=>Ax (Bk prog w) A (Nw a it v) (fun _ s₀=>Ax (Bk prog w) A (Mx a env v) (fun _ k=>
     Ax (Bk prog w) A (forIn ifs true fun c r=>if r=true then do let ok <-isTrue c env (eval c env);pure (ForInStep.yield ok) else pure (ForInStep.yield r)) (fun ok d=>
      if ok=true then Ax (Bk prog w) A (eval elt env) (fun x i=>
       Ax (Bk prog w) A (call (.builtin "list.append") [acc,x]) (fun _ f=>∃ m,m < n/\I m f) (fun _ _=>False) i) (fun _ _=>False) d
      else ∃ m,m < n/\I m d) (fun _ _=>False) k) (fun _ _=>False) s₀) (fun _ _=>False) b) (fun _ _=>False) s)
  (n:Nat) (h:I n s) :
  Jv (Bk prog w) A (.compLoop (.ListComp elt [⟨a,iter,ifs,0⟩] e pos) 0 it acc env) R s:=by
 refine codeAny_loop rfl I (fun n s t=>?_) n h
 show Ax _ A ((compTurn (.ListComp elt [⟨a,iter,ifs,0⟩] e pos) 0 it acc env).onRaise (fun x=>do noteFrame x env;theTreesLotGoes x)) _ _ s
 refine wpAny_noted ?_
 rw[compTurn_list]
 refine Aa (Ol (Aa (Hv (q n s t) (fun r b g=>?_) fun _ _ h'=>h'.elim)))
 cases r with
 | none=>exact Ag g
 | some v=>
  refine Aa (Hv g (fun _ s₀ h₀=>?_) fun _ _ h'=>h'.elim)
  refine Aa (Hv h₀ (fun _ k p=>Aa (Hv p (fun ok d j=>?_) fun _ _ h'=>h'.elim)) fun _ _ h'=>h'.elim)
  cases ok with
  | false=>exact Ag ⟨rfl,j⟩
  | true=>
   exact Aa (Aa (Hv j (fun x i l=>Aa (Hv l (fun _ f o=>Ag (Ag ⟨rfl,o⟩)) fun _ _ h'=>h'.elim)) fun _ _ h'=>h'.elim))
end
def iD(X:Cx)(ifs:List Expr)(t:TT):Prop:=
 ∀ (pins:List (Addr×Obj)) (s:Ah) (σ:St) (H:Hp) (Q:Bool->Hp->Prop),Inv X pins σ H s->t σ H Q->
  Ax (Bk X.prog X.w) X.A (forIn ifs true fun c r=>if r=true then do let ok <-isTrue c X.env (eval c X.env);pure (ForInStep.yield ok) else pure (ForInStep.yield r)) (TP X pins σ Q) X.xe s
def QL:TT:=fun _ H Q=>Q true H
theorem QM{X:Cx}:iD X [] QL:=fun _ _ _ H _ I h=>wpAny_tests_nil ⟨H,I,h⟩
theorem QN{X:Cx}{c:Expr}{t:TT}(h:PT X c t):iD X [c] t:=fun pins s σ H Q I hw=>wpAny_tests_one (h pins s σ H Q I hw)
def vH(J:It)(g:TG)(tt:TT)(te:TE)(p:Addr)(σ₀:St)(H1:Hp)(Q:VK):Prop:=
 ∃ W:Nat->Nat->St->List V->Hp->Prop,(∃ m,W 0 m σ₀ [] (aN H1 p (.lst [])))/\∀ i m e acc H,W i m e acc H->
  (J.stop i H/\Q (.ref p) H)\/(J.go i H/\∃ N:St->List V->Hp->Prop,(∀ a c d,N a c d->∃ j,j < m/\W (i + 1) j a c d)/\∀ x d,J.yld i H x d->g x e d fun a k=>tt a k fun b f=>
   if b=true then te a f fun y h=>h p=some (.lst acc)/\acc.length < Aj/\N a (acc ++ [y]) (aN h p (.lst (acc ++ [y])))
   else N a acc f)
def vI(wi:TI)(g:jL->TG)(tt:jL->TT)(te:jL->TE)(js:List (Option Nat)):TE:=fun σ H Q=>wi σ H fun J H1=>∀ p,H1 p=none->∀ B:jL,vH J (g B) (tt B) (te B) p (cmap js σ) H1 Q
section
variable {X:Cx}{sc:Kf}{N':List Str}{js:List (Option Nat)}{tg iter elt:Expr}{ifs:List Expr}{pos:Pos}{wi:TI}{g:jL->TG}{tt:jL->TT}{te:jL->TE}
theorem BM(S:mC N' sc X.env.scope)(hj:e8 N' X.N sc js N'=true)(hc:X.calm=true)
  (hg:∀ B,PG (dG X sc N' B) tg (g B)) (ht:∀ B,iD (dG X sc N' B) ifs (tt B)) (he:∀ B,PE (dG X sc N' B) elt (te B))
  {pins:List (Addr×Obj)} {s:Ah} {σ:St} {J:It} {H:Hp} {it:Addr} {fp:List Addr} {tn:Nat->Heap->Prop} (I:Inv X pins σ H s) (T:kB X.prog X.w X.K tg J fp it tn) (st:tn 0 s.heap) (hf:∀ b∈fp,iA X pins H b)
  {Q:VK} (hw:∀ p,H p=none->∀ B:jL,vH J (g B) (tt B) (te B) p (cmap js σ) H Q) {E:Ac->Ah->Prop} {RR:Ac->Addr->Result->Ah->Prop}
  (hRR:∀ p C k F m,Inv X pins σ k F->iA X pins k C->F.heap.Ns C m->Q (.ref p) k->RR (.ref p) C (.ok .next) F) :
  Ax (Bk X.prog X.w) X.A (newList []) (fun acc h=>Ax (Bk X.prog X.w) X.A (newFunctionEnv sc X.env.globals (fQ X.env.cells sc.names []) [] X.env.qual none .none (some X.env)) (fun P s₄=>
   Jv (Bk X.prog X.w) X.A (.compStart (.ListComp elt [⟨tg,iter,ifs,0⟩] sc pos) 0 (.ref it) acc {P with scope:=relabel sc X.env}) (RR acc P.locals) s₄) E h) E s:=by
 refine Dd (wpAny_newFunctionEnv S.nocell (by intro y hy;simp at hy) (fun c f a=>?_) S.kind)
 dsimp only at f a ⊢
 generalize R:s.heap.push {cls:=.type "list",dict:=none,data:=.seq ([]:List Ac).toArray} = H2 at f a ⊢
 have hC:H2.objs.size=s.heap.objs.size + 1:=by rw[<-R,Dr]
 have hDC:s.heap.objs.size≠H2.objs.size:=by rw[hC];exact Be (Hx _)
 have q:s.heap.objs.size<=H2.objs.size:=by rw[hC];exact Lb _
 have Y:∀ b,b < s.heap.objs.size->b≠H2.objs.size:=fun b hb=>by rw[hC];exact Be (Hi hb)
 have G:∀ b o,s.heap.get? b=some o->c.get? b=some o:=fun b o e=>a.extBut b o (Y b (Ak e)) (Af _ (R ▸ Af _ e))
 have hacc:c.get? s.heap.objs.size=some {cls:=.type "list",dict:=none,data:=.seq ([]:List Ac).toArray}:=a.extBut _ _ hDC (Af _ (R ▸ Ap _ rfl))
 have hp0:H s.heap.objs.size=none:=I.hok.fresh (Ai _)
 have newO:cN X.prog X.w (aN H s.heap.objs.size (.lst [])) c s.heap.objs.size (.lst []):=⟨Bx _,[],_,.nil,hacc⟩
 have hok1:cJ X.prog X.w (aN H s.heap.objs.size (.lst [])) c:=I.hok.laid G (Ai _) newO
 have un1:Un (gS X.stack) fp H (aN H s.heap.objs.size (.lst [])) s.heap c:=Un.laid G (Ai _) hp0
 have fC:(aN H s.heap.objs.size (.lst [])) H2.objs.size=none:=by rw[bK (Bq hDC)];exact I.hok.fresh q
 have IB:=QJ (tk:=s.toks + ([]:List (Str×Ac)).length) S hj I hf (fun b hb=>let ⟨o,e,_⟩:=T.obj 0 _ st b hb;⟨o,e⟩) q G un1 hok1 f fC
 obtain⟨W,⟨m0,w0⟩,O⟩:=hw _ hp0 ⟨fQ X.env.cells sc.names [],s,H,fp,H2.objs.size⟩
 have st1:tn 0 c:=T.keep _ _ _ st fun b _ o e=>G b o e
 have loop:∀ h:Ah,h = {s with heap:=c,toks:=s.toks + ([]:List (Str×Ac)).length}->
   Jv (Bk X.prog X.w) X.A (.compLoop (.ListComp elt [⟨tg,iter,ifs,0⟩] sc pos) 0 (.ref it) (.ref s.heap.objs.size) (compEnvC sc (fQ X.env.cells sc.names []) H2.objs.size X.env))
    (RR (.ref s.heap.objs.size) H2.objs.size) h:=by
  rintro h rfl
  generalize hB:(⟨fQ X.env.cells sc.names [],s,H,fp,H2.objs.size⟩:jL)=B at O w0 IB
  have eB:compEnvC sc (fQ X.env.cells sc.names []) H2.objs.size X.env=(dG X sc N' B).env:=by subst hB;rfl
  have L:(dG X sc N' B).ex=fp:=by subst hB;rfl
  rw[eB]
  have t:∀ {j:St} {k:Hp} {F:Ah},Inv (dG X sc N' B) [] j k F->(∀ b∈fp,k b=none)->∀ b∈fp,iA (dG X sc N' B) [] k b:=fun {j k F} J' hn b hb=>by
   refine⟨hn b hb,(J'.ok.exf b (by rw[L];exact hb)).1,J'.ok.exfs b (by rw[L];exact hb),.inl (by rw[L];exact hb),(J'.ok.exf b (by rw[L];exact hb)).2,fun p hp=>absurd (show p∈([]:List (Addr×Obj)) from hp) (by simp)⟩
  have fp0:∀ b∈fp,(aN H s.heap.objs.size (.lst [])) b=none:=fun b hb=>by
   obtain⟨o,e,_⟩:=T.obj 0 _ st b hb
   rw[bK (Be (Ak e))]
   exact(hf b hb).1
  refine QK (fun n F=>∃ i j acc k,Inv (dG X sc N' B) [] j k F/\tn i F.heap/\(∀ b∈fp,k b=none)/\W i n j acc k) ?_ m0 ⟨0,_,[],_,IB,st1,fp0,w0⟩
  rintro n s3 ⟨i,M,acc,Z,I3,st3,fr3,w3⟩
  rcases O i n M acc Z w3 with⟨stop,qn⟩ | ⟨go,N,hN,step⟩
  ·refine aZ (T.done (dG X sc N' B) rfl rfl rfl hc i [] s3 M Z (fun _ _=>False) I3 (t I3 fr3) st3 stop) fun r s4 ⟨hr,I4⟩=>?_
   subst hr
   obtain⟨m4,hn4,_⟩:=I4.loc
   have u4:Un (gS X.stack) fp H Z s.heap s4.heap:=by have:=I4.base;subst hB;exact this
   have o4:s4.os=s.os:=by have:=I4.os;subst hB;exact this
   have c4:(dG X sc N' B).env.locals=H2.objs.size:=by subst hB;rfl
   have hIX:Inv X pins σ Z s4:=I.call' (ch:=fp) o4 u4 I4.hok I4.bare fun b hb=>⟨(hf b hb).2.2.2.1,(hf b hb).2.1,(hf b hb).2.2.2.2.1,(hf b hb).2.2.2.2.2⟩
   exact hRR _ _ Z s4 m4 hIX (I.fpOk q (by rw[<-c4];exact I4.free)) (by rw[<-c4];exact hn4) qn
  ·refine aZ (T.item (dG X sc N' B) rfl rfl rfl hc i [] s3 M Z (fun _ _=>False) I3 (t I3 fr3) st3 go) fun r s4 ⟨u,hr,h4⟩=>?_
   subst hr
   refine aZ h4 fun _ s5 ⟨x,H5,I5,r5,y5,U,fr5⟩=>?_
   have I5':=I5.pinned (t I5 fr5) (T.obj _ _ U)
   refine aZ (hg B _ s5 M H5 x u _ I5' r5 (step x H5 y5)) fun _ s6 ⟨l,H6,I6,q6⟩=>?_
   refine aZ (ht B _ s6 l H6 _ I6 q6) fun ok s7 ⟨H7,I7,q7⟩=>?_
   have D:∀ {H8:Hp} {s8:Ah} {v:List V},Inv (dG X sc N' B) ([] ++ oN fp s5.heap) l H8 s8->(∃ m',m' < n/\W (i + 1) m' l v H8)->∃ m,m < n/\∃ i j acc k,Inv (dG X sc N' B) [] j k s8/\tn i s8.heap/\(∀ b∈fp,k b=none)/\W i m j acc k:=
    fun {H8 s8 v} I8 ⟨m',hm,w8⟩=>by
     refine⟨m',hm,i + 1,l,v,H8,I8.unpinned,T.keep _ _ _ U fun b hb o e=>(I8.pin (b,o) (Dc _ (Dc _ (qR hb e)))).1,fun b hb=>?_,w8⟩
     obtain⟨o,e,d⟩:=T.obj _ _ U b hb
     exact(I8.pin (b,o) (Dc _ (Dc _ (qR hb e)))).2.1
   cases ok with
   | false=>
    rw[if_neg Ao] at q7
    rw[if_neg Ao]
    exact D I7 (hN _ _ _ q7)
   | true=>
    rw[if_pos rfl] at q7
    rw[if_pos rfl]
    refine aZ (he B _ s7 l H7 _ I7 q7) fun y s8 ⟨z,H8,I8,r8,hp8,hl8,q8⟩=>?_
    exact aZ (BF _ s8 l H8 (.ref s.heap.objs.size) [z] (.ref s.heap.objs.size) [y] (fun _ H9=>N l (acc ++ [z]) H9) I8 rfl (.cons r8 .nil) ⟨_,acc,z,rfl,rfl,hp8,hl8,q8⟩) fun _ s9 ⟨_,H9,I9,_,q9⟩=>D I9 (hN _ _ _ q9)
 exact codeAny_compStart_list (loop _ rfl) (T.self _ 0 _ _ _ st1 (loop _ rfl))
theorem QO(N':List Str)(js:List (Option Nat))(hi:PI X tg iter wi)
  (t:∀ B,PG (dG X sc N' B) tg (g B)) (ht:∀ B,iD (dG X sc N' B) ifs (tt B)) (y:∀ B,PE (dG X sc N' B) elt (te B))
  (n:mD N' sc X.env.scope=true:=by kernel_rfl) (F:e8 N' X.N sc js N'=true:=by kernel_rfl) (hc:X.calm=true:=by rfl) (hs:∀ x,Hm iter X.env x=pure x:=by intro _;rfl):PE X (.ListComp elt [⟨tg,iter,ifs,0⟩] sc pos) (vI wi g tt te js):=by
 intro pins s σ H Q I h
 have S:=mC.of n
 rw[eval_ListComp]
 refine wpAny_comprehension_free (use:=none) rfl hs (BL (vG S I)) S.kind S.loc (aZ (hi pins s σ H _ I h) fun G k c=>aZ c fun v j d=>?_)
 obtain⟨it,fp,L,J,K,e,l,T,i,u,hw⟩:=d
 subst e
 refine BM (RR:=fun acc C=>compPost (Bk X.prog X.w) X.A X.xe none (EP X pins σ Q) acc C) S F hc t ht y l T i u hw ?_
 intro p C E r m z a D q
 refine⟨m,D,fun h' f=>⟨.ref p,E,?_,rfl,q⟩⟩
 exact z.turned (t':=r.toks) (fun b o hb e=>(f.2 b hb).trans e) a.1 a.2.1 a.2.2.2.1 a.2.2.2.2.1 a.2.2.2.2.2
theorem QP{i:Nat}{x:Str}{f c:Pos}(hN:X.N.Nodup)(r:X.N[i]? = some x)(M:Loc X.env.scope x)(N':List Str)(js:List (Option Nat))(hi:PI X tg iter wi)
  (R:∀ B,PG (dG X sc N' B) tg (g B)) (ht:∀ B,iD (dG X sc N' B) ifs (tt B)) (W:∀ B,PE (dG X sc N' B) elt (te B))
  (O:mD N' sc X.env.scope=true:=by kernel_rfl) (hj:e8 N' X.N sc js N'=true:=by kernel_rfl) (hc:X.calm=true:=by rfl) (n:Kj (.ListComp elt [⟨tg,iter,ifs,0⟩] sc pos) (some (.Name x f)) c.line X.env=pure true:=by rfl)
  (hf:X.fn x=true\/X.env.scope.names.lookup x=some .local:=by first | exact .inl rfl | exact .inr rfl | assumption)
  (hs:∀ x,Hm iter X.env x=pure x:=by intro _;rfl):PS X (.Assign [.Name x f] (.ListComp elt [⟨tg,iter,ifs,0⟩] sc pos) c) (qQ (vI wi g tt te js) (uS i)):=by
 intro pins s σ H D I h
 have S:=mC.of O
 rw[exec_Assign_Name_used _ _ _ _ n]
 refine Aa (Ol (Aa ?_))
 show Ax _ X.A (do let _ <-comprehension (.ListComp elt [⟨tg,iter,ifs,0⟩] sc pos) sc X.env _ (newList []) false (eval iter X.env) (some (Mx (.Name x f) X.env))) _ _ s
 refine Aa (Hv (wpAny_comprehension_free (use:=some (Mx (.Name x f) X.env)) (Q:=fun _ j=>SP X pins D .next j) rfl hs (BL (vG S I)) S.kind S.loc
  (aZ (hi pins s σ H _ I h) fun xv K k=>aZ k fun V G l=>?_)) (fun _ j P=>Ag (Ag P)) fun _ _ e=>e)
 obtain⟨it,fp,tn,J,H2,e,L,T,F,U,hw⟩:=l
 subst e
 refine BM (RR:=fun acc C=>compPost (Bk X.prog X.w) X.A X.xe (some (Mx (.Name x f) X.env)) (fun _ j=>SP X pins D .next j) acc C) S hj hc R ht W L T F U hw ?_
 intro p C H' j m Y d Z q
 show Ax _ X.A (Mx (.Name x f) X.env (.ref p)) _ _ _
 refine wpAny_assign_Name (zX Y hN r M (v:=.ref p) rfl (fun u t ⟨a,sb,ha⟩=>?_) hf)
 have E:C≠a:=by
  rcases ha with e | e
  ·rw[e];exact d.2.1
  ·exact fun z=>d.2.2.2.2.1 x a e z.symm
 refine⟨m,Z.sameBut sb E,fun h' y=>⟨_,H',?_,q⟩⟩
 exact t.turned (t':=u.toks) (fun b o hb e=>(y.2 b hb).trans e) d.1 d.2.1 d.2.2.2.1 d.2.2.2.2.1 d.2.2.2.2.2
end
section
variable {g:TG}{tt:TT}{te:TE}{p:Addr}{σ₀:St}{H1:Hp}{Q:VK}
theorem QQ{J:It}(n:Nat)(c:Nat->St->List V->Hp->Prop)(t:c 0 σ₀ [] (aN H1 p (.lst [])))(hd:∀ σ acc H,c n σ acc H->J.stop n H/\Q (.ref p) H)
  (hs:∀ i σ acc H,i < n->c i σ acc H->J.go i H/\∀ x f,J.yld i H x f->g x σ f fun a o=>tt a o fun b h=>
   if b=true then te a h fun y j=>j p=some (.lst acc)/\acc.length < Aj/\c (i + 1) a (acc ++ [y]) (aN j p (.lst (acc ++ [y]))) else c (i + 1) a acc h):vH J g tt te p σ₀ H1 Q:=by
 refine⟨fun i m σ acc H=>m=n - i/\i<=n/\c i σ acc H,⟨n,by simp,Bx _,t⟩,?_⟩
 rintro i m σ acc H ⟨rfl,hi,q⟩
 by_cases d:i < n
 ·obtain⟨l,s⟩:=hs i σ acc H d q
  exact .inr ⟨l,c (i + 1),fun a k f r=>⟨n - (i + 1),by omega,rfl,d,r⟩,s⟩
 ·have e:i=n:=by omega
  subst e
  exact .inl (hd σ acc H q)
end
section
variable {X:Cx}
theorem BN{i:Int}(h:i.natAbs < 2 ^ 4096):Builtin.Int.intBits i<=2 ^ 20:=by
 unfold Builtin.Int.intBits
 split
 ·exact Bx _
 ·rename_i a
  have b:i.natAbs≠0:=by
   intro z
   have:i=0:=Int.natAbs_eq_zero.mp z
   rw[this] at a
   exact a rfl
  have:i.natAbs.log2 < 4096:=(Nat.log2_lt b).mpr h
  have e:(2:Nat) ^ 20=1048576:=by decide
  lia
def rD(i j:Int):Prop:=i.natAbs < 2 ^ 4096/\j.natAbs < 2 ^ 4096
theorem QS:bB X (Fs .Mult) (rI rD fun i j=>.int (i * j)):=oQ fun _ _ _ _ _ _ _ hc q=>mul_int q (IntMulOk.of_bits (BN hc.1) (BN hc.2))
def vJ(i j:Int):Prop:=0 < j/\j < 2 ^ 4096
theorem QT:bB X (Fs .FloorDiv) (rI vJ fun i j=>.int (i / j)):=oQ fun i j _ _ _ _ _ hc q=>by
 refine floordiv_int (by have:=hc.1;lia) ?_ (.inl (PyProof.noPylong_of_log2 ?_))
 ·rw[Int.fdiv_eq_ediv_of_nonneg _ (Int.le_of_lt hc.1)];exact q
 ·have c:j.natAbs≠0:=by have:=hc.1;lia
  have d:j.natAbs < 2 ^ 4096:=by
   have a:=hc.1
   have b:=hc.2
   lia
  have:=(Nat.log2_lt c).mpr d
  lia
theorem QU:iC X "str.partition" (fun x vs H Q=>∃ z y,x=.str z/\vs=[.str y]/\(y.length == 0)=false/\z.length<=Aj/\
  ∀ p,H p=none->Q (.ref p) (aN H p (.tup [.str (Cu z y).1,.str (Cu z y).2.1,.str (Cu z y).2.2]))):=by
 intro pins s σ H x xs v us Q I n l h
 obtain⟨z,y,rfl,rfl,m,hz,q⟩:=h
 obtain⟨t,rfl⟩:=n
 obtain⟨u,rfl,k⟩:=l.one
 obtain⟨t',rfl⟩:=k
 refine Lh F.slot_str_partition (typeIs_str _ _ _) F.entry_str_partition (F.args_str_partition_2 _ _) (meets_str_partition z y t t' m hz) ?_
 have d:=q s.heap.objs.size (I.hok.fresh (Ai _))
 have fin:∀ (a b c:Str) (g j f:Tok) (tk:Nat),Q (.ref s.heap.objs.size) (aN H s.heap.objs.size (.tup [.str a,.str b,.str c]))->
   EP X pins σ Q (.ref s.heap.objs.size) {s with toks:=tk,heap:=s.heap.push {cls:=.type "tuple",data:=.seq [.str a g,.str b j,.str c f].toArray}}:=fun a b c g j f tk w=>
  ⟨.ref s.heap.objs.size,_,I.laid (o:=.tup [.str a,.str b,.str c]) (t':=tk) (fun b o e=>Af _ e) (Ai _)
   ⟨by show 3<=Aj;decide,[.str a g,.str b j,.str c f],.cons ⟨_,rfl⟩ (.cons ⟨_,rfl⟩ (.cons ⟨_,rfl⟩ .nil)),⟨_,Ap _ rfl,rfl,_,rfl⟩⟩,rfl,w⟩
 unfold Cu at d
 revert d
 cases Jk z y 0 z.length 1 with
 | nil=>intro d;exact fin _ _ _ _ _ _ _ d
 | cons i r=>intro d;exact fin _ _ _ _ _ _ _ d
theorem all_range{bs:List Bool}:(Cb bs.length).all (fun i=>bs.getD i false)=bs.all id:=by
 induction bs with
 | nil=>rfl
 | cons b r a=>
  rw[Bp,List.range_succ_eq_map,Js,List.all_map,Js]
  have:((fun i=>(b :: r).getD i false) ∘ Nat.succ)=fun i=>r.getD i false:=by
   funext i;simp[List.getD]
  rw[this,a]
  simp
theorem BO(hc:X.calm=true):cU X (.builtin "all") (fun xs H Q=>∃ (p:Addr) (bs:List Bool),xs=[.ref p]/\bC X.K H p (bs.map V.bl)/\Q (.bl (bs.all id)) H):=by
 intro pins s σ H xs us Q I r h
 obtain⟨p,bs,rfl,n,q⟩:=h
 obtain⟨u,rfl,f⟩:=vals1 r
 cases f
 obtain⟨its,j,pl,hz⟩:=I.list n
 have d:p < s.heap.objs.size:=by obtain⟨_,e,_⟩:=pl.isList;exact Ak e
 refine call_all_walk (Jh pl.isList ?_)
 have l:X.A.in1.handled=none:=I.ok.hd hc
 refine⟨s.heap.objs.size,[s.heap.objs.size,p],[s.heap.objs.size],its.toArray.size,(fun i v=>its.toArray[i]? = some v),_,(fun i=>bs.getD i false),rfl,Mo l s.heap.objs.size p (Be d) its.toArray,
  ⟨⟨_,Ap _ rfl,rfl,rfl⟩,pl.isList.push _⟩,?_,fun h' tk hk=>?_⟩
 ·intro i v y w t m c
  have a:its[i]? = some v:=by simpa using m
  have hi:i < its.length:=(An.mp a).1
  have hl:=j.length
  rw[Ab] at hl
  have hb:bs[i]? = some (bs.getD i false):=by
   have g:i < bs.length:=by lia
   simp[List.getD,Am g]
  obtain⟨u,k,f⟩:=j.get (i:=i) (x:=.bl (bs.getD i false)) (by rw[Bi,hb];rfl)
  rw[a] at k;cases k
  cases (show v=Value.bool (bs.getD i false) from f)
  exact Ag c
 ·have hl:=j.length
  rw[Ab] at hl
  have e:(Cb its.toArray.size).all (fun i=>bs.getD i false)=bs.all id:=by
   rw[Bb,<-hl,all_range]
  rw[e]
  refine⟨.bl (bs.all id),H,?_,rfl,q⟩
  exact I.kept (t':=tk) fun b o eb=>hk b o (fun z=>by
   have:b=s.heap.objs.size:=by simpa using z
   exact absurd (Ak eb) (by rw[this];exact Gr _)) (Af _ eb)
theorem QV:cU X (.builtin "isinstance") (fun xs H Q=>∃ x T t b,xs=[x,.ty T]/\gT X.K H x t/\Jx X.K t (.type T)=some b/\Q (.bl b) H):=by
 intro pins s σ H xs us Q I r h
 obtain⟨x,T,t,b,rfl,ty,e,q⟩:=h
 obtain⟨u,c,rfl,d,a⟩:=vals2 r
 cases (show c=Value.type T from a)
 exact NP I d ty e fun tk=>⟨.bl b,H,I.tok _,rfl,q⟩
def vK(z:Str):It:=⟨fun i _=>i < z.cps.size,fun i H x a=>a=H/\∃ c,z.cps.toList[i]? = some c/\x=.str ⟨#[c]⟩,fun i _=>z.cps.size<=i⟩
theorem BP{P:Bl}{w:Cd}{K:Ae}{x:Str}{B:Pos}(z:Str)(it:Addr)(ty:String)(a:Tok)
  (nx:∀ (A:Bu) (s:Ah) (i c:Nat) (Q:Option Ac->Ah->Prop) (E:Ac->Ah->Prop),s.heap.IsStrIter it ty z a i->z.cps[i]? = some c->
   (∀ h',h'.IsStrIter it ty z a (i + 1)->Dx it s.heap h'->Q (some (.str ⟨#[c]⟩ s.toks)) {s with heap:=h',toks:=s.toks + 1})->Ax (Bk P w) A (Hz (.ref it)) Q E s)
  (en:∀ (A:Bu) (s:Ah) (i:Nat) (Q:Option Ac->Ah->Prop) (E:Ac->Ah->Prop),A.handled=none->s.heap.IsStrIter it ty z a i->z.cps[i]? = none->
   (∀ h',Heap.ExtBut it s.heap h'->Q none {s with heap:=h'})->Ax (Bk P w) A (Hz (.ref it)) Q E s)
  (m:∀ (A:Bu) (i:Nat) (s:Ah) (Q:Ac->Ah->Prop) (E:Ac->Ah->Prop),s.heap.IsStrIter it ty z a i->Q (.ref it) s->Ax (Bk P w) A (Oe (.ref it)) Q E s) :
  kB P w K (.Name x B) (vK z) [it] it (fun i h=>h.IsStrIter it ty z a i) where
 mem:=by simp
 obj:=fun i h st b hb=>by
  have e:b=it:=by simpa using hb
  subst e
  obtain⟨o,n,_,hd⟩:=st
  exact⟨o,n,fun v q=>by rw[hd] at q;cases q⟩
 keep:=fun i h h' st k=>by
  obtain⟨o,n,r⟩:=st
  exact⟨o,k it (by simp) o n,r⟩
 item:=by
  intro X l hw d hc i pins s σ H E I hf st f
  subst l hw d
  obtain⟨g,p,D,t,u,j⟩:=hf it (by simp)
  have hi:z.cps[i]? = some z.cps[i]:=Ls f
  refine nx X.A s i _ _ _ st hi fun h' st' sb=>?_
  have C:Inv X pins σ H {s with heap:=h',toks:=s.toks + 1}:=I.turned (fun b o hb e=>(sb.2 b hb).trans e) g p t u j
  exact⟨_,rfl,Ag ⟨.str ⟨#[z.cps[i]]⟩,H,C,⟨_,rfl⟩,⟨rfl,z.cps[i],by rw[Ds];exact hi,rfl⟩,st',fun b hb=>(hf b hb).1⟩⟩
 done:=by
  intro X l hw d hc i pins s σ H E I hf st f
  subst l hw d
  obtain⟨g,p,D,t,u,j⟩:=hf it (by simp)
  have y:z.cps.size<=i:=f
  exact en X.A s i _ _ (I.ok.hd hc) st (Array.getElem?_eq_none y) fun h' eb=>⟨rfl,I.turned (t':=s.toks) (fun b o hb e=>eb b o hb e) g p t u j⟩
 self:=m
theorem BQ{prog:Bl}{w:Cd}{A:Bu}{E:Ac->Ah->Prop}{it l:Addr}{items:Array Ac}(g:l≠it):∀ (n i:Nat) (s:Ah) (Q:List Ac->Ah->Prop),s.heap.IsListIter it l i->s.heap.IsList l items->i + n<=items.size->
  (∀ h',h'.IsListIter it l (i + n)->Dx it s.heap h'->Q ((items.toList.drop i).take n) {s with heap:=h'})->Ax (Bk prog w) A (draw (.ref it) n) Q E s
 | 0,i,s,Q,hit,_,_,h=>by
  show Ax _ _ (pure []) Q E s
  exact Ag (by simpa using h s.heap hit (Heap.SameBut.refl ..))
 | n + 1,i,s,Q,hit,ht,k,h=>by
  have e:i < items.size:=by lia
  show Ax _ _ (Hz (.ref it) >>= _) Q E s
  refine Aa (wpAny_pyNext_list_item hit ht (x:=items[i]) (by simp[e]) fun j c a=>?_)
  refine Aa (Cs (BQ g n (i + 1) _ _ c (ht.extBut a.extBut g) (by lia) fun f b d=>Ag ?_))
  have hd:items.toList.drop i=items[i] :: items.toList.drop (i + 1):=by simp[Hb,e]
  have:=h f (by rw[show i + (n + 1)=i + 1 + n by lia];exact b) (a.trans d)
  rw[hd,List.take_succ_cons] at this
  exact this
theorem QW{prog:Bl}{w:Cd}{A:Bu}{E:Ac->Ah->Prop}{s:Ah}{t:Addr}{items:Array Ac}{a:List (Bool×(Ac->Sem Unit))}{Q:Unit->Ah->Prop}(q:A.handled=none)(ht:s.heap.IsList t items)
  (n:a.length=items.size) (i:a.findIdx? (·.1)=none)
  (h:∀ h',Heap.ExtBut s.heap.objs.size s.heap h'->Ax (Bk prog w) A (assignInOrder (a.map (·.2)) items.toList) Q E {s with heap:=h'}) :
  Ax (Bk prog w) A (unpack (.ref t) a) Q E s:=by
 have j:t≠s.heap.objs.size:=by obtain⟨o,p,_⟩:=ht;exact Be (Ak p)
 unfold unpack
 rw[n,i]
 refine Aa (Cs ?_)
 unfold unpackItems
 refine Aa ?_
 unfold notIterableAtAll
 refine Aa (wpAny_specialOf ht.typeIs F.slot_list_iter.lookup ?_)
 refine Ag ?_
 simp only[Cp,if_false]
 refine Aa (Cs (Jh ht ?_))
 refine Aa (Cs (BQ j items.size 0 _ _ ⟨_,Ap _ rfl,rfl,rfl⟩ (ht.push _) (by lia) fun l d c=>?_))
 have k:List.take items.size (List.drop 0 items.toList)=items.toList:=by
  rw[Lk];exact Dw (by simp)
 rw[k]
 rw[if_neg (by simp)]
 have f:l.IsList t items:=(ht.push _).extBut c.extBut j
 refine Aa (Cs (wpAny_pyNext_list_end q d f (by simp) fun m g=>?_))
 simp only[Option.isSome_none,Cp,if_false]
 refine Ag (h m fun b o hb e=>g b o hb (c.extBut b o hb (Af _ e)))
def QX(K:Ae)(n:Nat)(t:iV):TG:=fun v σ H Q=>∃ a xs,v=.ref a/\bC K H a xs/\xs.length=n/\t xs σ H Q
theorem BR{es:List Expr}{k:Nat}{pos:Pos}{t:iV}{n:Nat}(hc:X.calm=true)(h:iJ X es t)
  (i:(Hd es X.env).length=n:=by rfl) (c:(Hd es X.env).findIdx? (·.1)=none:=by rfl):PG X (.Tuple es k pos) (QX X.K n t):=by
 intro pins s σ H v u Q I r hw
 obtain⟨a,xs,j,l,hl,hw⟩:=hw
 subst j
 cases r
 obtain⟨its,d,ht,hz⟩:=I.list l
 rw[PyProof.Rows.assign_Tuple]
 refine Aa (Ol (QW (I.ok.hd hc) ht.isList (by simp[i,<-hl,d.length]) c fun h' f=>?_))
 have g:Inv X pins σ H {s with heap:=h'}:=I.kept (t':=s.toks) fun b o e=>f b o (Be (Ak e)) e
 exact h pins _ σ H xs _ Q g (by simpa using d) hw
end
end L2
namespace Rg
open PySem PySem.Spec PyProof.Rows L2
abbrev lF:Str:="ABCDEFGHIJKLMNOPQRSTUVWXYZ"
abbrev BS:Str:="0123456789"
abbrev oV:Str:="abcdefghijklmnopqrstuvwxyz"
def cs(z:Str):List Nat:=z.cps.toList
def kD(z g:Str):Bool:=(!decide (V.str z=V.str "")) && (cs z).all fun c=>decide (c∈cs g)
def jM(z:Str):Bool:=(decide (V.str (Cu z "_").2.1=V.str "") || kD (Cu z "_").2.2 BS) && kD (Cu z "_").1 lF
theorem QY{x y:Str}(h:cs x=cs y):x=y:=by
 obtain⟨x⟩:=x;obtain⟨y⟩:=y
 exact congrArg Str.mk (Array.toList_inj.mp h)
theorem QZ(x:Str):(cs x).length=x.length:=by unfold cs Str.length;simp
theorem BU:cs "" = []:=by decide +kernel
theorem Q0(z:Str):decide (V.str z=V.str "")=decide (cs z=[]):=by
 by_cases h:z = ""
 ·subst h;simp[BU]
 ·rw[decide_eq_false (fun e=>h (V.str.inj e)),decide_eq_false]
  intro e
  exact h (QY (e.trans BU.symm))
theorem BV(z g:Str):kD z g=(!decide (cs z=[]) && (cs z).all fun c=>decide (c∈cs g)):=by unfold kD;rw[Q0]
theorem Q1:("_" : Str)=⟨#[95]⟩:=by decide +kernel
theorem Q2{z:Str}(h:95∉cs z):Cu z "_" = (z,Str.empty,Str.empty):=by
 rw[Q1]
 rcases partition_whole z ⟨#[95]⟩ with⟨e,_⟩ | ⟨i,_,hi,_⟩
 ·exact e
 ·exact absurd ((mem_iff_at z 95).mpr ⟨i,hi⟩) h
theorem Q3{z:Str}(b:cs z≠[])(h:∀ c∈cs z,c∈cs oV):jM z=false:=by
 have a:95∉cs z:=fun m=>absurd (h _ m) (by decide +kernel)
 unfold jM
 rw[Q2 a,BV,BV]
 have e:((cs z).all fun c=>decide (c∈cs lF))=false:=by
  cases hz:cs z with
  | nil=>exact absurd hz b
  | cons c r=>
   have hc:c∈cs oV:=h c (by rw[hz];simp)
   have d:c∉cs lF:=by
    have key:∀ c∈cs oV,c∉cs lF:=by decide +kernel
    exact key c hc
   rw[Js,decide_eq_false d,Bool.false_and]
 rw[e]
 simp
def Below(d s:Int):Prop:=0<=d/\d < s
abbrev Drawn:List Int->List Int->Prop:=Ir Below
theorem vL{i:Nat}{m n:Nat}(h:i < 2 ^ m)(a:m<=n):i < 2 ^ n:=Bt h (Nat.pow_le_pow_right (by decide) a)
end Rg
namespace L2
open PySem PySem.Spec PyProof.Rows
section
variable {P:Bl}{w:Cd}{H:Hp}{h:Heap}
end
section
variable {X:Cx}
def BW(d:Md):Prop:=d.canLay0=true/\d.depth<=60
theorem vM:∀ {xs:List V} {us:List Ac},xs.length=us.length->(∀ (j:Nat) (u:Ac),us[j]? = some u->∃ x,xs[j]? = some x/\RelV x u)->aQ xs us
 | [],[],_,_=>.nil
 | [],_ :: _,h,_=>by simp at h
 | _ :: _,[],h,_=>by simp at h
 | x :: xs,u :: us,h,k=>by
  obtain⟨y,e,r⟩:=k 0 u rfl
  simp at e
  subst e
  exact .cons r (vM (by simpa using h) fun j v a=>by
   obtain⟨y,e,r⟩:=k (j + 1) v (by simpa using a)
   exact⟨y,by simpa using e,r⟩)
theorem BX:∀ {kvs:List (aD×V)} {vs:List (aD×Ac)} {j:Nat} {k:aD} {x:Ac},KV kvs vs->vs[j]? = some (k,x)->∃ v,kvs[j]? = some (k,v)
 | _,_,_,_,_,.nil,e=>by simp at e
 | _,_,0,_,_,.cons (a:=p) r _,e=>by
  simp at e
  subst e
  exact⟨p.2,by obtain⟨a,b⟩:=p;cases r.1;rfl⟩
 | _,_,j + 1,k,x,.cons _ t,e=>by
  obtain⟨v,q⟩:=BX (j:=j) (k:=k) (x:=x) t (by simpa using e)
  exact⟨v,by simpa using q⟩
theorem Q4{k:aD}{v:Ac}(h:lX k v=true):RelV (kV k) v:=by
 rcases jE h with⟨i,t,rfl,rfl⟩ | ⟨x,t,rfl,rfl⟩
 ·exact⟨t,rfl⟩
 ·exact⟨t,rfl⟩
theorem Q5(hc:X.calm=true):cU X (.type "list") (fun xs H Q=>∃ d kvs,xs=[.ref d]/\H d=some (.dK kvs)/\∀ l,H l=none->Q (.ref l) (aN H l (.lst (kvs.map fun e=>kV e.1)))):=by
 intro m s D H xs us Q I r h
 obtain⟨d,kvs,rfl,hd,q⟩:=h
 obtain⟨u,rfl,n⟩:=vals1 r
 cases n
 obtain⟨hz,f,vs,c,p⟩:=(show cN X.prog X.w H s.heap d (.dK kvs) from I.hok d _ hd)
 obtain⟨ep,i⟩:=p.dictAt
 have hl:=c.length
 refine PySem.W.kdl_call (PySem.W.kdl_dict (knd:=dA X.prog X.w) (kvs:=vs) (ep:=ep) f) (I.ok.hd hc) i (by rw[<-hl];exact hz) fun h' tk a A hk C b=>?_
 refine⟨.ref s.heap.objs.size,_,I.laid (o:=.lst (kvs.map fun e=>kV e.1)) (t':=tk) hk (Ai _) ⟨by rw[Ab];exact hz,a.toList,A,?_,by rw[Kw];exact C⟩,rfl,q _ (I.hok.fresh (Ai _))⟩
 refine vM (by have G:=b.1;have E:a.toList.length=a.size:=Bv;have F:(kvs.map fun e=>kV e.1).length=kvs.length:=Ab ..;lia) fun j v t=>?_
 obtain⟨k,x,B,g⟩:=b.2 j v (by rw[<-Ds];exact t)
 obtain⟨y,z⟩:=BX c B
 exact⟨kV k,by rw[Bi,z];rfl,Q4 g⟩
theorem nH{n:Nat}(i j:Nat)(h:i≠j):n + i≠n + j:=by lia
theorem vN{n:Nat}(i:Nat)(h:i≠0):n + i≠n:=by lia
theorem BY{n:Nat}(i:Nat)(h:i≠0):n≠n + i:=by lia
theorem gU{n a:Nat}(i:Nat)(h:a < n):a≠n + i:=by lia
theorem rE{n a:Nat}(h:a < n):a≠n:=by lia
theorem Q6{n:Nat}(i:Nat):n<=n + i:=by lia
def rF(K:Ae)(a b:Addr)(xs ys:List V):It:=
 ⟨fun i H=>bC K H a xs/\bC K H b ys/\i < xs.length/\i < ys.length,
   fun i H x c=>∃ p u v,xs[i]? = some u/\ys[i]? = some v/\H p=none/\x=.ref p/\c=aN H p (.tup [u,v]),
   fun i H=>bC K H a xs/\bC K H b ys/\(xs.length<=i\/ys.length<=i)⟩
theorem Q7{P:Bl}{w:Cd}{K:Ae}{es:List Expr}{kx:Nat}{px:Pos}(a b z TI TO i1 i2:Addr)(xs ys:List V)(D:ZipApart z TI TO i1 i2 a b) :
  kB P w K (.Tuple es kx px) (rF K a b xs ys) [z,TI,TO,i1,i2] z (fun i h=>Of h z TI TO .none/\Hy h TI (.ref i1) (.ref i2)/\(∃ c d,Hy h TO c d)/\h.IsListIter i1 a i/\h.IsListIter i2 b i) where
 mem:=by simp
 obj:=fun i h st c hc=>by
  obtain⟨J,A,⟨p,q,G⟩,⟨o4,L,_,h4d⟩,⟨o5,C,_,h5d⟩⟩:=st
  simp only[Ba,Ej,or_false] at hc
  rcases hc with rfl | rfl | rfl | rfl | rfl
  ·exact⟨_,J,fun v q=>by cases q⟩
  ·exact⟨_,A,fun v q=>by cases q⟩
  ·exact⟨_,G,fun v q=>by cases q⟩
  ·exact⟨_,L,fun v q=>by rw[h4d] at q;cases q⟩
  ·exact⟨_,C,fun v q=>by rw[h5d] at q;cases q⟩
 keep:=fun i h h' st k=>by
  obtain⟨J,A,⟨p,q,G⟩,⟨o4,L,r4⟩,⟨o5,C,r5⟩⟩:=st
  exact⟨k z (by simp) _ J,k TI (by simp) _ A,⟨p,q,k TO (by simp) _ G⟩,⟨o4,k i1 (by simp) _ L,r4⟩,⟨o5,k i2 (by simp) _ C,r5⟩⟩
 item:=by
  intro X hP hw hK hc i F s σ H E I hf st Y
  subst hP hw hK
  obtain⟨J,A,⟨c,d,G⟩,L,C⟩:=st
  obtain⟨O,M,hi,hj⟩:=Y
  obtain⟨its,rv,pl,hz⟩:=I.list O
  obtain⟨W,Q,R,hz2⟩:=I.list M
  obtain⟨u,hu,ru⟩:=rv.get (Am hi)
  obtain⟨v,hv,rvv⟩:=Q.get (Am hj)
  refine wpAny_pyNext_zip_item D J A G L C pl.isList R.isList (x:=u) (y:=v) (by simpa using hu) (by simpa using hv) fun h' a1 a2 a3 a4 a5 a6 hk=>?_
  refine⟨_,rfl,wpAny_letOwnedTupleGo_zip a1 fun N z' sb=>?_⟩
  have j:H s.heap.objs.size=none:=I.hok.fresh (Ai _)
  have U:z < s.heap.objs.size:=Ak J
  have ltO:TO < s.heap.objs.size:=Ak G
  have lt1:i1 < s.heap.objs.size:=by obtain⟨_,e,_⟩:=L;exact Ak e
  have lt2:i2 < s.heap.objs.size:=by obtain⟨_,e,_⟩:=C;exact Ak e
  have f:∀ q o,q∉[z,TI,TO,i1,i2]->s.heap.get? q=some o->N.get? q=some o:=fun q o g e=>by
   simp only[Ba,Ej,or_false,not_or] at g
   exact(sb.2 q g.1).trans (hk q o g.1 g.2.2.1 g.2.2.2.1 g.2.2.2.2 e)
  have hp2:Hy N s.heap.objs.size u v:=(sb.2 _ (Dy U)).trans a5
  have B:∀ q∈[z,TI,TO,i1,i2],H q=none:=fun q g=>(hf q g).1
  have I1:Inv X F σ (aN H s.heap.objs.size (.tup [xs[i],ys[i]])) {s with heap:=N}:=by
   refine I.step (g':=s.gens) (d':=s.drawn) (t':=s.toks) (ch:=[z,TI,TO,i1,i2]) (fun q g=>⟨(hf q g).2.2.2.1,(hf q g).2.1,(hf q g).2.2.2.2.1,(hf q g).2.2.2.2.2⟩)
    (fun q o _ _ hc e _=>f q o hc e) (fun q o _ _ hc e _=>⟨o.slots,f q o hc e⟩) (fun q o _ e n=>by rw[bK (Be (Ak e))];exact n)
    (fun q o hc e=>⟨o,f q o hc e⟩) (fun q S e=>by rw[bK (d6 e j)];exact e) (fun q o S e=>by rw[bK (d6 e j)];exact e) (fun q ps e=>⟨#[],by rw[bK (d6 e j),e];simp⟩) (fun m Z=>?_) ?_ I.bare
   ·obtain⟨o,es,ep,ho,r⟩:=Z
    exact⟨o,es,ep,f _ o (fun z=>absurd rfl (hf _ z).2.1) ho,r⟩
   ·intro q o e
    by_cases g:q=s.heap.objs.size
    ·subst g
     rw[dZ] at e;cases e
     exact⟨by show 2<=Aj;decide,[u,v],.cons ru (.cons rvv .nil),⟨_,hp2,rfl,_,rfl⟩⟩
    ·rw[bK g] at e
     refine(I.hok q o e).stay (fun t w' ht l=>f t w' (fun z=>?_) l) (fun t l=>by rw[bK (d6 l j)];exact l) fun t S l=>by rw[bK (d6 l j)];exact l
     have T:=B t z
     rcases ht with rfl | ht
     ·rw[T] at e;cases e
     ·rw[T] at ht;cases ht
  refine⟨.ref s.heap.objs.size,_,I1,rfl,⟨s.heap.objs.size,xs[i],ys[i],Am hi,Am hj,j,rfl,rfl⟩,⟨z',(sb.2 _ D.TIz).trans (hk _ _ D.TIz D.TITO D.TIi1 D.TIi2 A),⟨u,v,(sb.2 _ D.TOz).trans a2⟩,a3.extBut sb.extBut D.i1z,a4.extBut sb.extBut D.i2z⟩,fun q g=>?_⟩
  rw[bK]
  ·exact B q g
  ·intro e
   subst e
   have:H s.heap.objs.size=none:=j
   simp only[Ba,Ej,or_false] at g
   have ltI:TI < s.heap.objs.size:=Ak A
   rcases g with e | e | e | e | e
   ·exact Dy U e
   ·exact Dy ltI e
   ·exact Dy ltO e
   ·exact Dy lt1 e
   ·exact Dy lt2 e
 done:=by
  intro X hP hw hK hc i F s σ H E I hf st Y
  subst hP hw hK
  obtain⟨J,A,⟨c,d,G⟩,L,C⟩:=st
  obtain⟨O,M,hij⟩:=Y
  obtain⟨its,rv,pl,hz⟩:=I.list O
  obtain⟨W,Q,R,hz2⟩:=I.list M
  have l1:=rv.length
  have l2:=Q.length
  refine wpAny_pyNext_zip_end (I.ok.hd hc) D J A G L C pl.isList R.isList (hij.elim (fun q=>.inl (by simp;lia)) fun q=>.inr (by simp;lia)) fun h' hk=>⟨rfl,?_⟩
  have f:∀ q o,q∉[z,TI,TO,i1,i2]->s.heap.get? q=some o->h'.get? q=some o:=fun q o g e=>by
   simp only[Ba,Ej,or_false,not_or] at g
   exact hk q o g.1 g.2.2.1 g.2.2.2.1 g.2.2.2.2 e
  have B:∀ q∈[z,TI,TO,i1,i2],H q=none:=fun q g=>(hf q g).1
  refine I.step (g':=s.gens) (d':=s.drawn) (t':=s.toks) (ch:=[z,TI,TO,i1,i2]) (fun q g=>⟨(hf q g).2.2.2.1,(hf q g).2.1,(hf q g).2.2.2.2.1,(hf q g).2.2.2.2.2⟩)
    (fun q o _ _ hc e _=>f q o hc e) (fun q o _ _ hc e _=>⟨o.slots,f q o hc e⟩) (fun q o _ e n=>n)
    (fun q o hc e=>⟨o,f q o hc e⟩) (fun q S e=>e) (fun q o S e=>e) (fun q ps e=>⟨#[],by rw[e];simp⟩) (fun m Z=>?_) ?_ I.bare
  ·obtain⟨o,es,ep,ho,r⟩:=Z
   exact⟨o,es,ep,f _ o (fun z=>absurd rfl (hf _ z).2.1) ho,r⟩
  ·intro q o e
   refine(I.hok q o e).stay (fun t w' ht l=>f t w' (fun z=>?_) l) (fun t l=>l) fun t S l=>l
   have T:=B t z
   rcases ht with rfl | ht
   ·rw[T] at e;cases e
   ·rw[T] at ht;cases ht
 self:=fun _ _ _ _ _ st h=>Nd st.1 h
theorem Q8:Cv "zip" = some (.type "zip"):=by decide +kernel
end
section
variable {X:Cx}
def vO(K:Ae)(a:Addr)(xs:List V):It:=
 ⟨fun i H=>bC K H a xs/\i < xs.length,
   fun i H x b=>∃ p u,xs[i]? = some u/\H p=none/\x=.ref p/\b=aN H p (.tup [.int (i:Nat),u]),
   fun i H=>bC K H a xs/\xs.length<=i⟩
theorem Inv.laidT{c:List (Addr×Obj)}{l:St}{H:Hp}{s:Ah}{fp:List Addr}{g:Heap}{tk:Nat}{xs:List V}{its:List Ac}(I:Inv X c l H s)(hf:∀ b∈fp,iA X c H b)
  (a:∀ q o,q∉fp->s.heap.get? q=some o->g.get? q=some o) (hz:xs.length<=Aj) (w:aQ xs its) (i:g.get? s.heap.objs.size=some {cls:=.type "tuple",data:=.seq its.toArray}) :
  Inv X c l (aN H s.heap.objs.size (.tup xs)) {s with heap:=g,toks:=tk}:=by
 have d:H s.heap.objs.size=none:=I.hok.fresh (Ai _)
 have j:∀ q∈fp,H q=none:=fun q f=>(hf q f).1
 refine I.step (g':=s.gens) (d':=s.drawn) (t':=tk) (ch:=fp) (fun q f=>⟨(hf q f).2.2.2.1,(hf q f).2.1,(hf q f).2.2.2.2.1,(hf q f).2.2.2.2.2⟩)
  (fun q o _ _ hc e _=>a q o hc e) (fun q o _ _ hc e _=>⟨o.slots,a q o hc e⟩) (fun q o _ e n=>by rw[bK (Be (Ak e))];exact n)
  (fun q o hc e=>⟨o,a q o hc e⟩) (fun q k e=>by rw[bK (d6 e d)];exact e) (fun q o k e=>by rw[bK (d6 e d)];exact e) (fun q ps e=>⟨#[],by rw[bK (d6 e d),e];simp⟩) (fun m v=>?_) ?_ I.bare
 ·obtain⟨o,es,ep,x,r⟩:=v
  exact⟨o,es,ep,a _ o (fun z=>absurd rfl (hf _ z).2.1) x,r⟩
 ·intro q o e
  by_cases f:q=s.heap.objs.size
  ·subst f
   rw[dZ] at e;cases e
   exact⟨hz,its,w,⟨_,i,rfl,_,rfl⟩⟩
  ·rw[bK f] at e
   refine(I.hok q o e).stay (fun t u ht h=>a t u (fun z=>?_) h) (fun t h=>by rw[bK (d6 h d)];exact h) fun t k h=>by rw[bK (d6 h d)];exact h
   have p:=j t z
   rcases ht with rfl | ht
   ·rw[p] at e;cases e
   ·rw[p] at ht;cases ht
theorem Inv.turnedT{c:List (Addr×Obj)}{j:St}{H:Hp}{s:Ah}{fp:List Addr}{f:Heap}{tk:Nat}(I:Inv X c j H s)(hf:∀ b∈fp,iA X c H b)
  (a:∀ q o,q∉fp->s.heap.get? q=some o->f.get? q=some o):Inv X c j H {s with heap:=f,toks:=tk}:=by
 have h:∀ q∈fp,H q=none:=fun q d=>(hf q d).1
 refine I.step (g':=s.gens) (d':=s.drawn) (t':=tk) (ch:=fp) (fun q d=>⟨(hf q d).2.2.2.1,(hf q d).2.1,(hf q d).2.2.2.2.1,(hf q d).2.2.2.2.2⟩)
   (fun q o _ _ hc e _=>a q o hc e) (fun q o _ _ hc e _=>⟨o.slots,a q o hc e⟩) (fun q o _ e n=>n)
   (fun q o hc e=>⟨o,a q o hc e⟩) (fun q i e=>e) (fun q o i e=>e) (fun q ps e=>⟨#[],by rw[e];simp⟩) (fun m p=>?_) ?_ I.bare
 ·obtain⟨o,es,ep,u,r⟩:=p
  exact⟨o,es,ep,a _ o (fun z=>absurd rfl (hf _ z).2.1) u,r⟩
 ·intro q o e
  refine(I.hok q o e).stay (fun t l ht g=>a t l (fun z=>?_) g) (fun t g=>g) fun t i g=>g
  have k:=h t z
  rcases ht with rfl | ht
  ·rw[k] at e;cases e
  ·rw[k] at ht;cases ht
theorem Q9{P:Bl}{w:Cd}{K:Ae}{es:List Expr}{U:Nat}{W:Pos}(a e it:Addr)(xs:List V)(r:e≠it) :
  kB P w K (.Tuple es U W) (vO K a xs) [e,it] e (fun i h=>(∃ b,IsEnum h e it (i:Nat) b)/\h.IsListIter it a i) where
 mem:=by simp
 obj:=fun i h st c hc=>by
  obtain⟨⟨b,f⟩,⟨L,j,_,G⟩⟩:=st
  simp only[Ba,Ej,or_false] at hc
  rcases hc with rfl | rfl
  ·exact⟨_,f,fun v q=>by cases q⟩
  ·exact⟨_,j,fun v q=>by rw[G] at q;cases q⟩
 keep:=fun i h h' st k=>by
  obtain⟨⟨b,f⟩,⟨L,j,N⟩⟩:=st
  exact⟨⟨b,k e (by simp) _ f⟩,⟨L,k it (by simp) _ j,N⟩⟩
 item:=by
  intro X C hw B hc i g s J H E I hf st t
  subst C hw B
  obtain⟨⟨b,f⟩,j⟩:=st
  obtain⟨n,hi⟩:=t
  obtain⟨its,y,pl,hz⟩:=I.list n
  obtain⟨u,M,O⟩:=y.get (Am hi)
  refine wpAny_pyNext_enum_item f j pl.isList (x:=u) (by simpa using M) r fun h' a1 a2 R Y hk=>?_
  refine⟨_,rfl,wpAny_letOwnedTupleGo_enum a1 fun m Q sb=>?_⟩
  have F:H s.heap.objs.size=none:=I.hok.fresh (Ai _)
  have p:e < s.heap.objs.size:=Ak f
  have D:it < s.heap.objs.size:=by obtain⟨_,q,_⟩:=j;exact Ak q
  have l:∀ q o,q∉[e,it]->s.heap.get? q=some o->m.get? q=some o:=fun q o d eq=>by
   simp only[Ba,Ej,or_false,not_or] at d
   exact(sb.2 q d.1).trans (hk q o d.1 d.2 eq)
  have A:m.get? s.heap.objs.size=some {cls:=.type "tuple",data:=.seq [.int (i:Nat) s.toks,u].toArray}:=(sb.2 _ (Dy p)).trans R
  have T:Inv X g J (aN H s.heap.objs.size (.tup [.int (i:Nat),xs[i]])) {s with heap:=m,toks:=s.toks + 1}:=I.laidT (its:=[.int (i:Nat) s.toks,u]) hf l (by show 2<=Aj;decide) (.cons ⟨_,rfl⟩ (.cons O .nil)) A
  refine⟨.ref s.heap.objs.size,_,T,rfl,⟨s.heap.objs.size,xs[i],Am hi,F,rfl,rfl⟩,⟨⟨u,by rw[Int.natCast_add];exact Q⟩,a2.extBut sb.extBut r.symm⟩,fun q d=>?_⟩
  rw[bK]
  ·exact(hf q d).1
  ·intro eq
   subst eq
   simp only[Ba,Ej,or_false] at d
   rcases d with q | q
   ·exact Dy p q
   ·exact Dy D q
 done:=by
  intro X C hw B hc i g s J H E I hf st t
  subst C hw B
  obtain⟨⟨b,f⟩,j⟩:=st
  obtain⟨n,S⟩:=t
  obtain⟨its,y,pl,hz⟩:=I.list n
  have l1:=y.length
  refine wpAny_pyNext_enum_end (I.ok.hd hc) f j pl.isList (by simp;lia) fun h' hk=>⟨rfl,?_⟩
  exact I.turnedT (tk:=s.toks) hf fun q o d eq=>hk q o (fun z=>d (by simp[z])) eq
 self:=fun _ _ _ _ _ st h=>by
  obtain⟨⟨b,f⟩,_⟩:=st
  exact wpAny_pyIter_enum f h
def RA(K:Ae)(ta:TA):TI:=fun c H R=>ta c H fun vs b=>∃ a xs,vs=[.ref a]/\bC K b a xs/\R (vO K a xs) b
theorem RB{a:Expr}{ta:TA}{p pos:Pos}{es:List Expr}{x:Nat}{y:Pos}(l:Gl X "enumerate")(m:X.mg "enumerate" = none)(ha:PA X [a] ta)(hs:Bj [a] X.env=[(false,eval a X.env)]:=by rfl) :
  PI X (.Tuple es x y) (.Call (.Name "enumerate" p) [a] [] pos) (RA X.K ta):=by
 intro d s r H R I h
 refine Call_ (iU I l m boot_enumerate (Du (aZ (ha pos d s r H _ I h) fun us b ⟨vs,n,f,w,z⟩=>?_) hs rfl))
 obtain⟨a,xs,rfl,g,q⟩:=z
 obtain⟨u,rfl,o⟩:=vals1 w
 cases o
 obtain⟨its,v,pl,hz⟩:=f.list g
 refine call_enumerate_list pl.isList fun h' j t A k=>?_
 refine wpAny_pyIter_enum j ?_
 refine⟨b.heap.objs.size + 1,[b.heap.objs.size + 1,b.heap.objs.size],_,_,n,rfl,f.kept (t':=b.toks) k,Q9 a _ _ xs (vN 1 (by decide)),⟨⟨_,j⟩,t⟩,fun q i=>?_,q⟩
 have c:b.heap.objs.size<=q:=by
  simp only[Ba,Ej,or_false] at i
  rcases i with e | e
  ·rw[e];exact Q6 1
  ·rw[e];exact Ai _
 exact f.fpOk c (f.hok.fresh c)
end
section
variable {prog:Bl}{w:Cd}{A:Bu}{E:Ac->Ah->Prop}{s:Ah}
end
abbrev vP:=aD×List aD
section
variable {prog:Bl}{w:Cd}
end
end L2
namespace L2
open PySem PySem.Spec PySem.W PyProof.Rows
section
variable {prog:Bl}{w:Cd}{A:Bu}{E:Ac->Ah->Prop}{s:Ah}
theorem RC{it d:Addr}{i ep:Nat}{es:Array Ig}{f:Obj}{Q:Option Ac->Ah->Prop}(hit:s.heap.IsKeyIter it d i es.size ep)(b:s.heap.get? d=some f)(c:f.data=.dict es ep)(hi:i < es.size)
  (h:∀ h',h'.IsKeyIter it d (i + 1) es.size ep->Dx it s.heap h'->Q (some es[i].key) {s with heap:=h'}):Ax (Bk prog w) A (Hz (.ref it)) Q E s:=by
 have a:=hit.typeIs
 obtain⟨o,e,hc,hd⟩:=id hit
 have own:Builtin.Dict_items.ownsTuple "dict_keyiterator" = false:=by decide
 have j:¬ ((Value.ref d == Value.none)=true):=Ao
 have up:(s.heap.update it (Et (·.setIfInBounds 1 (Gv ((i:Int) + 1))))).IsKeyIter it d (i + 1) es.size ep:=
  ⟨_,Fc _ e (Nh (Ib hd _)),(Obj.cls_mapFields ..).trans hc,by rw[Ib hd];simp[Gv]⟩
 have g:=up.typeIs (s:={s with heap:=s.heap.update it (Et (·.setIfInBounds 1 (Gv ((i:Int) + 1))))})
 unfold Hz
 refine Aa (Kd (Ee (name:=Cz "__next__") a Fd (De Fd a PySem.F.entry_dict_keyiterator_next ?_ (PySem.F.args_dict_keyiterator_next_1 _))))
 refine Aa (Ag (Aa (Aa ?_)))
 first | refine Aa (Ij a (Ag ?_)) | refine Aa (Kb a (Ag ?_))
 refine Aa (Od e hd ?_)
 rw[own,if_neg Ao]
 show Ax _ _ (if (Value.ref d == Value.none)=true then _ else _) _ _ _
 rw[if_neg j]
 refine Aa (Ag (Aa (Ji b c ?_)))
 rw[if_neg (by simp)]
 refine Aa (Ag (Aa (wpAny_dictEpoch b c ?_)))
 rw[if_neg (by simp)]
 refine Ag ?_
 simp only[show ¬ ((i:Int) < 0) by omega,if_false,Cj,Ls hi]
 refine Aa ?_
 first | refine Aa (Ij a (Ag ?_)) | refine Aa (Kb a (Ag ?_))
 refine Aa (wpAny_isOneOf_keyiter a ?_)
 show Ax _ _ (setField (.ref it) 1 (Gv ((i:Int) + 1)) >>= _) _ _ _
 refine Aa (Ex e hd (by simp) (Aa (Cs (Aa (wpAny_isOneOf_keyiter g ?_)))))
 show Ax _ _ (pure es[i].key) _ _ _
 exact Ag (Ag ⟨_,rfl,Ag (h _ up (Ca ..))⟩)
theorem RD{it d:Addr}{i ep:Nat}{es:Array Ig}{g:Obj}{Q:Option Ac->Ah->Prop}(l:A.handled=none)(hit:s.heap.IsKeyIter it d i es.size ep)(e:s.heap.get? d=some g)(f:g.data=.dict es ep)(hi:es.size<=i)
  (j:∀ h',Heap.ExtBut it s.heap h'->Q none {s with heap:=h'}):Ax (Bk prog w) A (Hz (.ref it)) Q E s:=by
 have c:=hit.typeIs
 obtain⟨o,h,hc,hd⟩:=id hit
 have own:Builtin.Dict_items.ownsTuple "dict_keyiterator" = false:=by decide
 have k:¬ ((Value.ref d == Value.none)=true):=Ao
 unfold Hz
 refine Aa (Kd (Ee (name:=Cz "__next__") c Fd (De Fd c PySem.F.entry_dict_keyiterator_next ?_ (PySem.F.args_dict_keyiterator_next_1 _))))
 refine Aa (Ag (Aa (Aa ?_)))
 first | refine Aa (Ij c (Ag ?_)) | refine Aa (Kb c (Ag ?_))
 refine Aa (Od h hd ?_)
 rw[own,if_neg Ao]
 show Ax _ _ (if (Value.ref d == Value.none)=true then _ else _) _ _ _
 rw[if_neg k]
 refine Aa (Ag (Aa (Ji e f ?_)))
 rw[if_neg (by simp)]
 refine Aa (Ag (Aa (wpAny_dictEpoch e f ?_)))
 rw[if_neg (by simp)]
 refine Ag ?_
 simp only[show ¬ ((i:Int) < 0) by omega,if_false,Cj,Array.getElem?_eq_none hi]
 refine Aa ?_
 first | refine Aa (Ij c (Ag ?_)) | refine Aa (Kb c (Ag ?_))
 show Ax _ _ (setField (.ref it) 0 .none >>= _) _ _ _
 refine Aa (Ex h hd (by simp) ?_)
 show Ax _ _ (newExc (.type "StopIteration") [] >>= _) _ _ _
 refine Aa ?_
 simp only[newExc,newTuple]
 refine Aa (Dd (Aa (m:=Kr _ _) (wpAny_of_eq (a:=Value.none) (by first | rfl | (simp only[Kr];rfl)) (Dd ?_ (by size_fits)))) (by size_fits))
 simp only[raiseNew]
 refine Aa (wpAny_handled ?_)
 rw[show A.in1.handled=none from l]
 refine Aa (Ag (wpAny_throw ?_))
 refine Aa (Jt (T:="StopIteration") (b:=true) ⟨_,Ap _ rfl,rfl⟩ isSubtype_stop ?_)
 exact Ag (j _ (((Ca ..).extBut.push _).push _))
theorem RE(n:A.handled=none)(I d:Addr)(m:d≠I)(es:Array Ig)(ep:Nat) :
  Walks prog w A I [I,d] [I] es.size (fun i v=>∃ e,es[i]? = some e/\v=e.key) (fun i h=>h.IsKeyIter I d i es.size ep/\∃ a,h.get? d=some a/\a.data=.dict es ep) where
 sub:=fun b hb=>by simp at hb;simp[hb]
 frame:=fun _ _ _ st hk=>⟨st.1.at fun o e=>hk I (by simp) o e,let ⟨a,f,c⟩:=st.2;⟨a,hk d (by simp) a f,c⟩⟩
 item:=fun i s Q E hi st k=>by
  obtain⟨a,f,c⟩:=st.2
  refine RC st.1 f c hi fun h' g j=>?_
  exact k _ h' s.toks ⟨es[i],by simp[hi],rfl⟩ ⟨g,a,j.extBut d a m f,c⟩ fun b o hb e=>j.extBut b o (fun h=>hb (by simp[h])) e
 done:=fun s Q E st k=>by
  obtain⟨a,f,c⟩:=st.2
  exact RD n st.1 f c (Ai _) fun h' l=>k h' s.toks fun b o hb e=>l b o (fun h=>hb (by simp[h])) e
 self:=fun _ _ _ _ st k=>wpAny_pyIter_keyiter st.1 k
def jN(h:Heap)(a:Addr)(es:Array Ig)(ep:Nat):Prop:=∃ o,h.get? a=some o/\o.ExactDict/\o.data=.dict es ep
theorem jN.typeIs{d:Addr}{es:Array Ig}{ep:Nat}(h:jN s.heap d es ep):s.TypeIs (.ref d) "dict":=let ⟨o,ho,hc,_⟩:=h;⟨o,ho,hc.1⟩
theorem jN.at{h h':Heap}{d:Addr}{es:Array Ig}{ep:Nat}(x:jN h d es ep)(e:∀ o,h.get? d=some o->h'.get? d=some o):jN h' d es ep:=let ⟨o,ho,r⟩:=x;⟨o,e o ho,r⟩
theorem jN.lt{h:Heap}{d:Addr}{es:Array Ig}{ep:Nat}(x:jN h d es ep):d < h.objs.size:=let ⟨_,ho,_⟩:=x;Ak ho
theorem RF{d:Addr}{es:Array Ig}{ep:Nat}{Q:Ac->Ah->Prop}(hd:(d == Gm)=false)(c:jN s.heap d es ep)
  (f:Q (.ref s.heap.objs.size) {s with heap:=s.heap.push {cls:=.type "dict_keyiterator",data:=.fields #[.ref d,.int 0 0,.int es.size 0,.int ep 0]}}):Ax (Bk prog w) A (Oe (.ref d)) Q E s:=by
 have b:=c.typeIs
 obtain⟨o,e,hc,a⟩:=c
 refine wpAny_pyIter_slot b PySem.F.slot_dict_iter (De PySem.F.slot_dict_iter b PySem.F.entry_dict_iter ?_ (PySem.F.args_dict_iter_1 _))
 unfold Hg.«dict.__iter__»
 refine Aa ?_
 unfold Builtin.Dict.dictSlotNone
 refine Aa (Jd b (Ag ?_))
 show Ax _ _ (Builtin.Dict.showsAll d >>= _) _ _ _
 unfold Builtin.Dict.showsAll
 rw[if_neg (by rw[hd];exact Ao)]
 refine Aa (Ag (Aa (Ji e a (Aa (wpAny_dictEpoch e a ?_)))))
 refine Aa (Dd (Ag ⟨_,rfl,"dict_keyiterator",_,⟨_,Ap _ rfl,rfl⟩,Fd.lookup,?_⟩))
 simpa [Gv] using f
theorem RG{d:Addr}{es:Array Ig}{ep:Nat}(lo:(d == Gm)=false):KdlSrc prog w "dict" d d es.size (fun i v=>∃ e,es[i]? = some e/\v=e.key) (fun h=>jN h d es ep) where
 type:=fun _ a=>a.typeIs
 there:=fun _ a=>⟨a.lt,a.lt⟩
 keep:=fun _ _ a hk=>a.at fun o e=>hk d (.inl rfl) o e
 notList:=by decide
 notTuple:=by decide
 hint:=fun _ _ _ _ a b=>kdl_hint_dict a.typeIs b
 iter:=fun _ _ c a=>⟨_,_,(fun _ _ b=>RF lo a b),RE c _ d (Be a.lt) es ep,⟨⟨_,Ap _ rfl,rfl,rfl⟩,let ⟨o,ho,_,hd⟩:=a;⟨o,Af _ ho,hd⟩⟩⟩
end
end L2
namespace PySem
namespace Rv
open PyProof.Rows L2 PySem.Spec
section
variable {prog:Bl}{w:Cd}{A:Bu}{E:Ac->Ah->Prop}{s:Ah}
end
end Rv
end PySem
namespace PySem
namespace Rv
open PyProof.Rows L2 PySem.Spec
section
variable {prog:Bl}{w:Cd}{A:Bu}{E:Ac->Ah->Prop}{s:Ah}
end
end Rv
end PySem
namespace PySem
namespace Rv
open PyProof.Rows L2 PySem.Spec
section
variable {prog:Bl}{w:Cd}{A:Bu}{E:Ac->Ah->Prop}{s:Ah}
end
end Rv
end PySem
namespace L2
open PySem PySem.Spec PyProof.Rows
section
variable {X:Cx}{a:Expr}{ta:TA}{p p2 pos pos2:Pos}
end
end L2
namespace PySem
namespace Zt
open PyProof.Rows L2 PySem.Spec
section
variable {prog:Bl}{w:Cd}{A:Bu}{E:Ac->Ah->Prop}{s:Ah}
theorem RH{α:Type}{Q:α->Ah->Prop}(hh:A.handled=none)(hE:∀ h' e,(∀ c o,s.heap.get? c=some o->h'.get? c=some o)->(∃ o,h'.get? e=some o/\o.cls=.type "StopIteration")->E (.ref e) {s with heap:=h'}) :
  Ax (Bk prog w) A (Builtin.SmallTypes.stopIteration:Sem α) Q E s:=by
 unfold Builtin.SmallTypes.stopIteration
 refine Aa (m:=newExc (.type "StopIteration") []) ?_
 simp only[newExc,newTuple]
 refine Aa (Dd (Aa (m:=Kr _ _) (wpAny_of_eq (a:=Value.none) (by first | rfl | (simp only[Kr];rfl)) (Dd ?_ (by size_fits)))) (by size_fits))
 simp only[raiseNew]
 refine Aa (wpAny_handled ?_)
 rw[hh]
 refine Aa (Ag (wpAny_throw (hE _ _ (fun c o e=>Af _ (Af _ e)) ⟨_,Ap _ rfl,rfl⟩)))
structure kE(prog:Bl)(w:Cd)(i l:Addr)(xs:Array Ac)(St:Nat->Heap->Prop):Prop where
 keep:∀ k h h',St k h->(∀ c,c=i\/c=l->∀ o,h.get? c=some o->h'.get? c=some o)->St k h'
 there:∀ k h,St k h->i < h.objs.size
 item:∀ (A:Bu) (E:Ac->Ah->Prop) (s:Ah) (k:Nat) (x:Ac) (Q:Ac->Ah->Prop),St k s.heap->xs[k]? = some x->(∀ h',St (k + 1) h'->Dx i s.heap h'->Q x {s with heap:=h'})->
  Ax (Bk prog w) A (Ea (.ref i)) Q E s
 stop:∀ (A:Bu) (E:Ac->Ah->Prop) (s:Ah) (k:Nat) (Q:Ac->Ah->Prop),A.handled=none->St k s.heap->xs[k]? = none->
  (∀ h' e,Heap.ExtBut i s.heap h'->(∃ o,h'.get? e=some o/\o.cls=.type "StopIteration")->E (.ref e) {s with heap:=h'})->Ax (Bk prog w) A (Ea (.ref i)) Q E s
theorem side_tuple(i l:Addr)(hne:l≠i)(xs:Array Ac):kE prog w i l xs (fun k h=>h.IsTupleIter i l k/\h.IsTuple l xs) where
 keep:=fun k h h' x hk=>by
  obtain⟨⟨o,e,r⟩,⟨u,g,q⟩⟩:=x
  exact⟨⟨o,hk i (.inl rfl) o e,r⟩,⟨u,hk l (.inr rfl) u g,q⟩⟩
 there:=fun k h x=>by obtain⟨_,e,_⟩:=x.1;exact Ak e
 item:=fun A E s k x Q st hx hQ=>by
  obtain⟨⟨o,ho,hc,hd⟩,⟨u,hu,hcu,n,hdu⟩⟩:=st
  have ty:s.TypeIs (.ref i) "tuple_iterator":=⟨o,ho,hc⟩
  unfold Ea
  refine Aa (Ee (name:=Cz "__next__") ty Jm (De Jm ty F.entry_tuple_iterator_next ?_ (F.args_tuple_iterator_next_1 _)))
  show Ax _ _ (field (.ref i) 0 >>= fun q=>_) _ _ _
  refine Aa (Fl ho hd (x:=.ref l) rfl ?_)
  show Ax _ _ (if (Value.ref l == Value.none)=true then _ else _) _ _ s
  rw[if_neg (show ¬ (Value.ref l == Value.none)=true from fun z=>nomatch z)]
  show Ax _ _ (field (.ref i) 1 >>= fun q=>_) _ _ _
  refine Aa (Fl ho hd (x:=.int k 0) rfl ?_)
  show Ax _ _ (seqItems? (.ref l) >>= fun q=>_) _ _ _
  refine Aa (Gg hu hdu ?_)
  simp only[Cj,hx]
  refine Aa (Ex ho hd (by simp) (Ag ⟨x,rfl,Ag (hQ _ ⟨⟨_,Fc _ ho (Nh (Ib hd _)),(Obj.cls_mapFields ..).trans hc,?_⟩,⟨u,?_,hcu,n,hdu⟩⟩ (Ca ..))⟩))
  ·rw[Ib hd];simp[Gv]
  ·exact(Fn _ _ (Bq hne)).trans hu
 stop:=fun A E s k Q hh st hx hE=>by
  obtain⟨⟨o,ho,hc,hd⟩,⟨u,hu,hcu,n,hdu⟩⟩:=st
  have ty:s.TypeIs (.ref i) "tuple_iterator":=⟨o,ho,hc⟩
  unfold Ea
  refine Aa (Ee (name:=Cz "__next__") ty Jm (De Jm ty F.entry_tuple_iterator_next ?_ (F.args_tuple_iterator_next_1 _)))
  show Ax _ _ (field (.ref i) 0 >>= fun q=>_) _ _ _
  refine Aa (Fl ho hd (x:=.ref l) rfl ?_)
  show Ax _ _ (if (Value.ref l == Value.none)=true then _ else _) _ _ s
  rw[if_neg (show ¬ (Value.ref l == Value.none)=true from fun z=>nomatch z)]
  show Ax _ _ (field (.ref i) 1 >>= fun q=>_) _ _ _
  refine Aa (Fl ho hd (x:=.int k 0) rfl ?_)
  show Ax _ _ (seqItems? (.ref l) >>= fun q=>_) _ _ _
  refine Aa (Gg hu hdu ?_)
  simp only[Cj,hx]
  refine Aa (Ei (Aa (Ex ho hd (by simp) (RH hh fun h' e hk he=>hE h' e (fun c q hc' g=>hk c q ((Fn _ _ (Bq hc')).trans g)) he))))
structure Apart(z TI TO i1 i2 l1 l2:Addr):Prop where
 nd : [z,TI,TO,i1,i2].Nodup
 a:l1≠z/\l1≠TI/\l1≠TO/\l1≠i1/\l1≠i2
 b:l2≠z/\l2≠TI/\l2≠TO/\l2≠i1/\l2≠i2
variable {z TI TO i1 i2 l1 l2:Addr}{xs ys:Array Ac}{S1 S2:Nat->Heap->Prop}
theorem item{k:Nat}{x y a b:Ac}{Q:Ac->Ah->Prop}(D:Apart z TI TO i1 i2 l1 l2)(F:kE prog w i1 l1 xs S1)(C:kE prog w i2 l2 ys S2)(hz:Of s.heap z TI TO .none)(hI:Hy s.heap TI (.ref i1) (.ref i2))(hO:Hy s.heap TO a b)
  (h1:S1 k s.heap) (h2:S2 k s.heap) (hx:xs[k]? = some x) (Z:ys[k]? = some y)
  (hQ:∀ h',Of h' z TI TO (Gv s.heap.objs.size)->Hy h' TO x y->S1 (k + 1) h'->S2 (k + 1) h'->Hy h' s.heap.objs.size x y->(∀ c o,c≠z->c≠TO->c≠i1->c≠i2->s.heap.get? c=some o->h'.get? c=some o)->Q (.ref s.heap.objs.size) {s with heap:=h'}) :
  Ax (Bk prog w) A (Hg.«zip.__next__» ⟨[.ref z],[]⟩) (fun fin s'=>∃ v,fin=.done (.ret v)/\Q v s') E s:=by
 have nd:=D.nd
 simp only[Dq,Ba,Ew,or_false,not_or,not_false_eq_true,Fy,and_true] at nd
 obtain⟨⟨zI,B,z1,z2⟩,⟨IO,I1,I2⟩,⟨L,K⟩,j⟩:=nd
 obtain⟨az,aI,aO,a1,a2⟩:=D.a
 obtain⟨W,bI,Y,b1,b2⟩:=D.b
 show Ax _ _ (field (.ref z) 2 >>= fun q=>_) _ _ _
 refine Aa (Fl hz rfl (x:=.bool false) rfl ?_)
 show Ax _ _ (field (.ref z) 3 >>= fun q=>_) _ _ _
 refine Aa (Fl hz rfl (x:=.ref TI) rfl (Aa (Gg hI rfl ?_)))
 show Ax _ _ (Fu (.ref z) >>= fun q=>_) _ _ _
 refine Aa ?_
 unfold Fu
 refine Aa (Fl hz rfl (x:=.none) rfl (Ag ?_))
 simp only[if_true]
 refine Aa (Ei (Aa (Fl hz rfl (x:=.ref TO) rfl (Aa (Ip hz (by simp) fun g1 q1 h=>Aa ?_)))))
 simp only[Jj,List.zipIdx_nil,List.forIn_cons,List.forIn_nil]
 have i:∀ c,c=i1\/c=l1->c≠z/\c≠TO/\c≠i2:=fun c hc=>by
  rcases hc with rfl | rfl
  ·exact⟨Bq z1,Bq L,j⟩
  ·exact⟨az,aO,a2⟩
 have r:∀ c,c=i2\/c=l2->c≠z/\c≠TO/\c≠i1:=fun c hc=>by
  rcases hc with rfl | rfl
  ·exact⟨Bq z2,Bq K,Bq j⟩
  ·exact⟨W,Y,b1⟩
 refine Aa (Aa (Om ?_))
 show Ax _ _ (Ea (.ref i1) >>= fun q=>_) _ _ _
 refine Aa (F.item _ _ {s with heap:=g1} k x _ (F.keep k _ _ h1 fun c hc o e=>h.extBut c o (i c hc).1 e) hx fun g2 t2 l=>Ag ?_)
 have O:Hy g2 TO a b:=l.extBut _ _ L (h.extBut _ _ (Bq B) hO)
 refine Aa (Gg O rfl (Aa (Oc O fun M G n=>Aa (wpAny_letGo (Ag ?_)))))
 replace G:Hy M TO x b:=G
 refine Aa (Aa (Om ?_))
 show Ax _ _ (Ea (.ref i2) >>= fun q=>_) _ _ _
 refine Aa (C.item _ _ {s with heap:=M} k y _ (C.keep k _ _ h2 fun c hc o e=>n.extBut c o (r c hc).2.1 (l.extBut c o (r c hc).2.2 (h.extBut c o (r c hc).1 e))) Z fun V t4 p=>Ag ?_)
 have R:Hy V TO x b:=p.extBut _ _ K G
 refine Aa (Gg R rfl (Aa (Oc R fun d u t=>Aa (wpAny_letGo (Ag (Ag ?_))))))
 replace u:Hy d TO x y:=u
 refine Aa (Gg u rfl (Aa (wpAny_newTuple ?_)))
 have f:d.objs.size=s.heap.objs.size:=by rw[t.1,p.1,n.1,l.1,h.1]
 have T:Of d z TI TO .ellipsis:=t.extBut _ _ B (p.extBut _ _ z2 (n.extBut _ _ B (l.extBut _ _ z1 q1)))
 have I:z < d.objs.size:=Ak T
 refine Aa (m:=Builtin.SmallTypes.ownedTupleHandOut _ _) ?_
 unfold Builtin.SmallTypes.ownedTupleHandOut
 have z6:Of (d.push {cls:=.type "tuple",data:=.seq #[x,y]}) z TI TO .ellipsis:=Af _ T
 refine Aa (Ip z6 (by simp) fun g7 z7 J=>Ip z7 (by simp) fun g z8 N=>Ag ⟨_,rfl,?_⟩)
 have up:∀ c o,c≠z->d.get? c=some o->g.get? c=some o:=fun c o hc e=>N.extBut _ _ hc (J.extBut _ _ hc (Af _ e))
 have S:Hy g d.objs.size x y:=N.extBut _ _ (Dy I) (J.extBut _ _ (Dy I) (Ap _ rfl))
 have r1:S1 (k + 1) g:=F.keep _ _ _ t2 fun c hc o e=>up c o (i c hc).1 (t.extBut _ _ (i c hc).2.1 (p.extBut _ _ (i c hc).2.2 (n.extBut _ _ (i c hc).2.1 e)))
 have X:S2 (k + 1) g:=C.keep _ _ _ t4 fun c hc o e=>up c o (r c hc).1 (t.extBut _ _ (r c hc).2.1 e)
 show Q (.ref d.objs.size) _
 replace z8:Of g z TI TO (Gv d.objs.size):=z8
 rw[f] at z8 S ⊢
 exact hQ g z8 (up _ _ (Bq B) u) r1 X S fun c o H P c3 U e=>up c o H (t.extBut _ _ P (p.extBut _ _ U (n.extBut _ _ P (l.extBut _ _ c3 (h.extBut _ _ H e)))))
theorem stop{k:Nat}{a b:Ac}{Q:Fin->Ah->Prop}(K:A.handled=none)(D:Apart z TI TO i1 i2 l1 l2)(m:kE prog w i1 l1 xs S1)(H:kE prog w i2 l2 ys S2)(hz:Of s.heap z TI TO .none)(hI:Hy s.heap TI (.ref i1) (.ref i2))(hO:Hy s.heap TO a b)
  (S:S1 k s.heap) (h2:S2 k s.heap) (l:xs[k]? = none\/ys[k]? = none)
  (L:∀ h' e,(∀ c o,c≠z->c≠TO->c≠i1->c≠i2->s.heap.get? c=some o->h'.get? c=some o)->(∃ o,h'.get? e=some o/\o.cls=.type "StopIteration")->E (.ref e) {s with heap:=h'}) :
  Ax (Bk prog w) A (Hg.«zip.__next__» ⟨[.ref z],[]⟩) Q E s:=by
 have nd:=D.nd
 simp only[Dq,Ba,Ew,or_false,not_or,not_false_eq_true,Fy,and_true] at nd
 obtain⟨⟨zI,N,z1,z2⟩,⟨IO,I1,I2⟩,⟨O1,Y⟩,y⟩:=nd
 obtain⟨az,aI,aO,a1,a2⟩:=D.a
 obtain⟨X,bI,Z,b1,b2⟩:=D.b
 have I:∀ c,c=i1\/c=l1->c≠z:=fun c hc=>by rcases hc with rfl | rfl;exact Bq z1;exact az
 have C:∀ c,c=i2\/c=l2->c≠z/\c≠TO/\c≠i1:=fun c hc=>by
  rcases hc with rfl | rfl
  ·exact⟨Bq z2,Bq Y,Bq y⟩
  ·exact⟨X,Z,b1⟩
 show Ax _ _ (field (.ref z) 2 >>= fun q=>_) _ _ _
 refine Aa (Fl hz rfl (x:=.bool false) rfl ?_)
 show Ax _ _ (field (.ref z) 3 >>= fun q=>_) _ _ _
 refine Aa (Fl hz rfl (x:=.ref TI) rfl (Aa (Gg hI rfl ?_)))
 show Ax _ _ (Fu (.ref z) >>= fun q=>_) _ _ _
 refine Aa ?_
 unfold Fu
 refine Aa (Fl hz rfl (x:=.none) rfl (Ag ?_))
 simp only[if_true]
 refine Aa (Ei (Aa (Fl hz rfl (x:=.ref TO) rfl (Aa (Ip hz (by simp) fun P T f=>Aa ?_)))))
 simp only[Jj,List.zipIdx_nil,List.forIn_cons,List.forIn_nil]
 refine Aa (Aa (Om ?_))
 show Ax _ _ (Ea (.ref i1) >>= fun q=>_) _ _ _
 cases B:xs[k]? with
 | none=>
  refine Aa (m.stop _ _ {s with heap:=P} k _ K (m.keep k _ _ S fun c hc o e=>f.extBut c o (I c hc) e) B fun t e d n=>?_)
  obtain⟨v,ge,j⟩:=n
  have R:Of t z TI TO .ellipsis:=d _ _ z1 T
  have r:e≠z:=fun u=>by subst u;rw[R] at ge;cases ge;simp at j
  exact Ip R (by simp) fun p _ g=>L p e (fun c o i _ F _ u=>g.extBut _ _ i (d _ _ F (f.extBut _ _ i u))) ⟨v,g.extBut _ _ r ge,j⟩
 | some x=>
  have hy:ys[k]? = none:=by rcases l with h | h;rw[B] at h;cases h;exact h
  refine Aa (m.item _ _ {s with heap:=P} k x _ (m.keep k _ _ S fun c hc o e=>f.extBut c o (I c hc) e) B fun t t2 d=>Ag ?_)
  have O:Hy t TO a b:=d.extBut _ _ O1 (f.extBut _ _ (Bq N) hO)
  refine Aa (Gg O rfl (Aa (Oc O fun p o3 g=>Aa (wpAny_letGo (Ag ?_)))))
  refine Aa (Aa (Om ?_))
  show Ax _ _ (Ea (.ref i2) >>= fun q=>_) _ _ _
  refine Aa (H.stop _ _ {s with heap:=p} k _ K (H.keep k _ _ h2 fun c hc o e=>g.extBut c o (C c hc).2.1 (d.extBut c o (C c hc).2.2 (f.extBut c o (C c hc).1 e))) hy fun W e J n=>?_)
  obtain⟨v,ge,j⟩:=n
  have G:Of W z TI TO .ellipsis:=J _ _ z2 (g.extBut _ _ N (d.extBut _ _ z1 T))
  have r:e≠z:=fun u=>by subst u;rw[G] at ge;cases ge;simp at j
  exact Ip G (by simp) fun V _ M=>L V e (fun c o i c2 F U u=>M.extBut _ _ i (J _ _ U (g.extBut _ _ c2 (d.extBut _ _ F (f.extBut _ _ i u))))) ⟨v,M.extBut _ _ r ge,j⟩
end
end Zt
end PySem
namespace PySem
namespace Zt
open PyProof.Rows L2 PySem.Spec
section
variable {prog:Bl}{w:Cd}{A:Bu}{E:Ac->Ah->Prop}{s:Ah}{z TI TO i1 i2 l1 l2:Addr}{xs ys:Array Ac}{S1 S2:Nat->Heap->Prop}
theorem next_item{k:Nat}{x y a b:Ac}{Q:Option Ac->Ah->Prop}(D:Apart z TI TO i1 i2 l1 l2)(f:kE prog w i1 l1 xs S1)(r:kE prog w i2 l2 ys S2)(hz:Of s.heap z TI TO .none)(g:Hy s.heap TI (.ref i1) (.ref i2))(j:Hy s.heap TO a b)
  (l:S1 k s.heap) (d:S2 k s.heap) (q:xs[k]? = some x) (m:ys[k]? = some y)
  (t:∀ h',Of h' z TI TO (Gv s.heap.objs.size)->Hy h' TO x y->S1 (k + 1) h'->S2 (k + 1) h'->Hy h' s.heap.objs.size x y->(∀ c o,c≠z->c≠TO->c≠i1->c≠i2->s.heap.get? c=some o->h'.get? c=some o)->Q (some (.ref s.heap.objs.size)) {s with heap:=h'}) :
  Ax (Bk prog w) A (Hz (.ref z)) Q E s:=by
 have ty:s.TypeIs (.ref z) "zip":=⟨_,hz,rfl⟩
 unfold Hz
 exact Aa (Kd (Ee (name:=Cz "__next__") ty Nl (De Nl ty F.entry_zip_next (item D f r hz g j l d q m fun h' u e h n i p=>Ag (t h' u e h n i p)) (F.args_zip_next_1 _))))
theorem next_stop{k:Nat}{a b:Ac}{Q:Option Ac->Ah->Prop}(m:A.handled=none)(D:Apart z TI TO i1 i2 l1 l2)(g:kE prog w i1 l1 xs S1)(n:kE prog w i2 l2 ys S2)(hz:Of s.heap z TI TO .none)(h:Hy s.heap TI (.ref i1) (.ref i2))(i:Hy s.heap TO a b)
  (j:S1 k s.heap) (f:S2 k s.heap) (d:xs[k]? = none\/ys[k]? = none)
  (p:∀ h',(∀ c o,c≠z->c≠TO->c≠i1->c≠i2->s.heap.get? c=some o->h'.get? c=some o)->Q none {s with heap:=h'}):Ax (Bk prog w) A (Hz (.ref z)) Q E s:=by
 have ty:s.TypeIs (.ref z) "zip":=⟨_,hz,rfl⟩
 unfold Hz
 refine Aa (Kd (Ee (name:=Cz "__next__") ty Nl (De Nl ty F.entry_zip_next (stop m D g n hz h i j f d fun h' e hk ⟨o,l,hc⟩=>?_) (F.args_zip_next_1 _))))
 exact Aa (Jt (T:="StopIteration") (b:=true) ⟨o,l,hc⟩ isSubtype_stop (Ag (p _ hk)))
end
abbrev zh1(h:Heap)(a:Addr):Heap:=h.push {cls:=.type "tuple_iterator",data:=.fields #[.ref a,.int 0 0]}
abbrev zh2(h:Heap)(a b:Addr):Heap:=(zh1 h a).push {cls:=.type "tuple_iterator",data:=.fields #[.ref b,.int 0 0]}
abbrev zh3(h:Heap)(a b:Addr):Heap:=(zh2 h a b).push {cls:=.type "tuple",data:=.seq #[.ref h.objs.size,.ref (zh1 h a).objs.size]}
abbrev zh4(h:Heap)(a b:Addr):Heap:=(zh3 h a b).push {cls:=.type "tuple",data:=.seq #[.none,.none]}
abbrev zh5(h:Heap)(a b:Addr):Heap:=(zh4 h a b).push {cls:=.type "zip",data:=.fields #[.none,.bool false,.bool false,.ref (zh2 h a b).objs.size,.ref (zh3 h a b).objs.size]}
theorem meets_new(a b:Addr)(xs ys:Array Ac) :
  Meets (Hg.«zip.__new__» ⟨[.type "zip",.ref a,.ref b],[]⟩) (fun _ R s=>s.heap.IsTuple a xs/\s.heap.IsTuple b ys/\R (.ok (.ret (.ref (zh4 s.heap a b).objs.size))) {s with heap:=zh5 s.heap a b}):=
 .of_wp fun prog w A R s h=>by
  obtain⟨c,g,d,tk,os⟩:=s;obtain⟨i,k,h⟩:=h
  have f:=sub_zip
  have j:Heap.IsTuple (Shared.heap ⟨c,g,d,tk,os⟩) a xs:=i
  have l:Heap.IsTuple (Shared.heap ⟨c.push {cls:=.type "tuple_iterator",data:=.fields #[.ref a,.int 0 0]},g,d,tk,os⟩) b ys:=by
   obtain⟨o,e,r⟩:=(show c.IsTuple b ys from k)
   exact⟨o,Af _ e,r⟩
  wp_walk using wpAny_pyIter_tuple j,wpAny_pyIter_tuple l
  exact⟨_,rfl,h⟩
end Zt
end PySem
namespace L2
open PySem PySem.Spec PyProof.Rows
def rG(K:Ae)(a b:Addr)(xs ys:List V):It:=
 ⟨fun i H=>bM K H a xs/\bM K H b ys/\i < xs.length/\i < ys.length,
   fun i H x H'=>∃ p u v,xs[i]? = some u/\ys[i]? = some v/\H p=none/\x=.ref p/\H'=aN H p (.tup [u,v]),
   fun i H=>bM K H a xs/\bM K H b ys/\(xs.length<=i\/ys.length<=i)⟩
theorem RI{P:Bl}{w:Cd}{K:Ae}{es:List Expr}{kx:Nat}{px:Pos}(a b z TI TO i1 i2:Addr)(xs ys:List V)(D:Zt.Apart z TI TO i1 i2 a b) :
  kB P w K (.Tuple es kx px) (rG K a b xs ys) [z,TI,TO,i1,i2] z (fun i h=>Of h z TI TO .none/\Hy h TI (.ref i1) (.ref i2)/\(∃ c d,Hy h TO c d)/\h.IsTupleIter i1 a i/\h.IsTupleIter i2 b i) where
 mem:=by simp
 obj:=fun i h st c hc=>by
  obtain⟨m,l,⟨p,q,B⟩,⟨o4,n,_,d4⟩,⟨o5,A,_,d5⟩⟩:=st
  simp only[Ba,Ej,or_false] at hc
  rcases hc with rfl | rfl | rfl | rfl | rfl
  ·exact⟨_,m,fun v g=>nomatch g⟩
  ·exact⟨_,l,fun v g=>nomatch g⟩
  ·exact⟨_,B,fun v g=>nomatch g⟩
  ·exact⟨_,n,fun v g=>by rw[d4] at g;cases g⟩
  ·exact⟨_,A,fun v g=>by rw[d5] at g;cases g⟩
 keep:=fun i h h' st k=>by
  obtain⟨m,l,⟨p,q,B⟩,⟨o4,n,r4⟩,⟨o5,A,r5⟩⟩:=st
  exact⟨k z (by simp) _ m,k TI (by simp) _ l,⟨p,q,k TO (by simp) _ B⟩,⟨o4,k i1 (by simp) _ n,r4⟩,⟨o5,k i2 (by simp) _ A,r5⟩⟩
 item:=by
  intro X Q hw S hc i t s σ H E I hf st T
  subst Q hw S
  obtain⟨m,l,⟨c,d,B⟩,n,A⟩:=st
  obtain⟨M,C,hi,hj⟩:=T
  obtain⟨its,rv,pl,hz⟩:=I.tuple M
  obtain⟨j,J,L,O⟩:=I.tuple C
  obtain⟨u,hu,ru⟩:=rv.get (Am hi)
  obtain⟨v,hv,rvv⟩:=J.get (Am hj)
  refine Zt.next_item D (Zt.side_tuple i1 a D.a.2.2.2.1 its.toArray) (Zt.side_tuple i2 b D.b.2.2.2.2 j.toArray) m l B ⟨n,pl⟩ ⟨A,L⟩ (x:=u) (y:=v) (by simpa using hu) (by simpa using hv) fun h' c1 c2 c3 c4 c5 hk=>?_
  refine⟨_,rfl,wpAny_letOwnedTupleGo_zip c1 fun F z' sb=>?_⟩
  have nd:=D.nd
  simp only[Dq,Ba,Ew,or_false,not_or,not_false_eq_true,Fy,and_true] at nd
  obtain⟨⟨zI,zO,z1,z2⟩,⟨IO,R,W⟩,⟨O1,O2⟩,n12⟩:=nd
  have U:H s.heap.objs.size=none:=I.hok.fresh (Ai _)
  have N:z < s.heap.objs.size:=Ak m
  have G:∀ q o,q∉[z,TI,TO,i1,i2]->s.heap.get? q=some o->F.get? q=some o:=fun q o f e=>by
   simp only[Ba,Ej,or_false,not_or] at f
   exact(sb.2 q f.1).trans (hk q o f.1 f.2.2.1 f.2.2.2.1 f.2.2.2.2 e)
  have hp2:F.get? s.heap.objs.size=some {cls:=.type "tuple",data:=.seq [u,v].toArray}:=(sb.2 _ (Dy N)).trans c5
  have I1:Inv X t σ (aN H s.heap.objs.size (.tup [xs[i],ys[i]])) {s with heap:=F,toks:=s.toks}:=I.laidT (its:=[u,v]) hf G (by show 2<=Aj;decide) (.cons ru (.cons rvv .nil)) hp2
  have Z:∀ q∈[z,TI,TO,i1,i2],q < s.heap.objs.size:=fun q f=>by
   simp only[Ba,Ej,or_false] at f
   rcases f with rfl | rfl | rfl | rfl | rfl
   ·exact N
   ·exact Ak l
   ·exact Ak B
   ·obtain⟨_,e,_⟩:=n;exact Ak e
   ·obtain⟨_,e,_⟩:=A;exact Ak e
  refine⟨.ref s.heap.objs.size,_,I1,rfl,⟨s.heap.objs.size,xs[i],ys[i],Am hi,Am hj,U,rfl,rfl⟩,⟨z',(sb.2 _ (Bq zI)).trans (hk _ _ (Bq zI) IO R W l),⟨u,v,(sb.2 _ (Bq zO)).trans c2⟩,?_,?_⟩,fun q f=>?_⟩
  ·obtain⟨o,e,r⟩:=c3.1;exact⟨o,(sb.2 _ (Bq z1)).trans e,r⟩
  ·obtain⟨o,e,r⟩:=c4.1;exact⟨o,(sb.2 _ (Bq z2)).trans e,r⟩
  ·rw[bK (Be (Z q f))];exact(hf q f).1
 done:=by
  intro X Q hw S hc i t s σ H E I hf st T
  subst Q hw S
  obtain⟨m,l,⟨c,d,B⟩,n,A⟩:=st
  obtain⟨M,C,Y⟩:=T
  obtain⟨its,rv,pl,hz⟩:=I.tuple M
  obtain⟨j,J,L,O⟩:=I.tuple C
  have l1:=rv.length
  have l2:=J.length
  refine Zt.next_stop (I.ok.hd hc) D (Zt.side_tuple i1 a D.a.2.2.2.1 its.toArray) (Zt.side_tuple i2 b D.b.2.2.2.2 j.toArray) m l B ⟨n,pl⟩ ⟨A,L⟩ (Y.elim (fun q=>.inl (by simp;lia)) fun q=>.inr (by simp;lia)) fun h' hk=>⟨rfl,?_⟩
  exact I.turnedT (tk:=s.toks) hf fun q o f e=>hk q o (fun y=>f (by simp[y])) (fun y=>f (by simp[y])) (fun y=>f (by simp[y])) (fun y=>f (by simp[y])) e
 self:=fun _ _ _ _ _ st h=>Nd st.1 h
theorem RJ(n:Nat) : [n + 4,n + 2,n + 3,n,n + 1].Nodup:=by
 simp only[Dq,Ba,Ew,or_false,not_or,not_false_eq_true,Fy,and_true]
 lia
theorem rH{n q:Nat}(h:q∈[n + 4,n + 2,n + 3,n,n + 1]):n<=q:=by
 simp only[Ba,Ej,or_false] at h
 lia
section
variable {X:Cx}
theorem RK{g:List (Addr×Obj)}{d:Ah}{x:St}{H1:Hp}{R:It->Hp->Prop}{a b:Addr}{xs ys:List V}{es:List Expr}{C:Nat}{E:Pos}(k:Inv X g x H1 d)(r:bM X.K H1 a xs)(m:bM X.K H1 b ys)(q:R (rG X.K a b xs ys) H1) :
  Ax (Bk X.prog X.w) X.A (call (.type "zip") [.ref a,.ref b]) (fun v d=>Ax (Bk X.prog X.w) X.A (Oe v) (oK X g x (.Tuple es C E) R) X.xe d) X.xe d:=by
 obtain⟨its,I,pl,hz⟩:=k.tuple r
 obtain⟨f,H,j,D⟩:=k.tuple m
 have la:a < d.heap.objs.size:=by obtain⟨_,e,_⟩:=(show d.heap.IsTuple a its.toArray from pl);exact Ak e
 have h:b < d.heap.objs.size:=by obtain⟨_,e,_⟩:=(show d.heap.IsTuple b f.toArray from j);exact Ak e
 have p:(Zt.zh1 d.heap a).objs.size=d.heap.objs.size + 1:=Dr ..
 have n:(Zt.zh2 d.heap a b).objs.size=d.heap.objs.size + 2:=by rw[Dr,p]
 have s:(Zt.zh3 d.heap a b).objs.size=d.heap.objs.size + 3:=by rw[Dr,n]
 have u:(Zt.zh4 d.heap a b).objs.size=d.heap.objs.size + 4:=by rw[Dr,s]
 have i:∀ c o,d.heap.get? c=some o->(Zt.zh5 d.heap a b).get? c=some o:=fun c o e=>Af _ (Af _ (Af _ (Af _ (Af _ e))))
 have l:(Zt.zh5 d.heap a b).get? (Zt.zh4 d.heap a b).objs.size=some _:=Ap _ rfl
 have z:(Zt.zh5 d.heap a b).get? (Zt.zh3 d.heap a b).objs.size=some _:=Af _ (Ap _ rfl)
 have t:(Zt.zh5 d.heap a b).get? (Zt.zh2 d.heap a b).objs.size=some _:=Af _ (Af _ (Ap _ rfl))
 have y:(Zt.zh5 d.heap a b).get? (Zt.zh1 d.heap a).objs.size=some _:=Af _ (Af _ (Af _ (Ap _ rfl)))
 have G:(Zt.zh5 d.heap a b).get? d.heap.objs.size=some _:=Af _ (Af _ (Af _ (Af _ (Ap _ rfl))))
 refine callType_new F.called_zip (by decide) (F.typeCall_zip_2 _ _) (F.newCall_zip_2 _ _) (fun obj=>F.args_object_init_3 obj _ _) F.entry_zip_new (Zt.meets_new a b its.toArray f.toArray) ⟨pl,j,⟨_,l,rfl⟩,?_⟩
 refine Nd l ?_
 rw[n,s,u] at l
 rw[p,n] at t
 rw[s] at z
 rw[p] at y
 rw[u]
 refine⟨d.heap.objs.size + 4,[d.heap.objs.size + 4,d.heap.objs.size + 2,d.heap.objs.size + 3,d.heap.objs.size,d.heap.objs.size + 1],_,_,H1,rfl,k.kept (t':=d.toks) i,
  RI a b (d.heap.objs.size + 4) (d.heap.objs.size + 2) (d.heap.objs.size + 3) d.heap.objs.size (d.heap.objs.size + 1) xs ys ⟨RJ _,⟨gU 4 la,gU 2 la,gU 3 la,rE la,gU 1 la⟩,⟨gU 4 h,gU 2 h,gU 3 h,rE h,gU 1 h⟩⟩,⟨l,t,⟨_,_,z⟩,⟨_,G,rfl,rfl⟩,⟨_,y,rfl,rfl⟩⟩,fun q B=>k.fpOk (rH B) (k.hok.fresh (rH B)),q⟩
theorem RL{d:List (Addr×Obj)}{c:Ah}{n:St}{H1:Hp}{R:It->Hp->Prop}{a b:Addr}{xs ys:List V}{es:List Expr}{r:Nat}{u:Pos}(g:Inv X d n H1 c)(j:bC X.K H1 a xs)(i:bC X.K H1 b ys)(q:R (rF X.K a b xs ys) H1) :
  Ax (Bk X.prog X.w) X.A (call (.type "zip") [.ref a,.ref b]) (fun v c=>Ax (Bk X.prog X.w) X.A (Oe v) (oK X d n (.Tuple es r u) R) X.xe c) X.xe c:=by
 obtain⟨its,z,pl,hz⟩:=g.list j
 obtain⟨l,y,f,t⟩:=g.list i
 have la:a < c.heap.objs.size:=by obtain⟨_,e,_⟩:=pl.isList;exact Ak e
 have h:b < c.heap.objs.size:=by obtain⟨_,e,_⟩:=f.isList;exact Ak e
 refine call_zip_2 pl.isList f.isList fun h' m x s p B C k=>Nd m ?_
 refine⟨c.heap.objs.size + 4,[c.heap.objs.size + 4,c.heap.objs.size + 2,c.heap.objs.size + 3,c.heap.objs.size,c.heap.objs.size + 1],_,_,H1,rfl,g.kept (t':=c.toks) k,
  Q7 a b _ _ _ _ _ xs ys ⟨nH 2 4 (by decide),nH 3 4 (by decide),BY 4 (by decide),nH 1 4 (by decide),nH 2 3 (by decide),vN 2 (by decide),nH 2 1 (by decide),vN 3 (by decide),nH 3 1 (by decide),BY 1 (by decide),gU 4 la,gU 3 la,rE la,gU 1 la,gU 4 h,gU 3 h,rE h,gU 1 h⟩,⟨m,x,⟨_,_,s⟩,p,B⟩,fun q o=>g.fpOk (rH o) (g.hok.fresh (rH o)),q⟩
def RM(K:Ae)(d:TA):TI:=fun c H R=>d c H fun vs H1=>∃ a b xs ys,vs=[.ref a,.ref b]/\((bM K H1 a xs/\bM K H1 b ys/\R (rG K a b xs ys) H1)\/(bC K H1 a xs/\bC K H1 b ys/\R (rF K a b xs ys) H1))
theorem RN{a b:Expr}{i:TA}{p pos:Pos}{es:List Expr}{l:Nat}{w:Pos}(t:Gl X "zip")(o:X.mg "zip" = none)(ha:PA X [a,b] i)(hs:Bj [a,b] X.env=[(false,eval a X.env),(false,eval b X.env)]:=by rfl)(d:Bj [b] X.env=[(false,eval b X.env)]:=by rfl) :
  PI X (.Tuple es l w) (.Call (.Name "zip" p) [a,b] [] pos) (RM X.K i):=by
 intro c s n H R I h
 refine Call_ (iU I t o Q8 (Du (aZ (ha pos c s n H _ I h) fun us x ⟨vs,H1,j,m,e⟩=>?_) (by rw[hs,d]) (by rw[d];rfl)))
 obtain⟨a,b,xs,ys,rfl,e⟩:=e
 obtain⟨u,v,rfl,r,k⟩:=vals2 m
 cases r;cases k
 rcases e with⟨g,f,q⟩ | ⟨g,f,q⟩
 ·exact RK j g f q
 ·exact RL j g f q
end
section
variable {X:Cx}
end
section
variable {X:Cx}
end
end L2
namespace L3
open PySem PySem.Spec PyProof.Rows L2
abbrev SV:=L2.St
inductive W where
 | non | bl (b:Bool) | int (i:Int) | str (x:Str) | ty (n:String) | tup (ws:List W) | rl (ws:List W) | sc (ws:List W) | ref (a:Addr)
 | dk (kvs:List (aD×W)) | dt (kvs:List (List aD×W)) | fk (kvs:List (aD×W)) | ft (kvs:List (List aD×W))
inductive MO where
 | lst (ws:List W) | dK (kvs:List (aD×W)) | dT (kvs:List (List aD×W)) | fix (vs:List V) | ins (C dx:Addr) (fs:List (Str×W))
abbrev Mm:=Addr->Option MO
def put(M:Mm)(a:Addr)(o:MO):Mm:=fun b=>if b=a then some o else M b
def del(M:Mm)(a:Addr):Mm:=fun b=>if b=a then none else M b
theorem bA{M:Mm}{a:Addr}{o:MO}:put M a o a=some o:=by unfold put;rw[if_pos rfl]
theorem aP{M:Mm}{a b:Addr}{o:MO}(h:b≠a):put M a o b=M b:=by unfold put;rw[if_neg h]
theorem kF{M:Mm}{a:Addr}{o u:MO}:put (put M a o) a u=put M a u:=by
 funext b;unfold put;split <;> rfl
theorem rJ{M:Mm}{a:Addr}{o:MO}(h:M a=none):del (put M a o) a=M:=by
 funext b;unfold del put;split
 ·rename_i e;rw[e,h]
 ·rfl
theorem oW{M:Mm}{a:Addr}:del M a a=none:=by unfold del;rw[if_pos rfl]
theorem RO{M:Mm}{a b:Addr}{o u:MO}(h:a≠b):put (put M a o) b u=put (put M b u) a o:=by
 funext c
 unfold put
 by_cases e:c=b
 ·by_cases d:c=a
  ·exact absurd (d.symm.trans e) h
  ·rw[if_pos e,if_neg d,if_pos e]
 ·by_cases d:c=a
  ·rw[if_neg e,if_pos d,if_pos d]
  ·rw[if_neg e,if_neg d,if_neg d,if_neg e]
theorem RP{M:Mm}{a:Addr}{o:MO}(h:M a=some o):put M a o=M:=by
 funext b;unfold put;split
 ·rename_i e;rw[e,h]
 ·rfl
def Sub(M M':Mm):Prop:=∀ a o,M a=some o->M' a=some o
theorem Sub.refl(M:Mm):Sub M M:=fun _ _ h=>h
theorem Sub.trans{M M1 M2:Mm}(a:Sub M M1)(b:Sub M1 M2):Sub M M2:=fun c o h=>b c o (a c o h)
theorem Sub.new{M:Mm}{a:Addr}{o:MO}(h:M a=none):Sub M (put M a o):=fun b u e=>by
 rw[aP (fun z=>by rw[z,h] at e;cases e)];exact e
theorem Sub.put{M M':Mm}{a:Addr}{o:MO}(h:Sub M M'):Sub (put M a o) (put M' a o):=fun b u e=>by
 unfold L3.put at e ⊢
 split at e
 ·rename_i z;rw[if_pos z];exact e
 ·rename_i z;rw[if_neg z];exact h b u e
theorem Sub.del{M:Mm}{a:Addr}:Sub (del M a) M:=fun b u e=>by
 unfold L3.del at e
 split at e
 ·cases e
 ·exact e
theorem Sub.non{M M':Mm}(h:Sub M M'){a:Addr}(e:M' a=none):M a=none:=by
 cases q:M a with
 | none=>rfl
 | some o=>rw[h a o q] at e;cases e
def kG(K:Ae)(H:Hp)(a:Addr)(xs:List V):Prop:=
 (∃ o,H a=some (.frz o (.lst xs)))\/
  ∃ (o:Obj) (its:Array Ac) (n:Nat),K.lookup a=some o/\o.cls=.type "list"/\o.dict=none/\o.data=.seq its n/\its.size<=Aj/\aQ xs its.toList
theorem kG.sq{K:Ae}{H:Hp}{a:Addr}{xs:List V}(h:kG K H a xs):bC K H a xs:=by
 rcases h with⟨o,h⟩ | h
 ·exact .inl (.inr ⟨o,h⟩)
 ·exact .inr h
mutual
inductive AV(K:Ae)(H:Hp)(M:Mm):V->W->Prop
 | non:AV K H M .non .non
 | bl (b:Bool):AV K H M (.bl b) (.bl b)
 | int (i:Int):AV K H M (.int i) (.int i)
 | str (x:Str):AV K H M (.str x) (.str x)
 | ty (n:String):AV K H M (.ty n) (.ty n)
 | tup {a:Addr} {xs:List V} {ws:List W}:H a=some (.tup xs)->aL K H M xs ws->AV K H M (.ref a) (.tup ws)
 | sc {a:Addr} {xs:List V} {ws:List W}:kG K H a xs->aL K H M xs ws->AV K H M (.ref a) (.sc ws)
 | rl {a:Addr} {xs:List V} {ws:List W}:H a=some (.lst xs)->M a=none->aL K H M xs ws->AV K H M (.ref a) (.rl ws)
 | ref (a:Addr):AV K H M (.ref a) (.ref a)
 | dk {a:Addr} {ks:List (aD×V)} {kvs:List (aD×W)}:H a=some (.dK ks)->M a=none->ks.map Dv=kvs.map Dv->aL K H M (ks.map Jr) (kvs.map Jr)->AV K H M (.ref a) (.dk kvs)
 | dt {a:Addr} {ks:List (List aD×V)} {kvs:List (List aD×W)}:H a=some (.dT ks)->M a=none->ks.map Dv=kvs.map Dv->aL K H M (ks.map Jr) (kvs.map Jr)->AV K H M (.ref a) (.dt kvs)
 | fk {a:Addr} {o:Obj} {ks:List (aD×V)} {kvs:List (aD×W)}:H a=some (.frz o (.dK ks))->ks.map Dv=kvs.map Dv->aL K H M (ks.map Jr) (kvs.map Jr)->AV K H M (.ref a) (.fk kvs)
 | ft {a:Addr} {o:Obj} {ks:List (List aD×V)} {kvs:List (List aD×W)}:H a=some (.frz o (.dT ks))->ks.map Dv=kvs.map Dv->aL K H M (ks.map Jr) (kvs.map Jr)->AV K H M (.ref a) (.ft kvs)
inductive aL(K:Ae)(H:Hp)(M:Mm):List V->List W->Prop
 | nil:aL K H M [] []
 | cons {v:V} {vs:List V} {w:W} {ws:List W}:AV K H M v w->aL K H M vs ws->aL K H M (v :: vs) (w :: ws)
end
abbrev bN(K:Ae)(H:Hp)(M:Mm)(κ:Type):List (κ×V)->List (κ×W)->Prop:=Ir fun p q=>p.1=q.1/\AV K H M p.2 q.2
theorem oX{K:Ae}{H:Hp}{M:Mm}{κ:Type}:∀ {ks:List (κ×V)} {kvs:List (κ×W)},ks.map Dv=kvs.map Dv->aL K H M (ks.map Jr) (kvs.map Jr)->bN K H M κ ks kvs
 | [],[],_,_=>.nil
 | [],_ :: _,e,_=>by simp at e
 | _ :: _,[],e,_=>by simp at e
 | p :: ps,q :: a,e,h=>by
  rw[Ar,Ar] at e h
  rw[Cy] at e
  cases h with
  | cons x r=>exact .cons ⟨e.1,x⟩ (oX e.2 r)
theorem bN.keys{K:Ae}{H:Hp}{M:Mm}{κ:Type}{ks:List (κ×V)}{kvs:List (κ×W)}(h:bN K H M κ ks kvs):ks.map Dv=kvs.map Dv:=by
 induction h with
 | nil=>rfl
 | cons r _ a=>rw[Ar,Ar,a,r.1]
theorem bN.vals{K:Ae}{H:Hp}{M:Mm}{κ:Type}{ks:List (κ×V)}{kvs:List (κ×W)}(h:bN K H M κ ks kvs):aL K H M (ks.map Jr) (kvs.map Jr):=by
 induction h with
 | nil=>exact .nil
 | cons r _ a=>exact .cons r.2 a
def AO(K:Ae)(H:Hp)(M:Mm)(a:Addr):MO->Prop
 | .lst ws=>∃ vs,H a=some (.lst vs)/\aL K H M vs ws
 | .dK kvs=>∃ ks,H a=some (.dK ks)/\bN K H M aD ks kvs
 | .dT kvs=>∃ ks,H a=some (.dT ks)/\bN K H M (List aD) ks kvs
 | .fix vs=>H a=some (.lst vs)
 | .ins C c fs=>∃ b,H a=some (.ins C c b)/\bN K H M Str b fs
def AM(K:Ae)(H:Hp)(M:Mm):Prop:=∀ a o,M a=some o->AO K H M a o
structure Kp(H:Hp)(M:Mm)(H':Hp)(M':Mm):Prop where
 fr:∀ a o,M a=none->H a=some o->H' a=some o/\M' a=none
 dom:∀ a o,M a=some o->∃ u,H' a=some u
structure Go(H:Hp)(M:Mm)(H':Hp)(M':Mm):Prop where
 ht:∀ b xs,H b=some (.tup xs)->H' b=some (.tup xs)
 hf:∀ b o u,H b=some (.frz o u)->H' b=some (.frz o u)
 hl:∀ b o,M b=none->H b=some o->H' b=some o/\M' b=none
section
variable {K:Ae}{H H' H1 H2:Hp}{M M' M1 M2:Mm}{a:Addr}
theorem AO.has{o:MO}(h:AO K H M a o):∃ u,H a=some u:=by
 cases o with
 | lst ws=>obtain⟨vs,e,_⟩:=h;exact⟨_,e⟩
 | dK kvs=>obtain⟨ks,e,_⟩:=h;exact⟨_,e⟩
 | dT kvs=>obtain⟨ks,e,_⟩:=h;exact⟨_,e⟩
 | fix vs=>exact⟨_,h⟩
 | ins C dx fs=>obtain⟨gs,e,_⟩:=h;exact⟨_,e⟩
theorem AM.nonM(b:AM K H M)(h:H a=none):M a=none:=by
 cases q:M a with
 | none=>rfl
 | some o=>obtain⟨u,e⟩:=(b a o q).has;rw[h] at e;cases e
theorem AM.noTup(am:AM K H M){xs:List V}(h:H a=some (.tup xs)):M a=none:=by
 cases q:M a with
 | none=>rfl
 | some o=>
  have:=am a o q
  cases o with
  | lst ws=>obtain⟨vs,e,_⟩:=this;rw[h] at e;cases e
  | dK kvs=>obtain⟨ks,e,_⟩:=this;rw[h] at e;cases e
  | dT kvs=>obtain⟨ks,e,_⟩:=this;rw[h] at e;cases e
  | fix vs=>have e:H a=some (.lst vs):=this;rw[h] at e;cases e
  | ins C dx fs=>obtain⟨gs,e,_⟩:=this;rw[h] at e;cases e
theorem AM.noFrz(am:AM K H M){ob:Obj}{u:HO}(h:H a=some (.frz ob u)):M a=none:=by
 cases q:M a with
 | none=>rfl
 | some o=>
  have:=am a o q
  cases o with
  | lst ws=>obtain⟨vs,e,_⟩:=this;rw[h] at e;cases e
  | dK kvs=>obtain⟨ks,e,_⟩:=this;rw[h] at e;cases e
  | dT kvs=>obtain⟨ks,e,_⟩:=this;rw[h] at e;cases e
  | fix vs=>have e:H a=some (.lst vs):=this;rw[h] at e;cases e
  | ins C dx fs=>obtain⟨gs,e,_⟩:=this;rw[h] at e;cases e
theorem Kp.refl(b:AM K H M):Kp H M H M:=⟨fun a o h e=>⟨e,h⟩,fun a o h=>(b a o h).has⟩
theorem Kp.trans(x:Kp H M H1 M1)(y:Kp H1 M1 H2 M2):Kp H M H2 M2 where
 fr:=fun a o h e=>by
  obtain⟨c,d⟩:=x.fr a o h e
  exact y.fr a o d c
 dom:=fun a o h=>by
  obtain⟨u,e⟩:=x.dom a o h
  cases q:M1 a with
  | none=>exact⟨u,(y.fr a u q e).1⟩
  | some b=>exact y.dom a b q
theorem Kp.sub(x:Kp H M H1 M1)(h:Sub M2 M1):Kp H M H1 M2 where
 fr:=fun a o n e=>⟨(x.fr a o n e).1,h.non (x.fr a o n e).2⟩
 dom:=x.dom
theorem Kp.go(a:AM K H M)(k:Kp H M H' M'):Go H M H' M':=⟨fun b xs e=>(k.fr b _ (a.noTup e) e).1,fun b o u e=>(k.fr b _ (a.noFrz e) e).1,k.fr⟩
theorem Go.sub(h:Sub M' M):Go H M H M':=⟨fun _ _ e=>e,fun _ _ _ e=>e,fun b o n e=>⟨e,h.non n⟩⟩
theorem AV.go(g:Go H M H' M'){v:V}{w:W}(h:AV K H M v w):AV K H' M' v w:=AV.rec (motive_1:=fun v w _=>AV K H' M' v w) (motive_2:=fun vs ws _=>aL K H' M' vs ws) .non .bl .int .str .ty (fun e _ q=>.tup (g.ht _ _ e) q) (fun e _ q=>.sc (e.elim (fun z=>.inl (z.elim fun o q=>⟨o,g.hf _ _ _ q⟩)) .inr) q) (fun e n _ q=>.rl (g.hl _ _ n e).1 (g.hl _ _ n e).2 q) .ref
  (fun e n a _ q=>.dk (g.hl _ _ n e).1 (g.hl _ _ n e).2 a q) (fun e n a _ q=>.dt (g.hl _ _ n e).1 (g.hl _ _ n e).2 a q) (fun e a _ q=>.fk (g.hf _ _ _ e) a q) (fun e a _ q=>.ft (g.hf _ _ _ e) a q) .nil (fun _ _ x r=>.cons x r) h
theorem aL.go(g:Go H M H' M'){vs:List V}{ws:List W}(h:aL K H M vs ws):aL K H' M' vs ws:=aL.rec (motive_1:=fun v w _=>AV K H' M' v w) (motive_2:=fun vs ws _=>aL K H' M' vs ws) .non .bl .int .str .ty (fun e _ q=>.tup (g.ht _ _ e) q) (fun e _ q=>.sc (e.elim (fun z=>.inl (z.elim fun o q=>⟨o,g.hf _ _ _ q⟩)) .inr) q) (fun e n _ q=>.rl (g.hl _ _ n e).1 (g.hl _ _ n e).2 q) .ref
  (fun e n a _ q=>.dk (g.hl _ _ n e).1 (g.hl _ _ n e).2 a q) (fun e n a _ q=>.dt (g.hl _ _ n e).1 (g.hl _ _ n e).2 a q) (fun e a _ q=>.fk (g.hf _ _ _ e) a q) (fun e a _ q=>.ft (g.hf _ _ _ e) a q) .nil (fun _ _ x r=>.cons x r) h
theorem bN.go{κ:Type}{ks:List (κ×V)}{kvs:List (κ×W)}(g:Go H M H' M')(h:bN K H M κ ks kvs):bN K H' M' κ ks kvs:=Paired.mapP h fun p q z=>⟨z.1,z.2.go g⟩
theorem AO.go{o:MO}(g:Go H M H' M')(e:H' a=H a)(h:AO K H M a o):AO K H' M' a o:=by
 cases o with
 | lst ws=>obtain⟨vs,e1,r⟩:=h;exact⟨vs,by rw[e];exact e1,r.go g⟩
 | dK kvs=>obtain⟨vs,e1,r⟩:=h;exact⟨vs,by rw[e];exact e1,r.go g⟩
 | dT kvs=>obtain⟨vs,e1,r⟩:=h;exact⟨vs,by rw[e];exact e1,r.go g⟩
 | fix vs=>exact e.trans h
 | ins C dx fs=>obtain⟨gs,e1,r⟩:=h;exact⟨gs,by rw[e];exact e1,r.go g⟩
theorem AM.sub(b:AM K H M')(h:Sub M M'):AM K H M:=fun a o e=>(b a o (h a o e)).go (Go.sub h) rfl
theorem AV.sub(h:Sub M' M){v:V}{w:W}(x:AV K H M v w):AV K H M' v w:=x.go (Go.sub h)
theorem aL.sub(h:Sub M' M){v:List V}{w:List W}(x:aL K H M v w):aL K H M' v w:=x.go (Go.sub h)
theorem AV.kp(a:AM K H M)(k:Kp H M H' M'){v:V}{w:W}(h:AV K H M v w):AV K H' M' v w:=h.go (k.go a)
theorem aL.kp(a:AM K H M)(k:Kp H M H' M'){vs:List V}{ws:List W}(h:aL K H M vs ws):aL K H' M' vs ws:=h.go (k.go a)
theorem aL.length:∀ {vs:List V} {ws:List W},aL K H M vs ws->vs.length=ws.length
 | _,_,.nil=>rfl
 | _,_,.cons _ r=>by simp[aL.length r]
theorem aL.append:∀ {vs us:List V} {ws a:List W},aL K H M vs ws->aL K H M us a->aL K H M (vs ++ us) (ws ++ a)
 | _,_,_,_,.nil,s=>s
 | _,_,_,_,.cons x r,s=>.cons x (aL.append r s)
theorem aL.getW:∀ {vs:List V} {ws:List W} {i:Nat} {w:W},aL K H M vs ws->ws[i]? = some w->∃ v,vs[i]? = some v/\AV K H M v w
 | _,_,_,_,.nil,e=>by simp at e
 | _,_,0,_,.cons x _,e=>by simp at e;subst e;exact⟨_,rfl,x⟩
 | _,_,i + 1,w,.cons _ r,e=>by
  obtain⟨v,b,a⟩:=aL.getW (i:=i) (w:=w) r (by simpa using e)
  exact⟨v,by simpa using b,a⟩
theorem aL.getV:∀ {vs:List V} {ws:List W} {i:Nat} {v:V},aL K H M vs ws->vs[i]? = some v->∃ w,ws[i]? = some w/\AV K H M v w
 | _,_,_,_,.nil,e=>by simp at e
 | _,_,0,_,.cons x _,e=>by simp at e;subst e;exact⟨_,rfl,x⟩
 | _,_,i + 1,v,.cons _ r,e=>by
  obtain⟨w,b,a⟩:=aL.getV (i:=i) (v:=v) r (by simpa using e)
  exact⟨w,by simpa using b,a⟩
theorem aL.set{v:V}{w:W}(x:AV K H M v w):∀ {vs:List V} {ws:List W} (i:Nat),aL K H M vs ws->aL K H M (vs.set i v) (ws.set i w)
 | _,_,_,.nil=>.nil
 | _,_,0,.cons _ t=>.cons x t
 | _,_,i + 1,.cons q t=>.cons q (aL.set x i t)
theorem aL.take:∀ {vs:List V} {ws:List W} (n:Nat),aL K H M vs ws->aL K H M (vs.take n) (ws.take n)
 | _,_,0,_=>by simp;exact .nil
 | _,_,_ + 1,.nil=>.nil
 | _,_,n + 1,.cons x t=>.cons x (aL.take n t)
theorem aL.drop:∀ {vs:List V} {ws:List W} (n:Nat),aL K H M vs ws->aL K H M (vs.drop n) (ws.drop n)
 | _,_,0,h=>h
 | _,_,_ + 1,.nil=>.nil
 | _,_,n + 1,.cons _ t=>aL.drop n t
theorem aL.dropLast{vs:List V}{ws:List W}(h:aL K H M vs ws):aL K H M vs.dropLast ws.dropLast:=by
 rw[List.dropLast_eq_take,List.dropLast_eq_take,h.length];exact h.take _
theorem aL.flatRep{vs:List V}{ws:List W}(h:aL K H M vs ws):∀ n:Nat,aL K H M (Bz n vs).flatten (Bz n ws).flatten
 | 0=>.nil
 | n + 1=>by
  rw[Gh,Gh,Iu,Iu]
  exact h.append (aL.flatRep h n)
theorem aL.int(a:List Int):aL K H M (a.map V.int) (a.map W.int):=by
 induction a with
 | nil=>exact .nil
 | cons i r b=>exact .cons (.int i) b
theorem BZ{p:Addr}{u:HO}(a:H p=none)(hs:∀ b,b≠p->M b=none->M' b=none):Go H M (aN H p u) M':=
 ⟨fun b xs e=>by rw[bK (d6 e a)];exact e,fun b o x e=>by rw[bK (d6 e a)];exact e,fun b o n e=>⟨by rw[bK (d6 e a)];exact e,hs b (d6 e a) n⟩⟩
theorem B0{p:Addr}{o:MO}{u:HO}(a:H p=none):Go H M (aN H p u) (put M p o):=BZ a fun b ne n=>by rw[aP ne];exact n
theorem go_same{p:Addr}{u:HO}(a:H p=none):Go H M (aN H p u) M:=BZ a fun b ne n=>n
theorem AM.laid{p:Addr}{o:MO}{u:HO}(c:AM K H M)(b:H p=none)(h:AO K (aN H p u) (put M p o) p o):AM K (aN H p u) (put M p o)/\Kp H M (aN H p u) (put M p o):=by
 refine⟨fun a x e=>?_,fun a x h e=>⟨?_,?_⟩,fun a x h=>?_⟩
 ·by_cases ha:a=p
  ·subst ha;rw[bA] at e;cases e;exact h
  ·rw[aP ha] at e
   exact(c a x e).go (B0 b) (bK ha)
 ·rw[bK (d6 e b)];exact e
 ·rw[aP (d6 e b)];exact h
 ·obtain⟨y,e⟩:=(c a x h).has
  exact⟨y,by rw[bK (d6 e b)];exact e⟩
theorem B1{p:Addr}{o u:MO}:Go H (put M p o) H (put M p u):=⟨fun _ _ e=>e,fun _ _ _ e=>e,fun b x n e=>⟨e,by
 have ne:b≠p:=fun z=>by rw[z,bA] at n;cases n
 rw[aP ne] at n ⊢;exact n⟩⟩
theorem AM.tup{p:Addr}{u:HO}(c:AM K H M)(b:H p=none):AM K (aN H p u) M/\Kp H M (aN H p u) M:=by
 refine⟨fun a x e=>?_,fun a x h e=>⟨?_,h⟩,fun a x h=>?_⟩
 ·have ne:a≠p:=fun z=>by rw[z,c.nonM b] at e;cases e
  exact(c a x e).go (go_same b) (bK ne)
 ·rw[bK (d6 e b)];exact e
 ·obtain⟨y,e⟩:=(c a x h).has
  exact⟨y,by rw[bK (d6 e b)];exact e⟩
theorem nI{l:Addr}{c o:MO}{u:HO}(a:AM K H M)(hl:M l=some c):Go H M (aN H l u) (put M l o):=
 ⟨fun b xs e=>by rw[bK (fun z=>by rw[<-z,a.noTup e] at hl;cases hl)];exact e,fun b ob x e=>by rw[bK (fun z=>by rw[<-z,a.noFrz e] at hl;cases hl)];exact e,
   fun b x n e=>by
  have ne:b≠l:=fun z=>by rw[<-z,n] at hl;cases hl
  rw[bK ne,aP ne];exact⟨e,n⟩⟩
theorem AM.write{l:Addr}{c o:MO}{u:HO}(b:AM K H M)(hl:M l=some c)(h:AO K (aN H l u) (put M l o) l o):AM K (aN H l u) (put M l o)/\Kp H M (aN H l u) (put M l o):=by
 refine⟨fun a x e=>?_,fun a x h e=>?_,fun a x h=>?_⟩
 ·by_cases ha:a=l
  ·subst ha;rw[bA] at e;cases e;exact h
  ·rw[aP ha] at e
   exact(b a x e).go (nI b hl) (bK ha)
 ·have:a≠l:=fun z=>by rw[z,hl] at h;cases h
  rw[bK this,aP this];exact⟨e,h⟩
 ·by_cases ha:a=l
  ·subst ha;exact⟨u,dZ⟩
  ·obtain⟨y,e⟩:=(b a x h).has
   exact⟨y,by rw[bK ha];exact e⟩
theorem AM.lst(b:AM K H M){ws:List W}(h:M a=some (.lst ws)):∃ vs,H a=some (.lst vs)/\aL K H M vs ws:=b a _ h
theorem aL.newT{p:Addr}{u:HO}{vs:List V}{ws:List W}(a:H p=none)(h:aL K H M vs ws):aL K (aN H p u) M vs ws:=h.go (go_same a)
theorem aL.newL{p:Addr}{u:HO}{o:MO}{vs:List V}{ws:List W}(a:H p=none)(h:aL K H M vs ws):aL K (aN H p u) (put M p o) vs ws:=h.go (B0 a)
theorem aL.wr{l:Addr}{b o:MO}{u:HO}{vs:List V}{ws:List W}(a:AM K H M)(hl:M l=some b)(h:aL K H M vs ws):aL K (aN H l u) (put M l o) vs ws:=h.go (nI a hl)
theorem AV.wr{l:Addr}{b o:MO}{u:HO}{v:V}{w:W}(a:AM K H M)(hl:M l=some b)(h:AV K H M v w):AV K (aN H l u) (put M l o) v w:=h.go (nI a hl)
end
abbrev S3:=List (Option W)
abbrev K3:=W->Mm->Prop
abbrev aS:=S3->Mm->K3->Prop
abbrev dH:=S3->Mm->(Bool->Mm->Prop)->Prop
abbrev dJ:=S3->Mm->(List W->Mm->Prop)->Prop
abbrev R3:=W->W->Mm->K3->Prop
structure D3 where
 nx:S3->Mm->Prop
 rt:K3
 bk:S3->Mm->Prop:=fun _ _=>False
 ct:S3->Mm->Prop:=fun _ _=>False
abbrev aK:=D3->S3->Mm->Prop
def AS(K:Ae)(H:Hp)(M:Mm):SV->S3->Prop:=Ir fun a b=>∀ w,b=some w->∃ v,a=some v/\AV K H M v w
section
variable {K:Ae}{H H':Hp}{M M':Mm}
theorem AS.kp(c:AM K H M)(k:Kp H M H' M'){a:SV}{b:S3}(h:AS K H M a b):AS K H' M' a b:=
 Paired.mapP h fun f g z w e=>by obtain⟨v,d,r⟩:=z w e;exact⟨v,d,r.kp c k⟩
theorem AS.sub{M':Mm}(g:Sub M' M){a:SV}{b:S3}(h:AS K H M a b):AS K H M' a b:=
 Paired.mapP h fun d f z w e=>by obtain⟨v,c,r⟩:=z w e;exact⟨v,c,r.sub g⟩
theorem AS.get{w:W}:∀ {d:SV} {c:S3} {i:Nat},AS K H M d c->c[i]? = some (some w)->∃ v,d[i]? = some (some v)/\AV K H M v w
 | _,_,_,.nil,e=>by simp at e
 | _,_,0,.cons r _,e=>by
  simp at e
  obtain⟨v,b,a⟩:=r w e
  exact⟨v,by rw[b];rfl,a⟩
 | _,_,i + 1,.cons _ t,e=>by
  obtain⟨v,b,a⟩:=AS.get (i:=i) t (by simpa using e)
  exact⟨v,by simpa using b,a⟩
theorem AS.set{v:V}{w:W}(r:AV K H M v w):∀ {b:SV} {a:S3} (i:Nat),AS K H M b a->AS K H M (b.set i (some v)) (a.set i (some w))
 | _,_,_,.nil=>.nil
 | _,_,0,.cons _ t=>.cons (fun x e=>⟨v,rfl,by cases e;exact r⟩) t
 | _,_,i + 1,.cons q t=>.cons q (AS.set r i t)
theorem AS.nones:∀ n:Nat,AS K H M (Bz n none) (Bz n none)
 | 0=>.nil
 | n + 1=>.cons (fun _ e=>nomatch e) (AS.nones n)
theorem AS.start{vs:List V}{ws:List W}(h:aL K H M vs ws)(n:Nat):AS K H M (vs.map some ++ Bz n none) (ws.map some ++ Bz n none):=by
 induction vs generalizing ws with
 | nil=>cases h;exact AS.nones n
 | cons v vs a=>
  cases h with
  | cons x r=>exact .cons (fun w e=>⟨v,rfl,by cases e;exact x⟩) (a r)
end
def Up(K:Ae)(H:Hp)(M:Mm)(R:K3)(Q:VK):Prop:=∀ v H' w M',Kp H M H' M'->AM K H' M'->AV K H' M' v w->R w M'->Q v H'
def up(K:Ae)(t:aS):TE:=fun b H Q=>∃ a M R,AS K H M b a/\AM K H M/\t a M R/\Up K H M R Q
def jO(K:Ae)(t:dH):TT:=fun c H Q=>∃ (a:S3) (M:Mm) (R:Bool->Mm->Prop),AS K H M c a/\AM K H M/\t a M R/\∀ b H' M',Kp H M H' M'->AM K H' M'->R b M'->Q b H'
def nJ(K:Ae)(t:dJ):TA:=fun b H Q=>∃ (a:S3) (M:Mm) (R:List W->Mm->Prop),AS K H M b a/\AM K H M/\t a M R/\∀ vs H' ws M',Kp H M H' M'->AM K H' M'->aL K H' M' vs ws->R ws M'->Q vs H'
def gW(K:Ae)(H:Hp)(M:Mm)(R:S3->Mm->Prop)(Q:SV->Hp->Prop):Prop:=∀ b H' a M',Kp H M H' M'->AM K H' M'->AS K H' M' b a->R a M'->Q b H'
structure oY(K:Ae)(H:Hp)(M:Mm)(D:D3)(E:kA):Prop where
 nx:gW K H M D.nx E.nx
 rt:Up K H M D.rt E.rt
 bk:gW K H M D.bk E.bk
 ct:gW K H M D.ct E.ct
def oZ(K:Ae)(t:aK):TS:=fun E b H=>∃ a M D,AS K H M b a/\AM K H M/\t D a M/\oY K H M D E
section
variable {K:Ae}{H H1:Hp}{M M1:Mm}
theorem Up.kp{R:K3}{Q:VK}(h:Up K H M R Q)(k:Kp H M H1 M1):Up K H1 M1 R Q:=fun v H' w M' a b c r=>h v H' w M' (k.trans a) b c r
theorem gW.kp{R:S3->Mm->Prop}{Q:SV->Hp->Prop}(h:gW K H M R Q)(k:Kp H M H1 M1):gW K H1 M1 R Q:=fun v H' w M' a b c r=>h v H' w M' (k.trans a) b c r
theorem oY.kp{D:D3}{E:kA}(h:oY K H M D E)(k:Kp H M H1 M1):oY K H1 M1 D E:=⟨h.nx.kp k,h.rt.kp k,h.bk.kp k,h.ct.kp k⟩
theorem Up.at{R:K3}{Q:VK}(h:Up K H M R Q)(a:AM K H M){v:V}{w:W}(b:AV K H M v w)(r:R w M):Q v H:=h v H w M (Kp.refl a) a b r
end
def frz:W->Mm->K3->Prop
 | .ref p,M,R=>(∃ ws,M p=some (.lst ws)/\R (.rl ws) (del M p))\/(∃ kvs,M p=some (.dK kvs)/\R (.dk kvs) (del M p))\/(∃ kvs,M p=some (.dT kvs)/\R (.dt kvs) (del M p))\/R (.ref p) M
 | w,M,R=>R w M
theorem Up.frz{K:Ae}{H:Hp}{M:Mm}{R:K3}{Q:VK}(h:Up K H M R Q):Up K H M (fun w M'=>frz w M' R) Q:=fun v H' w M' k a c r=>by
 have b:=c
 cases c <;> first | exact h _ _ _ _ k a b r | skip
 case ref p=>
  rcases r with⟨ws,e,r⟩ | ⟨kvs,e,r⟩ | ⟨kvs,e,r⟩ | r
  ·obtain⟨vs,f,q⟩:=a.lst e
   exact h _ _ _ _ (k.sub Sub.del) (a.sub Sub.del) (.rl f oW (q.sub Sub.del)) r
  ·obtain⟨ks,f,q⟩:=a _ _ e
   exact h _ _ _ _ (k.sub Sub.del) (a.sub Sub.del) (.dk f oW q.keys (q.vals.sub Sub.del)) r
  ·obtain⟨ks,f,q⟩:=a _ _ e
   exact h _ _ _ _ (k.sub Sub.del) (a.sub Sub.del) (.dt f oW q.keys (q.vals.sub Sub.del)) r
  ·exact h _ _ _ _ k a (.ref p) r
theorem RQ{M:Mm}{p:Addr}{ws:List W}{R:K3}(a:M p=none)(r:R (.rl ws) M):frz (.ref p) (put M p (.lst ws)) R:=.inl ⟨ws,bA,by rw[rJ a];exact r⟩
theorem RS{M:Mm}{p:Addr}{kvs:List (List aD×W)}{R:K3}(a:M p=none)(r:R (.dt kvs) M):frz (.ref p) (put M p (.dT kvs)) R:=.inr (.inr (.inl ⟨kvs,bA,by rw[rJ a];exact r⟩))
def aV(ws:List W)(M:Mm)(R:K3):Prop:=∀ p,M p=none->R (.ref p) (put M p (.lst ws))
def RT(kvs:List (aD×W))(M:Mm)(R:K3):Prop:=∀ p,M p=none->R (.ref p) (put M p (.dK kvs))
def iE(kvs:List (List aD×W))(M:Mm)(R:K3):Prop:=∀ p,M p=none->R (.ref p) (put M p (.dT kvs))
theorem aV.frz{M:Mm}{ws:List W}{R:K3}(r:R (.rl ws) M):aV ws M fun w M'=>L3.frz w M' R:=fun p a=>RQ a r
theorem iE.frz{M:Mm}{kvs:List (List aD×W)}{R:K3}(r:R (.dt kvs) M):iE kvs M fun w M'=>L3.frz w M' R:=fun p a=>RS a r
def cV(t:aS):aS:=fun a M R=>t a M fun w M'=>frz w M' R
def RU(K:Ae)(H:Hp)(M:Mm)(v:V):W->Prop
 | .non=>v=.non
 | .bl b=>v=.bl b
 | .int i=>v=.int i
 | .str x=>v=.str x
 | .ty n=>v=.ty n
 | .tup ws=>∃ a xs,v=.ref a/\H a=some (.tup xs)/\aL K H M xs ws
 | .sc ws=>∃ a xs,v=.ref a/\kG K H a xs/\aL K H M xs ws
 | .rl ws=>∃ a xs,v=.ref a/\H a=some (.lst xs)/\M a=none/\aL K H M xs ws
 | .ref a=>v=.ref a
 | .dk kvs=>∃ a ks,v=.ref a/\H a=some (.dK ks)/\M a=none/\bN K H M aD ks kvs
 | .dt kvs=>∃ a ks,v=.ref a/\H a=some (.dT ks)/\M a=none/\bN K H M (List aD) ks kvs
 | .fk kvs=>∃ a ks,v=.ref a/\(∃ o,H a=some (.frz o (.dK ks)))/\bN K H M aD ks kvs
 | .ft kvs=>∃ a ks,v=.ref a/\(∃ o,H a=some (.frz o (.dT ks)))/\bN K H M (List aD) ks kvs
section
variable {K:Ae}{H:Hp}{M:Mm}{v:V}{vs:List V}{w:W}{ws:List W}{C:Prop}
theorem AV.inv(h:AV K H M v w):RU K H M v w:=by
 cases h
 case non | bl | int | str | ty | ref=>rfl
 case tup | sc=>rename_i e q;exact⟨_,_,rfl,e,q⟩
 case rl=>rename_i e n q;exact⟨_,_,rfl,e,n,q⟩
 case dk | dt=>rename_i e n z q;exact⟨_,_,rfl,e,n,oX z q⟩
 case fk | ft=>rename_i e z q;exact⟨_,_,rfl,⟨_,e⟩,oX z q⟩
theorem AV.tupE(h:AV K H M v (.tup ws))(c:∀ a xs,v=.ref a->H a=some (.tup xs)->aL K H M xs ws->C):C:=
 let ⟨a,xs,e,f,q⟩:=h.inv;c a xs e f q
theorem AV.scE(h:AV K H M v (.sc ws))(c:∀ a xs,v=.ref a->kG K H a xs->aL K H M xs ws->C):C:=
 let ⟨a,xs,e,f,q⟩:=h.inv;c a xs e f q
theorem AV.rlE(h:AV K H M v (.rl ws))(c:∀ a xs,v=.ref a->H a=some (.lst xs)->aL K H M xs ws->C):C:=
 let ⟨a,xs,e,f,_,q⟩:=h.inv;c a xs e f q
theorem aL.nil_(h:aL K H M vs []):vs=[]:=by cases h;rfl
theorem aL.one(h:aL K H M vs [w]):∃ v,vs=[v]/\AV K H M v w:=by
 cases h with
 | cons x r=>rw[r.nil_];exact⟨_,rfl,x⟩
theorem aL.oneE(h:aL K H M vs [w])(c:∀ v,vs=[v]->AV K H M v w->C):C:=h.one.elim fun v h=>c v h.1 h.2
theorem aL.two{z:W}(h:aL K H M vs [w,z]):∃ v u,vs=[v,u]/\AV K H M v w/\AV K H M u z:=by
 cases h with
 | cons x r=>obtain⟨u,rfl,y⟩:=r.one;exact⟨_,_,rfl,x,y⟩
theorem AM.lstE{a:Addr}(b:AM K H M)(e:M a=some (.lst ws))(c:∀ xs,H a=some (.lst xs)->aL K H M xs ws->C):C:=(b.lst e).elim fun v h=>c v h.1 h.2
theorem gX{x y:V}(e:vs=[x])(f:x=y):vs=[y]:=by rw[e,f]
end
theorem up.el{K:Ae}{H:Hp}{e:SV}{C:Prop}{t:aS}{Q:VK}(h:up K t e H Q)(c:∀ d M R,AS K H M e d->AM K H M->t d M R->Up K H M R Q->C):C:=by obtain⟨d,M,R,a,b,h,k⟩:=h;exact c d M R a b h k
theorem jO.el{K:Ae}{H:Hp}{σ:SV}{C:Prop}{t:dH}{Q:Bool->Hp->Prop}(h:jO K t σ H Q)(c:∀ d M R,AS K H M σ d->AM K H M->t d M R->(∀ b f e,Kp H M f e->AM K f e->R b e->Q b f)->C):C:=by obtain⟨d,M,R,a,b,h,k⟩:=h;exact c d M R a b h k
theorem nJ.el{K:Ae}{H:Hp}{σ:SV}{C:Prop}{t:dJ}{Q:List V->Hp->Prop}(h:nJ K t σ H Q)(c:∀ e M R,AS K H M σ e->AM K H M->t e M R->(∀ vs f ws d,Kp H M f d->AM K f d->aL K f d vs ws->R ws d->Q vs f)->C):C:=by obtain⟨e,M,R,a,b,h,k⟩:=h;exact c e M R a b h k
theorem oZ.el{K:Ae}{H:Hp}{σ:SV}{C:Prop}{t:aK}{E:kA}(h:oZ K t E σ H)(c:∀ d M D,AS K H M σ d->AM K H M->t D d M->oY K H M D E->C):C:=by obtain⟨d,M,D,a,b,h,k⟩:=h;exact c d M D a b h k
end L3
namespace L2
section
variable {X:Cx}
theorem PE.weak{e:Mp}{t t':TE}(h:PE X e t)(k:∀ σ H Q,t' σ H Q->t σ H Q):PE X e t':=fun pins s σ H Q I q=>h pins s σ H Q I (k σ H Q q)
theorem PT.weak{e:Mp}{t t':TT}(h:PT X e t)(k:∀ σ H Q,t' σ H Q->t σ H Q):PT X e t':=fun pins s σ H Q I q=>h pins s σ H Q I (k σ H Q q)
theorem PW.weak{e:Mp}{t t':TT}(h:PW X e t)(k:∀ σ H Q,t' σ H Q->t σ H Q):PW X e t':=fun a pins s σ H Q I q=>h a pins s σ H Q I (k σ H Q q)
theorem PA.weak{es:List Mp}{t t':TA}(h:PA X es t)(k:∀ σ H Q,t' σ H Q->t σ H Q):PA X es t':=fun pos pins s σ H Q I q=>h pos pins s σ H Q I (k σ H Q q)
theorem PS.weak{st:PySem.Stmt}{t t':TS}(h:PS X st t)(k:∀ D σ H,t' D σ H->t D σ H):PS X st t':=fun pins s σ H D I q=>h pins s σ H D I (k D σ H q)
theorem fI.weak{st:List PySem.Stmt}{t t':TS}(h:fI X st t)(k:∀ D σ H,t' D σ H->t D σ H):fI X st t':=fun pins s σ H D I q=>h pins s σ H D I (k D σ H q)
theorem PO.weak{e:Option Mp}{t t':TO}(h:PO X e t)(k:∀ σ H Q,t' σ H Q->t σ H Q):PO X e t':=fun pins s σ H Q I q=>h pins s σ H Q I (k σ H Q q)
theorem iD.weak{es:List Mp}{t t':TT}(h:iD X es t)(k:∀ σ H Q,t' σ H Q->t σ H Q):iD X es t':=fun pins s σ H Q I q=>h pins s σ H Q I (k σ H Q q)
end
end L2
namespace L3
open PySem PySem.Spec PyProof.Rows L2
abbrev E3(X:Cx)(e:Expr)(t:aS):Prop:=PE X e (up X.K t)
abbrev T3(X:Cx)(e:Expr)(t:dH):Prop:=PT X e (jO X.K t)
abbrev W3(X:Cx)(e:Expr)(t:dH):Prop:=PW X e (jO X.K t)
abbrev A3(X:Cx)(es:List Expr)(t:dJ):Prop:=PA X es (nJ X.K t)
def bY(K:Ae)(r:R3):R2:=fun x y H Q=>∃ b a M R,AM K H M/\AV K H M x b/\AV K H M y a/\r b a M R/\Up K H M R Q
def B2(K:Ae)(r:W->Mm->K3->Prop):V->Hp->VK->Prop:=fun x H Q=>∃ a M R,AM K H M/\AV K H M x a/\r a M R/\Up K H M R Q
def fZ(K:Ae)(r:List W->Mm->K3->Prop):List V->Hp->VK->Prop:=fun xs H Q=>∃ ws M R,AM K H M/\aL K H M xs ws/\r ws M R/\Up K H M R Q
def jP(K:Ae)(r:W->List W->Mm->K3->Prop):V->List V->Hp->VK->Prop:=fun x xs H Q=>∃ a ws M R,AM K H M/\AV K H M x a/\aL K H M xs ws/\r a ws M R/\Up K H M R Q
section
variable {X:Cx}{a b c:Expr}{ta tb tc:aS}{pos:Pos}
def aA(i:Nat):aS:=fun a M R=>∃ w,a[i]? = some (some w)/\R w M
def vC(w:W):aS:=fun _ M R=>R w M
theorem v(i:Nat){x:Str}{pos:Pos}(c:X.N[i]? = some x:=by rfl)(f:uR X.env.scope x:=by first | exact Or.inl rfl | exact Or.inr (Or.inl rfl) | exact Or.inr (Or.inr rfl))(hd:(x == ("__debug__" : Str))=false:=by decide)
  (a:(x == ("__classdict__" : Str))=false:=by decide):E3 X (.Name x pos) (aA i):=(J4 c f hd a).weak fun σ H Q ⟨j,M,R,d,g,⟨w,e,r⟩,k⟩=>by
 obtain⟨v,b,h⟩:=d.get e
 exact⟨v,b,k.at g h r⟩
theorem aM{i j pos}:E3 X (.Constant (.int i) j pos) (vC (.int i)):=J5.weak fun σ H Q z0=>z0.el fun c M R b a r k=>k.at a (.int i) r
theorem kH{b j pos}:E3 X (.Constant (.bool b) j pos) (vC (.bl b)):=J6.weak fun σ H Q z0=>z0.el fun d M R c a r k=>k.at a (.bl b) r
theorem B3{j pos}:E3 X (.Constant .none j pos) (vC .non):=J7.weak fun σ H Q z0=>z0.el fun c M R b a r k=>k.at a .non r
theorem gJ{x j pos}:E3 X (.Constant (.str x) j pos) (vC (.str x)):=J8.weak fun σ H Q z0=>z0.el fun c M R b a r k=>k.at a (.str x) r
theorem B4{x:Str}{y:V}{w:W}{u:Ac}{pos:Pos}(c:Gl X x)(a:X.mg x=some u)(r:RelV y u)(hw:∀ H M,AV X.K H M y w)(hd:(x == ("__debug__" : Str))=false:=by decide):E3 X (.Name x pos) (vC w):=
 (J9 c a r hd).weak fun σ H Q z0=>z0.el fun d M R e b r k=>k.at b (hw H M) r
theorem vQ{x:Str}{y:V}{w:W}{u:Ac}{pos:Pos}(d:Gl X x)(a:X.mg x=none)(c:Cv x=some u)(r:RelV y u)(hw:∀ H M,AV X.K H M y w)(b:x≠"__name__":=by decide)(hd:(x == ("__debug__" : Str))=false:=by decide):E3 X (.Name x pos) (vC w):=
 (KA d a c r b hd).weak fun σ H Q z0=>z0.el fun f M R g e r k=>k.at e (hw H M) r
theorem eE(ha:E3 X a ta):E3 X a (cV ta):=ha.weak fun σ H Q z0=>z0.el fun c M R b d h k=>⟨c,M,_,b,d,h,k.frz⟩
def aF(r:R3)(ta tb:aS):aS:=fun a M R=>ta a M fun x c=>tb a c fun y b=>r x y b R
theorem rK{K:Ae}{r:R3}{σ:SV}{H:Hp}{Q:VK}(h:up K (aF r ta tb) σ H Q):oP (bY K r) (up K ta) (up K tb) σ H Q:=by
 obtain⟨d,M,R,e,f,h,k⟩:=h
 refine⟨d,M,_,e,f,h,fun x s l i c a o n=>⟨d,i,_,e.kp f c,a,n,fun y t j q g b p m=>?_⟩⟩
 exact⟨l,j,q,R,b,o.kp a g,p,m,(k.kp c).kp g⟩
theorem bG{op:Operator}{r:R3}(c:bB X (Fs op) (bY X.K r))(ha:E3 X a ta)(hb:E3 X b tb):E3 X (.BinOp a op b pos) (aF r ta tb):=(MB c ha hb).weak fun _ _ _ h=>rK h
theorem RV{op:CmpOp}{r:R3}(d:bB X (Cf op) (bY X.K r))(ha:E3 X a ta)(hb:E3 X b tb)(c:Ja op b=false):E3 X (.Compare a [op] [b] pos) (aF r ta tb):=(MW d ha hb c).weak fun _ _ _ h=>rK h
def cX(t:aS):dH:=fun b M Q=>t b M fun w a=>∃ k,w=.bl k/\Q k a
theorem AV.bl_inv{K:Ae}{H:Hp}{M:Mm}{v:V}{k:Bool}(h:AV K H M v (.bl k)):v=.bl k:=by cases h;rfl
theorem RW{op:CmpOp}{r:R3}(i:bB X (Cf op) (bY X.K r))(ha:E3 X a ta)(hb:E3 X b tb)(g:Ja op b=false):T3 X (.Compare a [op] [b] pos) (cX (aF r ta tb)):=
 (MX i ha hb g).weak fun σ H Q z0=>z0.el fun l M R m n h k=>rK ⟨l,M,_,m,n,h,fun v p w f j d o ⟨c,e,r⟩=>by
  subst e
  exact⟨c,o.bl_inv,k c p f j d r⟩⟩
def kI(r:W->Mm->K3->Prop)(ta:aS):aS:=fun a M R=>ta a M fun x b=>r x b R
theorem lG{op:UnaryOp}{r:W->Mm->K3->Prop}(d:oO X (unaryOp op) (B2 X.K r))(ha:E3 X a ta):E3 X (.UnaryOp op a pos) (kI r ta):=
 (MD d ha).weak fun σ H Q z0=>z0.el fun j M R m l h k=>⟨j,M,_,m,l,h,fun x n e c f b i g=>⟨e,c,R,b,i,g,k.kp f⟩⟩
def RX:W->Mm->(Bool->Mm->Prop)->Prop
 | .non,M,Q=>Q false M
 | .bl b,M,Q=>Q b M
 | .int i,M,Q=>Q (i != 0) M
 | .str y,M,Q=>y.length<=Aj/\Q ((y.length:Int) != 0) M
 | .tup ws,M,Q=>Q (!ws.isEmpty) M
 | .rl ws,M,Q=>Q (!ws.isEmpty) M
 | .sc ws,M,Q=>Q (!ws.isEmpty) M
 | .dk kvs,M,Q=>Q (!kvs.isEmpty) M
 | .ref p,M,Q=>(∃ ws,M p=some (.lst ws)/\Q (!ws.isEmpty) M)\/∃ kvs,M p=some (.dK kvs)/\Q (!kvs.isEmpty) M
 | _,_,_=>False
def iX(t:aS):dH:=fun b M Q=>t b M fun w a=>RX w a Q
theorem aL.empty{K:Ae}{H:Hp}{M:Mm}{vs:List V}{ws:List W}(h:aL K H M vs ws):(!ws.isEmpty) = !vs.isEmpty:=by cases h <;> rfl
theorem jQ(ha:E3 X a ta)(l:∀ d,isTrue a X.env d=(do let v <-d;Og a.pos;Iq [v] (truthy v)):=by intro _;rfl):T3 X a (iX ta):=
 (M9 ha l).weak fun σ H Q z0=>z0.el fun m M R o s h k=>⟨m,M,_,o,s,h,fun v x w u f c t r=>by
  cases t with
  | non=>exact⟨false,rfl,k _ _ _ f c r⟩
  | bl b=>exact⟨b,rfl,k _ _ _ f c r⟩
  | int i=>exact⟨_,rfl,k _ _ _ f c r⟩
  | str y=>exact⟨_,⟨r.1,rfl⟩,k _ _ _ f c r.2⟩
  | ty n=>exact(show False from r).elim
  | tup e q=>exact⟨_,.inr (.inl ⟨_,bM.of e,q.empty⟩),k _ _ _ f c r⟩
  | rl e n q=>exact⟨_,.inl ⟨_,bC.of e,q.empty⟩,k _ _ _ f c r⟩
  | sc e q=>exact⟨_,.inl ⟨_,e.sq,q.empty⟩,k _ _ _ f c r⟩
  | @dk a ks kvs e n g q=>exact⟨!kvs.isEmpty,.inr (.inr ⟨_,e,by have:=oX g q;cases this <;> rfl⟩),k _ _ _ f c r⟩
  | dt e n g q=>exact(show False from r).elim
  | fk e g q=>exact(show False from r).elim
  | ft e g q=>exact(show False from r).elim
  | ref p=>
   rcases r with⟨ws,e,r⟩ | ⟨kvs,e,r⟩
   ·obtain⟨vs,j,q⟩:=c.lst e
    exact⟨_,.inl ⟨_,bC.of j,q.empty⟩,k _ _ _ f c r⟩
   ·obtain⟨ks,j,q⟩:=c _ _ e
    exact⟨!kvs.isEmpty,.inr (.inr ⟨_,j,by cases q <;> rfl⟩),k _ _ _ f c r⟩⟩
def rL(t u:dH):dH:=fun a M Q=>t a M fun c b=>if c=true then u a b Q else Q false b
def rM(t u:dH):dH:=fun a M Q=>t a M fun c b=>if c=true then Q true b else u a b Q
def nK(t:dH):dH:=fun a M Q=>t a M fun c b=>Q (!c) b
variable {tA tB':dH}{rest:List Expr}
theorem vR(ha:T3 X a tA):W3 X (.BoolOp .And [a] pos) tA:=KH ha
theorem vS(ha:T3 X a tA):W3 X (.BoolOp .Or [a] pos) tA:=KI ha
theorem vT(ha:T3 X a tA)(hb:W3 X (.BoolOp .And (b :: rest) pos) tB'):W3 X (.BoolOp .And (a :: b :: rest) pos) (rL tA tB'):=
 (KJ ha hb).weak fun σ H Q z0=>z0.el fun j M R m l h k=>⟨j,M,_,m,l,h,fun c o g e d i=>by
  cases c with
  | true=>exact⟨j,g,R,m.kp l e,d,i,fun b q n p f r=>k b q n (e.trans p) f r⟩
  | false=>exact k false o g e d i⟩
theorem vU(ha:T3 X a tA)(hb:W3 X (.BoolOp .Or (b :: rest) pos) tB'):W3 X (.BoolOp .Or (a :: b :: rest) pos) (rM tA tB'):=
 (KL ha hb).weak fun σ H Q z0=>z0.el fun j M R m l h k=>⟨j,M,_,m,l,h,fun c o g e d i=>by
  cases c with
  | true=>exact k true o g e d i
  | false=>exact⟨j,g,R,m.kp l e,d,i,fun b q n p f r=>k b q n (e.trans p) f r⟩⟩
theorem pA(ha:T3 X a tA):T3 X (.UnaryOp .Not a pos) (nK tA):=
 (KN ha).weak fun σ H Q z0=>z0.el fun i M R l j h k=>⟨i,M,_,l,j,h,fun c e d f b g=>k (!c) e d f b g⟩
def rN(ta tb:aS):aS:=fun a M R=>ta a M fun x b=>∃ c,x=.bl c/\if c=true then tb a b R else R (.bl false) b
def B5(ta tb:aS):aS:=fun a M R=>ta a M fun x b=>∃ c,x=.bl c/\if c=true then R (.bl true) b else tb a b R
theorem rO{op}(h:E3 X a ta):E3 X (.BoolOp op [a] pos) ta:=KQ h
theorem v_and(ha:E3 X a ta)(hb:E3 X (.BoolOp .And (b :: rest) pos) tb):E3 X (.BoolOp .And (a :: b :: rest) pos) (rN ta tb):=
 (KR ha hb).weak fun σ H Q z0=>z0.el fun i M R l j h k=>⟨i,M,_,l,j,h,fun x p o m f d n ⟨c,e,g⟩=>by
  subst e
  refine⟨c,n.bl_inv,?_⟩
  cases c with
  | true=>exact⟨i,m,R,l.kp j f,d,g,k.kp f⟩
  | false=>exact(k.kp f).at d (.bl false) g⟩
theorem v_or(ha:E3 X a ta)(hb:E3 X (.BoolOp .Or (b :: rest) pos) tb):E3 X (.BoolOp .Or (a :: b :: rest) pos) (B5 ta tb):=
 (KU ha hb).weak fun σ H Q z0=>z0.el fun i M R l j h k=>⟨i,M,_,l,j,h,fun x p o m f d n ⟨c,e,g⟩=>by
  subst e
  refine⟨c,n.bl_inv,?_⟩
  cases c with
  | true=>exact(k.kp f).at d (.bl true) g
  | false=>exact⟨i,m,R,l.kp j f,d,g,k.kp f⟩⟩
def B6(t:dH)(ta tb:aS):aS:=fun a M R=>t a M fun c b=>if c=true then ta a b R else tb a b R
theorem RY{c:Expr}(hc:T3 X c tA)(ha:E3 X a ta)(hb:E3 X b tb):E3 X (.IfExp c a b pos) (B6 tA ta tb):=
 (KY hc ha hb).weak fun σ H Q z0=>z0.el fun f M R i g h k=>⟨f,M,_,i,g,h,fun c m j e d l=>by
  cases c with
  | true=>exact⟨f,j,R,i.kp g e,d,l,k.kp e⟩
  | false=>exact⟨f,j,R,i.kp g e,d,l,k.kp e⟩⟩
def aE:dJ:=fun _ M R=>R [] M
def aB(ta:aS)(b:dJ):dJ:=fun a M R=>ta a M fun x c=>b a c fun xs d=>R (x :: xs) d
variable {e:Expr}{es:List Expr}{te:aS}{t:dJ}
theorem aJ:A3 X [] aE:=NT.weak fun σ H Q z0=>z0.el fun c M R b a h k=>k [] H [] M (Kp.refl a) a .nil h
theorem aC(ha:E3 X e te)(q:A3 X es t)(hs:Bj (e :: es) X.env=(false,eval e X.env) :: Bj es X.env:=by rfl):A3 X (e :: es) (aB te t):=
 (NU ha q hs).weak fun σ H Q z0=>z0.el fun f M R i g h k=>⟨f,M,_,i,g,h,fun x u m l d a p o=>⟨f,l,_,i.kp g d,a,o,fun xs n ws s j b c r=>
  k (x :: xs) n (m :: ws) s (d.trans j) b (.cons (p.kp a j) c) r⟩⟩
def dB(t:dJ):aS:=fun a M R=>t a M fun ws b=>ws.length<=Aj/\R (.tup ws) b
def jR(t:dJ):aS:=fun a M R=>t a M fun ws b=>ws.length<=Aj/\aV ws b R
theorem laidT{K:Ae}{H:Hp}{M:Mm}{R:K3}{Q:VK}{p:Addr}{xs:List V}{ws:List W}(d:AM K H M)(k:Up K H M R Q)(b:H p=none)(c:aL K H M xs ws)(r:R (.tup ws) M):Q (.ref p) (aN H p (.tup xs)):=by
 obtain⟨a,e⟩:=d.tup (u:=.tup xs) b
 exact k _ _ _ _ e a (.tup dZ (c.newT b)) r
theorem iF{K:Ae}{H:Hp}{M:Mm}{R:K3}{Q:VK}{p:Addr}{xs:List V}{ws:List W}(c:AM K H M)(k:Up K H M R Q)(b:H p=none)(d:aL K H M xs ws)(r:∀ p,M p=none->R (.ref p) (put M p (.lst ws))):Q (.ref p) (aN H p (.lst xs)):=by
 obtain⟨a,e⟩:=c.laid (o:=.lst ws) (u:=.lst xs) b ⟨xs,dZ,d.newL b⟩
 exact k _ _ _ _ e a (.ref p) (r p (c.nonM b))
theorem rP{K:Ae}{H:Hp}{M:Mm}{R:K3}{Q:VK}{l:Addr}{xs:List V}{ws b:List W}{y:V}{w:W}(c:AM K H M)(k:Up K H M R Q)(hl:M l=some (.lst b))(d:aL K H M xs ws)(e:AV K H M y w)(r:R w (put M l (.lst ws))):Q y (aN H l (.lst xs)):=by
 obtain⟨a,f⟩:=c.write (o:=.lst ws) (u:=.lst xs) hl ⟨xs,dZ,d.wr c hl⟩
 exact k _ _ _ _ f a (e.wr c hl) r
theorem dO{x1}(h:A3 X es t):E3 X (.Tuple es x1 pos) (dB t):=
 (NX h).weak fun σ H Q z0=>z0.el fun e M R g f h k=>⟨e,M,_,g,f,h,fun xs j ws i c b a ⟨hl,r⟩=>⟨by rw[a.length];exact hl,fun p d=>laidT b (k.kp c) d a r⟩⟩
theorem mE(h:A3 X es t):E3 X (.List es pos) (jR t):=
 (AR h).weak fun σ H Q z0=>z0.el fun e M R g f h k=>⟨e,M,_,g,f,h,fun xs j ws i c b a ⟨hl,r⟩=>⟨by rw[a.length];exact hl,fun p d=>iF b (k.kp c) d a r⟩⟩
def bT(r:List W->Mm->K3->Prop)(t:dJ):aS:=fun a M R=>t a M fun ws b=>r ws b R
variable {x:Str}{p:Pos}{id T:String}{r:List W->Mm->K3->Prop}
theorem B7{K:Ae}{σ:SV}{H:Hp}{Q:VK}(h:up K (bT r t) σ H Q):u3 (fZ K r) (nJ K t) σ H Q:=by
 obtain⟨f,M,R,i,g,h,k⟩:=h
 exact⟨f,M,_,i,g,h,fun xs j ws c d b a e=>⟨ws,c,R,b,a,e,k.kp d⟩⟩
theorem cR(hc:cU X (.builtin id) (fZ X.K r))(g:Gl X x)(c:X.mg x=none)(f:Cv x=some (.builtin id))(ha:A3 X (e :: es) t)(d:x≠"__name__":=by decide)(a:(x == ("__debug__" : Str))=false:=by decide)
  (hs:Bj (e :: es) X.env=(false,eval e X.env) :: Bj es X.env:=by rfl) (b:(Ia pos (Bj es X.env)).any (·.1)=false:=by rfl):E3 X (.Call (.Name x p) (e :: es) [] pos) (bT r t):=(N6 hc g c f ha d a hs b).weak fun _ _ _ h=>B7 h
theorem kJ(hc:cU X (.type T) (fZ X.K r))(g:Gl X x)(c:X.mg x=none)(f:Cv x=some (.type T))(ha:A3 X (e :: es) t)(d:x≠"__name__":=by decide)(a:(x == ("__debug__" : Str))=false:=by decide)
  (hs:Bj (e :: es) X.env=(false,eval e X.env) :: Bj es X.env:=by rfl) (b:(Ia pos (Bj es X.env)).any (·.1)=false:=by rfl):E3 X (.Call (.Name x p) (e :: es) [] pos) (bT r t):=(N7 hc g c f ha d a hs b).weak fun _ _ _ h=>B7 h
abbrev bS:=List W->Mm->K3->Prop
def gK(K:Ae)(sp:bS):Sp:=fun vs H Q _=>∃ ws M R,AM K H M/\aL K H M vs ws/\sp ws M R/\Up K H M R Q
variable {k:Nat}{f:Addr}{fd:Br}{ps:List Str}{sp:bS}
def bZ(sp:bS)(t:dJ):aS:=fun a M R=>t a M fun ws b=>sp ws b R
theorem RZ{K:Ae}{σ:SV}{H:Hp}{Q:VK}(h:up K (bZ sp t) σ H Q):AU (gK K sp) [] E0 (nJ K t) σ H Q:=by
 obtain⟨f,M,R,i,g,h,k⟩:=h
 exact⟨f,M,_,i,g,h,fun xs j ws c d b a e=>⟨ws,c,R,b,by rw[Gf];exact a,e,k.kp d⟩⟩
theorem R0(F:eW X.prog X.w X.K X.mg X.base fY k f fd ps (gK X.K sp))(d:cF k X.A)(i:Gl X x)(c:X.mg x=some (.ref f))(hk:Fw X.K (.ref f)=true)(hb:Binds X.K fd ps [])
  (ha:A3 X (e :: es) t) (a:(x == ("__debug__" : Str))=false:=by decide) (g:Bj (e :: es) X.env=(false,eval e X.env) :: Bj es X.env:=by rfl) (b:(Ia pos (Bj es X.env)).any (·.1)=false:=by rfl) :
  E3 X (.Call (.Name x p) (e :: es) [] pos) (bZ sp t):=(NY F d i c hk hb .nil oU ha a g b).weak fun _ _ _ h=>RZ h
def kK(T:String):W->Mm->Prop
 | .str _,_=>T = "str"
 | .int _,_=>T = "int"
 | .rl _,_=>T = "list"
 | .sc _,_=>T = "list"
 | .dk _,_=>T = "dict"
 | .dt _,_=>T = "dict"
 | .fk _,_=>T = "dict"
 | .ft _,_=>T = "dict"
 | .ref p,M=>(T = "list"/\∃ ws,M p=some (.lst ws))\/(T = "dict"/\((∃ kvs,M p=some (.dK kvs))\/∃ kvs,M p=some (.dT kvs)))
 | _,_=>False
theorem B8{K:Ae}{H:Hp}{M:Mm}{v:V}{w:W}(c:AM K H M)(f:AV K H M v w)(h:kK T w M):qW K T v H:=by
 cases f with
 | str y=>exact h
 | int i=>exact h
 | rl e n q=>exact .inl ⟨h,_,bC.of e⟩
 | sc e q=>exact .inl ⟨h,_,e.sq⟩
 | dk e n d q=>exact .inr (.inr (.inl ⟨h,.inl ⟨_,.inl e⟩⟩))
 | dt e n d q=>exact .inr (.inr (.inl ⟨h,.inr ⟨_,.inl e⟩⟩))
 | ref p=>
  rcases h with⟨e,ws,h⟩ | ⟨e,h⟩
  ·obtain⟨vs,a,_⟩:=c.lst h
   exact .inl ⟨e,vs,bC.of a⟩
  ·refine .inr (.inr (.inl ⟨e,?_⟩))
   rcases h with⟨kvs,h⟩ | ⟨kvs,h⟩
   ·obtain⟨ks,a,_⟩:=c _ _ h;exact .inl ⟨ks,.inl a⟩
   ·obtain⟨ks,a,_⟩:=c _ _ h;exact .inr ⟨ks,.inl a⟩
 | non=>exact h.elim
 | bl b=>exact h.elim
 | ty n=>exact h.elim
 | tup e q=>exact h.elim
 | fk e d q=>exact .inr (.inr (.inl ⟨h,.inl ⟨_,.inr ⟨_,e⟩⟩⟩))
 | ft e d q=>exact .inr (.inr (.inl ⟨h,.inr ⟨_,.inr ⟨_,e⟩⟩⟩))
variable {o:Expr}{to:aS}{name:Str}{apos cpos:Pos}{rm:W->List W->Mm->K3->Prop}
def rQ(T:String)(r:W->List W->Mm->K3->Prop)(to:aS):aS:=fun b M R=>to b M fun x a=>kK T x a/\r x [] a R
def eX(T:String)(r:W->List W->Mm->K3->Prop)(to:aS)(t:dJ):aS:=fun a M R=>to a M fun x b=>kK T x b/\t a b fun xs c=>r x xs c R
theorem vV(pa:PlainAttrs T)(slot:Slot T name id)(d:typeOf (.builtin id)=pure (.type "method_descriptor"))(g:iC X id (jP X.K rm))(i:E3 X o to)
  (b:Ke o name X.env (eval o X.env)=eval o X.env:=by rfl) (a:(apos.endLine == cpos.line)=true:=by rfl):E3 X (.Call (.Attribute o name apos) [] [] cpos) (rQ T rm to):=
 (PB pa slot d g i b a).weak fun σ H Q z0=>z0.el fun n M R q p h k=>⟨n,M,_,q,p,h,fun x r j f l c e ⟨ty,m⟩=>⟨B8 c e ty,j,[],f,R,c,e,.nil,m,k.kp l⟩⟩
theorem f6(pa:PlainAttrs T)(slot:Slot T name id)(g:typeOf (.builtin id)=pure (.type "method_descriptor"))(u:iC X id (jP X.K rm))(v:E3 X o to)(ha:A3 X (e :: es) t)
  (d:Ke o name X.env (eval o X.env)=eval o X.env:=by rfl)
  (f:((Ia cpos (Bj (e :: es) X.env)).all (fun x=>!x.1) && (backToKw cpos (Ms [] X.env)).all (fun x=>x.1.isSome)
   && decide ((e :: es).length + ([]:List Keyword).length + (if ([]:List Keyword).isEmpty then 0 else 1) < 30))=true:=by rfl)
  (c:(apos.endLine == cpos.line)=true:=by rfl) (hs:Bj (e :: es) X.env=(false,eval e X.env) :: Bj es X.env:=by rfl) (a:(Ia cpos (Bj es X.env)).any (·.1)=false:=by rfl) :
  E3 X (.Call (.Attribute o name apos) (e :: es) [] cpos) (eX T rm to t):=
 (PC pa slot g u v ha d f c hs a).weak fun σ H Q z0=>z0.el fun p M R r q h k=>⟨p,M,_,r,q,h,fun x B z y m b l ⟨ty,w⟩=>⟨B8 b l ty,p,y,_,r.kp q m,b,w,fun xs C ws s n j i A=>
  ⟨z,ws,s,R,j,l.kp b n,i,A,(k.kp m).kp n⟩⟩⟩
end
section
variable {X:Cx}
theorem kL{f:Ac->Ac->Sem Ac}{r:R2}{c:R3}(g:bB X f r)(h:∀ x y H Q M R,AM X.K H M->Up X.K H M R Q->∀ b a,c b a M R->AV X.K H M x b->AV X.K H M y a->r x y H Q):bB X f (bY X.K c):=
 fun pins s σ H x y v u Q I d j ⟨b,a,M,R,l,i,m,e,k⟩=>g pins s σ H x y v u Q I d j (h x y H Q M R l k b a e i m)
theorem R1{r:R2}{e:R3}(i:iK X r)(h:∀ x y H Q M R,AM X.K H M->Up X.K H M R Q->∀ d c,e d c M R->AV X.K H M x d->AV X.K H M y c->r x y H Q):iK X (bY X.K e):=
 fun a b pins s σ H x y v u Q I f l ⟨d,c,M,R,m,j,n,g,k⟩=>i a b pins s σ H x y v u Q I f l (h x y H Q M R m k d c g j n)
theorem vW{f:Ac}{r:List V->Hp->VK->Prop}{a:List W->Mm->K3->Prop}(c:cU X f r)(h:∀ xs H Q M R,AM X.K H M->Up X.K H M R Q->∀ ws,a ws M R->aL X.K H M xs ws->r xs H Q):cU X f (fZ X.K a):=
 fun pins s σ H xs us Q I rs ⟨ws,M,R,e,d,b,k⟩=>c pins s σ H xs us Q I rs (h xs H Q M R e k ws b d)
def B9:R3
 | .int i,.int j,M,R=>R (.int (i + j)) M
 | .tup xs,.tup ys,M,R=>xs≠[]/\xs.length + ys.length<=Aj/\R (.tup (xs ++ ys)) M
 | .ref a,.ref b,M,R=>∃ xs ys,M a=some (.lst xs)/\M b=some (.lst ys)/\xs.length + ys.length<=Aj/\aV (xs ++ ys) M R
 | .rl xs,.ref b,M,R=>∃ ys,M b=some (.lst ys)/\xs.length + ys.length<=Aj/\aV (xs ++ ys) M R
 | .ref a,.rl ys,M,R=>∃ xs,M a=some (.lst xs)/\xs.length + ys.length<=Aj/\aV (xs ++ ys) M R
 | .rl xs,.rl ys,M,R=>xs.length + ys.length<=Aj/\aV (xs ++ ys) M R
 | _,_,_,_=>False
def jS(M:Mm):W->List W->Prop
 | .ref a,ws=>M a=some (.lst ws)
 | .rl ws,b=>ws=b
 | _,_=>False
theorem kM{K:Ae}{H:Hp}{M:Mm}{v:V}{w:W}{ws:List W}(c:AM K H M)(h:AV K H M v w)(e:jS M w ws):∃ a xs,v=.ref a/\H a=some (.lst xs)/\aL K H M xs ws:=by
 cases w <;> first | exact(show False from e).elim | skip
 case ref a=>exact c.lstE e fun xs f q=>⟨_,_,h.inv,f,q⟩
 case rl zs=>exact h.rlE fun a xs b f q=>⟨_,_,b,f,by rw[<-show zs=ws from e];exact q⟩
theorem R4{P:W->W->Prop}{M:Mm}{R:K3}(b:∀ i j,R (.int (i + j)) M->P (.int i) (.int j))(c:∀ xs ys,xs≠[]/\xs.length + ys.length<=Aj/\R (.tup (xs ++ ys)) M->P (.tup xs) (.tup ys))
  (a:∀ x y xs ys,jS M x xs->jS M y ys->xs.length + ys.length<=Aj->aV (xs ++ ys) M R->P x y):∀ x y,B9 x y M R->P x y:=by
 intro x y h
 cases x <;> first | exact(show False from h).elim | (cases y <;> first | exact(show False from h).elim | skip)
 case int.int=>exact b _ _ h
 case tup.tup=>exact c _ _ h
 case ref.ref=>obtain⟨xs,ys,e,f,l,r⟩:=h;exact a _ _ _ _ e f l r
 case rl.ref=>obtain⟨ys,f,l,r⟩:=h;exact a _ _ _ _ rfl f l r
 case ref.rl=>obtain⟨xs,e,l,r⟩:=h;exact a _ _ _ _ e rfl l r
 case rl.rl=>exact a _ _ _ _ rfl rfl h.1 h.2
theorem R5:bB X (Fs .Add) (bY X.K B9):=kL (ME.or (OL.or PL)) fun x y H Q M R f k=>R4
 (fun i j h e g=>.inl ⟨i,j,e.inv,g.inv,k.at f (.int _) h⟩)
 (fun xs ys h e g=>e.tupE fun a us m s c=>g.tupE fun b vs q o d=>.inr (.inl ⟨a,b,us,vs,m,q,bM.of s,bM.of o,
  fun z=>h.1 (Ka.mp (by rw[<-c.length,z];rfl)),by rw[c.length,d.length];exact h.2.1,
  fun z=>k.at f (by rw[<-m];exact e) (by rw[<-Gf xs,<-Ka.mp (show ys.length=0 by rw[<-d.length,z];rfl)];exact h.2.2),
  fun _ p n=>laidT f k n (c.append d) h.2.2⟩))
 (fun w v xs ys u t l r e g=>.inr (.inr (by
  obtain⟨a,us,m,s,c⟩:=kM f e u
  obtain⟨b,vs,q,o,d⟩:=kM f g t
  exact⟨a,b,us,vs,m,q,s,o,by rw[c.length,d.length];exact l,fun p n=>iF f k n (c.append d) r⟩)))
def pB(C:Int->Int->Prop)(g:Int->Int->W):R3
 | .int i,.int j,M,R=>C i j/\R (g i j) M
 | _,_,_,_=>False
theorem R6{C:Int->Int->Prop}{g:Int->Int->W}{P:W->W->Prop}{M:Mm}{R:K3}(c:∀ i j,C i j/\R (g i j) M->P (.int i) (.int j))(x y:W)(h:pB C g x y M R):P x y:=by
 cases x <;> first | exact(show False from h).elim | (cases y <;> first | exact(show False from h).elim | exact c _ _ h)
theorem vX{f:Ac->Ac->Sem Ac}{C:Int->Int->Prop}{g:Int->Int->V}{g':Int->Int->W}(a:bB X f (rI C g))(d:∀ H M i j,AV X.K H M (g i j) (g' i j)):bB X f (bY X.K (pB C g')):=
 kL a fun x y H Q M R c k=>R6 fun i j h b e=>⟨i,j,b.inv,e.inv,h.1,k.at c (d H M i j) h.2⟩
def mF(g:Int->Int->W):R3
 | .int i,.int j,M,R=>R (g i j) M
 | _,_,_,_=>False
theorem R7{g:Int->Int->W}{P:W->W->Prop}{M:Mm}{R:K3}(c:∀ i j,R (g i j) M->P (.int i) (.int j))(x y:W)(h:mF g x y M R):P x y:=by
 cases x <;> first | exact(show False from h).elim | (cases y <;> first | exact(show False from h).elim | exact c _ _ h)
theorem pC{f:Ac->Ac->Sem Ac}{g:Int->Int->V}{g':Int->Int->W}(a:bB X f (kC g))(d:∀ H M i j,AV X.K H M (g i j) (g' i j)):bB X f (bY X.K (mF g')):=
 kL a fun x y H Q M R c k=>R7 fun i j h b e=>⟨i,j,b.inv,e.inv,k.at c (d H M i j) h⟩
abbrev nL:R3:=mF fun i j=>.int (i - j)
theorem pD:bB X (Fs .Sub) (bY X.K nL):=pC MF fun _ _ _ _=>.int _
abbrev nM:R3:=pB vJ fun i j=>.int (i / j)
theorem pE:bB X (Fs .FloorDiv) (bY X.K nM):=vX QT fun _ _ _ _=>.int _
abbrev iM:R3:=pB (fun _ j=>0 < j) fun i j=>.int (i % j)
theorem iY:bB X (Fs .Mod) (bY X.K iM):=vX MH fun _ _ _ _=>.int _
abbrev rR:R3:=pB AA fun i j=>.int (i ^ j.toNat)
theorem vY:bB X (Fs .Pow) (bY X.K rR):=vX MI fun _ _ _ _=>.int _
def CA:R3
 | .int i,.int j,M,R=>(nD i j\/rD i j)/\R (.int (i * j)) M
 | .ref a,.int n,M,R=>∃ xs,M a=some (.lst xs)/\-(2 ^ 63)<=n/\n < 2 ^ 63/\xs.length * n.toNat<=Aj/\aV (Bz n.toNat xs).flatten M R
 | .rl xs,.int n,M,R=>-(2 ^ 63)<=n/\n < 2 ^ 63/\xs.length * n.toNat<=Aj/\aV (Bz n.toNat xs).flatten M R
 | _,_,_,_=>False
theorem R8{P:W->W->Prop}{M:Mm}{R:K3}(b:∀ i j,(nD i j\/rD i j)/\R (.int (i * j)) M->P (.int i) (.int j))
  (a:∀ x n xs,jS M x xs->-(2 ^ 63)<=n/\n < 2 ^ 63/\xs.length * n.toNat<=Aj/\aV (Bz n.toNat xs).flatten M R->P x (.int n)):∀ x y,CA x y M R->P x y:=by
 intro x y h
 cases x <;> first | exact(show False from h).elim | (cases y <;> first | exact(show False from h).elim | skip)
 case int.int=>exact b _ _ h
 case ref.int=>obtain⟨xs,e,h⟩:=h;exact a _ _ _ e h
 case rl.int=>exact a _ _ _ rfl h
theorem R9:bB X (Fs .Mult) (bY X.K CA):=kL (MG.or (QS.or PQ)) fun x y H Q M R c k=>R8
 (fun i j h b d=>h.1.elim (fun z=>.inl ⟨i,j,b.inv,d.inv,z,k.at c (.int _) h.2⟩) fun z=>.inr (.inl ⟨i,j,b.inv,d.inv,z,k.at c (.int _) h.2⟩))
 (fun o n xs g h b d=>.inr (.inr (by
  obtain⟨a,us,f,m,e⟩:=kM c b g
  exact⟨a,n,us,f,d.inv,m,h.1,h.2.1,by rw[e.length];exact h.2.2.1,fun p l=>iF c k l (e.flatRep _) h.2.2.2⟩)))
def kN:W->Mm->K3->Prop
 | .int i,M,R=>R (.int (-i)) M
 | _,_,_=>False
theorem lH:oO X (unaryOp .USub) (B2 X.K kN):=by
 rintro pins s σ H x v Q I a ⟨b,M,R,d,c,h,k⟩
 cases b <;> first | exact(show False from h).elim | skip
 case int i=>exact MK pins s σ H _ v Q I a ⟨i,c.inv,k.at d (.int _) h⟩
def mG:R3:=mF fun i j=>.bl (decide (i < j))
theorem nN:bB X (Cf .Lt) (bY X.K mG):=pC MP fun _ _ _ _=>.bl _
abbrev CB:R3:=mF fun i j=>.bl (decide (i<=j))
theorem SA:bB X (Cf .LtE) (bY X.K CB):=pC MQ fun _ _ _ _=>.bl _
abbrev CC:R3:=mF fun i j=>.bl (decide (j < i))
theorem SD:bB X (Cf .Gt) (bY X.K CC):=pC MR fun _ _ _ _=>.bl _
abbrev CD:R3:=mF fun i j=>.bl (decide (j<=i))
theorem SE:bB X (Cf .GtE) (bY X.K CD):=pC MS fun _ _ _ _=>.bl _
def isNon:W->Bool
 | .non=>true
 | _=>false
def vZ(neg:Bool):R3
 | x,.non,M,R=>R (.bl (if neg then !isNon x else isNon x)) M
 | _,_,_,_=>False
theorem AV.isNon{K:Ae}{H:Hp}{M:Mm}{v:V}{w:W}(h:AV K H M v w):decide (v=.non)=L3.isNon w:=by cases h <;> rfl
theorem SF{n:Bool}{P:W->W->Prop}{M:Mm}{R:K3}(c:∀ x,R (.bl (if n then !isNon x else isNon x)) M->P x .non)(x y:W)(h:vZ n x y M R):P x y:=by
 cases y <;> first | exact(show False from h).elim | exact c _ h
theorem SG:bB X (Cf .Is) (bY X.K (vZ false)):=kL MU fun x y H Q M R c k=>SF fun w h b a=>⟨a.inv,by rw[b.isNon];exact k.at c (.bl _) h⟩
mutual
inductive Snap(M:Mm):W->Md->Prop
 | non:Snap M .non .none
 | bl (b:Bool):Snap M (.bl b) (.bool b)
 | int (i:Int):Snap M (.int i) (.int i)
 | str (x:Str):Snap M (.str x) (.str x)
 | tup {ws:List W} {ds:List Md}:iG M ws ds->Snap M (.tup ws) (.tuple ds)
 | rl {ws:List W} {ds:List Md}:iG M ws ds->Snap M (.rl ws) (.list ds)
 | ref {a:Addr} {ws:List W} {ds:List Md}:M a=some (.lst ws)->iG M ws ds->Snap M (.ref a) (.list ds)
inductive iG(M:Mm):List W->List Md->Prop
 | nil:iG M [] []
 | cons {w:W} {ws:List W} {d:Md} {ds:List Md}:Snap M w d->iG M ws ds->iG M (w :: ws) (d :: ds)
end
section
variable {pins:List (Addr×Obj)}{σ:SV}{H:Hp}{s:Ah}{M:Mm}
theorem iG.reads(I:Inv X pins σ H s)(L:AM X.K H M){ws:List W}{A:List Md}(h:iG M ws A):∀ {vs:List V} {us:List Ac},aL X.K H M vs ws->aQ vs us->∃ g,ReadsAll s.heap us A g:=
 iG.rec (motive_1:=fun w d _=>∀ {v:V} {u:Ac},AV X.K H M v w->RelV v u->∃ g,Reads s.heap u d g) (motive_2:=fun ws A _=>∀ {vs:List V} {us:List Ac},aL X.K H M vs ws->aQ vs us->∃ g,ReadsAll s.heap us A g)
  (fun c r=>by rw[show _=_ from c.inv] at r;rw[show _=_ from r];exact⟨_,.none⟩)
  (fun b _ _ c r=>by rw[show _=_ from c.inv] at r;rw[show _=_ from r];exact⟨_,.bool b⟩)
  (fun i _ _ c r=>by rw[show _=_ from c.inv] at r;exact r.elim fun t r=>by rw[r];exact⟨_,.int i t⟩)
  (fun x _ _ c r=>by rw[show _=_ from c.inv] at r;exact r.elim fun t r=>by rw[r];exact⟨_,.str x t⟩)
  (fun _ m _ _ c r=>c.tupE fun a xs e f q=>by
   rw[e] at r;rw[show _=_ from r]
   obtain⟨its,l,⟨o,k,p,n,j⟩,_⟩:=I.tuple (bM.of f)
   exact(m q l).elim fun g z=>⟨_,.tuple k p j (by simpa using z)⟩)
  (fun _ m _ _ c r=>c.rlE fun a xs e f q=>by
   rw[e] at r;rw[show _=_ from r]
   obtain⟨its,l,pl,_⟩:=I.list (bC.of f)
   obtain⟨o,k,p,n,j⟩:=pl.isList
   exact(m q l).elim fun g z=>⟨_,.list k p j (by simpa using z)⟩)
  (fun F _ m _ _ c r=>L.lstE F fun vs f q=>by
   rw[show _=_ from c.inv] at r;rw[show _=_ from r]
   obtain⟨its,l,pl,_⟩:=I.list (bC.of f)
   obtain⟨o,k,p,n,j⟩:=pl.isList
   exact(m q l).elim fun g z=>⟨_,.list k p j (by simpa using z)⟩)
  (fun c r=>by cases c;cases r;exact⟨_,.nil⟩)
  (fun _ _ B C _ _ c r=>by
   cases c with
   | cons a b=>
    cases r with
    | cons D E=>exact(B a D).elim fun x G=>(C b E).elim fun y J=>⟨_,.cons G J⟩) h
theorem Snap.reads(I:Inv X pins σ H s)(c:AM X.K H M){w:W}{d:Md}{v:V}{u:Ac}(h:Snap M w d)(a:AV X.K H M v w)(r:RelV v u):∃ b,Reads s.heap u d b:=
 (iG.reads I c (.cons h .nil) (.cons a .nil) (.cons r .nil)).elim fun _ z=>by
  cases z with
  | cons q _=>exact⟨_,q⟩
end
def pF(neg:Bool):R3:=fun x y M R=>∃ da db,Snap M x da/\Snap M y db/\BW da/\BW db/\R (.bl (if neg then !PyData.eqv da db else Gq da db)) M
def rEq(neg:Bool):R3
 | .int i,.int j,M,R=>R (.bl (if neg then !decide (i=j) else decide (i=j))) M
 | .str i,.str j,M,R=>R (.bl (if neg then !decide (i=j) else decide (i=j))) M
 | .bl i,.bl j,M,R=>R (.bl (if neg then !decide (i=j) else decide (i=j))) M
 | x,y,M,R=>pF neg x y M R
theorem CF{i j:Int}:decide (V.int i=V.int j)=decide (i=j):=by rw[Er];simp
theorem rS{i j:Str}:decide (V.str i=V.str j)=decide (i=j):=by rw[Er];simp
theorem CG{i j:Bool}:decide (V.bl i=V.bl j)=decide (i=j):=by rw[Er];simp
theorem CH{n:Bool}{P:W->W->Prop}{M:Mm}{R:K3}(c:∀ i j,R (.bl (if n then !decide (i=j) else decide (i=j))) M->P (.int i) (.int j))(d:∀ i j,R (.bl (if n then !decide (i=j) else decide (i=j))) M->P (.str i) (.str j))
  (b:∀ i j,R (.bl (if n then !decide (i=j) else decide (i=j))) M->P (.bl i) (.bl j)) (a:∀ x y,pF n x y M R->P x y) (x y:W) (h:rEq n x y M R):P x y:=by
 cases x <;> first | exact a _ _ h | (cases y <;> first | exact c _ _ h | exact d _ _ h | exact b _ _ h | exact a _ _ h)
theorem sV{i j:V}{x y:V}(e:x=i)(f:y=j)(h:qT i j=true):qT x y=true:=by rw[e,f];exact h
theorem dV{i j:V}{x y:V}{b:Bool}{Q:Bool->Prop}(e:x=i)(f:y=j)(h:decide (i=j)=b)(q:Q b):Q (decide (x=y)):=by rw[e,f,h];exact q
theorem SH(d:X.A.units + 64 < Fz):bB X (Cf .Eq) (bY X.K (pF false)):=by
 rintro pins s σ H x y v u Q I c f ⟨j,i,M,R,a,e,h,⟨da,db,ha,hb,b,fb,q⟩,k⟩
 obtain⟨l,g⟩:=ha.reads I a e c
 obtain⟨bs,rb⟩:=hb.reads I a h f
 exact SeqAt.compareEq_reads g rb b.1 fb.1 (Lq (Hr (Bh (Ii _ _) (Bh b.2 (by decide))) _) d) ⟨.bl _,H,I,rfl,k.at a (.bl _) q⟩
theorem SI(d:X.A.units + 64 < Fz):bB X (Cf .NotEq) (bY X.K (pF true)):=by
 rintro pins s σ H x y v u Q I c f ⟨j,i,M,R,a,e,h,⟨da,db,ha,hb,b,fb,q⟩,k⟩
 obtain⟨l,g⟩:=ha.reads I a e c
 obtain⟨bs,rb⟩:=hb.reads I a h f
 exact SeqAt.compareNe_reads g rb b.1 fb.1 (Lq (Hr (Bh (Ii _ _) (Bh b.2 (by decide))) _) d) ⟨.bl _,H,I,rfl,k.at a (.bl _) q⟩
theorem lI(g:X.A.units + 64 < Fz):bB X (Cf .Eq) (bY X.K (rEq false)):=kL (MM.or (SH g)) fun x y H Q M R d k=>CH
 (fun i j h a c=>.inl ⟨sV a.inv c.inv rfl,dV (Q:=fun b=>Q (.bl b) H) a.inv c.inv CF (k.at d (.bl _) h)⟩)
 (fun i j h a c=>.inl ⟨sV a.inv c.inv rfl,dV (Q:=fun b=>Q (.bl b) H) a.inv c.inv rS (k.at d (.bl _) h)⟩)
 (fun i j h a c=>.inl ⟨sV a.inv c.inv rfl,dV (Q:=fun b=>Q (.bl b) H) a.inv c.inv CG (k.at d (.bl _) h)⟩)
 (fun e f h a c=>.inr ⟨e,f,M,R,d,a,c,h,k⟩)
theorem pG(g:X.A.units + 64 < Fz):bB X (Cf .NotEq) (bY X.K (rEq true)):=kL (MN.or (SI g)) fun x y H Q M R d k=>CH
 (fun i j h a c=>.inl ⟨sV a.inv c.inv rfl,dV (Q:=fun b=>Q (.bl !b) H) a.inv c.inv CF (k.at d (.bl _) h)⟩)
 (fun i j h a c=>.inl ⟨sV a.inv c.inv rfl,dV (Q:=fun b=>Q (.bl !b) H) a.inv c.inv rS (k.at d (.bl _) h)⟩)
 (fun i j h a c=>.inl ⟨sV a.inv c.inv rfl,dV (Q:=fun b=>Q (.bl !b) H) a.inv c.inv CG (k.at d (.bl _) h)⟩)
 (fun e f h a c=>.inr ⟨e,f,M,R,d,a,c,h,k⟩)
def wK:aD->W
 | .inl i=>.int i
 | .inr x=>.str x
def bD{κ:Type}[DecidableEq κ](kvs:List (κ×W))(k:κ):Option W:=(kvs.find? fun a=>decide (a.1=k)).map (·.2)
def bV{κ:Type}[DecidableEq κ](kvs:List (κ×W))(k:κ)(v:W):List (κ×W):=
 if (kvs.any fun a=>decide (a.1=k))=true then kvs.map (fun a=>if a.1=k then(a.1,v) else a) else kvs ++ [(k,v)]
theorem AV.key{K:Ae}{H:Hp}{M:Mm}{v:V}{k:aD}(h:AV K H M v (wK k)):v=kV k:=by
 cases k <;> exact h.inv
theorem aL.keys{K:Ae}{H:Hp}{M:Mm}:∀ {vs:List V} {k:List aD},aL K H M vs (k.map wK)->vs=k.map kV
 | _,[],h=>by cases h;rfl
 | _,a :: r,h=>by
  cases h with
  | cons x y=>rw[x.key,aL.keys y];rfl
section
variable {κ:Type}[DecidableEq κ]{K:Ae}{H:Hp}{M:Mm}
theorem rT{ks:List (κ×V)}{kvs:List (κ×W)}(h:bN K H M κ ks kvs)(k:κ):(bD kvs k=none/\fL ks k=none)\/∃ v w,bD kvs k=some w/\fL ks k=some v/\AV K H M v w:=by
 induction h with
 | nil=>exact .inl ⟨rfl,rfl⟩
 | @cons p q ps a r t b=>
  by_cases e:p.1=k
  ·refine .inr ⟨p.2,q.2,?_,?_,r.2⟩
   ·unfold bD;rw[Fp,decide_eq_true (by rw[<-r.1];exact e)];rfl
   ·exact qY e
  ·have c:¬ q.1=k:=by rw[<-r.1];exact e
   have l:bD (q :: a) k=bD a k:=by unfold bD;rw[Fp,decide_eq_false c]
   rw[l,qZ e]
   exact b
theorem SJ{ks:List (κ×V)}{kvs:List (κ×W)}(h:bN K H M κ ks kvs)(k:κ):(ks.any fun a=>decide (a.1=k))=(kvs.any fun a=>decide (a.1=k)):=by
 induction h with
 | nil=>rfl
 | cons r t b=>rw[Gp,Gp,b,r.1]
theorem SM{ks:List (κ×V)}{kvs:List (κ×W)}{v:V}{w:W}{k:κ}(c:AV K H M v w)(h:bN K H M κ ks kvs):bN K H M κ (ks.map (fun a=>if a.1=k then(a.1,v) else a)) (kvs.map (fun a=>if a.1=k then(a.1,w) else a)):=by
 induction h with
 | nil=>exact .nil
 | @cons p q ps d r t b=>
  rw[Ar,Ar]
  refine .cons ?_ b
  by_cases e:p.1=k
  ·rw[if_pos e,if_pos (by rw[<-r.1];exact e)];exact⟨r.1,c⟩
  ·rw[if_neg e,if_neg (by rw[<-r.1];exact e)];exact r
theorem SN{ks:List (κ×V)}{kvs:List (κ×W)}{v:V}{w:W}{k:κ}(b:AV K H M v w)(h:bN K H M κ ks kvs):bN K H M κ (ks ++ [(k,v)]) (kvs ++ [(k,w)]):=by
 induction h with
 | nil=>exact .cons ⟨rfl,b⟩ .nil
 | cons r t a=>exact .cons r a
theorem rV{ks:List (κ×V)}{kvs:List (κ×W)}{v:V}{w:W}(h:bN K H M κ ks kvs)(k:κ)(a:AV K H M v w):bN K H M κ (eI ks k v) (bV kvs k w):=by
 unfold eI bV
 rw[SJ h k]
 split
 ·exact SM a h
 ·exact SN a h
end
def eQ(M:Mm):W->W->Option W->Prop
 | .ref a,y,o=>(∃ kvs k,M a=some (.dK kvs)/\y=wK k/\o=bD kvs k)\/∃ kvs k,M a=some (.dT kvs)/\y=.tup (k.map wK)/\o=bD kvs k
 | .dk kvs,y,o=>∃ k,y=wK k/\o=bD kvs k
 | .dt kvs,y,o=>∃ k,y=.tup (k.map wK)/\o=bD kvs k
 | .fk kvs,y,o=>∃ k,y=wK k/\o=bD kvs k
 | .ft kvs,y,o=>∃ k,y=.tup (k.map wK)/\o=bD kvs k
 | _,_,_=>False
theorem v3{K:Ae}{H:Hp}{M:Mm}{a:Addr}{y:V}{k:aD}{ks:List (aD×V)}{kvs:List (aD×W)}(d:Rd H a (.dK ks))(q:bN K H M aD ks kvs)(e:AV K H M y (wK k)):(bD kvs k=none/\gF H a y none)\/∃ v w,bD kvs k=some w/\gF H a y (some v)/\AV K H M v w:=by
 rw[e.key]
 rcases rT q k with⟨c,b⟩ | ⟨v,w,c,b,f⟩
 ·exact .inl ⟨c,by rw[<-b];exact .inl ⟨_,_,d,rfl,rfl⟩⟩
 ·exact .inr ⟨v,w,c,by rw[<-b];exact .inl ⟨_,_,d,rfl,rfl⟩,f⟩
theorem v5{K:Ae}{H:Hp}{M:Mm}{a:Addr}{y:V}{k:List aD}{ks:List (List aD×V)}{kvs:List (List aD×W)}(f:Rd H a (.dT ks))(q:bN K H M (List aD) ks kvs)(h:AV K H M y (.tup (k.map wK))):(bD kvs k=none/\gF H a y none)\/∃ v w,bD kvs k=some w/\gF H a y (some v)/\AV K H M v w:=
 h.tupE fun b xs e eb g=>by
  rw[g.keys] at eb
  rcases rT q k with⟨d,c⟩ | ⟨v,w,d,c,i⟩
  ·exact .inl ⟨d,by rw[<-c];exact .inr ⟨_,_,_,f,e,eb,rfl⟩⟩
  ·exact .inr ⟨v,w,d,by rw[<-c];exact .inr ⟨_,_,_,f,e,eb,rfl⟩,i⟩
theorem rW{K:Ae}{H:Hp}{M:Mm}{x y:V}{d i:W}{o:Option W}(j:AM K H M)(b:AV K H M x d)(c:AV K H M y i)(h:eQ M d i o):∃ a,x=.ref a/\((o=none/\gF H a y none)\/∃ v w,o=some w/\gF H a y (some v)/\AV K H M v w):=by
 cases d <;> first | exact(show False from h).elim | skip
 case ref a=>
  rcases h with⟨kvs,k,e,rfl,rfl⟩ | ⟨kvs,k,e,rfl,rfl⟩
  ·obtain⟨ks,g,q⟩:=j _ _ e
   exact⟨a,b.inv,v3 (.inl g) q c⟩
  ·obtain⟨ks,g,q⟩:=j _ _ e
   exact⟨a,b.inv,v5 (.inl g) q c⟩
 all_goals
  obtain⟨k,rfl,rfl⟩:=h
  have b:=b.inv
 case dk=>obtain⟨a,ks,e,f,_,q⟩:=b;exact⟨a,e,v3 (.inl f) q c⟩
 case dt=>obtain⟨a,ks,e,f,_,q⟩:=b;exact⟨a,e,v5 (.inl f) q c⟩
 case fk=>obtain⟨a,ks,e,f,q⟩:=b;exact⟨a,e,v3 (.inr f) q c⟩
 case ft=>obtain⟨a,ks,e,f,q⟩:=b;exact⟨a,e,v5 (.inr f) q c⟩
def aY:R3
 | .tup ws,.int i,M,R=>∃ w,b9 ws i=some w/\R w M
 | .rl ws,.int i,M,R=>∃ w,b9 ws i=some w/\R w M
 | .sc ws,.int i,M,R=>∃ w,b9 ws i=some w/\R w M
 | .dk kvs,y,M,R=>∃ w,eQ M (.dk kvs) y (some w)/\R w M
 | .dt kvs,y,M,R=>∃ w,eQ M (.dt kvs) y (some w)/\R w M
 | .fk kvs,y,M,R=>∃ w,eQ M (.fk kvs) y (some w)/\R w M
 | .ft kvs,y,M,R=>∃ w,eQ M (.ft kvs) y (some w)/\R w M
 | .str z,.int i,M,R=>z.length<=Aj/\∃ c,b9 z.cps.toList i=some c/\R (.str ⟨#[c]⟩) M
 | .ref a,.int i,M,R=>(∃ ws w,M a=some (.lst ws)/\b9 ws i=some w/\R w M)\/∃ w,eQ M (.ref a) (.int i) (some w)/\R w M
 | .ref a,y,M,R=>∃ w,eQ M (.ref a) y (some w)/\R w M
 | _,_,_,_=>False
theorem v7{K:Ae}{H:Hp}{M:Mm}{vs:List V}{ws:List W}{i:Int}{w:W}(q:aL K H M vs ws)(h:b9 ws i=some w):∃ v,b9 vs i=some v/\AV K H M v w:=by
 unfold b9 at h ⊢
 rw[q.length]
 cases e:iB ws.length i with
 | none=>rw[e] at h;cases h
 | some j=>
  rw[e] at h
  exact q.getW (i:=j) h
theorem SO(i:X.A.units + 1 < Fz):iK X (fun x y H Q=>∃ a v,x=.ref a/\gF H a y (some v)/\Q v H):=by
 intro b d pins s σ H x y v u Q I e j h hs
 obtain⟨a,z,rfl,g,q⟩:=h
 cases e
 exact tail_any (P2 I g) PySem.F.slot_dict_getitem.lookup (PV i I g j fun k l f c=>⟨z,H,f,c,q⟩) hs
theorem SQ{P:W->W->Prop}{M:Mm}{R:K3}(d:∀ ws i w,b9 ws i=some w->R w M->P (.tup ws) (.int i))(g:∀ ws i w,b9 ws i=some w->R w M->P (.sc ws) (.int i))
  (b:∀ x ws i w,jS M x ws->b9 ws i=some w->R w M->P x (.int i)) (f:∀ z i,z.length<=Aj/\(∃ c,b9 z.cps.toList i=some c/\R (.str ⟨#[c]⟩) M)->P (.str z) (.int i))
  (a:∀ x y w,eQ M x y (some w)->R w M->P x y) (x y:W) (h:aY x y M R):P x y:=by
 cases x
 case non | bl | int | ty=>exact(show False from h).elim
 case dk | dt | fk | ft=>exact h.elim fun w h=>a _ _ _ h.1 h.2
 all_goals cases y <;> first | exact(show False from h).elim | skip
 case tup.int=>obtain⟨w,e,r⟩:=h;exact d _ _ _ e r
 case sc.int=>obtain⟨w,e,r⟩:=h;exact g _ _ _ e r
 case rl.int=>obtain⟨w,e,r⟩:=h;exact b _ _ _ _ rfl e r
 case str.int=>exact f _ _ h
 case ref.int=>exact h.elim (fun⟨ws,w,e,j,r⟩=>b _ _ _ _ e j r) fun⟨w,e,r⟩=>a _ _ _ e r
 all_goals obtain⟨w,e,r⟩:=h;exact a _ _ _ e r
theorem SU(o:X.A.units + 1 < Fz):iK X (bY X.K aY):=R1 (OQ.or (OR.or (OS.or (SO o)))) fun x y H Q M R j k=>SQ
 (fun ws i w h r b d=>b.tupE fun a xs e f q=>let ⟨z,e3,l⟩:=v7 q h;.inr (.inl ⟨a,xs,i,z,e,d.inv,bM.of f,e3,k.at j l r⟩))
 (fun ws i w h r b d=>b.scE fun a xs e f q=>let ⟨z,e3,l⟩:=v7 q h;.inl ⟨a,xs,i,z,e,d.inv,f.sq,e3,k.at j l r⟩)
 (fun n ws i w p h r b d=>let ⟨a,xs,e,f,q⟩:=kM j b p;let ⟨z,e3,l⟩:=v7 q h;.inl ⟨a,xs,i,z,e,d.inv,bC.of f,e3,k.at j l r⟩)
 (fun z i h b d=>let ⟨c,e,r⟩:=h.2;.inr (.inr (.inl ⟨z,i,c,b.inv,d.inv,h.1,e,k.at j (.str _) r⟩)))
 (fun n s w g r b d=>.inr (.inr (.inr (by
  obtain⟨a,e,g⟩:=rW j b d g
  rcases g with⟨z,_⟩ | ⟨z,t,m,g',l⟩
  ·cases z
  ·exact⟨a,z,e,g',k.at j l (by rw[<-Dz m];exact r)⟩))))
variable {a b:Expr}{ta tb:aS}{pos:Pos}
theorem a9(c:X.A.units + 1 < Fz)(ha:E3 X a ta)(hb:E3 X b tb)(hs:BC b:=by exact fun _ _=>rfl):E3 X (.Subscript a b pos) (aF aY ta tb):=(OM (SU c) ha hb hs).weak fun _ _ _ h=>rK h
def dP(ws:List W)(lo hi:Option Int):List W:=(ws.drop (HT.sIx ws.length 0 lo)).take (HT.sIx ws.length ws.length hi - HT.sIx ws.length 0 lo)
def v8:W->Option Int->Option Int->Mm->K3->Prop
 | .rl ws,lo,hi,M,R=>aV (dP ws lo hi) M R
 | .sc ws,lo,hi,M,R=>aV (dP ws lo hi) M R
 | .ref a,lo,hi,M,R=>∃ ws,M a=some (.lst ws)/\aV (dP ws lo hi) M R
 | .tup ws,lo,hi,M,R=>¬ (HT.sIx ws.length 0 lo=0/\HT.sIx ws.length ws.length hi=ws.length)/\R (.tup (dP ws lo hi)) M
 | _,_,_,_,_=>False
theorem rX{K:Ae}{H:Hp}{M:Mm}{vs:List V}{ws:List W}{lo hi:Option Int}(q:aL K H M vs ws):aL K H M (lB vs lo hi) (dP ws lo hi):=by
 unfold lB dP
 rw[q.length]
 exact(q.drop _).take _
def SW(K:Ae)(r:W->Option Int->Option Int->Mm->K3->Prop):V->Option Int->Option Int->Hp->VK->Prop:=fun x lo hi H Q=>∃ a M R,AM K H M/\AV K H M x a/\r a lo hi M R/\Up K H M R Q
theorem CI:qV X (SW X.K v8):=by
 rintro pins s σ H x v l g lo hi sl Q I d hs pl i ⟨m,M,R,c,j,h,k⟩
 cases m <;> first | exact(show False from h).elim | skip
 case tup ws=>exact j.tupE fun a xs e f q=>OJ pins s σ H _ v l g lo hi sl Q I d hs pl i ⟨a,xs,e,bM.of f,by rw[q.length];exact h.1,fun p b=>laidT c k b (rX q) h.2⟩
 case sc ws=>exact j.scE fun a xs e f q=>u6 pins s σ H _ v l g lo hi sl Q I d hs pl i ⟨a,xs,e,f.sq,fun p b=>iF c k b (rX q) h⟩
 case rl ws=>exact j.rlE fun a xs e f q=>u6 pins s σ H _ v l g lo hi sl Q I d hs pl i ⟨a,xs,e,bC.of f,fun p b=>iF c k b (rX q) h⟩
 case ref a=>
  obtain⟨ws,e,r⟩:=h
  exact c.lstE e fun vs f q=>u6 pins s σ H _ v l g lo hi sl Q I d hs pl i ⟨a,vs,j.inv,bC.of f,fun p b=>iF c k b (rX q) r⟩
abbrev lJ:=S3->Mm->(Option Int->Mm->Prop)->Prop
def lK(K:Ae)(t:lJ):TO:=fun σ H Q=>∃ (c:S3) (M:Mm) (R:Option Int->Mm->Prop),AS K H M σ c/\AM K H M/\t c M R/\∀ o b a,Kp H M b a->AM K b a->R o a->Q o b
theorem lK.el{K:Ae}{H:Hp}{σ:SV}{C:Prop}{t:lJ}{Q:Option Int->Hp->Prop}(h:lK K t σ H Q)(c:∀ d M R,AS K H M σ d->AM K H M->t d M R->(∀ o f e,Kp H M f e->AM K f e->R o e->Q o f)->C):C:=by obtain⟨d,M,R,a,b,h,k⟩:=h;exact c d M R a b h k
def pH:lJ:=fun _ M Q=>Q none M
def kO(t:aS):lJ:=fun a M Q=>t a M fun x b=>∃ i,x=.int i/\Q (some i) b
theorem rY:PO X none (lK X.K pH):=OF.weak fun σ H Q z0=>z0.el fun c M R b a h k=>k none H M (Kp.refl a) a h
theorem lL(h:E3 X a ta):PO X (some a) (lK X.K (kO ta)):=(OG h).weak fun σ H Q z0=>z0.el fun g M R l j h k=>⟨g,M,_,l,j,h,fun x o n m c b f ⟨i,e,d⟩=>by
 subst e;exact⟨i,f.inv,k _ _ _ c b d⟩⟩
def CJ(ta:aS)(e c:lJ):aS:=fun a M R=>ta a M fun x b=>e a b fun l f=>c a f fun u d=>v8 x l u d R
theorem SX{lo hi:Option Expr}{o m:lJ}{A:Pos}(q:E3 X a ta)(hl:PO X lo (lK X.K o))(v:PO X hi (lK X.K m)):E3 X (.Subscript a (.Slice lo hi none A) pos) (CJ ta o m):=
 (A7 CI q hl v).weak fun σ H Q z0=>z0.el fun g M R j i h k=>⟨g,M,_,j,i,h,fun x C z y d b p w=>⟨g,y,_,j.kp i d,b,w,fun l D t f c B=>⟨g,t,_,(j.kp i d).kp b f,c,B,fun u E r n e s=>
  ⟨z,r,R,e,(p.kp b f).kp c n,s,((k.kp d).kp f).kp n⟩⟩⟩⟩
def eY:W->Bool
 | .non=>true
 | .bl _=>true
 | .int _=>true
 | .str _=>true
 | _=>false
def v9:W->W->Bool
 | .non,.non=>true
 | .bl a,.bl b=>a == b
 | .bl a,.int b=>(if a then 1 else 0) == b
 | .int a,.bl b=>a == (if b then 1 else 0)
 | .int a,.int b=>a == b
 | .str a,.str b=>a == b
 | _,_=>false
def inW(x:W)(ws:List W):Bool:=ws.any fun y=>v9 y x
theorem AV.flat{K:Ae}{H:Hp}{M:Mm}{v:V}{w:W}(h:AV K H M v w)(f:eY w=true):jG v=true:=by cases h <;> first | rfl | exact f
def wA:W->V
 | .non=>.non
 | .bl b=>.bl b
 | .int i=>.int i
 | .str x=>.str x
 | _=>.non
theorem AV.flv{K:Ae}{H:Hp}{M:Mm}{v:V}{w:W}(h:AV K H M v w)(f:eY w=true):v=wA w:=by
 cases w <;> first | exact h.inv | exact absurd f Ao
theorem SY:∀ {w z:W},eY w=true->eY z=true->jH (wA w) (wA z)=v9 w z:=by
 intro w z f g
 cases w <;> first | exact absurd f Ao | (cases z <;> first | rfl | exact absurd g Ao)
theorem AV.eq{K:Ae}{H:Hp}{M:Mm}{v u:V}{w z:W}(h:AV K H M v w)(b:AV K H M u z)(f:eY w=true)(a:eY z=true):jH v u=v9 w z:=by
 rw[h.flv f,b.flv a];exact SY f a
theorem aL.inn{K:Ae}{H:Hp}{M:Mm}{u:V}{z:W}(hz:AV K H M u z)(a:eY z=true):∀ {vs:List V} {ws:List W},aL K H M vs ws->ws.all eY=true->vs.all jG=true/\inV u vs=inW z ws
 | _,_,.nil,_=>⟨rfl,rfl⟩
 | _,_,.cons x r,f=>by
  rw[Js,Cr] at f
  obtain⟨c,b⟩:=aL.inn hz a r f.2
  refine⟨by rw[Js,x.flat f.1,c];rfl,?_⟩
  unfold inV inW at b ⊢
  rw[Gp,Gp,b,x.eq hz f.1 a]
def occ(i j:Str):Bool:=!(Jk j i 0 j.length 1).isEmpty
def rIn(neg:Bool):R3
 | .str i,.str j,M,R=>R (.bl (if neg then !occ i j else occ i j)) M
 | x,.tup ws,M,R=>eY x=true/\ws.all eY=true/\R (.bl (if neg then !inW x ws else inW x ws)) M
 | x,.rl ws,M,R=>eY x=true/\ws.all eY=true/\R (.bl (if neg then !inW x ws else inW x ws)) M
 | x,.ref a,M,R=>(∃ ws,M a=some (.lst ws)/\eY x=true/\ws.all eY=true/\R (.bl (if neg then !inW x ws else inW x ws)) M)\/∃ o,eQ M (.ref a) x o/\R (.bl (if neg then !o.isSome else o.isSome)) M
 | x,.dk kvs,M,R=>∃ o,eQ M (.dk kvs) x o/\R (.bl (if neg then !o.isSome else o.isSome)) M
 | x,.dt kvs,M,R=>∃ o,eQ M (.dt kvs) x o/\R (.bl (if neg then !o.isSome else o.isSome)) M
 | x,.fk kvs,M,R=>∃ o,eQ M (.fk kvs) x o/\R (.bl (if neg then !o.isSome else o.isSome)) M
 | x,.ft kvs,M,R=>∃ o,eQ M (.ft kvs) x o/\R (.bl (if neg then !o.isSome else o.isSome)) M
 | _,_,_,_=>False
def CK(M:Mm):W->List W->Prop
 | .tup ws,a=>ws=a
 | x,ws=>jS M x ws
theorem CL{K:Ae}{H:Hp}{M:Mm}{v:V}{w:W}{ws:List W}(c:AM K H M)(h:AV K H M v w)(e:CK M w ws):∃ a xs,v=.ref a/\(bC K H a xs\/bM K H a xs)/\aL K H M xs ws:=by
 cases w
 case tup zs=>exact h.tupE fun a xs b f q=>⟨_,_,b,.inr (bM.of f),by rw[<-show zs=ws from e];exact q⟩
 case ref | rl=>obtain⟨a,xs,b,f,q⟩:=kM c h e;exact⟨a,xs,b,.inl (bC.of f),q⟩
 all_goals exact(show False from e).elim
theorem CM{n:Bool}{P:W->W->Prop}{M:Mm}{R:K3}(d:∀ i j,R (.bl (if n then !occ i j else occ i j)) M->P (.str i) (.str j))
  (c:∀ x y ws,CK M y ws->eY x=true/\ws.all eY=true/\R (.bl (if n then !inW x ws else inW x ws)) M->P x y)
  (b:∀ x y o,eQ M y x o->R (.bl (if n then !o.isSome else o.isSome)) M->P x y) (x y:W) (h:rIn n x y M R):P x y:=by
 cases y
 case non | bl | int | ty | sc=>exfalso;cases x <;> exact h
 case str=>cases x <;> first | exact(show False from h).elim | exact d _ _ h
 case tup=>exact c _ _ _ rfl (by cases x <;> exact h)
 case rl=>exact c _ _ _ rfl (by cases x <;> exact h)
 case ref a=>
  have h:(∃ ws,M a=some (.lst ws)/\eY x=true/\ws.all eY=true/\R (.bl (if n then !inW x ws else inW x ws)) M)\/∃ o,eQ M (.ref a) x o/\R (.bl (if n then !o.isSome else o.isSome)) M:=by cases x <;> exact h
  exact h.elim (fun⟨ws,e,h⟩=>c _ _ _ e h) fun⟨o,g,r⟩=>b _ _ _ g r
 case dk kvs=>have h:∃ o,eQ M (.dk kvs) x o/\R (.bl (if n then !o.isSome else o.isSome)) M:=(by cases x <;> exact h);exact h.elim fun o h=>b _ _ _ h.1 h.2
 case dt kvs=>have h:∃ o,eQ M (.dt kvs) x o/\R (.bl (if n then !o.isSome else o.isSome)) M:=(by cases x <;> exact h);exact h.elim fun o h=>b _ _ _ h.1 h.2
 case fk kvs=>have h:∃ o,eQ M (.fk kvs) x o/\R (.bl (if n then !o.isSome else o.isSome)) M:=(by cases x <;> exact h);exact h.elim fun o h=>b _ _ _ h.1 h.2
 case ft kvs=>have h:∃ o,eQ M (.ft kvs) x o/\R (.bl (if n then !o.isSome else o.isSome)) M:=(by cases x <;> exact h);exact h.elim fun o h=>b _ _ _ h.1 h.2
def CN(n:Bool):R2:=fun x y H Q=>∃ a o,y=.ref a/\gF H a x o/\Q (.bl (if n then !o.isSome else o.isSome)) H
theorem S4(d:X.A.units + 1 < Fz):bB X (Cf .In) (CN false):=by
 rintro pins s σ H x y v u Q I b e ⟨a,o,rfl,g,q⟩
 cases e
 exact PX d I g b fun f c=>⟨.bl _,H,c,rfl,q⟩
theorem S5(d:X.A.units + 1 < Fz):bB X (Cf .NotIn) (CN true):=by
 rintro pins s σ H x y v u Q I b e ⟨a,o,rfl,g,q⟩
 cases e
 exact PY d I g b fun f c=>⟨.bl _,H,c,rfl,q⟩
theorem CO{K:Ae}{H:Hp}{M:Mm}{x y:V}{b c:W}{o:Option W}(i:AM K H M)(f:AV K H M x b)(j:AV K H M y c)(h:eQ M b c o):∃ a d,x=.ref a/\gF H a y d/\d.isSome=o.isSome:=by
 obtain⟨a,e,⟨rfl,g⟩ | ⟨v,w,rfl,g,_⟩⟩:=rW i f j h
 ·exact⟨a,_,e,g,rfl⟩
 ·exact⟨a,_,e,g,rfl⟩
theorem mH(n:X.A.units + 1 < Fz):bB X (Cf .In) (bY X.K (rIn false)):=kL (MT.or (O0.or (S4 n))) fun x y H Q M R c k=>CM
 (fun i j h b d=>.inl ⟨i,j,b.inv,d.inv,k.at c (.bl _) h⟩)
 (fun m l ws e h b d=>let ⟨a,xs,e1,f,q⟩:=CL c d e;.inr (.inl ⟨a,xs,e1,f,b.flat h.1,(aL.inn b h.1 q h.2.1).1,by rw[(aL.inn b h.1 q h.2.1).2];exact k.at c (.bl _) h.2.2⟩))
 (fun m l o g r b d=>let ⟨a,o',e,g,z⟩:=CO c d b g;.inr (.inr ⟨a,o',e,g,by rw[z];exact k.at c (.bl _) r⟩))
theorem pI(n:X.A.units + 1 < Fz):bB X (Cf .NotIn) (bY X.K (rIn true)):=kL (MV.or (O3.or (S5 n))) fun x y H Q M R c k=>CM
 (fun i j h b d=>.inl ⟨i,j,b.inv,d.inv,k.at c (.bl _) h⟩)
 (fun m l ws e h b d=>let ⟨a,xs,e1,f,q⟩:=CL c d e;.inr (.inl ⟨a,xs,e1,f,b.flat h.1,(aL.inn b h.1 q h.2.1).1,by rw[(aL.inn b h.1 q h.2.1).2];exact k.at c (.bl _) h.2.2⟩))
 (fun m l o g r b d=>let ⟨a,o',e,g,z⟩:=CO c d b g;.inr (.inr ⟨a,o',e,g,by rw[z];exact k.at c (.bl _) r⟩))
def dS:List W->Mm->K3->Prop
 | [.tup ws],M,R=>R (.int ws.length) M
 | [.rl ws],M,R=>R (.int ws.length) M
 | [.sc ws],M,R=>R (.int ws.length) M
 | [.dk kvs],M,R=>R (.int kvs.length) M
 | [.str z],M,R=>z.length<=Aj/\R (.int z.length) M
 | [.ref a],M,R=>(∃ ws,M a=some (.lst ws)/\R (.int ws.length) M)\/∃ kvs,M a=some (.dK kvs)/\R (.int kvs.length) M
 | _,_,_=>False
theorem S6{P:List W->Prop}{M:Mm}{R:K3}(d:∀ ws,R (.int ws.length) M->P [.tup ws])(i:∀ ws,R (.int ws.length) M->P [.sc ws])(b:∀ x ws,jS M x ws->R (.int ws.length) M->P [x])
  (f:∀ z,z.length<=Aj/\R (.int z.length) M->P [.str z]) (g:∀ kvs,R (.int kvs.length) M->P [.dk kvs]) (c:∀ a kvs,M a=some (.dK kvs)->R (.int kvs.length) M->P [.ref a]) (l:List W) (h:dS l M R):P l:=by
 match l,h with
 | [.tup _],h=>exact d _ h
 | [.rl _],h=>exact b _ _ rfl h
 | [.sc _],h=>exact i _ h
 | [.dk _],h=>exact g _ h
 | [.str _],h=>exact f _ h
 | [.ref _],h=>exact h.elim (fun⟨ws,e,r⟩=>b _ _ e r) fun⟨ws,e,r⟩=>c _ _ e r
theorem d8:cU X (.builtin "len") (fZ X.K dS):=vW (O4.or (O5.or QG)) fun xs H Q M R g k=>S6
 (fun ws h c=>c.oneE fun v b d=>d.tupE fun a us e f q=>.inl ⟨_,_,gX b e,.inr (bM.of f),by rw[q.length];exact k.at g (.int _) h⟩)
 (fun ws h c=>c.oneE fun v b d=>d.scE fun a us e f q=>.inl ⟨_,_,gX b e,.inl f.sq,by rw[q.length];exact k.at g (.int _) h⟩)
 (fun x ws i h c=>c.oneE fun v b d=>let ⟨a,us,e,f,q⟩:=kM g d i;.inl ⟨_,_,gX b e,.inl (bC.of f),by rw[q.length];exact k.at g (.int _) h⟩)
 (fun z h c=>c.oneE fun v b d=>.inr (.inl ⟨z,gX b d.inv,h.1,k.at g (.int _) h.2⟩))
 (fun kvs h c=>c.oneE fun v b d=>let ⟨a,ks,e,f,_,q⟩:=d.inv;.inr (.inr ⟨a,ks,gX b e,f,by rw[Eo q];exact k.at g (.int _) h⟩))
 (fun a kvs i h c=>c.oneE fun v b d=>let ⟨ks,f,q⟩:=g _ _ i;.inr (.inr ⟨a,ks,gX b d.inv,f,by rw[Eo q];exact k.at g (.int _) h⟩))
def rZ:List W->Mm->K3->Prop
 | [.tup ws],M,R=>aV ws M R
 | [.rl ws],M,R=>aV ws M R
 | [.sc ws],M,R=>aV ws M R
 | [.dk kvs],M,R=>aV (kvs.map fun b=>wK b.1) M R
 | [.ref a],M,R=>(∃ ws,M a=some (.lst ws)/\aV ws M R)\/∃ kvs,M a=some (.dK kvs)/\aV (kvs.map fun b=>wK b.1) M R
 | _,_,_=>False
theorem CP{K:Ae}{H:Hp}{M:Mm}{ks:List (aD×V)}{kvs:List (aD×W)}(h:bN K H M aD ks kvs):aL K H M (ks.map fun a=>kV a.1) (kvs.map fun a=>wK a.1):=by
 induction h with
 | nil=>exact .nil
 | @cons p q ps c r t b=>
  refine .cons ?_ b
  show AV K H M (kV p.1) (wK q.1)
  rw[r.1]
  cases q.1 with
  | inl i=>exact .int i
  | inr x=>exact .str x
theorem S7{P:List W->Prop}{M:Mm}{R:K3}(d:∀ ws,aV ws M R->P [.tup ws])(i:∀ ws,aV ws M R->P [.sc ws])(c:∀ x ws,jS M x ws->aV ws M R->P [x])
  (g:∀ kvs:List (aD×W),aV (kvs.map fun b=>wK b.1) M R->P [.dk kvs]) (f:∀ a kvs,M a=some (.dK kvs)->aV (kvs.map fun b=>wK b.1) M R->P [.ref a]) (l:List W) (h:rZ l M R):P l:=by
 match l,h with
 | [.tup _],h=>exact d _ h
 | [.rl _],h=>exact c _ _ rfl h
 | [.sc _],h=>exact i _ h
 | [.dk _],h=>exact g _ h
 | [.ref _],h=>exact h.elim (fun⟨ws,e,r⟩=>c _ _ e r) fun⟨ws,e,r⟩=>f _ _ e r
theorem wB(hc:X.calm=true):cU X (.type "list") (fZ X.K rZ):=vW (O6.or (Q5 hc)) fun xs H Q M R i k=>S7
 (fun ws h c=>c.oneE fun v b g=>g.tupE fun a us e f q=>.inl ⟨_,_,gX b e,.inr (bM.of f),fun p d=>iF i k d q h⟩)
 (fun ws h c=>c.oneE fun v b g=>g.scE fun a us e f q=>.inl ⟨_,_,gX b e,.inl f.sq,fun p d=>iF i k d q h⟩)
 (fun x ws j h c=>c.oneE fun v b g=>let ⟨a,us,e,f,q⟩:=kM i g j;.inl ⟨_,_,gX b e,.inl (bC.of f),fun p d=>iF i k d q h⟩)
 (fun kvs h c=>c.oneE fun v b g=>let ⟨a,ks,e,f,_,q⟩:=g.inv;.inr ⟨a,ks,gX b e,f,fun p d=>iF i k d (CP q) h⟩)
 (fun a kvs j h c=>c.oneE fun v b g=>let ⟨ks,f,q⟩:=i _ _ j;.inr ⟨a,ks,gX b g.inv,f,fun p d=>iF i k d (CP q) h⟩)
def wC:List W->Mm->K3->Prop
 | [.tup ws],M,R=>R (.tup ws) M
 | [.rl ws],M,R=>R (.tup ws) M
 | [.ref a],M,R=>∃ ws,M a=some (.lst ws)/\R (.tup ws) M
 | _,_,_=>False
theorem S8{P:List W->Prop}{M:Mm}{R:K3}(b:∀ ws,R (.tup ws) M->P [.tup ws])(a:∀ x ws,jS M x ws->R (.tup ws) M->P [x])(l:List W)(h:wC l M R):P l:=by
 match l,h with
 | [.tup _],h=>exact b _ h
 | [.rl _],h=>exact a _ _ rfl h
 | [.ref _],h=>exact h.elim fun ws h=>a _ _ h.1 h.2
theorem S9:cU X (.type "tuple") (fZ X.K wC):=vW O7 fun xs H Q M R g k=>S8
 (fun ws h d=>d.oneE fun v c b=>b.tupE fun a us e f q=>⟨_,_,gX c e,.inr ⟨bM.of f,k.at g (by rw[<-e];exact b) h⟩⟩)
 (fun x ws j h d=>d.oneE fun v c b=>let ⟨a,us,e,f,q⟩:=kM g b j;⟨_,_,gX c e,.inl ⟨bC.of f,fun p i=>laidT g k i q h⟩⟩)
def bools(bs:List Bool):List W:=bs.map W.bl
theorem aL.bools{K:Ae}{H:Hp}{M:Mm}:∀ {bs:List Bool} {vs:List V},aL K H M vs (L3.bools bs)->vs=bs.map V.bl
 | [],_,h=>by cases h;rfl
 | b :: r,_,h=>by
  cases h with
  | cons x y=>cases x;rw[aL.bools y];rfl
theorem aL.ints{K:Ae}{H:Hp}{M:Mm}:∀ {bs:List Int} {vs:List V},aL K H M vs (bs.map W.int)->vs=bs.map V.int
 | [],_,h=>by cases h;rfl
 | b :: r,_,h=>by
  cases h with
  | cons x y=>cases x;rw[aL.ints y];rfl
def CQ:List W->Mm->K3->Prop
 | [.ref a],M,R=>∃ bs,M a=some (.lst (bools bs))/\R (.bl (bs.all id)) M
 | [.rl ws],M,R=>∃ bs,ws=bools bs/\R (.bl (bs.all id)) M
 | _,_,_=>False
theorem TB(hc:X.calm=true):cU X (.builtin "all") (fZ X.K CQ):=by
 rintro pins s σ H xs us Q I rs ⟨ws,M,R,d,b,h,k⟩
 match ws,h with
 | [.ref a],h=>
  obtain⟨v,rfl,c⟩:=b.one
  cases c
  obtain⟨bs,e,r⟩:=h
  obtain⟨vs,f,q⟩:=d.lst e
  rw[q.bools] at f
  exact BO hc pins s σ H _ us Q I rs ⟨a,bs,rfl,bC.of f,k.at d (.bl _) r⟩
 | [.rl ws],h=>
  obtain⟨v,rfl,c⟩:=b.one
  obtain⟨bs,rfl,r⟩:=h
  cases c with
  | rl f _ q=>
   rw[q.bools] at f
   exact BO hc pins s σ H _ us Q I rs ⟨_,bs,rfl,bC.of f,k.at d (.bl _) r⟩
def f7:W->List W->Mm->K3->Prop
 | .ref l,[y],M,R=>∃ ws,M l=some (.lst ws)/\ws.length < Aj/\R .non (put M l (.lst (ws ++ [y])))
 | _,_,_,_=>False
theorem lM:iC X "list.append" (jP X.K f7):=by
 rintro pins s σ H x xs v us Q I c rs ⟨d,ws,M,R,b,g,a,h,k⟩
 match d,ws,h with
 | .ref l,[y],h=>
  obtain⟨z,rfl,i⟩:=a.one
  cases g
  obtain⟨ws,e,hl,r⟩:=h
  obtain⟨vs,f,q⟩:=b.lst e
  exact BF pins s σ H _ _ v us Q I c rs ⟨l,vs,z,rfl,rfl,f,by rw[q.length];exact hl,rP b k e (q.append (.cons i .nil)) .non r⟩
def rPop:W->List W->Mm->K3->Prop
 | .ref l,[],M,R=>∃ ws w,M l=some (.lst (ws ++ [w]))/\R w (put M l (.lst ws))
 | _,_,_,_=>False
theorem CS:iC X "list.pop" (jP X.K rPop):=by
 rintro pins s σ H x xs v us Q I c rs ⟨d,ws,M,R,b,g,a,h,k⟩
 match d,ws,h with
 | .ref l,[],h=>
  cases a
  cases g
  obtain⟨ws,w,e,r⟩:=h
  obtain⟨vs,f,q⟩:=b.lst e
  have hl:=q.length
  rw[Aw,Eb] at hl
  obtain⟨z,hz,j⟩:=q.getW (i:=ws.length) (w:=w) (by simp)
  refine PH pins s σ H _ _ v us Q I c rs ⟨l,vs,z,rfl,rfl,f,by rw[hl];exact hz,rP b k e ?_ j r⟩
  have:=q.dropLast
  rw[List.dropLast_concat] at this
  exact this
def CT:aS:=fun _ M R=>RT [] M R
def mI:aS:=fun _ M R=>iE [] M R
theorem TC:E3 X (.Dict [] [] pos) CT:=P8.weak fun σ H Q ⟨e,M,R,f,c,h,k⟩ p b=>by
 obtain⟨a,d⟩:=c.laid (o:=.dK []) (u:=.dK []) b ⟨[],dZ,.nil⟩
 exact k _ _ _ _ d a (.ref p) (h p (c.nonM b))
theorem nO:E3 X (.Dict [] [] pos) mI:=P9.weak fun σ H Q ⟨e,M,R,f,c,h,k⟩ p b=>by
 obtain⟨a,d⟩:=c.laid (o:=.dT []) (u:=.dT []) b ⟨[],dZ,.nil⟩
 exact k _ _ _ _ d a (.ref p) (h p (c.nonM b))
end
abbrev P3(X:Cx)(st:Stmt)(t:aK):Prop:=PS X st (oZ X.K t)
abbrev jT(X:Cx)(st:List Stmt)(t:aK):Prop:=fI X st (oZ X.K t)
abbrev eR:=W->S3->Mm->(S3->Mm->Prop)->Prop
abbrev lN:=List W->S3->Mm->(S3->Mm->Prop)->Prop
def gL(K:Ae)(g:eR):TG:=fun v b H Q=>∃ w a M R,AV K H M v w/\AS K H M b a/\AM K H M/\g w a M R/\gW K H M R Q
def nP(K:Ae)(g:lN):iV:=fun vs b H Q=>∃ ws a M R,aL K H M vs ws/\AS K H M b a/\AM K H M/\g ws a M R/\gW K H M R Q
theorem gL.el{K:Ae}{H:Hp}{f:SV}{C:Prop}{t:eR}{v:V}{Q:SV->Hp->Prop}(h:gL K t v f H Q)(c:∀ w e M R,AV K H M v w->AS K H M f e->AM K H M->t w e M R->gW K H M R Q->C):C:=by obtain⟨w,e,M,R,a,b,d,h,k⟩:=h;exact c w e M R a b d h k
theorem nP.el{K:Ae}{H:Hp}{f:SV}{C:Prop}{t:lN}{v:List V}{Q:SV->Hp->Prop}(h:nP K t v f H Q)(c:∀ w e M R,aL K H M v w->AS K H M f e->AM K H M->t w e M R->gW K H M R Q->C):C:=by obtain⟨w,e,M,R,a,b,d,h,k⟩:=h;exact c w e M R a b d h k
section
variable {X:Cx}{pos:Pos}
theorem _root_.L2.PG.weak{e:Expr}{t t':TG}(h:PG X e t)(k:∀ v b H Q,t' v b H Q->t v b H Q):PG X e t':=fun a s b H v u Q I r q=>h a s b H v u Q I r (k v b H Q q)
theorem _root_.L2.iJ.weak{e:List Expr}{t t':iV}(h:iJ X e t)(k:∀ v b H Q,t' v b H Q->t v b H Q):iJ X e t':=fun a s b H v u Q I r q=>h a s b H v u Q I r (k v b H Q q)
theorem gW.at{K:Ae}{H:Hp}{M:Mm}{R:S3->Mm->Prop}{Q:SV->Hp->Prop}(h:gW K H M R Q)(c:AM K H M){a:SV}{b:S3}(d:AS K H M a b)(r:R b M):Q a H:=h a H b M (Kp.refl c) c d r
def bP(i:Nat):eR:=fun w a M R=>R (a.set i (some w)) M
theorem CU{i:Nat}{x:Str}(a:X.N.Nodup)(hi:X.N[i]? = some x)(c:Loc X.env.scope x)(hf:X.fn x=true\/X.env.scope.names.lookup x=some .local:=by first | exact .inl rfl | exact .inr rfl | assumption):PG X (.Name x pos) (gL X.K (bP i)):=
 (LI a hi c hf).weak fun v f H Q z0=>z0.el fun w g M R b e d h k=>k.at d (e.set b i) h
def kP:lN:=fun ws a M R=>ws=[]/\R a M
def fE(t:eR)(u:lN):lN:=fun ws c M R=>match ws with
 | w :: r=>t w c M fun a b=>u r a b R
 | []=>False
theorem mJ:iJ X [] (nP X.K kP):=LL.weak fun vs d H Q z=>z.el fun ws e M R a c b h k=>⟨aL.nil_ (by rw[<-h.1];exact a),k.at b c h.2⟩
theorem f9{e:Expr}{es:List Expr}{t:eR}{u:lN}(j:PG X e (gL X.K t))(i:iJ X es (nP X.K u))
  (hs:(Hd (e :: es) X.env).map (·.2)=Mx e X.env :: (Hd es X.env).map (·.2):=by rfl):iJ X (e :: es) (nP X.K (fE t u)):=
 (LM j i hs).weak fun vs p H Q z0=>z0.el fun ws n M R l o f h k=>by
  cases l with
  | nil=>exact(show False from h).elim
  | cons x r=>exact⟨_,_,rfl,_,n,M,_,x,o,f,h,fun m q b g d a c h'=>⟨_,b,g,R,r.kp f d,c,a,h',k.kp d⟩⟩
def kQ(n:Nat)(g:lN):eR:=fun w b M R=>match w with
 | .tup ws=>ws.length=n/\g ws b M R
 | .rl ws=>ws.length=n/\g ws b M R
 | .ref a=>∃ ws,M a=some (.lst ws)/\ws.length=n/\g ws b M R
 | _=>False
theorem mK{es:List Expr}{k:Nat}{t:lN}{n:Nat}(hc:X.calm=true)(h:iJ X es (nP X.K t))
  (l:(Hd es X.env).length=n:=by rfl) (c:(Hd es X.env).findIdx? (·.1)=none:=by rfl):PG X (.Tuple es k pos) (gL X.K (kQ n t)):=by
 rintro b s g H v u Q I r ⟨w,m,M,R,i,o,d,hw,j⟩
 cases w <;> first | exact(show False from hw).elim | skip
 case tup ws=>exact i.tupE fun a xs e f q=>LO hc h l c b s g H _ u Q I r ⟨a,xs,e,bM.of f,by rw[q.length];exact hw.1,_,m,M,R,q,o,d,hw.2,j⟩
 case rl ws=>exact i.rlE fun a xs e f q=>BR hc h l c b s g H _ u Q I r ⟨a,xs,e,bC.of f,by rw[q.length];exact hw.1,_,m,M,R,q,o,d,hw.2,j⟩
 case ref a=>exact hw.elim fun ws hw=>d.lstE hw.1 fun xs f q=>BR hc h l c b s g H _ u Q I r ⟨a,xs,i.inv,bC.of f,by rw[q.length];exact hw.2.1,_,m,M,R,q,o,d,hw.2.2,j⟩
def lO(te:aS)(g:eR):aK:=fun D a M=>te a M fun x b=>g x a b D.nx
theorem TF{K:Ae}{te:aS}{g:eR}{D:kA}{b:SV}{H:Hp}(h:oZ K (lO te g) D b H):qQ (up K te) (gL K g) D b H:=by
 obtain⟨e,M,m,f,d,h,k⟩:=h
 exact⟨e,M,_,f,d,h,fun x o l j c a i n=>⟨l,e,j,m.nx,i,f.kp d c,a,n,k.nx.kp c⟩⟩
theorem pJ{tg e:Expr}{te:aS}{g:eR}(a:E3 X e te)(c:PG X tg (gL X.K g))(hs:swapsWithSole [tg] e pos.line X.env=pure false:=by rfl)(hw:swappedStores [tg] e X.env=pure none:=by rfl)
  (b:(Hd [tg] X.env).map (·.2)=[Mx tg X.env]:=by rfl):P3 X (.Assign [tg] e pos) (lO te g):=(LR a c hs hw b).weak fun _ _ _ h=>TF h
def bH(i:Nat)(te:aS):aK:=fun D a M=>te a M fun x b=>D.nx (a.set i (some x)) b
theorem TH{i:Nat}{x:Str}{e:Expr}{te:aS}{a:Pos}(l:X.N.Nodup)(hi:X.N[i]? = some x)(n:Loc X.env.scope x)(g:E3 X e te)(hs:Kj e (some (.Name x a)) pos.line X.env=pure false:=by rfl)(hf:X.fn x=true\/X.env.scope.names.lookup x=some .local:=by first | exact .inl rfl | exact .inr rfl | assumption) :
  P3 X (.Assign [.Name x a] e pos) (bH i te):=(LS l hi n g hs hf).weak fun D s H z0=>z0.el fun o M r f d h k=>⟨o,M,_,f,d,h,fun y q t p c b j m=>k.nx _ _ _ _ c b ((f.kp d c).set j i) m⟩
def r6(o i v:W)(M:Mm)(Q:Mm->Prop):Prop:=match o with
 | .ref a=>(∃ ws k j,i=.int k/\M a=some (.lst ws)/\iB ws.length k=some j/\Q (put M a (.lst (ws.set j v))))\/
   (∃ kvs k,i=wK k/\M a=some (.dK kvs)/\kvs.length < Aj/\Q (put M a (.dK (bV kvs k v))))\/
   ∃ kvs k,i=.tup (k.map wK)/\M a=some (.dT kvs)/\kvs.length < Aj/\Q (put M a (.dT (bV kvs k v)))
 | _=>False
def TJ(K:Ae):qO:=fun o i v H Q=>∃ c wi d M R,AV K H M o c/\AV K H M i wi/\AV K H M v d/\AM K H M/\r6 c wi d M R/\∀ a b,Kp H M a b->AM K a b->R b->Q a
theorem set_dict(e:X.A.units + 1 < Fz):qP X (fun o i v H Q=>∃ a b,o=.ref a/\lE H a i v b/\Q b):=by
 intro c s l H o i v m p u Q I k g j h
 obtain⟨a,b,rfl,d,q⟩:=h
 cases k
 exact P0 e I d g j fun n f=>⟨b,f,q⟩
theorem CV{κ:Type}[DecidableEq κ]{K:Ae}{H:Hp}{M:Mm}{ks:List (κ×V)}{kvs:List (κ×W)}{n:κ}{v:V}{b:W}{a:Addr}{o:MO}{u:HO}(d:AM K H M)(e:M a=some o)(q:bN K H M κ ks kvs)(f:AV K H M v b){c:MO}:bN K (aN H a u) (put M a c) κ (eI ks n v) (bV kvs n b):=Paired.mapP (rV q n f) fun p q z=>⟨z.1,z.2.wr d e⟩
theorem TL(G:X.A.units + 1 < Fz):qP X (TJ X.K):=by
 rintro d s w H o i v x D u Q I C E y ⟨J,wi,z,M,R,B,l,F,g,h,k⟩
 cases J <;> first | exact(show False from h).elim | skip
 rename_i a
 rcases h with⟨ws,n,j,p,e,L,r⟩ | ⟨kvs,n,p,e,hl,r⟩ | ⟨kvs,n,p,e,hl,r⟩
 ·rw[p] at l
  obtain⟨vs,f,q⟩:=g.lst e
  obtain⟨c,m⟩:=g.write (o:=.lst (ws.set j z)) (u:=.lst (vs.set j v)) e ⟨_,dZ,(aL.set F j q).wr g e⟩
  exact OV d s w H _ _ v x D u Q I C E y ⟨a,vs,n,j,B.inv,l.inv,f,by rw[q.length];exact L,k _ _ m c r⟩
 ·rw[p] at l
  obtain⟨ks,f,q⟩:=g _ _ e
  obtain⟨c,m⟩:=g.write (o:=.dK (bV kvs n z)) (u:=.dK (eI ks n v)) e ⟨_,dZ,CV g e q F⟩
  exact set_dict G d s w H _ _ v x D u Q I C E y ⟨a,_,B.inv,by rw[l.key];exact lE.k f (by rw[Eo q];exact hl),k _ _ m c r⟩
 ·rw[p] at l
  obtain⟨ks,f,q⟩:=g _ _ e
  obtain⟨c,m⟩:=g.write (o:=.dT (bV kvs n z)) (u:=.dT (eI ks n v)) e ⟨_,dZ,CV g e q F⟩
  exact l.tupE fun b xs eb fb N=>set_dict G d s w H _ _ v x D u Q I C E y ⟨a,_,B.inv,by rw[eb];exact lE.t f (by rw[<-N.keys];exact fb) (by rw[Eo q];exact hl),k _ _ m c r⟩
def mL(f c:aS):eR:=fun w a M R=>f a M fun o b=>c a b fun i e=>r6 o i w e fun d=>R a d
theorem w_sub{o i:Expr}{p n:aS}(C:X.A.units + 1 < Fz)(y:E3 X o p)(hi:E3 X i n)
  (ha:∀ v,Mx (.Subscript o i pos) X.env v=(do
   let d <-Iq [v] (eval o X.env)
   let j <-Iq [v,d] (eval i X.env)
   Og pos
   Iq [v,d,j] (setItem d j v)
   release [v,d,j] []):=by intro _;rfl):PG X (.Subscript o i pos) (gL X.K (mL p n)):=
 (LQ y hi (TL C) ha).weak fun v G H Q z0=>z0.el fun w m M R E l e h k=>⟨m,M,_,l,e,h,fun o I s t c a z x=>⟨m,t,_,l.kp e c,a,x,fun i L wi B f b u D=>
  ⟨s,wi,w,B,_,z.kp a f,u,(E.kp e c).kp a f,b,D,fun J F q g r=>k _ _ _ _ ((c.trans f).trans q) g (((l.kp e c).kp a f).kp b q) r⟩⟩⟩
def fR:aK:=fun D a M=>D.nx a M
def aR(t u:aK):aK:=fun D a M=>t {D with nx:=u D} a M
variable {st:Stmt}{rest:List Stmt}{t u:aK}{e:Expr}{te:aS}
theorem gA:jT X [] fR:=K2.weak fun D d H z0=>z0.el fun e M c b a h k=>k.nx.at a b h
theorem aT(i:P3 X st t)(f:jT X rest u):jT X (st :: rest) (aR t u):=(K5 i f).weak fun D o H z0=>z0.el fun m M g n j h k=>
 ⟨m,M,_,n,j,h,⟨fun l p b d e a c h'=>⟨b,d,g,c,a,h',k.kp e⟩,k.rt,k.bk,k.ct⟩⟩
theorem aW(a:P3 X st t):jT X [st] t:=K6 a
def eJ(te:aS):aK:=fun D a M=>te a M fun _ b=>D.nx a b
theorem eZ(f:E3 X e te)(hs:Kj e none pos.line X.env=pure false:=by rfl):P3 X (.Expr e pos) (eJ te):=(K8 f hs).weak fun D l H z0=>z0.el fun g M j d c h k=>
 ⟨g,M,_,d,c,h,fun v m w i b a n r=>k.nx _ _ _ _ b a (d.kp c b) r⟩
def cL(te:aS):aK:=fun D a M=>te a M D.rt
theorem cQ(a:E3 X e te):P3 X (.Return (some e) pos) (cL te):=(LA a).weak fun D g H z0=>z0.el fun c M f d b h k=>⟨c,M,_,d,b,h,k.rt⟩
def wD:aK:=fun D _ M=>D.rt .non M
theorem CW:P3 X (.Return none pos) wD:=LC.weak fun D c H z0=>z0.el fun d M b e a h k=>k.rt.at a .non h
def eL(c:dH)(t u:aK):aK:=fun D a M=>c a M fun b d=>if b=true then t D a d else u D a d
theorem eS{c:Expr}{a b:List Stmt}{tc:dH}(hc:T3 X c tc)(ha:jT X a t)(hb:jT X b u):P3 X (.If c a b pos) (eL tc t u):=(LF hc ha hb).weak fun D n H z0=>z0.el fun f M l i g h k=>
 ⟨f,M,_,i,g,h,fun b o j e d m=>by
  cases b with
  | true=>exact⟨f,j,l,i.kp g e,d,m,k.kp e⟩
  | false=>exact⟨f,j,l,i.kp g e,d,m,k.kp e⟩⟩
theorem wF:P3 X st (fun _ _ _=>False):=LH.weak fun D b H z0=>z0.el fun d M a e c h k=>h.elim
def r9(c:dH)(tb:aK):aK:=fun D e M=>∃ g:Nat->S3->Mm->Prop,(∃ m,g m e M)/\∀ m e M,g m e M->
 c e M fun b i=>if b=true then tb {D with nx:=fun d h=>∃ f a,f < m/\Sub a h/\g f d a,ct:=fun d h=>∃ f a,f < m/\Sub a h/\g f d a,bk:=D.nx} e i else D.nx e i
theorem wH{c:Expr}{n:List Stmt}{tc:dH}{tb:aK}(R:PassesOwn (Bk X.prog X.w) X.A X.env X.xe)(hc:T3 X c tc)(hb:jT X n tb):P3 X (.While c n [] pos) (r9 tc tb):=
 (LV R hc hb).weak fun D U H ⟨I,M,G,T,F,⟨r,⟨m,S⟩,h⟩,k⟩=>by
  refine⟨fun m g i=>∃ a d,Kp H M i d/\AM X.K i d/\AS X.K i d g a/\r m a d,⟨m,I,M,Kp.refl F,F,T,S⟩,?_⟩
  rintro m L V ⟨l,E,u,o,p,J⟩
  refine⟨l,E,_,p,o,h m l E J,fun b Q C q t v=>?_⟩
  cases b with
  | false=>exact k.nx _ _ _ _ (u.trans q) t (p.kp o q) v
  | true=>
   have v:tb {G with nx:=fun a d=>∃ f e,f < m/\Sub e d/\r f a e,ct:=fun a d=>∃ f e,f < m/\Sub e d/\r f a e,bk:=G.nx} l C:=v
   refine⟨fun g i=>∃ f a d,f < m/\Kp H M i d/\AM X.K i d/\AS X.K i d g a/\r f a d,fun g i ⟨f,a,d,y,s,B,P,N⟩=>⟨f,y,a,d,s,B,P,N⟩,l,C,_,p.kp o q,t,v,?_⟩
   have j:gW X.K Q C (fun a d=>∃ f e,f < m/\Sub e d/\r f a e) (fun g i=>∃ f a d,f < m/\Kp H M i d/\AM X.K i d/\AS X.K i d g a/\r f a d):=
    fun g i a d O x z ⟨f,e,y,s,B⟩=>⟨f,a,e,y,((u.trans q).trans O).sub s,x.sub s,z.sub s,B⟩
   exact⟨j,(k.rt.kp u).kp q,(k.nx.kp u).kp q,j⟩
abbrev gY:=S3->Mm->(List W->(Mm->Prop)->Mm->Prop)->Prop
structure iH(K:Ae)(H0:Hp)(M0:Mm)(J:It)(ws:List W)(keep:Mm->Prop):Prop where
 go:∀ i H M,Kp H0 M0 H M->AM K H M->keep M->i < ws.length->J.go i H
 stop:∀ H M,Kp H0 M0 H M->AM K H M->keep M->J.stop ws.length H
 yld:∀ i H M x H',Kp H0 M0 H M->AM K H M->keep M->i < ws.length->J.yld i H x H'->∃ w,ws[i]? = some w/\Kp H M H' M/\AM K H' M/\AV K H' M x w
def gZ(K:Ae)(wi:gY):TI:=fun d H e=>∃ (c:S3) (M:Mm) (R:List W->(Mm->Prop)->Mm->Prop),AS K H M d c/\AM K H M/\wi c M R/\∀ J b ws keep a,Kp H M b a->AM K b a->iH K b a J ws keep->R ws keep a->e J b
theorem gZ.el{K:Ae}{H:Hp}{g:SV}{C:Prop}{t:gY}{Q:It->Hp->Prop}(h:gZ K t g H Q)(c:∀ f M R,AS K H M g f->AM K H M->t f M R->(∀ J e ws keep d,Kp H M e d->AM K e d->iH K e d J ws keep->R ws keep d->Q J e)->C):C:=by obtain⟨f,M,R,a,b,h,k⟩:=h;exact c f M R a b h k
theorem _root_.L2.PI.weak{tg iter:Expr}{t t':TI}(h:PI X tg iter t)(k:∀ b H R,t' b H R->t b H R):PI X tg iter t':=fun a s b H R I q=>h a s b H R I (k b H R q)
def CY(ws:List W)(keep:Mm->Prop)(g:eR)(tb:aK)(D:D3)(b:S3)(M:Mm):Prop:=
 ∃ d:Nat->S3->Mm->Prop,d 0 b M/\(∀ i b M,i<=ws.length->d i b M->keep M)/\
  (∀ i w b M,ws[i]? = some w->d i b M->g w b M fun f h=>tb {D with nx:=fun c e=>∃ a,Sub a e/\d (i + 1) c a,ct:=fun c e=>∃ a,Sub a e/\d (i + 1) c a,bk:=D.nx} f h)/\
  ∀ b M,d ws.length b M->D.nx b M
def fM(wi:gY)(g:eR)(tb:aK):aK:=fun D a M=>wi a M fun ws keep b=>CY ws keep g tb D a b
theorem fS{tg iter:Expr}{p:List Stmt}{wi:gY}{g:eR}{tb:aK}{pos:Pos}(hp:PassesOwn (Bk X.prog X.w) X.A X.env X.xe)(hc:X.calm=true)(hi:PI X tg iter (gZ X.K wi))(hg:PG X tg (gL X.K g))(hb:jT X p tb)
  (hs:∀ x,Hm iter X.env x=pure x:=by intro _;rfl):P3 X (.For tg iter p [] pos) (fM wi g tb):=
 (L8 hp hc hi hg hb hs).weak fun D σ H z0=>z0.el fun T M D' W U h k=>by
  refine⟨T,M,_,W,U,h,fun J I ws keep z B u it ⟨C,h0,hk,hs,hd⟩=>?_⟩
  refine⟨fun i m c f=>m=ws.length - i/\i<=ws.length/\∃ a b,Kp I z f b/\AM X.K f b/\AS X.K f b c a/\C i a b,⟨_,rfl,Bx _,T,z,Kp.refl u,u,W.kp U B,h0⟩,?_⟩
  rintro i m σ2 Q ⟨rfl,hi,d,o,v,j,t,s⟩
  by_cases r:i < ws.length
  ·refine .inr ⟨it.go i Q o v j (hk i d o hi s) r,fun c f=>∃ a b,Kp I z f b/\AM X.K f b/\AS X.K f b c a/\C (i + 1) a b,fun c f q=>⟨ws.length - (i + 1),by omega,rfl,r,q⟩,fun x H3 y=>?_⟩
   obtain⟨w,hw,V,O,ax⟩:=it.yld i Q o x H3 v j (hk i d o hi s) r y
   refine⟨w,d,o,_,ax,t.kp j V,O,hs i w d o hw s,fun Y Z R S k4 G E h4=>⟨R,S,_,E,G,h4,?_⟩⟩
   have P:=((v.trans V).trans k4)
   have l:gW X.K Z S (fun a b=>∃ n,Sub n b/\C (i + 1) a n) (fun c f=>∃ a b,Kp I z f b/\AM X.K f b/\AS X.K f b c a/\C (i + 1) a b):=
    fun c f a b k' F N ⟨n,L,q3⟩=>⟨a,n,(P.trans k').sub L,F.sub L,N.sub L,q3⟩
   exact⟨l,k.rt.kp (B.trans P),k.nx.kp (B.trans P),l⟩
  ·have e:i=ws.length:=by omega
   subst e
   exact .inl ⟨it.stop Q o v j (hk _ d o hi s),k.nx _ _ _ _ (B.trans v) j t (hd d o s)⟩
theorem fF{ws:List W}{keep:Mm->Prop}{g:eR}{tb:aK}{D:D3}{b:S3}{M:Mm}(c:Nat->S3->Mm->Prop)(j:c 0 b M)(hk:∀ i b M,i<=ws.length->c i b M->keep M)
  (hs:∀ i w b M,ws[i]? = some w->c i b M->g w b M fun f h=>tb {D with nx:=fun d e=>∃ a,Sub a e/\c (i + 1) d a,ct:=fun d e=>∃ a,Sub a e/\c (i + 1) d a,bk:=D.nx} f h)
  (hd:∀ b M,c ws.length b M->D.nx b M):CY ws keep g tb D b M:=⟨c,j,hk,hs,hd⟩
variable {tg l a b:Expr}{tl ta tb':aS}
theorem TM{K:Ae}{b:Hp}{c:Mm}{p:Addr}{ws:List W}:iH K b c (nC K p) ws fun M=>M p=some (.lst ws) where
 go:=fun i H M _ a e hi=>by
  obtain⟨vs,f,q⟩:=a.lst e
  exact⟨vs,vs[i]'(by rw[q.length];exact hi),bC.of f,by simp⟩
 stop:=fun H M _ a e=>by
  obtain⟨vs,f,q⟩:=a.lst e
  exact⟨vs,bC.of f,by rw[q.length];exact Ai _⟩
 yld:=fun i H M x g _ a e hi y=>by
  obtain⟨rfl,y⟩:=y
  obtain⟨vs,f,q⟩:=a.lst e
  obtain⟨w,hw,d⟩:=q.getV (y vs (bC.of f))
  exact⟨w,hw,Kp.refl a,a,d⟩
theorem CZ{K:Ae}{a:Hp}{b:Mm}{p:Addr}{vs:List V}{ws:List W}(e:AM K a b)(st:∀ H M,Kp a b H M->bC K H p vs)(d:aL K a b vs ws):iH K a b (nC K p) ws fun _=>True:=by
 refine⟨fun i H M k c _ hi=>⟨vs,vs[i]'(by rw[d.length];exact hi),st H M k,by simp⟩,fun H M k c _=>⟨vs,st H M k,by rw[d.length];exact Ai _⟩,fun i H M x g k c _ hi y=>?_⟩
 obtain⟨rfl,y⟩:=y
 obtain⟨w,hw,f⟩:=(d.kp e k).getV (y vs (st _ M k))
 exact⟨w,hw,Kp.refl c,c,f⟩
theorem TN{K:Ae}{b:Hp}{c:Mm}{p:Addr}{vs:List V}{ws:List W}(a:AM K b c)(e:kG K b p vs)(d:aL K b c vs ws):iH K b c (nC K p) ws fun _=>True:=
 CZ a (fun H M k=>by
  refine kG.sq ?_
  rcases e with⟨o,e⟩ | e
  ·exact .inl ⟨o,(k.fr _ _ (a.noFrz e) e).1⟩
  ·exact .inr e) d
theorem TQ{K:Ae}{b:Hp}{a:Mm}{p:Addr}{vs:List V}{ws:List W}(c:AM K b a)(e:b p=some (.lst vs))(n:a p=none)(d:aL K b a vs ws):iH K b a (nC K p) ws fun _=>True:=
 CZ c (fun H M k=>bC.of (k.fr _ _ n e).1) d
theorem TR{K:Ae}{a:Hp}{c:Mm}{p:Addr}{vs:List V}{ws:List W}(b:AM K a c)(e:a p=some (.tup vs))(f:aL K a c vs ws):iH K a c (uV K p) ws fun _=>True:=by
 have st:∀ H M,Kp a c H M->bM K H p vs:=fun H M k=>bM.of (k.fr _ _ (b.noTup e) e).1
 refine⟨fun i H M k d _ hi=>⟨vs,vs[i]'(by rw[f.length];exact hi),st H M k,by simp⟩,fun H M k d _=>⟨vs,st H M k,by rw[f.length];exact Ai _⟩,fun i H M x h k d _ hi y=>?_⟩
 obtain⟨rfl,y⟩:=y
 obtain⟨w,hw,g⟩:=(f.kp b k).getV (y vs (st _ M k))
 exact⟨w,hw,Kp.refl d,d,g⟩
theorem C0{K:Ae}{c:Hp}{b:Mm}{lo:Int}{n:Nat}:iH K c b (oM lo n) ((Cb n).map fun i=>W.int (lo + (i:Nat))) fun _=>True where
 go:=fun i H M _ a _ hi=>by show i < n;simpa using hi
 stop:=fun H M _ a _=>by show n<=_;simp
 yld:=fun i H M x d _ a _ hi y=>by
  obtain⟨rfl,rfl⟩:=y
  have hi:i < n:=by simpa using hi
  exact⟨.int (lo + i),by simp[hi],Kp.refl a,a,.int _⟩
theorem TU{K:Ae}{d:Hp}{b:Mm}{z:Str}:iH K d b (vK z) (z.cps.toList.map fun c=>W.str ⟨#[c]⟩) fun _=>True where
 go:=fun i H M _ a _ hi=>by show i < z.cps.size;simpa using hi
 stop:=fun H M _ a _=>by show z.cps.size<=_;simp
 yld:=fun i H M x e _ a _ hi y=>by
  obtain⟨rfl,c,hc,rfl⟩:=y
  exact⟨.str ⟨#[c]⟩,by rw[Bi,hc];rfl,Kp.refl a,a,.str _⟩
def mM(X:Cx)(tg:Expr)(r:V->Hp->(It->Hp->Prop)->Prop):Prop:=
 ∀ (a:List (Addr×Obj)) (s:Ah) (b:SV) (H:Hp) (x:V) (u:Ac) (R:It->Hp->Prop),Inv X a b H s->RelV x u->r x H R->Ax (Bk X.prog X.w) X.A (Oe u) (oK X a b tg R) X.xe s
theorem wI:mM X tg (fun x H R=>∃ a,x=.ref a/\(∃ xs,bC X.K H a xs)/\R (nC X.K a) H):=by
 rintro f c j i x u R d h ⟨a,rfl,⟨xs,g⟩,q⟩
 cases h
 obtain⟨its,k,p,hz⟩:=d.list g
 refine Jh p.isList ?_
 refine⟨c.heap.objs.size,[c.heap.objs.size],_,_,i,rfl,d.kept (t':=c.toks) fun b o e=>Af _ e,LW a _,⟨_,Ap _ rfl,rfl,rfl⟩,fun b hb=>?_,q⟩
 have e:b=c.heap.objs.size:=by simpa using hb
 subst e
 exact d.fpOk (Ai _) (d.hok.fresh (Ai _))
theorem TV:mM X tg (fun x H R=>∃ a,x=.ref a/\(∃ xs,bM X.K H a xs)/\R (uV X.K a) H):=by
 rintro f c j i x u R d h ⟨a,rfl,⟨xs,g⟩,q⟩
 cases h
 obtain⟨its,k,p,hz⟩:=d.tuple g
 refine wpAny_pyIter_tuple (show c.heap.IsTuple a its.toArray from p) ?_
 refine⟨c.heap.objs.size,[c.heap.objs.size],_,_,i,rfl,d.kept (t':=c.toks) fun b o e=>Af _ e,LX a _,⟨_,Ap _ rfl,rfl,rfl⟩,fun b hb=>?_,q⟩
 have e:b=c.heap.objs.size:=by simpa using hb
 subst e
 exact d.fpOk (Ai _) (d.hok.fresh (Ai _))
theorem TX{x:Str}{k:Pos}:mM X (.Name x k) (fun x H R=>∃ z,x=.str z/\R (vK z) H):=by
 rintro g f m j x u R h l ⟨z,rfl,q⟩
 obtain⟨t,rfl⟩:=l
 have fp:∀ b∈[f.heap.objs.size],iA X g j b:=fun b hb=>by
  have e:b=f.heap.objs.size:=by simpa using hb
  subst e
  exact h.fpOk (Ai _) (h.hok.fresh (Ai _))
 cases ha:z.cps.all (· < 128)
 ·refine wpAny_pyIter_wide ha ?_
  exact⟨f.heap.objs.size,[f.heap.objs.size],_,_,j,rfl,h.kept (t':=f.toks) fun b o e=>Af _ e,
   BP z _ "str_iterator" t (fun A s i c Q E a b d=>wpAny_pyNext_wide_item a b d) (fun A s i Q E a b c d=>wpAny_pyNext_wide_end a b c d) (fun A i s Q E a b=>wpAny_pyIter_striter_wide a b),⟨_,Ap _ rfl,rfl,rfl⟩,fp,q⟩
 ·refine wpAny_pyIter_ascii ha ?_
  exact⟨f.heap.objs.size,[f.heap.objs.size],_,_,j,rfl,h.kept (t':=f.toks) fun b o e=>Af _ e,
   BP z _ "str_ascii_iterator" t (fun A s i c Q E a b d=>wpAny_pyNext_ascii_item a b d) (fun A s i Q E a b c d=>wpAny_pyNext_ascii_end a b c d) (fun A i s Q E a b=>wpAny_pyIter_striter_ascii a b),⟨_,Ap _ rfl,rfl,rfl⟩,fp,q⟩
theorem _root_.L2.PI.of{r:V->Hp->(It->Hp->Prop)->Prop}{tl:TE}(hl:PE X l tl)(e:mM X tg r):PI X tg l (fun b H R=>tl b H fun x c=>r x c R):=fun a s b H R I h=>
 aZ (hl a s b H _ I h) fun u g ⟨x,c,i,f,d⟩=>e a g b c x u R i f d
def wJ(K:Ae)(r:W->Mm->(List W->(Mm->Prop)->Mm->Prop)->Prop):V->Hp->(It->Hp->Prop)->Prop:=fun x H d=>∃ (c:W) (M:Mm) (R:List W->(Mm->Prop)->Mm->Prop),AV K H M x c/\AM K H M/\r c M R/\
 ∀ J b ws keep a,Kp H M b a->AM K b a->iH K b a J ws keep->R ws keep a->d J b
def mN:W->Mm->(List W->(Mm->Prop)->Mm->Prop)->Prop
 | .tup ws,b,R=>R ws (fun _=>True) b
 | .rl ws,b,R=>R ws (fun _=>True) b
 | .sc ws,b,R=>R ws (fun _=>True) b
 | .ref a,b,R=>∃ ws,b a=some (.lst ws)/\R ws (fun M=>M a=some (.lst ws)) b
 | _,_,_=>False
def fN:W->Mm->(List W->(Mm->Prop)->Mm->Prop)->Prop
 | .tup ws,b,R=>R ws (fun _=>True) b
 | .rl ws,b,R=>R ws (fun _=>True) b
 | .sc ws,b,R=>R ws (fun _=>True) b
 | .str z,b,R=>R (z.cps.toList.map fun c=>W.str ⟨#[c]⟩) (fun _=>True) b
 | .ref a,b,R=>∃ ws,b a=some (.lst ws)/\R ws (fun M=>M a=some (.lst ws)) b
 | _,_,_=>False
theorem C4:mM X tg (wJ X.K mN):=by
 rintro b s g H x u i I j ⟨l,M,R,d,c,h,k⟩
 have k:=fun J ws keep=>k J H ws keep M (Kp.refl c) c
 cases l <;> first | exact(show False from h).elim | skip
 case tup ws=>exact d.tupE fun a xs e f q=>TV b s g H _ u i I j ⟨a,e,⟨xs,bM.of f⟩,k _ _ _ (TR c f q) h⟩
 case rl ws=>obtain⟨a,xs,e,f,n,q⟩:=d.inv;exact wI b s g H _ u i I j ⟨a,e,⟨xs,bC.of f⟩,k _ _ _ (TQ c f n q) h⟩
 case sc ws=>exact d.scE fun a xs e f q=>wI b s g H _ u i I j ⟨a,e,⟨xs,f.sq⟩,k _ _ _ (TN c f q) h⟩
 case ref a=>exact h.elim fun ws h=>c.lstE h.1 fun vs f q=>wI b s g H _ u i I j ⟨a,d.inv,⟨vs,bC.of f⟩,k _ _ _ TM h.2⟩
theorem TY{y:Str}{g:Pos}:mM X (.Name y g) (wJ X.K fN):=by
 rintro a s d H x u e I f ⟨i,M,R,c,b,h,k⟩
 cases i <;> first | exact(show False from h).elim | skip
 case str z=>exact TX a s d H _ u e I f ⟨z,c.inv,k _ _ _ _ _ (Kp.refl b) b TU h⟩
 all_goals exact C4 a s d H x u e I f ⟨_,M,R,c,b,h,k⟩
def eT(r:W->Mm->(List W->(Mm->Prop)->Mm->Prop)->Prop)(tl:aS):gY:=fun a M R=>tl a M fun w b=>r w b R
theorem C5{r:W->Mm->(List W->(Mm->Prop)->Mm->Prop)->Prop}(hl:E3 X l tl)(f:mM X tg (wJ X.K r)):PI X tg l (gZ X.K (eT r tl)):=(PI.of hl f).weak fun s H t z0=>z0.el fun i M R q n h k=>
 ⟨i,M,_,q,n,h,fun x u e d m b o g=>⟨e,d,R,o,b,g,fun J j ws keep c p a it r=>k J j ws keep c (m.trans p) a it r⟩⟩
theorem sE(hl:E3 X l tl):PI X tg l (gZ X.K (eT mN tl)):=C5 hl C4
theorem gM{y:Str}{a:Pos}(hl:E3 X l tl):PI X (.Name y a) l (gZ X.K (eT fN tl)):=C5 hl TY
def g9(lo:Int)(n:Nat):List W:=(Cb n).map fun i=>W.int (lo + (i:Nat))
def mO(ta:dJ):gY:=fun a M R=>ta a M fun ws b=>∃ j:Int,ws=[.int j]/\-(2 ^ 62)<=j/\j < 2 ^ 62/\R (g9 0 j.toNat) (fun _=>True) b
def wL(ta:dJ):gY:=fun a M R=>ta a M fun ws b=>∃ i j:Int,ws=[.int i,.int j]/\(-(2 ^ 62)<=i/\i < 2 ^ 62/\-(2 ^ 62)<=j/\j < 2 ^ 62)/\R (g9 i (j - i).toNat) (fun _=>True) b
theorem nQ{c:dJ}{p pos:Pos}(i:Gl X "range")(f:X.mg "range" = none)(ha:A3 X [a] c)(hs:Bj [a] X.env=[(false,eval a X.env)]:=by rfl):PI X tg (.Call (.Name "range" p) [a] [] pos) (gZ X.K (mO c)):=
 (L4 i f ha hs).weak fun w H x z0=>z0.el fun q M R s o h k=>⟨q,M,_,s,o,h,fun vs u ws t m b d ⟨j,e,l,g,r⟩=>by
  rw[e] at d
  obtain⟨v,e,n⟩:=d.one
  exact⟨j,gX e n.inv,l,g,k _ _ _ _ _ m b C0 r⟩⟩
theorem C6{f:dJ}{p pos:Pos}(m:Gl X "range")(l:X.mg "range" = none)(ha:A3 X [a,b] f)(hs:Bj [a,b] X.env=[(false,eval a X.env),(false,eval b X.env)]:=by rfl)(d:Bj [b] X.env=[(false,eval b X.env)]:=by rfl) :
  PI X tg (.Call (.Name "range" p) [a,b] [] pos) (gZ X.K (wL f)):=
 (L5 m l ha hs d).weak fun A H B z0=>z0.el fun w M R x t h k=>⟨w,M,_,x,t,h,fun vs z ws y o c g ⟨i,j,e,n,r⟩=>by
  rw[e] at g
  obtain⟨v,u,e,q,s⟩:=g.two
  exact⟨i,j,by rw[e,show _=_ from q.inv,show _=_ from s.inv],n,k _ _ _ _ _ o c C0 r⟩⟩
def mP(ws:List W)(keep:Mm->Prop)(g:eR)(tt:dH)(te:aS)(c:S3)(j:Mm)(R:K3):Prop:=
 ∀ p,j p=none->∃ d:Nat->S3->List W->Mm->Prop,d 0 c [] j/\(∀ vs i e acc M,i<=ws.length->M p=none->d i e acc M->keep (put M p (.fix vs)))/\
  (∀ vs i w e acc M,ws[i]? = some w->M p=none->d i e acc M->g w e (put M p (.fix vs)) fun a l=>tt a l fun b h=>
   if b=true then te a h fun y k=>k p=some (.fix vs)/\acc.length < Aj/\∃ f,Sub f (del k p)/\d (i + 1) a (acc ++ [y]) f
   else h p=some (.fix vs)/\∃ f,Sub f (del h p)/\d (i + 1) a acc f)/\
  ∀ e acc M,M p=none->d ws.length e acc M->R (.ref p) (put M p (.lst acc))
def wM(js:List (Option Nat))(a:S3):S3:=js.map fun o=>o.bind fun j=>(a[j]?).join
theorem AS.cmap{K:Ae}{H:Hp}{M:Mm}{b:SV}{a:S3}(h:AS K H M b a):∀ js:List (Option Nat),AS K H M (cmap js b) (wM js a)
 | []=>.nil
 | none :: r=>.cons (fun _ e=>nomatch e) (AS.cmap h r)
 | some j :: r=>.cons (fun w e=>by
   have e:(a[j]?).join=some w:=e
   cases q:a[j]? with
   | none=>rw[q] at e;cases e
   | some z=>
    rw[q] at e
    have e:z=some w:=e
    subst e
    obtain⟨v,d,c⟩:=h.get q
    exact⟨v,by show(b[j]?).join=some v;rw[d];rfl,c⟩) (AS.cmap h r)
def fT(wi:gY)(g:eR)(tt:dH)(te:aS)(js:List (Option Nat)):aS:=fun a M R=>wi a M fun ws keep b=>mP ws keep g tt te (wM js a) b R
theorem C7{wi:gY}{g:eR}{tt:dH}{te:aS}{js:List (Option Nat)}{σ:SV}{H:Hp}{Q:VK}(h:up X.K (fT wi g tt te js) σ H Q):vI (gZ X.K wi) (fun _=>gL X.K g) (fun _=>jO X.K tt) (fun _=>up X.K te) js σ H Q:=by
 obtain⟨τ,M,R,as,am,h,k⟩:=h
 refine⟨τ,M,_,as,am,h,fun J H1 ws keep M1 k1 v it O p S B=>?_⟩
 obtain⟨Pv,h0,hk,hs,hd⟩:=O p (v.nonM S)
 obtain⟨W,kp⟩:=v.laid (o:=.fix []) (u:=.lst []) S dZ
 have hMp:=v.nonM S
 refine QQ ws.length (fun i C c q=>∃ j acc m,m p=none/\Kp H1 M1 q (put m p (.fix c))/\AM X.K q (put m p (.fix c))/\AS X.K q (put m p (.fix c)) C j/\aL X.K q (put m p (.fix c)) c acc/\Pv i j acc m) ?_ ?_ ?_
 ·exact⟨wM js τ,[],M1,hMp,kp,W,((as.kp am k1).kp v kp).cmap js,.nil,h0⟩
 ·rintro C c q ⟨j,acc,m,L,A,d,G,P,I⟩
  refine⟨it.stop q _ A d (hk _ _ _ _ _ (Ai _) L I),?_⟩
  have hp':q p=some (.lst c):=d p _ bA
  refine k _ q _ (put m p (.lst acc)) (k1.trans ⟨fun a o n e=>?_,A.dom⟩) (fun a o e=>?_) (.ref p) (hd j acc m L I)
  ·obtain⟨x,y⟩:=A.fr a o n e
   exact⟨x,by rw[aP (d6 e S)] at y ⊢;exact y⟩
  ·by_cases ha:a=p
   ·subst ha;rw[bA] at e;cases e;exact⟨c,hp',P.go B1⟩
   ·rw[aP ha] at e;exact(d a o (by rw[aP ha];exact e)).go B1 rfl
 ·rintro i C c q hi ⟨j,acc,m,L,A,d,G,P,I⟩
  have N:=hk c i j acc m (Ic hi) L I
  refine⟨it.go i q _ A d N hi,fun x H3 y=>?_⟩
  obtain⟨w,hw,k3,am3,ax⟩:=it.yld i q _ x H3 A d N hi y
  refine⟨w,j,_,_,ax,G.kp d k3,am3,hs c i w j acc m hw L I,fun σ4 H4 l T k4 t r h4=>⟨l,T,_,r,t,h4,fun b H5 s U D V=>?_⟩⟩
  have kk:Kp q (put m p (.fix c)) H5 s:=(k3.trans k4).trans U
  cases b with
  | false=>
   obtain⟨m5,E,sb,pv6⟩:s p=some (.fix c)/\∃ E,Sub E (del s p)/\Pv (i + 1) l acc E:=V
   have f:Sub (put E p (.fix c)) s:=by
    have:=(sb.trans Sub.del).put (a:=p) (o:=.fix c)
    rwa [RP m5] at this
   exact QH ⟨l,acc,E,sb.non oW,(A.trans kk).sub f,D.sub f,(r.kp t U).sub f,(P.kp d kk).sub f,pv6⟩
  | true=>
   have V:te l s fun y T=>T p=some (.fix c)/\acc.length < Aj/\∃ s,Sub s (del T p)/\Pv (i + 1) l (acc ++ [y]) s:=V
   refine QI ⟨l,s,_,r.kp t U,D,V,fun y H6 wy E k6 z ay ⟨m6,hl,M7,sb,Y⟩=>?_⟩
   have F:=kk.trans k6
   have hp6:H6 p=some (.lst c):=z p _ m6
   obtain⟨Z,k8⟩:=z.write (o:=.fix (c ++ [y])) (u:=.lst (c ++ [y])) m6 dZ
   have f:Sub (put M7 p (.fix (c ++ [y]))) (put E p (.fix (c ++ [y]))):=(sb.trans Sub.del).put
   refine⟨hp6,by rw[P.length];exact hl,l,acc ++ [wy],M7,sb.non oW,((A.trans F).trans k8).sub f,Z.sub f,(((r.kp t U).kp D k6).kp z k8).sub f,?_,Y⟩
   exact(((P.kp d F).append (.cons ay .nil)).kp z k8).sub f
variable {sc:Kf}{N':List Str}{js:List (Option Nat)}{iter elt:Expr}{ifs:List Expr}{wi:gY}{g:eR}{tt:dH}
def iZ:dH:=fun _ M Q=>Q true M
theorem mQ:iD X [] (jO X.K iZ):=QM.weak fun b H Q z0=>z0.el fun c M R d a h k=>k true H M (Kp.refl a) a h
theorem nR{c:Expr}{t:dH}(h:T3 X c t):iD X [c] (jO X.K t):=QN h
theorem kR(N':List Str)(js:List (Option Nat))(hi:PI X tg iter (gZ X.K wi))
  (b:∀ B,PG (dG X sc N' B) tg (gL X.K g)) (ht:∀ B,iD (dG X sc N' B) ifs (jO X.K tt)) (a:∀ B,PE (dG X sc N' B) elt (up X.K te))
  (d:mD N' sc X.env.scope=true:=by kernel_rfl) (c:e8 N' X.N sc js N'=true:=by kernel_rfl) (hc:X.calm=true:=by rfl) (hs:∀ x,Hm iter X.env x=pure x:=by intro _;rfl) :
  E3 X (.ListComp elt [⟨tg,iter,ifs,0⟩] sc pos) (fT wi g tt te js):=(QO N' js hi b ht a d c hc hs).weak fun _ _ _ h=>C7 h
end
def b5(N:List Str)(ws:List W):S3:=ws.map some ++ Bz (N.length - ws.length) none
def bW(R:K3):D3:={nx:=fun _ b=>∃ a,Sub a b/\R .non a,rt:=fun w b=>∃ a,Sub a b/\R w a}
section
variable {P:Bl}{w:Cd}{K:Ae}{mg:Str->Option Ac}{base:Heap}
theorem TZ{x a:Str}{st:Stmt}{f:Addr}{fd:Br}{N ps:List Str}{k:Nat}{sp:bS}(F:jK K x a st f fd)(S:nF N ps (eP st))(len:∀ ws M R,sp ws M R->ws.length=ps.length)
  (e:∀ (b:Ac) (A:Bu) (outer:List Env) (s:Ah) (H:Hp) (E:XK) (ws:List W) (M:Mm) (R:K3),cF k (A.deeper (Mw a (eP st) s.heap.objs.size f b))->sp ws M R->
   ∃ t,jT (lA fY P w K mg base N a (eP st) f b A outer s H E).nox (gH st) t/\t (bW R) (b5 N ws) M):eW P w K mg base fY (k + 1) f fd ps (gK K sp):=by
 refine F.ok S (fun vs H Q E ⟨ws,M,R,n,g,h,_⟩=>by rw[g.length];exact len ws M R h) fun b A outer s H vs Q E q ⟨ws,M,R,n,g,h,m⟩=>?_
 obtain⟨t,ht,h'⟩:=e b A outer s H E ws M R q h
 refine⟨_,ht,b5 N ws,M,bW R,?_,n,h',⟨fun y j u o i c p ⟨d,sb,r⟩=>m _ j _ d (i.sub sb) (c.sub sb) .non r,fun v j w o i c l ⟨d,sb,r⟩=>m v j w d (i.sub sb) (c.sub sb) (l.sub sb) r,fun _ _ _ _ _ _ _ z=>z.elim,fun _ _ _ _ _ _ _ z=>z.elim⟩⟩
 unfold L2.start b5
 rw[g.length]
 exact AS.start g _
def pK:bS:=fun ws M R=>∃ ns:List Int,ws=[.sc (ns.map W.int)]/\ns.length<=63/\(M=fun _=>none)/\∀ a,R (.bl true) a
theorem T4{H:Hp}{a:Addr}{ns:List Int}(hl:ns.length<=63)(b:rB H)(hs:bC K H a (ns.map V.int)):gK K pK [.ref a] H (fun v _=>v=.bl true) fun _ _ _=>False:=by
 have c:kG K H a (ns.map V.int):=by
  rcases hs with(e | ⟨o,e⟩) | e
  ·rcases b a with z | ⟨o,xs,z⟩
   ·rw[z] at e;cases e
   ·rw[z] at e;cases e
  ·exact .inl ⟨o,e⟩
  ·exact .inr e
 exact⟨[.sc (ns.map W.int)],fun _=>none,fun w _=>w=.bl true,fun a o e=>(nomatch e),.cons (.sc c (aL.int ns)) .nil,⟨ns,rfl,hl,rfl,fun _=>rfl⟩,fun v g w f _ _ d r=>by subst r;exact d.bl_inv⟩
end
section
variable {X:Cx}{a b c:Expr}{ta tb tc:aS}{pos:Pos}
def wN(r f:R3)(ta tb tc:aS):aS:=fun a M R=>ta a M fun x c=>tb a c fun y e=>r x y e fun z b=>∃ k,z=.bl k/\if k=true then tc a b fun w d=>f y w d R else R (.bl false) b
def wO:aK:=fun _ _ _=>False
def T5(M:Mm):W->String->Prop
 | .non,T=>T = "NoneType"
 | .bl _,T=>T = "bool"
 | .int _,T=>T = "int"
 | .str _,T=>T = "str"
 | .tup _,T=>T = "tuple"
 | .rl _,T=>T = "list"
 | .dk _,T=>T = "dict"
 | .ref a,T=>(T = "list"/\∃ ws,M a=some (.lst ws))\/(T = "dict"/\((∃ kvs,M a=some (.dK kvs))\/∃ kvs,M a=some (.dT kvs)))
 | _,_=>False
def C8:List (String×String×Bool):=[("int","int",true),("int","bool",false),("int","str",false),("int","tuple",false),("int","list",false),("bool","bool",true),("bool","int",true),("bool","str",false),("bool","list",false),("bool","tuple",false),("str","str",true),("str","int",false),("str","tuple",false),("str","list",false),("str","bool",false),("tuple","tuple",true),("tuple","list",false),("tuple","str",false),("tuple","int",false),("tuple","bool",false),("list","list",true),("list","tuple",false),("list","str",false),("list","int",false),("list","bool",false),("NoneType","list",false),("NoneType","tuple",false),("NoneType","int",false),("NoneType","str",false),("NoneType","bool",false),("dict","dict",true),("dict","list",false)]
def C9(n T:String):Option Bool:=(C8.find? fun p=>p.1 == n && p.2.1 == T).map fun p=>p.2.2
def DA(K:Ae):List (String×String×Bool)->Prop
 | []=>True
 | p :: l=>Jx K (.type p.1) (.type p.2.1)=some p.2.2/\DA K l
theorem DB{K:Ae}:∀ {l:List (String×String×Bool)},DA K l->∀ p∈l,Jx K (.type p.1) (.type p.2.1)=some p.2.2
 | _ :: _,h,_,m=>by
  cases m with
  | head=>exact h.1
  | tail _ m=>exact DB h.2 _ m
theorem T6(K:Ae):∀ p∈C8,Jx K (.type p.1) (.type p.2.1)=some p.2.2:=by
 refine DB ?_
 refine⟨by kernel_rfl,by kernel_rfl,by kernel_rfl,by kernel_rfl,by kernel_rfl,by kernel_rfl,by kernel_rfl,by kernel_rfl,by kernel_rfl,by kernel_rfl,by kernel_rfl,by kernel_rfl,by kernel_rfl,by kernel_rfl,by kernel_rfl,by kernel_rfl,by kernel_rfl,by kernel_rfl,by kernel_rfl,by kernel_rfl,by kernel_rfl,by kernel_rfl,by kernel_rfl,by kernel_rfl,by kernel_rfl,by kernel_rfl,by kernel_rfl,by kernel_rfl,by kernel_rfl,by kernel_rfl,by kernel_rfl,by kernel_rfl,trivial⟩
theorem T7(K:Ae){n T:String}{b:Bool}(h:C9 n T=some b):Jx K (.type n) (.type T)=some b:=by
 obtain⟨p,c,e⟩:=Bn.mp h
 have a:=List.find?_some c
 have d:=T6 K p (List.mem_of_find?_eq_some c)
 rw[Cr,beq_iff_eq,beq_iff_eq] at a
 rw[<-a.1,<-a.2,d,e]
def mR:List W->Mm->K3->Prop
 | [w,.ty T],M,R=>∃ n b,T5 M w n/\C9 n T=some b/\R (.bl b) M
 | _,_,_=>False
theorem wQ:cU X (.builtin "isinstance") (fZ X.K mR):=by
 rintro g s o H xs us Q I rs ⟨ws,M,R,l,m,h,k⟩
 match ws,h with
 | [w,.ty T],h=>
  obtain⟨v,u,rfl,d,p⟩:=m.two
  cases p
  obtain⟨n,b,c,hs,r⟩:=h
  have ty:gT X.K H v (.type n):=by
   cases w <;> first | exact(show False from c).elim | skip
   case non=>rw[show n=_ from c,show v=_ from d.inv];exact .non
   case bl b=>rw[show n=_ from c,show v=_ from d.inv];exact .bl b
   case int i=>rw[show n=_ from c,show v=_ from d.inv];exact .int i
   case str x=>rw[show n=_ from c,show v=_ from d.inv];exact .str x
   case tup=>obtain⟨a,xs,j,e,q⟩:=d.inv;rw[show n=_ from c,j];exact .tup e
   case rl=>obtain⟨a,xs,j,e,_,q⟩:=d.inv;rw[show n=_ from c,j];exact .lst e
   case dk=>obtain⟨a,xs,j,e,_,q⟩:=d.inv;rw[show n=_ from c,j];exact .dK e
   case ref a=>
    rw[show v=_ from d.inv]
    rcases c with⟨e,ws,h⟩ | ⟨e,h⟩
    ·subst e
     obtain⟨vs,f,_⟩:=l.lst h
     exact .lst f
    ·subst e
     rcases h with⟨kvs,h⟩ | ⟨kvs,h⟩
     ·obtain⟨ks,f,_⟩:=l _ _ h;exact .dK f
     ·obtain⟨ks,f,_⟩:=l _ _ h;exact .dT f
  exact QV g s o H _ us Q I rs ⟨v,T,_,b,rfl,ty,T7 X.K hs,k.at l (.bl b) r⟩
def DC:W->List W->Mm->K3->Prop
 | .str z,[.str y],M,R=>(y.length == 0)=false/\z.length<=Aj/\R (.tup [.str (Cu z y).1,.str (Cu z y).2.1,.str (Cu z y).2.2]) M
 | _,_,_,_=>False
theorem m_partition:iC X "str.partition" (jP X.K DC):=by
 rintro a s f H x xs v us Q I g rs ⟨d,ws,M,R,j,c,b,h,k⟩
 match d,ws,h with
 | .str z,[.str y],h=>
  obtain⟨u,rfl,i⟩:=b.one
  cases c;cases i
  exact QU a s f H _ _ v us Q I g rs ⟨z,y,rfl,rfl,h.1,h.2.1,fun p e=>laidT j k e (.cons (.str _) (.cons (.str _) (.cons (.str _) .nil))) h.2.2⟩
end
section
variable {X:Cx}{a b:Expr}{ta tb:aS}{pos:Pos}{es:List Expr}{t:dJ}
theorem DD{K:Ae}{H:Hp}{M:Mm}{R:K3}{Q:VK}{p:Addr}{xs:List V}{ws:List W}(c:AM K H M)(k:Up K H M R Q)(b:H p=none)(d:aL K H M xs ws)(r:R (.rl ws) M):Q (.ref p) (aN H p (.lst xs)):=by
 obtain⟨a,e⟩:=c.tup (u:=.lst xs) b
 exact k _ _ _ _ e a (.rl dZ (c.nonM b) (d.newT b)) r
def e6(t:dJ):aS:=fun a M R=>t a M fun ws b=>ws.length<=Aj/\R (.rl ws) b
theorem e9(h:A3 X es t):E3 X (.List es pos) (e6 t):=
 (AR h).weak fun j H Q z0=>z0.el fun d M R g f h k=>⟨d,M,_,g,f,h,fun xs l ws i e b a ⟨hl,r⟩=>⟨by rw[a.length];exact hl,fun p c=>DD b (k.kp e) c a r⟩⟩
theorem DE{f:Ac->Ac->Sem Ac}{r b:R3}(h:bB X f (bY X.K r))(k:∀ x y M R,b x y M R->r x y M fun w c=>frz w c R):bB X f (bY X.K b):=fun a s g H x y v u Q I i j ⟨e,n,M,R,m,d,o,h',l⟩=>
 h a s g H x y v u Q I i j ⟨e,n,M,_,m,d,o,k _ _ _ _ h',l.frz⟩
theorem T8{f:Ac}{r b:List W->Mm->K3->Prop}(h:cU X f (fZ X.K r))(k:∀ x M R,b x M R->r x M fun w c=>frz w c R):cU X f (fZ X.K b):=fun a s e H xs us Q I rs ⟨ws,M,R,i,d,h',g⟩=>
 h a s e H xs us Q I rs ⟨ws,M,_,i,d,k _ _ _ h',g.frz⟩
def cS:R3
 | .int i,.int j,M,R=>R (.int (i + j)) M
 | .tup xs,.tup ys,M,R=>xs≠[]/\xs.length + ys.length<=Aj/\R (.tup (xs ++ ys)) M
 | .ref a,.ref b,M,R=>∃ xs ys,M a=some (.lst xs)/\M b=some (.lst ys)/\xs.length + ys.length<=Aj/\R (.rl (xs ++ ys)) M
 | .rl xs,.ref b,M,R=>∃ ys,M b=some (.lst ys)/\xs.length + ys.length<=Aj/\R (.rl (xs ++ ys)) M
 | .ref a,.rl ys,M,R=>∃ xs,M a=some (.lst xs)/\xs.length + ys.length<=Aj/\R (.rl (xs ++ ys)) M
 | .rl xs,.rl ys,M,R=>xs.length + ys.length<=Aj/\R (.rl (xs ++ ys)) M
 | _,_,_,_=>False
theorem dC:bB X (Fs .Add) (bY X.K cS):=DE R5 fun x y M R h=>by
 cases x <;> first | exact(show False from h).elim | (cases y <;> first | exact(show False from h).elim | skip)
 case int.int i j=>exact h
 case tup.tup i j=>exact h
 case ref.ref i j=>obtain⟨xs,ys,c,a,b,r⟩:=h;exact⟨xs,ys,c,a,b,aV.frz r⟩
 case rl.ref i j=>obtain⟨ys,a,b,r⟩:=h;exact⟨ys,a,b,aV.frz r⟩
 case ref.rl i j=>obtain⟨ys,a,b,r⟩:=h;exact⟨ys,a,b,aV.frz r⟩
 case rl.rl i j=>exact⟨h.1,aV.frz h.2⟩
def jU:R3
 | .int i,.int j,M,R=>(nD i j\/rD i j)/\R (.int (i * j)) M
 | .ref a,.int n,M,R=>∃ xs,M a=some (.lst xs)/\-(2 ^ 63)<=n/\n < 2 ^ 63/\xs.length * n.toNat<=Aj/\R (.rl (Bz n.toNat xs).flatten) M
 | .rl xs,.int n,M,R=>-(2 ^ 63)<=n/\n < 2 ^ 63/\xs.length * n.toNat<=Aj/\R (.rl (Bz n.toNat xs).flatten) M
 | _,_,_,_=>False
theorem lP:bB X (Fs .Mult) (bY X.K jU):=DE R9 fun x y M R h=>by
 cases x <;> first | exact(show False from h).elim | (cases y <;> first | exact(show False from h).elim | skip)
 case int.int i j=>exact h
 case ref.int i j=>obtain⟨xs,d,a,b,c,r⟩:=h;exact⟨xs,d,a,b,c,aV.frz r⟩
 case rl.int i j=>obtain⟨a,b,c,r⟩:=h;exact⟨a,b,c,aV.frz r⟩
def sF:List W->Mm->K3->Prop
 | [.tup ws],M,R=>R (.rl ws) M
 | [.rl ws],M,R=>R (.rl ws) M
 | [.sc ws],M,R=>R (.rl ws) M
 | [.dk kvs],M,R=>R (.rl (kvs.map fun b=>wK b.1)) M
 | [.ref a],M,R=>(∃ ws,M a=some (.lst ws)/\R (.rl ws) M)\/∃ kvs,M a=some (.dK kvs)/\R (.rl (kvs.map fun b=>wK b.1)) M
 | _,_,_=>False
theorem wR(hc:X.calm=true):cU X (.type "list") (fZ X.K sF):=T8 (wB hc) fun x M R h=>by
 match x,h with
 | [.tup ws],h=>exact aV.frz h
 | [.rl ws],h=>exact aV.frz h
 | [.sc ws],h=>exact aV.frz h
 | [.dk kvs],h=>exact aV.frz h
 | [.ref a],h=>
  rcases h with⟨ws,e,r⟩ | ⟨kvs,e,r⟩
  ·exact .inl ⟨ws,e,aV.frz r⟩
  ·exact .inr ⟨kvs,e,aV.frz r⟩
def DF:W->Option Int->Option Int->Mm->K3->Prop
 | .rl ws,lo,hi,M,R=>R (.rl (dP ws lo hi)) M
 | .sc ws,lo,hi,M,R=>R (.rl (dP ws lo hi)) M
 | .ref a,lo,hi,M,R=>∃ ws,M a=some (.lst ws)/\R (.rl (dP ws lo hi)) M
 | .tup ws,lo,hi,M,R=>¬ (HT.sIx ws.length 0 lo=0/\HT.sIx ws.length ws.length hi=ws.length)/\R (.tup (dP ws lo hi)) M
 | _,_,_,_,_=>False
theorem T9{x:W}{l u:Option Int}{M:Mm}{R:K3}(h:DF x l u M R):v8 x l u M fun w b=>frz w b R:=by
 cases x <;> first | exact(show False from h).elim | skip
 case tup ws=>exact h
 case rl ws=>exact aV.frz h
 case sc ws=>exact aV.frz h
 case ref a=>obtain⟨ws,e,r⟩:=h;exact⟨ws,e,aV.frz r⟩
def nS(ta:aS)(tl c:lJ):aS:=fun a M R=>ta a M fun x b=>tl a b fun l e=>c a e fun u d=>DF x l u d R
theorem pL{lo hi:Option Expr}{tl m:lJ}{w:Pos}(s:E3 X a ta)(hl:PO X lo (lK X.K tl))(y:PO X hi (lK X.K m)):E3 X (.Subscript a (.Slice lo hi none w) pos) (nS ta tl m):=
 (A7 CI s hl y).weak fun B H Q z0=>z0.el fun d M R j f h k=>⟨d,M,_,j,f,h,fun x C p o e b z r=>⟨d,o,_,j.kp f e,b,r,fun l D v i c A=>⟨d,v,_,(j.kp f e).kp b i,c,A,fun u E q n g t=>
  ⟨p,q,_,g,(z.kp b i).kp c n,T9 t,(((k.kp e).kp i).kp n).frz⟩⟩⟩⟩
variable {sc:Kf}{N':List Str}{js:List (Option Nat)}{tg iter elt:Expr}{ifs:List Expr}{wi:gY}{g:eR}{tt:dH}{te:aS}
theorem UA{i:Nat}{x:Str}{j a:Pos}(r:X.N.Nodup)(b:X.N[i]? = some x)(q:Loc X.env.scope x)(N':List Str)(js:List (Option Nat))(hi:PI X tg iter (gZ X.K wi))
  (t:∀ B,PG (dG X sc N' B) tg (gL X.K g)) (ht:∀ B,iD (dG X sc N' B) ifs (jO X.K tt)) (o:∀ B,PE (dG X sc N' B) elt (up X.K te))
  (s:mD N' sc X.env.scope=true:=by kernel_rfl) (p:e8 N' X.N sc js N'=true:=by kernel_rfl) (hc:X.calm=true:=by rfl) (d:Kj (.ListComp elt [⟨tg,iter,ifs,0⟩] sc pos) (some (.Name x j)) a.line X.env=pure true:=by rfl)
  (hf:X.fn x=true\/X.env.scope.names.lookup x=some .local:=by first | exact .inl rfl | exact .inr rfl | assumption)
  (hs:∀ x,Hm iter X.env x=pure x:=by intro _;rfl):P3 X (.Assign [.Name x j] (.ListComp elt [⟨tg,iter,ifs,0⟩] sc pos) a) (bH i (cV (fT wi g tt te js))):=
 (QP r b q N' js hi t ht o s p hc d hf hs).weak fun D w H z0=>z0.el fun n M C l f h k=>C7 ⟨n,M,_,l,f,h,Up.frz fun y z A v e c u m=>k.nx _ _ _ _ e c ((l.kp f e).set u i) m⟩
end
def Pl:Nat->W->Prop
 | _,.non=>True
 | _,.int _=>True
 | _,.str x=>PyData.strOk x=true
 | n + 1,.tup ws=>∀ w∈ws,Pl n w
 | n + 1,.rl ws=>∀ w∈ws,Pl n w
 | _,_=>False
def der(M:Mm):W->W
 | .ref a=>match M a with
  | some (.lst ws)=>.rl ws
  | _=>.ref a
 | w=>w
section
variable {M:Mm}
theorem wU{n:Nat}(ih:∀ {w:W},Pl n w->∃ d,Snap M w d/\d.canLay0=true/\d.depth<=n):∀ {ws:List W},(∀ w∈ws,Pl n w)->∃ ds,iG M ws ds/\PyData.canLayAll0 ds=true/\PyData.depthAll ds<=n
 | [],_=>⟨[],.nil,rfl,by simp[PyData.depthAll]⟩
 | w :: ws,h=>by
  obtain⟨d,s,c,e⟩:=ih (h w Bg)
  obtain⟨ds,ss,cc,ee⟩:=wU ih fun z hz=>h z (Bd _ hz)
  exact⟨d :: ds,.cons s ss,by simp[PyData.canLayAll0,c,cc],by simp only[PyData.depthAll];lia⟩
theorem wV:∀ {n:Nat} {w:W},Pl n w->∃ d,Snap M w d/\d.canLay0=true/\d.depth<=n:=by
 intro n
 induction n with
 | zero=>
  intro w h
  cases w <;> first | exact(show False from h).elim | skip
  case non=>exact⟨_,.non,rfl,by simp[Jb]⟩
  case int i=>exact⟨_,.int i,rfl,by simp[Jb]⟩
  case str x=>exact⟨_,.str x,h,by simp[Jb]⟩
 | succ n ih=>
  intro w h
  cases w <;> first | exact(show False from h).elim | skip
  case non=>exact⟨_,.non,rfl,by simp[Jb]⟩
  case int i=>exact⟨_,.int i,rfl,by simp[Jb]⟩
  case str x=>exact⟨_,.str x,h,by simp[Jb]⟩
  case tup ws=>
   obtain⟨ds,s,c,e⟩:=wU ih h
   exact⟨_,.tup s,by simpa [PyData.canLay0] using c,by simp only[Jb];lia⟩
  case rl ws=>
   obtain⟨ds,s,c,e⟩:=wU ih h
   exact⟨_,.rl s,by simpa [PyData.canLay0] using c,by simp only[Jb];lia⟩
theorem DG{n:Nat}{w:W}(h:Pl n (der M w)):∃ d,Snap M w d/\Snap M (der M w) d/\d.canLay0=true/\d.depth<=n:=by
 obtain⟨d,s,c,e⟩:=wV (M:=M) h
 refine⟨d,?_,s,c,e⟩
 cases w <;> first | exact s | skip
 case ref a=>
  cases q:M a with
  | none=>
   have e:der M (.ref a)=.ref a:=by simp[der,q]
   rw[e] at s;exact s
  | some o=>
   cases o with
   | lst ws=>
    have e:der M (.ref a)=.rl ws:=by simp[der,q]
    rw[e] at s
    cases s with
    | rl r=>exact .ref q r
   | dK _=>
    have e:der M (.ref a)=.ref a:=by simp[der,q]
    rw[e] at s;exact s
   | dT _=>
    have e:der M (.ref a)=.ref a:=by simp[der,q]
    rw[e] at s;exact s
   | fix _=>
    have e:der M (.ref a)=.ref a:=by simp[der,q]
    rw[e] at s;exact s
   | ins _ _ _=>
    have e:der M (.ref a)=.ref a:=by simp[der,q]
    rw[e] at s;exact s
theorem DH{n:Nat}(ih:∀ {x y:W} {dx dy:Md},Pl n x->Pl n y->Snap M x dx->Snap M y dy->(Gq dx dy=true↔x=y)):∀ {xs ys:List W} {dx dy:List Md},(∀ w∈xs,Pl n w)->(∀ w∈ys,Pl n w)->iG M xs dx->iG M ys dy->(Np dx dy=true↔xs=ys):=by
 intro xs
 induction xs with
 | nil=>
  intro ys dx dy hx hy s1 s2
  cases s1
  cases s2 <;> simp[Np]
 | cons x xs IH=>
  intro ys dx dy hx hy s1 s2
  cases s1 with
  | cons s1 r1=>
   cases s2 with
   | nil=>simp[Np]
   | cons s2 r2=>
    rw[Np,Cr,ih (hx x Bg) (hy _ Bg) s1 s2,IH (fun z hz=>hx z (Bd _ hz)) (fun z hz=>hy z (Bd _ hz)) r1 r2]
    simp
theorem DJ:∀ {n:Nat} {x y:W} {dx dy:Md},Pl n x->Pl n y->Snap M x dx->Snap M y dy->(Gq dx dy=true↔x=y):=by
 intro n
 induction n with
 | zero=>
  intro x y dx dy hx hy sx sy
  cases sx <;> first | exact(show False from hx).elim | skip
  all_goals cases sy <;> first | exact(show False from hy).elim | simp[Gq]
 | succ n ih=>
  intro x y dx dy hx hy sx sy
  cases sx <;> first | exact(show False from hx).elim | skip
  all_goals cases sy <;> first | exact(show False from hy).elim | skip
  all_goals first | (simp[Gq];done) | skip
  case tup.tup r1 _ _ r2=>rw[Gq,DH ih hx hy r1 r2];simp
  case rl.rl r1 _ _ r2=>rw[Gq,DH ih hx hy r1 r2];simp
theorem UB{neg:Bool}{x y:W}{R:K3}(n:Nat)(hn:n<=60)(hx:Pl n (der M x))(hy:Pl n (der M y))(h:∀ b:Bool,(b=true↔der M x=der M y)->R (.bl (if neg then !b else b)) M):pF neg x y M R:=by
 obtain⟨dx,s1,s1',c1,e1⟩:=DG hx
 obtain⟨dy,s2,s2',c2,e2⟩:=DG hy
 exact⟨dx,dy,s1,s2,⟨c1,by lia⟩,⟨c2,by lia⟩,h _ (DJ hx hy s1' s2')⟩
theorem DK{neg:Bool}{x y:W}{R:K3}(n:Nat)(hn:n<=60)(hx:Pl n (der M x))(hy:Pl n (der M y))(h:∀ b:Bool,(b=true↔der M x=der M y)->R (.bl (if neg then !b else b)) M):rEq neg x y M R:=by
 have d:=UB n hn hx hy h
 cases x <;> first | exact d | skip
 case int i=>
  cases y <;> first | exact d | skip
  case int j=>exact h (decide (i=j)) (by simp[der])
 case str i=>
  cases y <;> first | exact d | skip
  case str j=>exact h (decide (i=j)) (by simp[der])
 case bl i=>
  cases y <;> first | exact d | skip
  case bl j=>exact(show False by cases n <;> exact hx).elim
end
theorem sG{M:Mm}{neg:Bool}{x y:W}{R:K3}(n:Nat)(hn:n<=60)(hx:Pl n (der M x))(e:der M y=der M x)(h:R (.bl (!neg)) M):rEq neg x y M R:=by
 refine DK n hn hx (by rw[e];exact hx) fun b hb=>?_
 have:b=true:=hb.mpr e.symm
 subst this
 cases neg <;> exact h
theorem sH{ws:List W}{keep:Mm->Prop}{g:eR}{tt:dH}{te:aS}{τ₀:S3}{M1:Mm}{R:K3}(St:S3->Prop)(tgt:W->S3)(Rel:W->Option W->Prop)(hl:ws.length<=Aj)(hk:∀ M,Sub M1 M->keep M)
  (h0:St τ₀) (ht:∀ w∈ws,St (tgt w)) (hg:∀ w∈ws,∀ τ M (C:S3->Mm->Prop),St τ->C (tgt w) M->g w τ M C)
  (hs:∀ w∈ws,∀ M (C:K3) (D:Mm->Prop),Sub M1 M->(∀ y,Rel w (some y)->C y M)->(Rel w none->D M)->tt (tgt w) M fun b M3=>if b=true then te (tgt w) M3 C else D M3)
  (r:∀ os,Ir Rel ws os->aV (os.filterMap id) M1 R):mP ws keep g tt te τ₀ M1 R:=by
 intro p hp
 refine⟨fun i τ acc M=>St τ/\(∃ os,Ir Rel (ws.take i) os/\acc=os.filterMap id)/\M=M1,⟨h0,⟨[],by simp;exact .nil,rfl⟩,rfl⟩,?_,?_,?_⟩
 ·rintro vs i τ acc M _ mp ⟨_,_,rfl⟩;exact hk _ (Sub.new hp)
 ·rintro vs i w τ acc M hw mp ⟨st,⟨os,po,rfl⟩,rfl⟩
  have hm:w∈ws:=Bc hw
  have hi:i < ws.length:=(An.mp hw).1
  have htk:ws.take (i + 1)=ws.take i ++ [w]:=by rw[Ga,hw];rfl
  have snoc:∀ o,Rel w o->Ir Rel (ws.take (i + 1)) (os ++ [o]):=fun o ro=>by
   rw[htk]
   clear hw mp st htk
   revert os
   generalize ws.take i=l
   intro os po
   induction po with
   | nil=>exact .cons ro .nil
   | cons a b ih=>exact .cons a ih
  have hlen:(os.filterMap id).length < Aj:=by
   have h1:=List.length_filterMap_le id os
   have h2:=Eo po
   rw[Cg] at h2
   lia
  refine hg w hm τ _ _ st (hs w hm _ _ _ (Sub.new hp) (fun y hy=>⟨bA,hlen,M,?_,ht w hm,⟨_,snoc _ hy,?_⟩,rfl⟩) fun hn=>⟨bA,M,?_,ht w hm,⟨_,snoc _ hn,?_⟩,rfl⟩)
  ·rw[rJ hp];exact Sub.refl _
  ·simp
  ·rw[rJ hp];exact Sub.refl _
  ·simp
 ·rintro τ acc M mp ⟨_,⟨os,po,rfl⟩,rfl⟩
  rw[Eu] at po
  exact r os po p hp
def wW(rest:S3):S3->Prop:=fun τ=>∃ o,τ=o :: rest
theorem wX{ws:List W}{keep:Mm->Prop}{te:aS}{o:Option W}{rest:S3}{M1:Mm}{R:K3}(f:W->W)(hl:ws.length<=Aj)(hk:∀ M,Sub M1 M->keep M)
  (hs:∀ w∈ws,∀ M (C:K3),Sub M1 M->C (f w) M->te (some w :: rest) M C) (r:aV (ws.map f) M1 R):mP ws keep (bP 0) iZ te (o :: rest) M1 R:=by
 refine sH (wW rest) (fun w=>some w :: rest) (fun w o=>o=some (f w)) hl hk ⟨_,rfl⟩ (fun w _=>⟨_,rfl⟩) ?_ ?_ ?_
 ·rintro w _ τ M C ⟨o,rfl⟩ h;exact h
 ·intro w hw M C D sb h1 _
  show(if true=true then te (some w :: rest) M C else D M)
  rw[if_pos rfl]
  exact hs w hw M C sb (h1 _ rfl)
 ·intro os po
  have:os.filterMap id=ws.map f:=by
   clear r hs hl hk
   induction po with
   | nil=>rfl
   | cons a b ih=>subst a;simp[ih]
  rw[this];exact r
theorem nT{ws:List W}{keep:Mm->Prop}{tt:dH}{te:aS}{o:Option W}{rest:S3}{M1:Mm}{R:K3}(f:W->Option W)(hl:ws.length<=Aj)(hk:∀ M,Sub M1 M->keep M)
  (hs:∀ w∈ws,∀ M (C:K3) (D:Mm->Prop),Sub M1 M->(∀ y,f w=some y->C y M)->(f w=none->D M)->tt (some w :: rest) M fun b M3=>if b=true then te (some w :: rest) M3 C else D M3)
  (r:aV (ws.filterMap f) M1 R):mP ws keep (bP 0) tt te (o :: rest) M1 R:=by
 refine sH (wW rest) (fun w=>some w :: rest) (fun w o=>o=f w) hl hk ⟨_,rfl⟩ (fun w _=>⟨_,rfl⟩) ?_ ?_ ?_
 ·rintro w _ τ M C ⟨o,rfl⟩ h;exact h
 ·intro w hw M C D sb h1 h2
  exact hs w hw M C D sb (fun y e=>h1 y e.symm) fun e=>h2 e.symm
 ·intro os po
  have:os.filterMap id=ws.filterMap f:=by
   clear r hs hl hk
   induction po with
   | nil=>rfl
   | @cons a b c d e _ ih=>
    subst e
    cases q:f a <;> simp[q,ih]
  rw[this];exact r
theorem wY{ws:List W}{keep:Mm->Prop}{te:aS}{o:Option W}{rest:S3}{M1:Mm}{R:K3}(P:W->W->Prop)(hl:ws.length<=Aj)(hk:∀ M,Sub M1 M->keep M)
  (hs:∀ w∈ws,∀ M (C:K3),Sub M1 M->(∀ y,P w y->C y M)->te (some w :: rest) M C) (r:∀ ys,Ir P ws ys->aV ys M1 R):mP ws keep (bP 0) iZ te (o :: rest) M1 R:=by
 refine sH (wW rest) (fun w=>some w :: rest) (fun w o=>∃ y,o=some y/\P w y) hl hk ⟨_,rfl⟩ (fun w _=>⟨_,rfl⟩) ?_ ?_ ?_
 ·rintro w _ τ M C ⟨o,rfl⟩ h;exact h
 ·intro w hw M C D sb h1 _
  show(if true=true then te (some w :: rest) M C else D M)
  rw[if_pos rfl]
  exact hs w hw M C sb fun y py=>h1 y ⟨y,rfl,py⟩
 ·intro os po
  have:∃ ys,os=ys.map some/\Ir P ws ys:=by
   clear r hs hl hk
   induction po with
   | nil=>exact⟨[],rfl,.nil⟩
   | cons a b ih=>
    obtain⟨y,rfl,py⟩:=a
    obtain⟨ys,rfl,h⟩:=ih
    exact⟨y :: ys,rfl,.cons py h⟩
  obtain⟨ys,rfl,py⟩:=this
  rw[List.filterMap_map]
  have:(ys.filterMap (id ∘ some))=ys:=by simp
  rw[this]
  exact r ys py
def UC(rest:S3):S3->Prop:=fun τ=>∃ o1 o2,τ=o1 :: o2 :: rest
def UD(rest:S3):W->S3
 | .tup [a,b]=>some a :: some b :: rest
 | _=>none :: none :: rest
abbrev DL:eR:=kQ 2 (fE (bP 0) (fE (bP 1) kP))
theorem UE{ws:List W}{keep:Mm->Prop}{tt:dH}{te:aS}{o1 o2:Option W}{rest:S3}{M1:Mm}{R:K3}(P:W->Option W->Prop)(hw:∀ w∈ws,∃ a b,w=.tup [a,b])(hl:ws.length<=Aj)(hk:∀ M,Sub M1 M->keep M)
  (hs:∀ a b,.tup [a,b]∈ws->∀ M (C:K3) (D:Mm->Prop),Sub M1 M->(∀ y,P (.tup [a,b]) (some y)->C y M)->(P (.tup [a,b]) none->D M)->tt (some a :: some b :: rest) M fun b' M3=>if b'=true then te (some a :: some b :: rest) M3 C else D M3)
  (r:∀ os,Ir P ws os->aV (os.filterMap id) M1 R):mP ws keep DL tt te (o1 :: o2 :: rest) M1 R:=by
 refine sH (UC rest) (UD rest) P hl hk ⟨_,_,rfl⟩ (fun w hm=>?_) ?_ ?_ r
 ·obtain⟨a,b,rfl⟩:=hw w hm;exact⟨_,_,rfl⟩
 ·rintro w hm τ M C ⟨u1,u2,rfl⟩ h
  obtain⟨a,b,rfl⟩:=hw w hm
  exact⟨rfl,rfl,h⟩
 ·intro w hm M C D sb h1 h2
  obtain⟨a,b,rfl⟩:=hw w hm
  exact hs a b hm M C D sb h1 h2
theorem UG{ws:List W}{keep:Mm->Prop}{te:aS}{o1 o2:Option W}{rest:S3}{M1:Mm}{R:K3}(P:W->W->Prop)(hw:∀ w∈ws,∃ a b,w=.tup [a,b])(hl:ws.length<=Aj)(hk:∀ M,Sub M1 M->keep M)
  (hs:∀ a b,.tup [a,b]∈ws->∀ M (C:K3),Sub M1 M->(∀ y,P (.tup [a,b]) y->C y M)->te (some a :: some b :: rest) M C)
  (r:∀ ys,Ir P ws ys->aV ys M1 R):mP ws keep DL iZ te (o1 :: o2 :: rest) M1 R:=by
 refine UE (fun w o=>∃ y,o=some y/\P w y) hw hl hk (fun a b hm M C D sb h1 _=>?_) fun os po=>?_
 ·show(if true=true then te (some a :: some b :: rest) M C else D M)
  rw[if_pos rfl]
  exact hs a b hm M C sb fun y py=>h1 y ⟨y,rfl,py⟩
 ·have:∃ ys,os=ys.map some/\Ir P ws ys:=by
   clear r hs hl hk hw
   induction po with
   | nil=>exact⟨[],rfl,.nil⟩
   | cons a b ih=>
    obtain⟨y,rfl,py⟩:=a
    obtain⟨ys,rfl,h⟩:=ih
    exact⟨y :: ys,rfl,.cons py h⟩
  obtain⟨ys,rfl,py⟩:=this
  rw[List.filterMap_map]
  have:(ys.filterMap (id ∘ some))=ys:=by simp
  rw[this]
  exact r ys py
structure Df(K:Ae)(mg:Str->Option Ac)(x:Str)(st:Stmt)(ps:List Str)(f:Addr)(fd:Br):Prop where
 fn:jK K x x st f fd
 at_:mg x=some (.ref f)
 bi:Binds K fd ps []
theorem d9:Cv "len" = some (.builtin "len"):=PySem.boot_len
theorem nU:Cv "list" = some (.type "list"):=by decide +kernel
theorem DM:Cv "tuple" = some (.type "tuple"):=by decide +kernel
theorem UH:Cv "int" = some (.type "int"):=by decide +kernel
theorem UI:Cv "bool" = some (.type "bool"):=by decide +kernel
theorem DN:Cv "dict" = some (.type "dict"):=by decide +kernel
theorem wZ:Cv "isinstance" = some (.builtin "isinstance"):=by decide +kernel
theorem UJ:Cv "all" = some (.builtin "all"):=by decide +kernel
theorem w5:Cv "sorted" = some (.builtin "sorted"):=by decide +kernel
theorem UK{α:Type}(x:α)(xs:List α):b9 (x :: xs) 0=some x:=by simp[b9,iB]
theorem nV{α:Type}{xs:List α}{i:Int}(h0:0<=i)(h1:i < xs.length):∃ x,b9 xs i=some x/\xs[i.toNat]? = some x/\x∈xs:=by
 have hlt:i.toNat < xs.length:=by omega
 refine⟨xs[i.toNat],?_,Am hlt,List.getElem_mem hlt⟩
 simp[b9,iB,h0,h1,hlt]
def mS(x:Str):Prop:=PyData.strOk x=true
theorem eA{n:Nat}(h:n<=10000000):n<=Aj:=Bh h (by decide)
theorem hJ{n:Nat}(h:n < 10000000):n < Aj:=Bt h (by decide)
theorem UL{M:Mm}{a:Addr}{k:Str}{v:W}{kvs:List (aD×W)}{Q:Mm->Prop}(h:M a=some (.dK kvs))(hl:kvs.length < Aj)(q:Q (put M a (.dK (bV kvs (Sum.inr k) v)))):r6 (.ref a) (.str k) v M Q:=.inr (.inl ⟨kvs,.inr k,rfl,h,hl,q⟩)
theorem sI{M:Mm}{a:Addr}{k:List aD}{v:W}{kvs:List (List aD×W)}{Q:Mm->Prop}(h:M a=some (.dT kvs))(hl:kvs.length < Aj)(q:Q (put M a (.dT (bV kvs k v)))):r6 (.ref a) (.tup (k.map wK)) v M Q:=.inr (.inr ⟨kvs,k,rfl,h,hl,q⟩)
section
variable {X:Cx}{a b c:Expr}{ta tb tc:aS}{pos:Pos}
theorem UM{K:Ae}{r r':R3}{σ:SV}{H:Hp}{Q:VK}(h:up K (wN r r' ta tb tc) σ H Q):AI (bY K r) (bY K r') (up K ta) (up K tb) (up K tc) σ H Q:=by
 obtain⟨τ,M,R,as,am,h,k⟩:=h
 refine⟨τ,M,_,as,am,h,fun x H1 wx M1 k1 am1 ax h1=>⟨τ,M1,_,as.kp am k1,am1,h1,fun y H2 wy M2 k2 am2 ay h2=>⟨wx,wy,M2,_,am2,ax.kp am1 k2,ay,h2,fun z H3 wz M3 k3 am3 az ⟨c,e,h3⟩=>?_⟩⟩⟩
 subst e
 refine⟨c,az.bl_inv,?_⟩
 cases c with
 | false=>exact((k.kp k1).kp k2).kp k3 |>.at am3 (.bl false) h3
 | true=>exact⟨τ,M3,_,((as.kp am k1).kp am1 k2).kp am2 k3,am3,h3,fun w H4 ww M4 k4 am4 aw h4=>⟨wy,ww,M4,R,am4,(ay.kp am2 k3).kp am3 k4,aw,h4,(((k.kp k1).kp k2).kp k3).kp k4⟩⟩
theorem UN{op op':CmpOp}{r r':R3}(ho:bB X (Cf op) (bY X.K r))(ho':bB X (Cf op') (bY X.K r'))(ha:E3 X a ta)(hb:E3 X b tb)(hc:E3 X c tc)
  (hm:lastMarks [op,op'] [b,c]=false:=by with_unfolding_all rfl):T3 X (.Compare a [op,op'] [b,c] pos) (cX (wN r r' ta tb tc)):=
 (MY ho ho' ha hb hc hm).weak fun σ H Q z0=>z0.el fun τ M R as am h k=>UM ⟨τ,M,_,as,am,h,fun v H' w M' k' am' av ⟨c,e,r⟩=>by
  subst e
  exact⟨c,av.bl_inv,k c H' M' k' am' r⟩⟩
end
def hU:Nat->List W->List W
 | _,[]=>[]
 | n,w :: r=>.tup [.int n,w] :: hU (n + 1) r
theorem pM:∀ {ws:List W} {n:Nat},(hU n ws).length=ws.length
 | [],_=>rfl
 | _ :: r,n=>by simp[hU,pM (ws:=r)]
theorem w6:∀ {ws:List W} {n i:Nat},(hU n ws)[i]? = (ws[i]?).map fun w=>W.tup [.int ((n + i:Nat):Int),w]
 | [],_,_=>by simp[hU]
 | w :: r,n,0=>by simp[hU]
 | w :: r,n,i + 1=>by
  rw[hU,Mj,Mj,w6]
  congr 2
  funext w
  congr 4
  lia
section
variable {X:Cx}{a b c:Expr}{ta tb tc:aS}{pos:Pos}
theorem DO{K:Ae}{H0:Hp}{M0:Mm}{p:Addr}{vs:List V}{ws:List W}{keep:Mm->Prop}(q0:aL K H0 M0 vs ws)(am0:AM K H0 M0)(st:∀ H M,Kp H0 M0 H M->AM K H M->keep M->bC K H p vs):iH K H0 M0 (vO K p vs) (hU 0 ws) keep:=by
 refine⟨fun i H M k am kp hi=>⟨st H M k am kp,by rw[pM] at hi;rw[q0.length];exact hi⟩,fun H M k am kp=>⟨st H M k am kp,by rw[pM,q0.length];exact Ai _⟩,fun i H M x H' k am kp hi y=>?_⟩
 obtain⟨pp,u,hu,hn,rfl,rfl⟩:=y
 obtain⟨w,hw,av⟩:=(q0.kp am0 k).getV hu
 obtain⟨am2,k2⟩:=am.tup (u:=.tup [.int (i:Nat),u]) hn
 refine⟨.tup [.int ((i:Nat):Int),w],by rw[w6,hw];simp,k2,am2,.tup dZ (.cons (.int _) (.cons (av.go (go_same hn)) .nil))⟩
def w9(ta:dJ):gY:=fun τ M R=>ta τ M fun ws M1=>match ws with
 | [.rl zs]=>R (hU 0 zs) (fun _=>True) M1
 | [.sc zs]=>R (hU 0 zs) (fun _=>True) M1
 | [.ref p]=>∃ zs,M1 p=some (.lst zs)/\False
 | _=>False
theorem DP{tA:dJ}{p pos:Pos}{es:List Expr}{kx:Nat}{px:Pos}(hg:Gl X "enumerate")(hm:X.mg "enumerate" = none)(ha:A3 X [a] tA)(hs:Bj [a] X.env=[(false,eval a X.env)]:=by rfl):PI X (.Tuple es kx px) (.Call (.Name "enumerate" p) [a] [] pos) (gZ X.K (w9 tA)):=
 (RB hg hm ha hs).weak fun σ H R' z0=>z0.el fun τ M R as am h k=>⟨τ,M,_,as,am,h,fun vs H1 ws M1 k1 am1 ax r=>by
  match ws,r with
  | [.rl zs],r=>
   obtain⟨v,rfl,av⟩:=ax.one
   cases av with
   | rl e n q=>exact⟨_,_,rfl,bC.of e,k _ _ _ _ _ k1 am1 (DO q am1 fun H M k _ _=>bC.of (k.fr _ _ n e).1) r⟩
  | [.sc zs],r=>
   obtain⟨v,rfl,av⟩:=ax.one
   cases av with
   | sc e q=>exact⟨_,_,rfl,e.sq,k _ _ _ _ _ k1 am1 (DO q am1 fun H M k _ _=>by
     refine kG.sq ?_
     rcases e with⟨o,e⟩ | e
     ·exact .inl ⟨o,(k.fr _ _ (am1.noFrz e) e).1⟩
     ·exact .inr e) r⟩
  | [.ref p],r=>obtain⟨_,_,f⟩:=r;exact f.elim⟩
def iI:List W->List W->List W
 | x :: xs,y :: ys=>.tup [x,y] :: iI xs ys
 | _,_=>[]
theorem lQ:∀ {xs ys:List W},(iI xs ys).length=min xs.length ys.length
 | [],_=>by simp[iI]
 | _ :: _,[]=>by simp[iI]
 | _ :: xs,_ :: ys=>by simp[iI,lQ (xs:=xs)]
theorem sJ:∀ {xs ys:List W} {i:Nat} {x y:W},xs[i]? = some x->ys[i]? = some y->(iI xs ys)[i]? = some (.tup [x,y])
 | [],_,_,_,_,h,_=>by simp at h
 | _ :: _,[],_,_,_,_,h=>by simp at h
 | _ :: xs,_ :: ys,0,_,_,h,h'=>by simp at h h';simp[iI,h,h']
 | _ :: xs,_ :: ys,i + 1,_,_,h,h'=>by simpa [iI] using sJ (xs:=xs) (ys:=ys) (i:=i) (by simpa using h) (by simpa using h')
end
section
variable {X:Cx}{a b c:Expr}{ta tb tc:aS}{pos:Pos}
theorem UO{K:Ae}{H0:Hp}{M0:Mm}{p q:Addr}{vs us:List V}{ws zs:List W}(am0:AM K H0 M0)(e1:H0 p=some (.tup vs))(e2:H0 q=some (.tup us))(r1:aL K H0 M0 vs ws)(r2:aL K H0 M0 us zs):iH K H0 M0 (rG K p q vs us) (iI ws zs) fun _=>True:=by
 have s1:∀ H M,Kp H0 M0 H M->bM K H p vs:=fun H M k=>bM.of (k.fr _ _ (am0.noTup e1) e1).1
 have s2:∀ H M,Kp H0 M0 H M->bM K H q us:=fun H M k=>bM.of (k.fr _ _ (am0.noTup e2) e2).1
 refine⟨fun i H M k am _ hi=>⟨s1 H M k,s2 H M k,?_,?_⟩,fun H M k am _=>⟨s1 H M k,s2 H M k,?_⟩,fun i H M x H' k am _ hi y=>?_⟩
 ·rw[lQ] at hi;rw[r1.length];lia
 ·rw[lQ] at hi;rw[r2.length];lia
 ·rw[lQ,r1.length,r2.length];lia
 ·obtain⟨pp,u,v,hu,hv,hn,rfl,rfl⟩:=y
  obtain⟨w,hw,av⟩:=(r1.kp am0 k).getV hu
  obtain⟨z,hz,az⟩:=(r2.kp am0 k).getV hv
  obtain⟨am2,k2⟩:=am.tup (u:=.tup [u,v]) hn
  exact⟨.tup [w,z],sJ hw hz,k2,am2,.tup dZ (.cons (av.go (go_same hn)) (.cons (az.go (go_same hn)) .nil))⟩
theorem UP{K:Ae}{H0:Hp}{M0:Mm}{p q:Addr}{vs us:List V}{ws zs:List W}(am0:AM K H0 M0)(e1:H0 p=some (.lst vs))(n1:M0 p=none)(e2:H0 q=some (.lst us))(n2:M0 q=none)(r1:aL K H0 M0 vs ws)(r2:aL K H0 M0 us zs):iH K H0 M0 (rF K p q vs us) (iI ws zs) fun _=>True:=by
 have s1:∀ H M,Kp H0 M0 H M->bC K H p vs:=fun H M k=>bC.of (k.fr _ _ n1 e1).1
 have s2:∀ H M,Kp H0 M0 H M->bC K H q us:=fun H M k=>bC.of (k.fr _ _ n2 e2).1
 refine⟨fun i H M k am _ hi=>⟨s1 H M k,s2 H M k,?_,?_⟩,fun H M k am _=>⟨s1 H M k,s2 H M k,?_⟩,fun i H M x H' k am _ hi y=>?_⟩
 ·rw[lQ] at hi;rw[r1.length];lia
 ·rw[lQ] at hi;rw[r2.length];lia
 ·rw[lQ,r1.length,r2.length];lia
 ·obtain⟨pp,u,v,hu,hv,hn,rfl,rfl⟩:=y
  obtain⟨w,hw,av⟩:=(r1.kp am0 k).getV hu
  obtain⟨z,hz,az⟩:=(r2.kp am0 k).getV hv
  obtain⟨am2,k2⟩:=am.tup (u:=.tup [u,v]) hn
  exact⟨.tup [w,z],sJ hw hz,k2,am2,.tup dZ (.cons (av.go (go_same hn)) (.cons (az.go (go_same hn)) .nil))⟩
def UQ:List W->Mm->(List W->(Mm->Prop)->Mm->Prop)->Prop
 | [.tup xs,.tup ys],M,R=>R (iI xs ys) (fun _=>True) M
 | [.rl xs,.rl ys],M,R=>R (iI xs ys) (fun _=>True) M
 | _,_,_=>False
def DQ(ta:dJ):gY:=fun τ M R=>ta τ M fun ws M1=>UQ ws M1 R
theorem UR{tA:dJ}{p pos:Pos}{es:List Expr}{kx:Nat}{px:Pos}(hg:Gl X "zip")(hm:X.mg "zip" = none)(ha:A3 X [a,b] tA)(hs:Bj [a,b] X.env=[(false,eval a X.env),(false,eval b X.env)]:=by rfl)(hs2:Bj [b] X.env=[(false,eval b X.env)]:=by rfl) :
  PI X (.Tuple es kx px) (.Call (.Name "zip" p) [a,b] [] pos) (gZ X.K (DQ tA)):=
 (RN hg hm ha hs hs2).weak fun σ H R' z0=>z0.el fun τ M R as am h k=>⟨τ,M,_,as,am,h,fun vs H1 ws M1 k1 am1 ax r=>by
  match ws,r with
  | [.tup xs,.tup ys],r=>
   obtain⟨v,u,e,av,au⟩:=ax.two
   obtain⟨a1,x1,f1,e1,q1⟩:=av.inv
   obtain⟨a2,x2,f2,e2,q2⟩:=au.inv
   exact⟨a1,a2,_,_,by rw[e,f1,f2],.inl ⟨bM.of e1,bM.of e2,k _ _ _ _ _ k1 am1 (UO am1 e1 e2 q1 q2) r⟩⟩
  | [.rl xs,.rl ys],r=>
   obtain⟨v,u,e,av,au⟩:=ax.two
   obtain⟨a1,x1,f1,e1,n1,q1⟩:=av.inv
   obtain⟨a2,x2,f2,e2,n2,q2⟩:=au.inv
   exact⟨a1,a2,_,_,by rw[e,f1,f2],.inr ⟨bC.of e1,bC.of e2,k _ _ _ _ _ k1 am1 (UP am1 e1 n1 e2 n2 q1 q2) r⟩⟩⟩
end
section
variable {X:Cx}
theorem aL.intsL{K:Ae}{H:Hp}{M:Mm}{ns:List Int}{vs:List V}(h:aL K H M vs (ns.map W.int)):vs=ns.map V.int:=h.ints
end
end L3
namespace PySem
namespace Rl
open PyProof.Rows L2 PySem.Spec
section
variable {prog:Bl}{w:Cd}{A:Bu}{E:Ac->Ah->Prop}{s:Ah}
end
end Rl
end PySem
namespace L2
open PySem PySem.Spec PyProof.Rows
section
variable {X:Cx}{a:Expr}{ta:TA}{p p2 pos pos2:Pos}
end
end L2
namespace L3
open PySem PySem.Spec PyProof.Rows L2
section
variable {X:Cx}{a:Expr}{ta:aS}{pos:Pos}
end
end L3
namespace PySem
namespace Dp
open PyProof.Rows L2 PySem.Spec
section
variable {prog:Bl}{w:Cd}{A:Bu}{E:Ac->Ah->Prop}{s:Ah}
theorem US:typeLookup (.type "list") "keys" = pure none:=by rw[Lm,Je];kernel_rfl
theorem keys_miss{a:Addr}{xs:Array Ac}{k:Nat}{Q:Option Ac->Ah->Prop}(hx:s.heap.get? a=some {cls:=.type "list",data:=.seq xs k})(hA:A.handled=none)
  (h:∀ h' tk,(∀ b o,s.heap.get? b=some o->h'.get? b=some o)->Q none {s with heap:=h',toks:=tk}):Ax (Bk prog w) A (getAttr? (.ref a) (Cz "keys")) Q E s:=by
 obtain⟨hp,g,d,tk,os⟩:=s
 have hT:∀ tk',(⟨hp,g,d,tk',os⟩:Ah).TypeIs (.ref a) "list":=fun _=>⟨_,hx,rfl⟩
 have f1:=sub_AttributeError
 have f3:=Mr.lookup
 have f4:=Mr.bind (.ref a)
 have f5:=am_list_getattr_none
 unfold getAttr? getAttrBy? getAttrBy
 repeat (any_goals (first | assumption | exact hT _ | ((with_reducible show Ax _ _ (call (Value.builtin "list.__getattribute__") _ _) _ _ _);refine Lh Mr (hT _) am_entry_list_getattribute (F.args_list_getattribute_2 _ _) (meets_getattribute_miss_list a xs k #[] (Cz "keys") _ US (by decide +kernel) (by decide +kernel)) ⟨hx,hA,fun h' tk' e hx'=>?_⟩) | wp_step))
 obtain⟨t',u',he⟩:=hx'.there
 have hx2:=hx'.of.keeps
 show Ax _ _ (getattributeRaised _ _ _ _ _ _ _) _ _ _
 unfold getattributeRaised
 repeat (any_goals (first | assumption | wp_step))
 exact h _ _ hx2
theorem entry_loop:entryFor table "dict.update.loop" = some Hg.«dict.update.loop»:=entryFor_of_tree (by kernel_rfl)
theorem plain_loop:plainId "dict.update.loop" = true:=by decide +kernel
variable {K:Type}[DecidableEq K]{knd:KeyKind prog w K}
theorem UT(kvs:List (K×Ac))(k:K)(v:Ac):(stored kvs k v).length<=kvs.length + 1:=by
 unfold stored
 split
 ·rw[Ab];lia
 ·rw[Aw,Eb];exact Ai _
def all(kvs:List (K×Ac))(ps:List (K×Ac)):List (K×Ac):=ps.foldl (fun kvs p=>stored kvs p.1 p.2) kvs
theorem loop{d I l:Addr}{items:Array Ac}{ps:List (K×Ac)}{R:Result->Ah->Prop}(hh:A.handled=none)(hdI:d≠I)(hdl:d≠l)(hlI:l≠I)(hn:ps.length=items.size)(hz:items.size<=Aj) :
  ∀ (k i:Nat) (s:Ah) (kvs:List (K×Ac)),items.size - i=k->i<=items.size->kvs.length<=i->s.heap.IsListIter I l i->s.heap.IsList l items->s.heap.DictOf knd d kvs->
  (∀ (j:Nat) (p:K×Ac),ps[j]? = some p->∃ (a:Addr) (key:Ac),items[j]? = some (.ref a)/\a≠d/\a≠I/\s.heap.IsTuple a #[key,p.2]/\knd.is p.1 key=true)->
  (∀ h' tk,(∀ b o,b≠d->b≠I->s.heap.get? b=some o->h'.get? b=some o)->h'.DictOf knd d (all kvs (ps.drop i))->R (.ok (.ret .none)) {s with heap:=h',toks:=tk})->
  Jv (Bk prog w) A (.builtin "dict.update.loop" ⟨[.ref d,.ref I,Gv (i:Int),.none],[]⟩) R s:=by
 intro k
 induction k with
 | zero=>
  intro i s kvs hk hi hl hit hls hd hp hR
  have hin:i=items.size:=by lia
  refine Fv entry_loop ?_
  rw[Em plain_loop _]
  show Ax _ A.in1 (Hz (.ref I) >>= _) _ _ s
  have W:=Mo (prog:=prog) (w:=w) (A:=A.in1) hh I l hlI items
  refine Aa (W.done s _ _ (by rw[<-hin];exact⟨hit,hls⟩) fun h' tk hm=>?_)
  show Ax _ A.in1 (Builtin.Dict.addKeywords d [] >>= _) _ _ _
  have hd':h'.DictOf knd d kvs:=by
   obtain⟨o,es,ep,ho,rest⟩:=hd
   exact⟨o,es,ep,hm d o (by simp[hdI]) ho,rest⟩
  refine Aa (Ag (Ag (hR h' tk (fun b o _ hb e=>hm b o (by simp[hb]) e) ?_)))
  rw[Ki (by lia)]
  exact hd'
 | succ k ih=>
  intro i s kvs hk hi hl hit hls hd hp hR
  have hlt:i < items.size:=by lia
  refine Fv entry_loop ?_
  rw[Em plain_loop _]
  show Ax _ A.in1 (Hz (.ref I) >>= _) _ _ s
  have W:=Mo (prog:=prog) (w:=w) (A:=A.in1) hh I l hlI items
  refine Aa (W.item i s _ _ hlt ⟨hit,hls⟩ fun v h' tk hv hst hm=>?_)
  obtain⟨p,hpi⟩:∃ p,ps[i]? = some p:=⟨_,Am (by lia)⟩
  obtain⟨a,key,ha,had,haI,hat,hkey⟩:=hp i p hpi
  rw[ha] at hv
  cases hv
  have hd':h'.DictOf knd d kvs:=by
   obtain⟨o,es,ep,ho,rest⟩:=hd
   exact⟨o,es,ep,hm d o (by simp[hdI]) ho,rest⟩
  have hat':h'.IsTuple a #[key,p.2]:=by
   obtain⟨o,ho,rest⟩:=hat
   exact⟨o,hm a o (by simp[haI]) ho,rest⟩
  show Ax _ A.in1 (Iq [Value.ref a] _ >>= _) _ _ _
  refine Aa (Cs (Aa (wpAny_tryCatch ?_)))
  unfold Builtin.Dict.pairItems
  obtain⟨o,ho,hc,n,hd2⟩:=hat'
  refine Aa (Kq (T:="tuple") ⟨o,ho,hc⟩ ?_)
  rw[if_pos (by decide)]
  refine Aa (Gg ho hd2 (Ag ?_))
  show Ax _ _ (Iq [key,p.2] (dictSet d key p.2)) _ _ _
  refine Cs (wpAny_dictSet_pairs hkey hd' (hsz:=by lia) fun h2 hd3 hs2=>?_)
  have e1:ps.drop i=p :: ps.drop (i + 1):=by rw[Hb (by lia)];congr 1;exact(An.mp hpi).2
  refine Ag ⟨Hw plain_loop _,?_⟩
  refine ih (i + 1) _ (stored kvs p.1 p.2) (by lia) hlt (by have:=UT kvs p.1 p.2;lia) (hst.1.at fun o e=>(hs2.2 I (Bq hdI)).trans e) (hst.2.at fun o e=>(hs2.2 l (Bq hdl)).trans e) hd3 (fun j q hq=>?_) fun h3 tk3 hk3 hd4=>?_
  ·obtain⟨a,key,g1,g2,g3,⟨o,g4,g5⟩,g6⟩:=hp j q hq
   exact⟨a,key,g1,g2,g3,⟨o,(hs2.2 a g2).trans (hm a o (by simp[g3]) g4),g5⟩,g6⟩
  ·refine hR h3 tk3 (fun b o h1 h2 e=>hk3 b o h1 h2 ((hs2.2 b h1).trans (hm b o (by simp[h2]) e))) ?_
   rw[e1];exact hd4
theorem call_pairs{l:Addr}{items:Array Ac}{c:Nat}{ps:List (K×Ac)}{Q:Ac->Ah->Prop}(hh:A.handled=none)(hx:s.heap.get? l=some {cls:=.type "list",data:=.seq items c})(hn:ps.length=items.size)(hz:items.size<=Aj)
  (hp:∀ (j:Nat) (p:K×Ac),ps[j]? = some p->∃ (a:Addr) (key:Ac),items[j]? = some (.ref a)/\s.heap.IsTuple a #[key,p.2]/\knd.is p.1 key=true)
  (h:∀ h' tk,(∀ b o,s.heap.get? b=some o->h'.get? b=some o)->h'.DictOf knd s.heap.objs.size (all [] ps)->Q (.ref s.heap.objs.size) {s with heap:=h',toks:=tk}) :
  Ax (Bk prog w) A (call (.type "dict") [.ref l]) Q E s:=by
 refine callType_codes (Q₁:=fun obj s₁=>obj=.ref s.heap.objs.size/\s₁ = {s with heap:=s.heap.push {cls:=.type "dict",data:=.dict #[]}}) F.kt_called_dict (F.kt_typeCall_dict_1 _) F.entry_dict_init (kt_code_dict_new _ ⟨rfl,rfl⟩) ?_
 rintro obj s₁ ⟨rfl,rfl⟩
 have lt:l < s.heap.objs.size:=Ak hx
 have hnew:(s.heap.push {cls:=.type "dict",data:=.dict #[]}).DictOf knd s.heap.objs.size []:=Heap.DictOf.new s.heap
 have hx':(s.heap.push {cls:=.type "dict",data:=.dict #[]}).get? l=some {cls:=.type "list",data:=.seq items c}:=Af _ hx
 refine⟨hnew.typeIs,F.args_dict_init_2 _ _,?_⟩
 unfold Hg.«dict.__init__»
 refine Aa ?_
 unfold Builtin.Dict.selfAndRest
 refine Aa (Jd hnew.typeIs ?_)
 show Ax _ _ (pure (s.heap.objs.size,[Value.ref l])) _ _ _
 refine Ag ?_
 show Ax _ _ (Jf "dict.__init__" s.heap.objs.size (.ref l) [] .none) _ _ _
 unfold Jf
 refine Aa (Kq (T:="list") ⟨_,hx',rfl⟩ ?_)
 rw[if_pos (by decide)]
 refine Aa (keys_miss hx' hh fun h1 tk1 hk1=>?_)
 rw[if_pos (by decide)]
 have hx1:=hk1 _ _ hx'
 have hd1:h1.DictOf knd s.heap.objs.size []:=by
  obtain⟨o,es,ep,ho,rest⟩:=hnew
  exact⟨o,es,ep,hk1 _ o ho,rest⟩
 refine Aa (Ei (Aa (Jh (items:=items) ⟨_,hx1,rfl,c,rfl⟩ ?_)))
 have gI:(h1.push {cls:=.type "list_iterator",data:=.fields #[.ref l,.int 0 0]}).IsListIter h1.objs.size l 0:=⟨_,Ap _ rfl,rfl,rfl⟩
 have up:∀ b o,s.heap.get? b=some o->(h1.push {cls:=.type "list_iterator",data:=.fields #[.ref l,.int 0 0]}).get? b=some o:=fun b o e=>Af _ (hk1 b o (Af _ e))
 have l1:s.heap.objs.size < h1.objs.size:=by
  obtain⟨o,es,ep,ho,rest⟩:=hd1
  exact Ak ho
 refine Ag ⟨Hw plain_loop _,?_⟩
 refine loop (A:=A.in1) (knd:=knd) (d:=s.heap.objs.size) (I:=h1.objs.size) (l:=l) (items:=items) (ps:=ps) hh (Be l1) (Dy lt) (Be (Hh lt l1)) hn hz items.size 0 _ [] rfl (Bx _) (Ai _) gI ⟨_,Af _ hx1,rfl,c,rfl⟩ (by
  obtain⟨o,es,ep,ho,rest⟩:=hd1
  exact⟨o,es,ep,Af _ ho,rest⟩) (fun j p hj=>?_) fun h2 tk2 hk2 hd2=>?_
 ·obtain⟨a,key,g1,⟨o,g2,g3⟩,g4⟩:=hp j p hj
  have la:=Ak g2
  exact⟨a,key,g1,Be la,Be (Hh la l1),⟨o,up a o g2,g3⟩,g4⟩
 ·exact⟨rfl,h h2 tk2 (fun b o e=>hk2 b o (Be (Ak e)) (Be (Hh (Ak e) l1)) (up b o e)) hd2⟩
end
end Dp
end PySem
namespace L3
open PySem PySem.Spec PyProof.Rows L2
section
variable {X:Cx}
def sL(kvs:List (aD×W))(ps:List (aD×W)):List (aD×W):=ps.foldl (fun kvs p=>bV kvs p.1 p.2) kvs
def sM(ps:List (aD×W)):List W:=ps.map fun p=>.tup [wK p.1,p.2]
theorem DR{pins:List (Addr×Obj)}{σ:L2.St}{H:Hp}{M:Mm}{s:Ah}(I:L2.Inv X pins σ H s):∀ {ps:List (aD×W)} {vs:List V} {its:List Ac},aL X.K H M vs (sM ps)->aQ vs its->
  ∃ (ks:List (aD×V)) (rs:List (aD×Ac)),bN X.K H M aD ks ps/\KV ks rs/\rs.length=its.length/\
   ∀ (j:Nat) (p:aD×Ac),rs[j]? = some p->∃ (a:Addr) (key:Ac),its[j]? = some (.ref a)/\s.heap.IsTuple a #[key,p.2]/\(dA X.prog X.w).is p.1 key=true
 | [],_,_,.nil,.nil=>⟨[],[],.nil,.nil,rfl,fun j p h=>by simp at h⟩
 | (k,w) :: ps,_,_,.cons av avs,.cons rv rvs=>by
  obtain⟨ks,rs,h1,h2,h3,h4⟩:=DR I avs rvs
  obtain⟨a,xs,ev,e,q⟩:=av.inv
  rw[ev] at rv
  obtain⟨u1,u2,ex,a1,a2⟩:=q.two
  obtain⟨its2,r2,pl,_⟩:=I.tuple (bM.of e)
  rw[ex,a1.key] at r2
  obtain⟨y1,y2,ey,x1,x2⟩:=vals2 r2
  rw[ey] at pl
  refine⟨(k,u2) :: ks,(k,y2) :: rs,.cons ⟨rfl,a2⟩ h1,.cons ⟨rfl,x2⟩ h2,congrArg (· + 1) h3,fun j p hj=>?_⟩
  cases j with
  | zero=>rw[<-Dz hj];exact⟨a,y1,congrArg some rv,pl,lC x1⟩
  | succ j=>exact h4 j p hj
theorem DS{H:Hp}{M:Mm}:∀ {ps:List (aD×W)} {ks:List (aD×V)} {rs:List (aD×Ac)} {kvs:List (aD×W)} {ls:List (aD×V)} {us:List (aD×Ac)},bN X.K H M aD ks ps->KV ks rs->bN X.K H M aD ls kvs->KV ls us->
  ∃ ls':List (aD×V),bN X.K H M aD ls' (sL kvs ps)/\KV ls' (Dp.all us rs)/\ls'.length<=ls.length + ps.length
 | [],_,_,_,ls,_,.nil,.nil,h1,h2=>⟨ls,h1,h2,Ai _⟩
 | p :: ps,_,_,_,ls,_,.cons (a:=a) x r,.cons (b:=b) y t,h1,h2=>by
  obtain⟨k,w⟩:=p
  obtain⟨k1,v⟩:=a
  obtain⟨k2,u⟩:=b
  obtain⟨x1,x2⟩:=x
  obtain⟨y1,y2⟩:=y
  cases x1;cases y1
  obtain⟨ls',g1,g2,g3⟩:=DS (kvs:=bV _ k w) r t (rV h1 k x2) (h2.put k y2)
  have:=oT ls k v
  exact⟨ls',g1,g2,by simp at g3 ⊢;lia⟩
def DT:List W->Mm->K3->Prop
 | [.rl ws],M,R=>∃ ps:List (aD×W),ws=sM ps/\ws.length<=Aj/\R (.dk (sL [] ps)) M
 | _,_,_=>False
theorem UU(hc:X.calm=true):cU X (.type "dict") (fZ X.K DT):=by
 rintro pins s σ H xs us Q I rs ⟨ws,M,R,am,axs,h,k⟩
 match ws,h with
 | [.rl ws],h=>
  obtain⟨v,rfl,av⟩:=axs.one
  obtain⟨ps,rfl,hz,r⟩:=h
  obtain⟨u,rfl,ru⟩:=vals1 rs
  cases av with
  | rl f n q=>
   cases ru
   obtain⟨z,its,c,rv,hl,e⟩:=I.lstM f
   obtain⟨ks,rs',h1,h2,h3,h4⟩:=DR I q rv
   obtain⟨ls,g1,g2,g3⟩:=DS h1 h2 .nil .nil
   refine Dp.call_pairs (knd:=dA X.prog X.w) (items:=its.toArray) (ps:=rs') (I.ok.hd hc) e (by simpa using h3) (by rw[Bb];lia) (fun j p hj=>by simpa using h4 j p hj) fun h' tk hk hd=>?_
   have hz2:ps.length<=Aj:=by simpa [sM] using hz
   have hfr:=I.hok.fresh (Ai _)
   refine⟨.ref s.heap.objs.size,aN H s.heap.objs.size (.dK ls),I.laid (o:=.dK ls) (t':=tk) hk (Ai _) ⟨by simp at g3;lia,beq_eq_false_iff_ne.mpr (Bq (Be I.big)),_,g2,hd⟩,rfl,?_⟩
   obtain⟨am2,k2⟩:=am.tup (u:=.dK ls) hfr
   exact k _ _ _ _ k2 am2 (.dk dZ (am.nonM hfr) g1.keys (g1.vals.newT hfr)) r
end
section
variable {X:Cx}
end
def bQ(f:Str)(w:W):List (Str×W)->List (Str×W)
 | []=>[(f,w)]
 | (k,x) :: r=>if k=f then(k,w) :: r else(k,x) :: bQ f w r
section
variable {K:Ae}{H:Hp}{M:Mm}
theorem bN.look{f:Str}{w:W}:∀ {gs:List (Str×V)} {fs:List (Str×W)},bN K H M Str gs fs->fs.lookup f=some w->∃ v,gs.lookup f=some v/\AV K H M v w
 | _,_,.nil,h=>by cases h
 | _,_,.cons (a:=(k,v)) (b:=(k',w')) r t,h=>by
  obtain⟨rfl,av⟩:=r
  by_cases hk:(f == k)=true
  ·simp only[Cm,hk] at h ⊢
   cases h
   exact⟨v,rfl,av⟩
  ·have hk':(f == k)=false:=by simpa using hk
   simp only[Cm,hk'] at h ⊢
   exact bN.look t h
theorem bN.lookN{f:Str}:∀ {gs:List (Str×V)} {fs:List (Str×W)},bN K H M Str gs fs->fs.lookup f=none->gs.lookup f=none
 | _,_,.nil,_=>rfl
 | _,_,.cons (a:=(k,v)) (b:=(k',w')) r t,h=>by
  obtain⟨rfl,av⟩:=r
  by_cases hk:(f == k)=true
  ·simp only[Cm,hk] at h
   cases h
  ·have hk':(f == k)=false:=by simpa using hk
   simp only[Cm,hk'] at h ⊢
   exact bN.lookN t h
theorem bN.putF{f:Str}{v:V}{w:W}(av:AV K H M v w):∀ {gs:List (Str×V)} {fs:List (Str×W)},bN K H M Str gs fs->bN K H M Str (L2.putF f v gs) (bQ f w fs)
 | _,_,.nil=>.cons ⟨rfl,av⟩ .nil
 | _,_,.cons (a:=(k,v')) (b:=(k',w')) r t=>by
  obtain⟨rfl,av'⟩:=r
  show bN K H M Str (if k=f then(k,v) :: _ else(k,v') :: L2.putF f v _) (if k=f then(k,w) :: _ else(k,w') :: bQ f w _)
  by_cases hk:k=f
  ·rw[if_pos hk,if_pos hk];exact .cons ⟨rfl,av⟩ t
  ·rw[if_neg hk,if_neg hk];exact .cons ⟨rfl,av'⟩ (bN.putF av t)
theorem bN.len{κ:Type}{gs:List (κ×V)}{fs:List (κ×W)}(h:bN K H M κ gs fs):gs.length=fs.length:=by
 have:=congrArg Dl h.keys
 simpa using this
end
section
variable {X:Cx}{C:Addr}{f m:Str}{pos apos cpos:Pos}{ta tv:aS}{o e value:Expr}{es:List Expr}{t:dJ}{sp:bS}
def cM(C:Addr)(ta:aS)(f:Str):aS:=fun τ M R=>ta τ M fun x M1=>∃ a dx fs w,x=.ref a/\M1 a=some (.ins C dx fs)/\fs.lookup f=some w/\R w M1
theorem dN(c:fX X.K C)(n:fJ X.K C f)(he:E3 X o ta)(hb:Ke o f X.env (eval o X.env)=eval o X.env:=by rfl):E3 X (.Attribute o f pos) (cM C ta f):=
 (NN he hb).weak fun σ H Q z0=>z0.el fun τ M R as am h k=>⟨τ,M,_,as,am,h,fun x H1 wx M1 k1 am1 ax ⟨a,dx,fs,w,e1,e2,e3,r⟩=>by
  subst e1
  obtain rfl:=ax.inv
  obtain⟨gs,e4,q⟩:=am1 a _ e2
  obtain⟨v,e5,av⟩:=q.look e3
  exact⟨a,C,dx,gs,v,rfl,e4,c,n,e5,k _ _ _ _ k1 am1 av r⟩⟩
def i8(C:Addr)(ta:aS)(f:Str)(tv:aS):aK:=fun D τ M=>tv τ M fun y M1=>ta τ M1 fun x M2=>∃ a dx fs,x=.ref a/\M2 a=some (.ins C dx fs)/\fs.length < 1000/\D.nx τ (put M2 a (.ins C dx (bQ f y fs)))
theorem jV(c:fX X.K C)(n:fJ X.K C f)(ha:E3 X o ta)(hv:E3 X value tv)(hs:Kj value (some (.Attribute o f apos)) pos.line X.env=pure false:=by rfl):P3 X (.Assign [.Attribute o f apos] value pos) (i8 C ta f tv):=
 (NO ha hv hs).weak fun D σ H z0=>z0.el fun τ M D' as am h k=>⟨τ,M,_,as,am,h,fun y H1 wy M1 k1 am1 ay h1=>⟨τ,M1,_,as.kp am k1,am1,h1,fun x H2 wx M2 k2 am2 ax ⟨a,dx,fs,e1,e2,hl,r⟩=>by
  subst e1
  obtain rfl:=ax.inv
  obtain⟨gs,e4,q⟩:=am2 a _ e2
  refine⟨a,C,dx,gs,rfl,e4,c,n,by rw[q.len];exact hl,?_⟩
  obtain⟨am3,k3⟩:=am2.write (o:=.ins C dx (bQ f wy fs)) (u:=.ins C dx (L2.putF f y gs)) e2 ⟨_,dZ,((q.putF (ay.kp am1 k2))).go (nI am2 e2)⟩
  exact k.nx _ _ _ _ ((k1.trans k2).trans k3) am3 (((as.kp am k1).kp am1 k2).kp am2 k3) r⟩⟩
variable {k:Nat}{g:Addr}{fd:Br}{ps:List Str}
def gN(C:Addr)(m:Str)(sp:bS)(ta:aS)(t:dJ):aS:=fun τ M R=>ta τ M fun x M1=>∃ a dx fs,x=.ref a/\M1 a=some (.ins C dx fs)/\fs.lookup m=none/\t τ M1 fun ws M2=>sp (.ref a :: ws) M2 R
theorem UW{σ:SV}{H:Hp}{Q:VK}(h:up X.K (gN C m sp ta t) σ H Q):uZ C m (gK X.K sp) [] E0 (up X.K ta) (nJ X.K t) σ H Q:=by
 obtain⟨τ,M,R,as,am,h,k⟩:=h
 refine⟨τ,M,_,as,am,h,fun x H1 wx M1 k1 am1 ax ⟨a,dx,fs,e1,e2,e3,h1⟩=>?_⟩
 subst e1
 obtain rfl:=ax.inv
 obtain⟨gs,e4,q⟩:=am1 a _ e2
 refine⟨a,dx,gs,rfl,e4,q.lookN e3,τ,M1,_,as.kp am k1,am1,h1,fun vs H2 ws M2 k2 am2 avs h2=>⟨.ref a :: ws,M2,R,am2,?_,h2,k.kp (k1.trans k2)⟩⟩
 rw[Gf]
 exact .cons (.ref a) avs
theorem lR{pl:Sem Bool}(c:fX X.K C)(hm:nE X.K C m g)(F:eW X.prog X.w X.K X.mg X.base fY k g fd ps (gK X.K sp))(hr:cF k X.A)(hb:Binds X.K fd ps [])(he:E3 X o ta)(ha:A3 X (e :: es) t)
  (hst:Bj (e :: es) X.env=(false,eval e X.env) :: Bj es X.env:=by rfl) (hpl:(Ia pos (Bj es X.env)).any (·.1)=false:=by rfl)
  (ht:eval (.Call (.Attribute o m apos) (e :: es) [] pos) X.env=(do
   let ov <-eval o X.env
   Og apos.atName
   let (f,first) <-Iq [ov] (Oi ov m pl)
   callWith pos f first (Ia pos (Bj (e :: es) X.env)) (backToKw pos (Ms [] X.env))):=by rfl) :
  E3 X (.Call (.Attribute o m apos) (e :: es) [] pos) (gN C m sp ta t):=(NZ (pl:=pl) he c hm F hr hb .nil oU ha hst hpl ht).weak fun _ _ _ h=>UW h
theorem xA{pl:Sem Bool}(c:fX X.K C)(hm:nE X.K C m g)(F:eW X.prog X.w X.K X.mg X.base fY k g fd ps (gK X.K sp))(hr:cF k X.A)(hb:Binds X.K fd ps [])(he:E3 X o ta)
  (ht:eval (.Call (.Attribute o m apos) [] [] pos) X.env=(do
   let ov <-eval o X.env
   Og apos.atName
   let (f,first) <-Iq [ov] (Oi ov m pl)
   callWith pos f first (Ia pos (Bj [] X.env)) (backToKw pos (Ms [] X.env))):=by rfl) :
  E3 X (.Call (.Attribute o m apos) [] [] pos) (gN C m sp ta aE):=(N0 (pl:=pl) he c hm F hr hb .nil oU ht).weak fun σ H Q h=>by
 obtain⟨τ,M,R,as,am,h,k⟩:=h
 refine⟨τ,M,_,as,am,h,fun x H1 wx M1 k1 am1 ax ⟨a,dx,fs,e1,e2,e3,h1⟩=>?_⟩
 subst e1
 obtain rfl:=ax.inv
 obtain⟨gs,e4,q⟩:=am1 a _ e2
 exact⟨a,dx,gs,rfl,e4,q.lookN e3,[.ref a],M1,R,am1,.cons (.ref a) .nil,h1,k.kp k1⟩
def sN(C:Addr)(sp:bS)(t:dJ):aS:=fun τ M R=>t τ M fun ws M1=>∀ a dx,M1 a=none->M1 dx=none->dx≠a->sp (.ref a :: ws) (put M1 a (.ins C dx [])) fun w M2=>w=.non/\R (.ref a) M2
theorem AM.made{K:Ae}{H:Hp}{M:Mm}{x dx:Addr}(am:AM K H M)(hx:H x=none)(hd:H dx=none)(ne:dx≠x):AM K (aN (aN H dx (.own x)) x (.ins C dx [])) (put M x (.ins C dx []))/\Kp H M (aN (aN H dx (.own x)) x (.ins C dx [])) (put M x (.ins C dx [])):=by
 obtain⟨am1,k1⟩:=am.tup (u:=.own x) hd
 have hx1:aN H dx (.own x) x=none:=by rw[bK (Bq ne)];exact hx
 obtain⟨am2,k2⟩:=am1.laid (o:=.ins C dx []) (u:=.ins C dx []) hx1 ⟨[],dZ,.nil⟩
 exact⟨am2,k1.trans k2⟩
theorem DU{H:Hp}{M:Mm}{R:K3}{Q:VK}{vs:List V}{ws:List W}(am:AM X.K H M)(avs:aL X.K H M vs ws)(h:∀ a dx,M a=none->M dx=none->dx≠a->sp (.ref a :: ws) (put M a (.ins C dx [])) fun w M2=>w=.non/\R (.ref a) M2)(k:Up X.K H M R Q) :
  ∀ x dx,H x=none->H dx=none->dx≠x->gK X.K sp (.ref x :: (vs ++ [])) (aN (aN H dx (.own x)) x (.ins C dx [])) (fun v H2=>v=.non/\Q (.ref x) H2) E0:=by
 intro x dx hx hd ne
 obtain⟨am1,k1⟩:=am.made (C:=C) hx hd ne
 refine⟨.ref x :: ws,_,_,am1,?_,h x dx (am.nonM hx) (am.nonM hd) ne,fun v H2 w M2 k2 am2 av r=>?_⟩
 ·rw[Gf];exact .cons (.ref x) (avs.kp am k1)
 ·obtain⟨rfl,r⟩:=r
  obtain rfl:=av.inv
  exact⟨rfl,k _ _ _ _ (k1.trans k2) am2 (.ref x) r⟩
theorem UX{x:Str}{p:Pos}(M:Mk X.K C g)(F:eW X.prog X.w X.K X.mg X.base fY k g fd ps (gK X.K sp))(hr:cF (k + 1) X.A)(hg:Gl X x)(hm:X.mg x=some (.ref C))(hb:Binds X.K fd ps [])(ha:A3 X (e :: es) t)
  (hdb:(x == ("__debug__" : Str))=false:=by decide) (he:Bj (e :: es) X.env=(false,eval e X.env) :: Bj es X.env:=by rfl) (hpl:(Ia pos (Bj es X.env)).any (·.1)=false:=by rfl) :
  E3 X (.Call (.Name x p) (e :: es) [] pos) (sN C sp t):=(N2 M F hr hg hm hb .nil oU ha hdb he hpl).weak fun σ H Q z0=>z0.el fun τ M R as am h k=>⟨τ,M,_,as,am,h,fun vs H1 ws M1 k1 am1 avs h1=>DU am1 avs h1 (k.kp k1)⟩
theorem UY{x:Str}{p:Pos}(M:Mk X.K C g)(F:eW X.prog X.w X.K X.mg X.base fY k g fd ps (gK X.K sp))(hr:cF (k + 1) X.A)(hg:Gl X x)(hm:X.mg x=some (.ref C))(hb:Binds X.K fd ps [])
  (hdb:(x == ("__debug__" : Str))=false:=by decide):E3 X (.Call (.Name x p) [] [] pos) (sN C sp aE):=(N3 M F hr hg hm hb .nil oU hdb).weak fun σ H Q z0=>z0.el fun τ M R as am h k=>DU am .nil h k
end
end L3
namespace L2
open PySem PySem.Spec PyProof.Rows
section
variable {prog:Bl}{w:Cd}{K:Type}[DecidableEq K]{knd:HeapKind prog w K}{A:Bu}{E:Ac->Ah->Prop}{s:Ah}{d a:Addr}{k:K}{xs:List (K×Addr×Ac)}
theorem UZ{y:Ac}{Q:Ac->Ah->Prop}(n:knd.room A)(b:knd.is s.heap k a)(u:s.heap.DictOfH knd d xs)(hsz:xs.length<=Aj)
  (v:∀ p,Nf xs k=some p->Q p.2 {s with toks:=s.toks + knd.draws k})
  (z:Nf xs k=none->∀ h',h'.DictOfH knd d (Nn xs k a y)->Dx d s.heap h'->Q y {s with heap:=h',toks:=s.toks + knd.draws k}) :
  Ax (Bk prog w) A (dictSetDefault d (.ref a) y) Q E s:=by
 obtain⟨o,es,ep,c,hc,hd,l,f,m⟩:=u
 unfold dictSetDefault
 refine Cs (Aa (knd.pyHash n b (Aa (wpAny_dictFind_heap (s:={s with toks:=s.toks + knd.draws k}) n b c hd l f m (fun g=>?_) fun j p r=>?_))))
 ·have hk:=atKey_none_of_get g
  have h:k∉xs.map (·.1):=not_mem_keys_of_get g
  refine Aa (Ei (Aa (wpAny_updateDictKeys (hz:=by have e:=Nv l;lia) (s:={s with toks:=s.toks + knd.draws k}) c hd (Ag (z hk _ ⟨_,_,ep + 1,Fc _ c (Obj.isFreed_of_dict (La hd _)),
   hc.mapDictKeys _,La hd _,?_,fun x i=>?_,?_⟩ (Ca ..))))))
  ·rw[storedH_new hk]
   simp[l,entryOfKey]
  ·rw[storedH_new hk] at i
   rcases Bo.mp i with q | q
   ·exact knd.keeps (f x q) c hd (Ca ..)
   ·obtain rfl:=Az.mp q
    exact knd.keeps b c hd (Ca ..)
  ·rw[storedH_new hk,Bs,Gd]
   refine⟨m,by simp,fun x i y t=>?_⟩
   simp only[Ar,Kh,Az] at t
   subst t
   exact fun e=>h (e ▸ i)
 ·refine Aa (Ji (s:={s with toks:=s.toks + knd.draws k}) c hd ?_)
  rw[entry_at l j,r]
  exact Aa (Ei (Ag (v p (atKey_of_get m r))))
theorem DV:∀ {xs:List (K×Addr×Ac)} {j:Nat} {p:Addr×Ac},(xs.map (·.1)).Nodup->xs[j]? = some (k,p)->xs.eraseIdx j=xs.filter fun x=>decide (x.1≠k)
 | [],j,p,_,h=>by simp at h
 | x :: r,0,p,a,h=>by
  have e:x=(k,p):=by simpa using h
  subst e
  rw[Ar,Dq] at a
  rw[List.eraseIdx_zero,List.tail_cons,List.filter_cons_of_neg (by simp)]
  refine(List.filter_eq_self.mpr fun y d=>?_).symm
  rw[decide_eq_true_eq]
  exact fun e=>a.1 (Au.mpr ⟨y,d,e⟩)
 | x :: r,j + 1,p,a,h=>by
  rw[Ar,Dq] at a
  have b:r[j]? = some (k,p):=by simpa using h
  have c:x.1≠k:=fun e=>a.1 (Au.mpr ⟨(k,p),Bc b,e.symm⟩)
  rw[List.eraseIdx_cons_succ,DV a.2 b,List.filter_cons_of_pos (by simpa using c)]
theorem U0{v:Ac}{b:Addr}{Q:Option Ig->Ah->Prop}(u:knd.room A)(c:knd.is s.heap k a)(y:s.heap.DictOfH knd d xs)(hsz:xs.length<=Aj)(i:Nf xs k=some (b,v))
  (h:∀ h',h'.DictOfH knd d (xs.filter fun x=>decide (x.1≠k))->Dx d s.heap h'->Q (some ⟨knd.hash k,.ref b,v⟩) {s with heap:=h',toks:=s.toks + knd.draws k}) :
  Ax (Bk prog w) A (Builtin.Dict.takeOut d (.ref a)) Q E s:=by
 obtain⟨o,es,ep,g,hc,hd,m,f,n⟩:=y
 unfold Builtin.Dict.takeOut
 refine Cs (Aa (knd.pyHash u c (Aa (wpAny_dictFind_heap (s:={s with toks:=s.toks + knd.draws k}) u c g hd m f n (fun q=>?_) fun j p t=>?_))))
 ·rw[atKey_none_of_get q] at i;cases i
 ·rw[atKey_of_get n t] at i
  cases i
  have r:=DV n t
  refine Aa (Ji (s:={s with toks:=s.toks + knd.draws k}) g hd ?_)
  rw[entry_at m j,t]
  refine Aa (wpAny_updateDictKeys (hz:=by have e:=Nv m;lia) (s:={s with toks:=s.toks + knd.draws k}) g hd (Ag (h _ ⟨_,_,ep + 1,Fc _ g (Obj.isFreed_of_dict (La hd _)),
   hc.mapDictKeys _,La hd _,?_,fun x z=>knd.keeps (f x (Fo.mp z).1) g hd (Ca ..),?_⟩ (Ca ..))))
  ·rw[<-r]
   have B:(xs.eraseIdx j).map (entryOfKey knd)=(xs.map (entryOfKey knd)).eraseIdx j:=by simp[List.eraseIdx_eq_take_drop_succ,Ly,Oa]
   rw[B,<-m]
   obtain⟨l⟩:=es
   simp
  ·exact n.sublist (List.filter_sublist.map _)
end
section
variable {X:Cx}{pins:List (Addr×Obj)}{σ:St}{H:Hp}{s:Ah}{a b:Addr}{v:V}{r:Ac}{A:Bu}{E:Ac->Ah->Prop}{kvs:List (List aD×V)}{k:List aD}
theorem KT.drop{xs:List (List aD×Addr×Ac)}(a:KT H kvs xs)(k:List aD):KT H (l9 kvs k) (xs.filter fun x=>decide (x.1≠k)):=by
 induction a with
 | nil=>exact .nil
 | @cons p q ps c h t b=>
  unfold l9 at b ⊢
  rw[Ff,Ff,<-h.1]
  split
  ·exact .cons h b
  ·exact b
theorem U1{Q:Ac->Ah->Prop}(K:A.units + 1 < Fz)(I:Inv X pins σ H s)(e:H a=some (.dT kvs))(eb:H b=some (.tup (k.map kV)))(N:RelV v r)(hl:kvs.length < Aj)
  (V:∀ h x i,fL kvs k=some h->Inv X pins σ H i->RelV h x->Q x i) (M:fL kvs k=none->∀ i,Inv X pins σ (aN H a (.dT (eI kvs k v))) i->Q r i) :
  Ax (Bk X.prog X.w) A (call (.builtin "dict.setdefault") [.ref a,.ref b,r]) Q E s:=by
 obtain⟨z,hd,xs,g,y⟩:=u9 I.hok e
 have hz:xs.length<=Aj:=by rw[<-Eo g];exact z
 have f:=g.val k
 refine Lu PySem.F.slot_dict_setdefault y.typeIs PySem.F.entry_dict_setdefault (PySem.F.args_dict_setdefault_3 _ _ _)
  (S:=fun A R d=>(Gk (dA X.prog X.w)).room A.in1/\(Gk (dA X.prog X.w)).is d.heap k b/\d.heap.DictOfH (Gk (dA X.prog X.w)) a xs/\
   (∀ p,Nf xs k=some p->R (.ok (.ret p.2)) {d with toks:=d.toks + (k.length + 1)})/\
   (Nf xs k=none->∀ h',h'.DictOfH (Gk (dA X.prog X.w)) a (Nn xs k b r)->Dx a d.heap h'->R (.ok (.ret r)) {d with heap:=h',toks:=d.toks + (k.length + 1)}))
  (.of_wp fun A R d ⟨U,j,C,P,T⟩=>?_) ⟨Fi K,jI I.hok eb,y,fun p t=>?_,fun o h' m hs=>?_⟩
 ·unfold Hg.«dict.setdefault»
  refine Aa ?_
  unfold Builtin.Dict.keyAndDefault
  refine Aa (Jd C.typeIs ?_)
  refine Ag ?_
  dsimp only
  rw[if_neg (by rw[hd];exact Ao)]
  exact Aa (UZ U j C hz (fun p t=>Ag ⟨_,rfl,P p t⟩) fun o h' u n=>Ag ⟨_,rfl,T o h' u n⟩)
 ·rw[t] at f
  cases q:fL kvs k with
  | none=>rw[q] at f;exact(show False from f).elim
  | some h=>rw[q] at f;exact V h _ _ q (I.tok _) f
 ·rw[o] at f
  have q:fL kvs k=none:=by
   cases q:fL kvs k with
   | none=>rfl
   | some h=>rw[q] at f;exact(show False from f).elim
  have l:(eI kvs k v).length<=Aj:=by have:=oT kvs k v;lia
  obtain⟨j,es,ep,B,L,J,O,_,G⟩:=m
  refine M q _ (rA (t':=s.toks + (k.length + 1)) I (by rw[e];exact True.intro) hs ⟨j,B⟩ ⟨l,hd,_,(g.put k eb N).keeps fun c ys D=>?_,j,es,ep,B,L,J,O,G⟩)
  rw[bK (uQ D e (fun z=>nomatch z))]
  exact D
theorem U2{Q:Ac->Ah->Prop}(hu:A.units + 1 < Fz)(I:Inv X pins σ H s)(e:H a=some (.dT kvs))(eb:H b=some (.tup (k.map kV)))(l:fL kvs k=some v)
  (h:∀ w' s',Inv X pins σ (aN H a (.dT (l9 kvs k))) s'->RelV v w'->Q w' s'):Ax (Bk X.prog X.w) A (call (.builtin "dict.pop") [.ref a,.ref b]) Q E s:=by
 obtain⟨z,hd,xs,rel,dd⟩:=u9 I.hok e
 have hz:xs.length<=Aj:=by rw[<-Eo rel];exact z
 obtain⟨w',hw,rw'⟩:=fD.some_of (v:=v) (o:=(Nf xs k).map (·.2)) (by rw[<-l];exact rel.val k)
 obtain⟨⟨c,w2⟩,hc,rfl⟩:=Bn.mp hw
 refine Lu PySem.F.slot_dict_pop dd.typeIs PySem.F.entry_dict_pop (PySem.F.args_dict_pop_2 _ _)
  (S:=fun A R s1=>(Gk (dA X.prog X.w)).room A.in1/\(Gk (dA X.prog X.w)).is s1.heap k b/\s1.heap.DictOfH (Gk (dA X.prog X.w)) a xs/\
   ∀ h',h'.DictOfH (Gk (dA X.prog X.w)) a (xs.filter fun x=>decide (x.1≠k))->Dx a s1.heap h'->R (.ok (.ret w2)) {s1 with heap:=h',toks:=s1.toks + (k.length + 1)})
  (.of_wp fun A R s1 ⟨q0,q1,q2,q3⟩=>?_) ⟨Fi hu,jI I.hok eb,dd,fun h' dd' hs=>?_⟩
 ·unfold Hg.«dict.pop»
  refine Aa ?_
  unfold Builtin.Dict.keyAndDefault
  refine Aa (Jd q2.typeIs ?_)
  refine Ag ?_
  dsimp only
  rw[if_neg (show ¬ ((keyPart (Value.ref b)).isSome=true) from Ao)]
  obtain⟨o,es,ep,ho,hc',hd',he,his,hn⟩:=id q2
  have hne:es.isEmpty=false:=by
   have h1:=Nv he
   cases xs with
   | nil=>cases hc
   | cons x r=>rw[Array.isEmpty_eq_false_iff];intro z;rw[z] at h1;simp at h1
  refine Aa (Ji ho hd' ?_)
  refine Aa (Ag ?_)
  rw[hne,if_neg Ao]
  refine Aa (U0 q0 q1 q2 hz hc fun h' hm' hs'=>?_)
  rw[if_neg (by simp)]
  exact Aa (wpAny_letGo (Ag ⟨_,rfl,q3 h' hm' hs'⟩))
 ·obtain⟨q1,es,ep,hq,g2,g3,g4,_,g5⟩:=dd'
  refine h w2 _ (rA (t':=s.toks + (k.length + 1)) I (by rw[e];exact True.intro) hs ⟨q1,hq⟩ ⟨Bh (PR kvs k) z,hd,_,(rel.drop k).keeps fun c ys ec=>?_,q1,es,ep,hq,g2,g3,g4,g5⟩) rw'
  rw[bK (uQ ec e (fun z=>nomatch z))]
  exact ec
end
end L2
namespace L3
open PySem PySem.Spec PyProof.Rows L2
section
variable {X:Cx}
def sO:W->List W->Mm->K3->Prop
 | d,[y],M,R=>∃ o,eQ M d y o/\R (o.getD .non) M
 | d,[y,v],M,R=>∃ o,eQ M d y o/\R (o.getD v) M
 | _,_,_,_=>False
theorem xB(l:X.A.units + 1 < Fz):iC X "dict.get" (jP X.K sO):=by
 rintro pins s σ H x xs v us Q I B rs ⟨G,ws,M,R,e,C,i,h,k⟩
 match ws,h with
 | [y],h=>
  obtain⟨z,rfl,t⟩:=i.one
  obtain⟨o,g,r⟩:=h
  obtain⟨a,rfl,q⟩:=rW e C t g
  cases B
  obtain⟨u,rfl,f⟩:=rs.one
  rcases q with⟨rfl,c⟩ | ⟨D,E,rfl,c,p⟩
  ·exact BI l I c f fun n w d b=>⟨_,H,d,b,k.at e .non r⟩
  ·exact BI l I c f fun n w d b=>⟨_,H,d,b,k.at e p r⟩
 | [y,F],h=>
  obtain⟨z,z1,rfl,t,m⟩:=i.two
  obtain⟨o,g,r⟩:=h
  obtain⟨a,rfl,q⟩:=rW e C t g
  cases B
  obtain⟨u,J,rfl,f,j⟩:=vals2 rs
  rcases q with⟨rfl,c⟩ | ⟨D,E,rfl,c,p⟩
  ·exact BJ l I c f j fun n w d b=>⟨_,H,d,b,k.at e m r⟩
  ·exact BJ l I c f j fun n w d b=>⟨_,H,d,b,k.at e p r⟩
def pN:W->List W->Mm->K3->Prop
 | .ref a,[.tup ks,v],M,R=>∃ kvs k,M a=some (.dT kvs)/\ks=k.map wK/\kvs.length < Aj/\(∀ w,bD kvs k=some w->R w M)/\(bD kvs k=none->R v (put M a (.dT (bV kvs k v))))
 | _,_,_,_=>False
theorem DW(G:X.A.units + 1 < Fz):iC X "dict.setdefault" (jP X.K pN):=by
 rintro pins s σ H x xs v us Q I D rs ⟨L,ws,M,R,f,F,l,h,k⟩
 match L,ws,h with
 | .ref a,[.tup ks,B],h=>
  obtain⟨z,z1,rfl,N,d⟩:=l.two
  obtain⟨kvs,i,e,rfl,hl,P,J⟩:=h
  obtain rfl:=F.inv
  cases D
  obtain⟨u,W,rfl,y,g⟩:=vals2 rs
  obtain⟨E,T,q⟩:=f _ _ e
  cases N with
  | @tup b vs _ eb w=>
   cases (show u=Value.ref b from y)
   rw[w.keys] at eb
   have t:=rT q i
   refine U1 G I T eb g (by rw[q.len];exact hl) (fun U V S c n m=>?_) fun c S n=>?_
   ·rcases t with⟨_,l2⟩ | ⟨O,r,l1,l2,p⟩
    ·rw[l2] at c;cases c
    ·rw[l2] at c;cases c
     exact⟨_,H,n,m,k.at f p (P r l1)⟩
   ·rcases t with⟨l1,l2⟩ | ⟨O,r,l1,l2,p⟩
    ·obtain⟨j,C⟩:=f.write (o:=.dT (bV kvs i B)) (u:=.dT (eI E i z1)) e ⟨_,dZ,(rV q i d).go (nI f e)⟩
     exact⟨_,_,n,g,k _ _ _ _ C j (d.wr f e) (J l1)⟩
    ·rw[l2] at c;cases c
def iN{κ:Type}[DecidableEq κ](kvs:List (κ×W))(k:κ):List (κ×W):=kvs.filter fun a=>decide (a.1≠k)
theorem U3{κ:Type}[DecidableEq κ]{K:Ae}{H:Hp}{M:Mm}{b:List (κ×V)}{kvs:List (κ×W)}(h:bN K H M κ b kvs)(k:κ):bN K H M κ (l9 b k) (iN kvs k):=by
 induction h with
 | nil=>exact .nil
 | @cons p q ps c r t a=>
  unfold l9 iN at a ⊢
  rw[Ff,Ff,<-r.1]
  split
  ·exact .cons r a
  ·exact a
def DX:W->List W->Mm->K3->Prop
 | .ref a,[.tup ks],M,R=>∃ kvs k w,M a=some (.dT kvs)/\ks=k.map wK/\bD kvs k=some w/\R w (put M a (.dT (iN kvs k)))
 | _,_,_,_=>False
theorem U4(C:X.A.units + 1 < Fz):iC X "dict.pop" (jP X.K DX):=by
 rintro pins s σ H x xs v us Q I p rs ⟨D,ws,M,R,c,B,g,h,k⟩
 match D,ws,h with
 | .ref a,[.tup ks],h=>
  obtain⟨z,rfl,F⟩:=g.one
  obtain⟨kvs,d,w,e,rfl,l,r⟩:=h
  obtain rfl:=B.inv
  cases p
  obtain⟨u,rfl,m⟩:=rs.one
  obtain⟨y,G,q⟩:=c _ _ e
  cases F with
  | @tup b vs _ eb j=>
   cases (show u=Value.ref b from m)
   rw[j.keys] at eb
   rcases rT q d with⟨l1,l2⟩ | ⟨N,L,l1,l2,t⟩
   ·rw[l1] at l;cases l
   ·rw[l1] at l;cases l
    obtain⟨f,n⟩:=c.write (o:=.dT (iN kvs d)) (u:=.dT (l9 y d)) e ⟨_,dZ,(U3 q d).go (nI c e)⟩
    exact U2 C I G eb l2 fun J O E i=>⟨_,_,E,i,k _ _ _ _ n f (t.wr c e) r⟩
end
end L3
namespace L2
open PySem PySem.Spec PyProof.Rows
section
variable {X:Cx}{pins:List (Addr×Obj)}{σ:St}{H:Hp}{s:Ah}{a b:Addr}{v:V}{r:Ac}{A:Bu}{E:Ac->Ah->Prop}{es:List (vP×Addr×V)}{tl:List Int}{x:vP}
end
end L2
namespace L3
open PySem PySem.Spec PyProof.Rows L2
section
variable {K:Ae}{H:Hp}{M:Mm}
theorem U5(k:aD):AV K H M (kV k) (wK k):=by cases k <;> first | exact .int _ | exact .str _
theorem DY:∀ ks:List aD,aL K H M (ks.map kV) (ks.map wK)
 | []=>.nil
 | k :: r=>.cons (U5 k) (DY r)
end
section
variable {X:Cx}
end
end L3
namespace L2
open PySem PySem.Spec PyProof.Rows
section
variable {X:Cx}{pins:List (Addr×Obj)}{σ:St}{H:Hp}{s:Ah}{a d:Addr}{es:List (vP×Addr×V)}{tl:List Int}{A:Bu}{E:Ac->Ah->Prop}
end
end L2
namespace L3
open PySem PySem.Spec PyProof.Rows L2
section
variable {X:Cx}
end
end L3
namespace PySem
namespace Tr
open AutoSeq1 (wpAny_loadPart')
section
variable {prog:Bl}{w:Cd}{A:Bu}{E:Ac->Ah->Prop}{s:Ah}
end
end Tr
end PySem
namespace L2
open PySem PySem.Spec PyProof.Rows
section
variable {X:Cx}{a:Expr}{ta:TA}{p p2 pos pos2:Pos}
end
end L2
namespace L3
open PySem PySem.Spec PyProof.Rows L2
section
variable {X:Cx}{a:Expr}{ta:aS}
end
end L3
namespace PySem
namespace Zd
open PyProof.Rows L2 PySem.Spec Zt
section
variable {prog:Bl}{w:Cd}{A:Bu}{E:Ac->Ah->Prop}{s:Ah}
variable {z TI TO i1 i2 l1 l2:Addr}{xs ys:Array Ac}{S1 S2:Nat->Heap->Prop}
abbrev TK(prog:Bl)(w:Cd):=Gk (dA prog w)
def allH(es:List (List aD×Addr×Ac))(ps:List (List aD×Addr×Ac)):List (List aD×Addr×Ac):=ps.foldl (fun es p=>Nn es p.1 p.2.1 p.2.2) es
theorem DZ(es:List (List aD×Addr×Ac))(k:List aD)(a:Addr)(v:Ac):(Nn es k a v).length<=es.length + 1:=by
 unfold Nn
 split
 ·rw[Ab];omega
 ·rw[Aw,Eb];exact Ai _
theorem pO{h h':Heap}{k:List aD}{a:Addr}(x:(TK prog w).is h k a)(e:∀ o,h.get? a=some o->h'.get? a=some o):(TK prog w).is h' k a:=by
 obtain⟨o,items,n,b,r⟩:=x
 exact⟨o,items,n,e o b,r⟩
end
end Zd
end PySem
namespace PySem
namespace Zd
open PyProof.Rows L2 PySem.Spec Zt
open Sem (wp)
section
variable {prog:Bl}{w:Cd}{A:Bu}{E:Ac->Ah->Prop}{s:Ah}
end
end Zd
end PySem
namespace L2
open PySem PySem.Spec PyProof.Rows
def mT(ks:List (List aD×V))(ps:List (List aD×V)):List (List aD×V):=ps.foldl (fun k p=>eI k p.1 p.2) ks
theorem U6{H:Hp}{a:List (List aD×Addr×V)}{ps:List (List aD×Addr×Ac)}(h:Ir (fun(q:List aD×Addr×V) (p:List aD×Addr×Ac)=>q.1=p.1/\q.2.1=p.2.1/\RelV q.2.2 p.2.2) a ps) :
  ∀ {kvs:List (List aD×V)} {es:List (List aD×Addr×Ac)},(∀ q∈a,H q.2.1=some (.tup (q.1.map kV)))->KT H kvs es->KT H (mT kvs (a.map fun q=>(q.1,q.2.2))) (Zd.allH es ps):=by
 induction h with
 | nil=>intro kvs es _ k;exact k
 | @cons q p a ps r t e=>
  intro kvs es b k
  obtain⟨d,j,f⟩:=q
  obtain⟨g,p2,i⟩:=p
  obtain⟨rfl,rfl,c⟩:=r
  exact e (fun z hz=>b z (Bd _ hz)) (k.put d (b _ Bg) c)
theorem D0:∀ (ps:List (List aD×V)) (ks:List (List aD×V)),(mT ks ps).length<=ks.length + ps.length
 | [],ks=>Ai _
 | p :: ps,ks=>by
  have b:=D0 ps (eI ks p.1 p.2)
  have a:=oT ks p.1 p.2
  show(mT (eI ks p.1 p.2) ps).length<=ks.length + (ps.length + 1)
  omega
section
variable {X:Cx}{a b:Expr}{ta:TA}{p p2 pos pos2:Pos}
end
end L2
namespace L3
open PySem PySem.Spec PyProof.Rows L2
def nW(kvs:List (List aD×W))(ps:List (List aD×W)):List (List aD×W):=ps.foldl (fun kvs p=>bV kvs p.1 p.2) kvs
section
variable {X:Cx}{a b:Expr}{ta:dJ}
end
structure Dm(K:Ae)(C:Addr)(x qual:Str)(st:Stmt)(ps:List Str)(f:Addr)(fd:Br):Prop where
 fn:jK K x qual st f fd
 me:nE K C x f
 bi:Binds K fd ps []
structure Di(K:Ae)(C:Addr)(x qual:Str)(st:Stmt)(ps:List Str)(f:Addr)(fd:Br):Prop where
 fn:jK K x qual st f fd
 mak:Mk K C f
 bi:Binds K fd ps []
theorem U7{A:Bu}{k:Nat}(a:cF k A):A.units + 2 < Fz:=by have:=a.un;omega
end L3
namespace L2
open PySem PySem.Spec PyProof.Rows
def gB(a b:Int×Int):Bool:=decide (a.1 < b.1) || (decide (a.1=b.1) && decide (a.2 < b.2))
section
variable {prog:Bl}{w:Cd}{A:Bu}{E:Ac->Ah->Prop}{s:Ah}
theorem U8{a b:Addr}{oa ob:Obj}{xs ys:Array Ac}{I nb:Nat}{x1 x2 c d:Int}{r m B n:Tok}{Q:Ac->Ah->Prop}(J:A.units + 1 < Fz)(j:s.heap.get? a=some oa)(p:oa.cls=.type "tuple")(t:oa.data=.seq xs I)(l:s.heap.get? b=some ob)(C:ob.cls=.type "tuple")(o:ob.data=.seq ys nb)
  (ex:xs.toList=[.int x1 r,.int x2 m]) (D:ys.toList=[.int c B,.int d n]) (h:Q (.bool (gB (x1,x2) (c,d))) s):Ax (Bk prog w) A (Cf .Lt (.ref a) (.ref b)) Q E s:=by
 have g:s.TypeIs (.ref a) "tuple":=⟨oa,j,p⟩
 have k:s.TypeIs (.ref b) "tuple":=⟨ob,l,C⟩
 show Ax _ _ (richCompare .Lt (.ref a) (.ref b)) Q E s
 refine wpAny_richCompare_same_room (op:=.Lt) g k PySem.F.slot_tuple_lt (De PySem.F.slot_tuple_lt g PySem.F.entry_tuple_lt ?_ (PySem.F.args_tuple_lt_2 _ _)) (Hj J)
 show Ax _ _ (isInstance (.ref b) (.type "tuple") >>= _) _ _ s
 refine Aa (Jt k isSubtype_tuple_tuple ?_)
 simp only[Ku,Cp,if_false]
 refine Aa (Lz j t ?_)
 refine Aa (Lz l o ?_)
 refine Aa ?_
 rw[ex,D]
 show Ax _ _ (forIn [(Value.int x1 r,Value.int c B),(Value.int x2 m,Value.int d n)] _ _) _ _ s
 have hsz:xs.size=2/\ys.size=2:=by
  have H:=congrArg Dl ex
  have G:=congrArg Dl D
  simp at H G
  exact⟨H,G⟩
 refine wpAny_forIn_list _
  (fun rest q y=>q.1=none/\y=s/\(rest=[(Value.int x1 r,Value.int c B),(Value.int x2 m,Value.int d n)]\/(rest=[(Value.int x2 m,Value.int d n)]/\x1=c)\/(rest=[]/\x1=c/\x2=d)))
  _ ?_ ?_ _ _ ⟨rfl,rfl,.inl rfl⟩
 ·rintro⟨u,v⟩ rest q y ⟨x,rfl,hc⟩
  rcases hc with z | ⟨z,f⟩ | ⟨z,_⟩
  ·simp only[Cy,Dk] at z
   obtain⟨⟨rfl,rfl⟩,rfl⟩:=z
   refine Aa (Ju ?_)
   by_cases f:x1=c
   ·rw[show(x1 == c)=true by simpa using f]
    simp only[Ku,Cp,if_false]
    exact Ag ⟨rfl,rfl,by simp[f]⟩
   ·rw[show(x1 == c)=false by simpa using f]
    simp only[Nm,if_true]
    have e:gB (x1,x2) (c,d)=decide (x1 < c):=by simp[gB,f]
    rw[e] at h
    refine Aa (Ei (Aa (Me ?_)))
    exact Aa (Ag (Ag (Ag ⟨_,rfl,(fun e=>nomatch e),h⟩)))
  ·simp only[Cy,Dk] at z
   obtain⟨⟨rfl,rfl⟩,rfl⟩:=z
   refine Aa (Ju ?_)
   by_cases i:x2=d
   ·rw[show(x2 == d)=true by simpa using i]
    simp only[Ku,Cp,if_false]
    exact Ag ⟨rfl,rfl,by simp[f,i]⟩
   ·rw[show(x2 == d)=false by simpa using i]
    simp only[Nm,if_true]
    have e:gB (x1,x2) (c,d)=decide (x2 < d):=by simp[gB,f]
    rw[e] at h
    refine Aa (Ei (Aa (Me ?_)))
    exact Aa (Ag (Ag (Ag ⟨_,rfl,(fun e=>nomatch e),h⟩)))
  ·cases z
 ·rintro⟨K,L⟩ y ⟨x,rfl,hc⟩
  simp only at x
  subst x
  rcases hc with z | ⟨z,_⟩ | ⟨_,f,i⟩
  ·cases z
  ·cases z
  ·refine Ag ⟨_,rfl,(fun e=>nomatch e),?_⟩
   subst f;subst i
   have e:gB (x1,x2) (x1,x2)=decide (xs.size < ys.size):=by rw[hsz.1,hsz.2];simp[gB]
   rw[e] at h
   exact h
theorem U9{a b:Addr}{oa ob:Obj}{xs ys:Array Ac}{I nb:Nat}{x1 x2 c d:Int}{r m B n:Tok}{Q:Ac->Ah->Prop}(J:A.units + 1 < Fz)(j:s.heap.get? a=some oa)(p:oa.cls=.type "tuple")(t:oa.data=.seq xs I)(l:s.heap.get? b=some ob)(C:ob.cls=.type "tuple")(o:ob.data=.seq ys nb)
  (ex:xs.toList=[.int x1 r,.int x2 m]) (D:ys.toList=[.int c B,.int d n]) (h:Q (.bool (gB (c,d) (x1,x2))) s):Ax (Bk prog w) A (Cf .Gt (.ref a) (.ref b)) Q E s:=by
 have g:s.TypeIs (.ref a) "tuple":=⟨oa,j,p⟩
 have k:s.TypeIs (.ref b) "tuple":=⟨ob,l,C⟩
 show Ax _ _ (richCompare .Gt (.ref a) (.ref b)) Q E s
 refine wpAny_richCompare_same_room (op:=.Gt) g k PySem.F.slot_tuple_gt (De PySem.F.slot_tuple_gt g PySem.F.entry_tuple_gt ?_ (PySem.F.args_tuple_gt_2 _ _)) (Hj J)
 show Ax _ _ (isInstance (.ref b) (.type "tuple") >>= _) _ _ s
 refine Aa (Jt k isSubtype_tuple_tuple ?_)
 simp only[Ku,Cp,if_false]
 refine Aa (Lz j t ?_)
 refine Aa (Lz l o ?_)
 refine Aa ?_
 rw[ex,D]
 show Ax _ _ (forIn [(Value.int x1 r,Value.int c B),(Value.int x2 m,Value.int d n)] _ _) _ _ s
 have hsz:xs.size=2/\ys.size=2:=by
  have H:=congrArg Dl ex
  have G:=congrArg Dl D
  simp at H G
  exact⟨H,G⟩
 refine wpAny_forIn_list _
  (fun rest q y=>q.1=none/\y=s/\(rest=[(Value.int x1 r,Value.int c B),(Value.int x2 m,Value.int d n)]\/(rest=[(Value.int x2 m,Value.int d n)]/\x1=c)\/(rest=[]/\x1=c/\x2=d)))
  _ ?_ ?_ _ _ ⟨rfl,rfl,.inl rfl⟩
 ·rintro⟨u,v⟩ rest q y ⟨x,rfl,hc⟩
  rcases hc with z | ⟨z,f⟩ | ⟨z,_⟩
  ·simp only[Cy,Dk] at z
   obtain⟨⟨rfl,rfl⟩,rfl⟩:=z
   refine Aa (Ju ?_)
   by_cases f:x1=c
   ·rw[show(x1 == c)=true by simpa using f]
    simp only[Ku,Cp,if_false]
    exact Ag ⟨rfl,rfl,by simp[f]⟩
   ·rw[show(x1 == c)=false by simpa using f]
    simp only[Nm,if_true]
    have e:gB (c,d) (x1,x2)=decide (c < x1):=by simp[gB,Bq f]
    rw[e] at h
    refine Aa (Ei (Aa (PyProof.Rows.gt_int ?_)))
    exact Aa (Ag (Ag (Ag ⟨_,rfl,(fun e=>nomatch e),h⟩)))
  ·simp only[Cy,Dk] at z
   obtain⟨⟨rfl,rfl⟩,rfl⟩:=z
   refine Aa (Ju ?_)
   by_cases i:x2=d
   ·rw[show(x2 == d)=true by simpa using i]
    simp only[Ku,Cp,if_false]
    exact Ag ⟨rfl,rfl,by simp[f,i]⟩
   ·rw[show(x2 == d)=false by simpa using i]
    simp only[Nm,if_true]
    have e:gB (c,d) (x1,x2)=decide (d < x2):=by simp[gB,f]
    rw[e] at h
    refine Aa (Ei (Aa (PyProof.Rows.gt_int ?_)))
    exact Aa (Ag (Ag (Ag ⟨_,rfl,(fun e=>nomatch e),h⟩)))
  ·cases z
 ·rintro⟨K,L⟩ y ⟨x,rfl,hc⟩
  simp only at x
  subst x
  rcases hc with z | ⟨z,_⟩ | ⟨_,f,i⟩
  ·cases z
  ·cases z
  ·refine Ag ⟨_,rfl,(fun e=>nomatch e),?_⟩
   subst f;subst i
   have e:gB (x1,x2) (x1,x2)=decide (xs.size > ys.size):=by rw[hsz.1,hsz.2];simp[gB]
   rw[e] at h
   exact h
end
section
variable {X:Cx}
def rInsert:V->List V->Hp->VK->Prop:=fun x vs H Q=>∃ l xs y i,x=.ref l/\vs=[.int (i:Nat),y]/\H l=some (.lst xs)/\xs.length < Aj/\i<=xs.length/\Q .non (aN H l (.lst (xs.take i ++ y :: xs.drop i)))
theorem aQ.splitAt:∀ {xs:List V} {us:List Ac} (i:Nat),aQ xs us->aQ (xs.take i) (us.take i)/\aQ (xs.drop i) (us.drop i)
 | _,_,0,h=>⟨.nil,h⟩
 | _,_,i + 1,.nil=>⟨.nil,.nil⟩
 | _,_,i + 1,.cons r t=>by
  obtain⟨b,a⟩:=aQ.splitAt i t
  exact⟨.cons r b,a⟩
theorem VA:qX X "list.insert" rInsert:=by
 intro pins s σ H x vs v us Q I u k h
 obtain⟨l,xs,y,i,rfl,rfl,f,hz,hi,q⟩:=h
 cases u
 obtain⟨A,d,rfl,o,p⟩:=vals2 k
 obtain⟨tk,rfl⟩:=o
 obtain⟨z,its,n,r,hl,e⟩:=I.lstM f
 have g:its.length=xs.length:=r.length.symm
 have hs:Aj=16777216:=Hl
 have a:¬ (!Builtin.List.listFitsIndex ((i:Nat):Int))=true:=by
  have c:Builtin.List.listFitsIndex ((i:Nat):Int)=true:=by
   unfold Builtin.List.listFitsIndex
   rw[Cr,decide_eq_true_eq,decide_eq_true_eq]
   lia
  rw[c];decide
 have b:its.toArray.size<=Aj:=by rw[Bb];lia
 generalize t:((i:Nat):Int)=j at a e ⊢
 have m:=PySem.AutoSeq1.list_insert_list_int_val_1 l its.toArray n j tk d a b
 refine Lh F.slot_list_insert ⟨_,e,rfl⟩ F.entry_list_insert (F.args_list_insert_3 _ _ _) m ⟨e,?_⟩
 obtain⟨c,w⟩:=aQ.splitAt i r
 refine⟨.non,_,I.lset (its':=its.take i ++ d :: its.drop i) f e ?_ (c.append (.cons p w)) ?_,rfl,q⟩
 ·have hk:(if j < 0 then(j + (its.toArray.size:Int)).toNat else min j.toNat its.toArray.size)=i:=by
   rw[<-t,if_neg (by lia),Cj,Bb];lia
  show(its.toArray.extract 0 (if j < 0 then(j + (its.toArray.size:Int)).toNat else min j.toNat its.toArray.size)).push d ++ its.toArray.extract (if j < 0 then(j + (its.toArray.size:Int)).toNat else min j.toNat its.toArray.size)=_
  rw[hk]
  apply Array.toList_inj.mp
  simp[Bw,Array.toList_push]
  rw[Dw (by rw[Gs];lia)]
 ·rw[Aw,Bp,Cg,Gs]
  lia
end
end L2
namespace L3
open PySem PySem.Spec PyProof.Rows L2
section
variable {X:Cx}
def xC:R3:=fun x y M R=>∃ a b c d:Int,x=.tup [.int a,.int b]/\y=.tup [.int c,.int d]/\R (.bl (gB (a,b) (c,d))) M
def D1:R3:=fun x y M R=>∃ a b c d:Int,x=.tup [.int a,.int b]/\y=.tup [.int c,.int d]/\R (.bl (gB (c,d) (a,b))) M
theorem sP{pins:List (Addr×Obj)}{σ:SV}{H:Hp}{M:Mm}{s:Ah}{x:V}{v:Ac}{a b:Int}(I:Inv X pins σ H s)(k:RelV x v)(c:AV X.K H M x (.tup [.int a,.int b])):∃ p o its n t u,v=.ref p/\s.heap.get? p=some o/\o.cls=.type "tuple"/\o.data=.seq its n/\its.toList=[.int a t,.int b u]:=by
 cases c with
 | @tup p xs _ e q=>
  cases (show v=Value.ref p from k)
  obtain⟨y,z,rfl,d,A⟩:=q.two
  obtain rfl:=d.inv
  obtain rfl:=A.inv
  obtain⟨_,its,r,o,f,B,m,g⟩:=(show cN X.prog X.w H s.heap p (.tup [.int a,.int b]) from I.hok p _ e)
  obtain⟨D,C,rfl,h,i⟩:=vals2 r
  obtain⟨j,rfl⟩:=h
  obtain⟨l,rfl⟩:=i
  exact⟨p,o,_,m,j,l,rfl,f,B,g,by simp⟩
theorem D2(l:X.A.units + 1 < Fz):bB X (Cf .Lt) (bY X.K xC):=by
 rintro pins s σ H x y v u Q I i B ⟨N,G,M,R,z,j,e,⟨a,b,c,d,rfl,rfl,r⟩,k⟩
 obtain⟨p,o,its,n,L,J,rfl,C,t,D,E⟩:=sP I i j
 obtain⟨F,P,its',O,h,f,rfl,q,m,g,w⟩:=sP I B e
 exact U8 l C t D q m g E w ⟨.bl _,H,I,rfl,k.at z (.bl _) r⟩
theorem VB(l:X.A.units + 1 < Fz):bB X (Cf .Gt) (bY X.K D1):=by
 rintro pins s σ H x y v u Q I i B ⟨N,G,M,R,z,j,e,⟨a,b,c,d,rfl,rfl,r⟩,k⟩
 obtain⟨p,o,its,n,L,J,rfl,C,t,D,E⟩:=sP I i j
 obtain⟨F,P,its',O,h,f,rfl,q,m,g,w⟩:=sP I B e
 exact U9 l C t D q m g E w ⟨.bl _,H,I,rfl,k.at z (.bl _) r⟩
def D4:W->List W->Mm->K3->Prop
 | .ref l,[.int i,y],M,R=>∃ ws,M l=some (.lst ws)/\ws.length < Aj/\0<=i/\i<=ws.length/\R .non (put M l (.lst (ws.take i.toNat ++ y :: ws.drop i.toNat)))
 | _,_,_,_=>False
theorem D5{K:Ae}{H:Hp}{M:Mm}:∀ {vs:List V} {ws:List W} (i:Nat),aL K H M vs ws->aL K H M (vs.take i) (ws.take i)/\aL K H M (vs.drop i) (ws.drop i)
 | _,_,0,h=>⟨.nil,h⟩
 | _,_,i + 1,.nil=>⟨.nil,.nil⟩
 | _,_,i + 1,.cons r t=>by
  obtain⟨b,a⟩:=D5 i t
  exact⟨.cons r b,a⟩
theorem VC:iC X "list.insert" (jP X.K D4):=by
 rintro pins s σ H x xs v us Q I o rs ⟨c,ws,M,R,b,d,a,h,k⟩
 match c,ws,h with
 | .ref l,[.int i,y],h=>
  obtain⟨u,z,rfl,n,g⟩:=a.two
  obtain rfl:=d.inv
  obtain rfl:=n.inv
  obtain⟨ws,e,hl,p,t,r⟩:=h
  obtain⟨i,rfl⟩:=Int.eq_ofNat_of_zero_le p
  obtain⟨vs,f,q⟩:=b.lst e
  obtain⟨m,j⟩:=D5 i q
  rw[Cj] at r
  exact VA pins s σ H _ _ v us Q I o rs ⟨l,vs,z,i,rfl,rfl,f,by rw[q.length];exact hl,by rw[q.length];lia,rP b k e (m.append (.cons g j)) .non r⟩
end
end L3
namespace Rg
open PySem PySem.Spec PyProof.Rows L2 L3
structure aU where
 name:Str
 parts:List Str
 cost:Int
def VD(t:Str):Prop:=∀ c∈cs t,c < 128
structure VE(t:Str):Prop where
 len:t.length<=20
 nm:jM t=true
 hd:∃ c r,cs t=c :: r/\c∈cs lF
 asc:VD t
structure xD(t:Str):Prop where
 len:t.length<=20
 ne:cs t≠[]
 sm:∀ c∈cs t,c∈cs oV
theorem xD.nm{t:Str}(h:xD t):jM t=false:=Q3 h.ne h.sm
structure VF(hs ws:List Str)(r:aU):Prop where
 name:r.name∈hs
 parts:∀ t∈r.parts,t∈ws\/t∈hs
 few:r.parts.length<=4
 lo:0<=r.cost
 hi:r.cost < 10 ^ 60
structure xE(rs:List aU):Prop where
 ne:rs≠[]
 few:rs.length<=60
 ex:∃ hs ws:List Str,hs.length<=12/\(∀ t∈hs,VE t)/\(∀ t∈ws,xD t)/\(∀ r∈rs,VF hs ws r)/\∀ t∈hs,∃ r∈rs,r.name=t
def hV(acc:List Str)(t:Str):List Str:=if t∈acc then acc else acc ++ [t]
def pP(acc:List Str)(rs:List aU):List Str:=(rs.map aU.name).foldl hV acc
def namesOf(rs:List aU):List Str:=pP [] rs
theorem VG{acc:List Str}{t u:Str}:u∈hV acc t↔u∈acc\/u=t:=by
 unfold hV
 split
 ·rename_i h
  constructor
  ·exact .inl
  ·rintro(q | q)
   ·exact q
   ·rw[q];exact h
 ·rw[Bo,Az]
theorem VH{acc:List Str}{t:Str}:(hV acc t).length<=acc.length + 1:=by
 unfold hV
 split
 ·lia
 ·rw[Aw];exact Ai _
theorem xF:∀ {ts acc:List Str} {u:Str},u∈ts.foldl hV acc↔u∈acc\/u∈ts
 | [],acc,u=>by simp
 | t :: r,acc,u=>by
  rw[Ge,xF,VG,Ba]
  constructor
  ·rintro((h | h) | h)
   ·exact .inl h
   ·exact .inr (.inl h)
   ·exact .inr (.inr h)
  ·rintro(h | h | h)
   ·exact .inl (.inl h)
   ·exact .inl (.inr h)
   ·exact .inr h
theorem D6{rs:List aU}{u:Str}:u∈namesOf rs↔∃ r∈rs,r.name=u:=by
 unfold namesOf pP
 rw[xF]
 simp
theorem xG:∀ (ts acc:List Str),(ts.foldl hV acc).length<=acc.length + ts.length
 | [],acc=>by simp
 | t :: r,acc=>by
  rw[Ge,Bp]
  have:=xG r (hV acc t)
  have:=VH (acc:=acc) (t:=t)
  lia
theorem VI{rs:List aU}(g:xE rs){r:aU}(c:r∈rs):0<=r.cost/\∀ t∈r.parts,t.length<=1000/\(jM t=true->t∈namesOf rs):=by
 obtain⟨hs,ws,_,d,hw,a,b⟩:=g.ex
 refine⟨(a r c).lo,fun t ht=>?_⟩
 rcases(a r c).parts t ht with q | q
 ·have:=hw t q
  exact⟨by have:=this.len;lia,fun n=>by rw[this.nm] at n;cases n⟩
 ·have:=d t q
  exact⟨by have:=this.len;lia,fun _=>D6.mpr (b t q)⟩
def cY(r:aU):W:=.tup [.str r.name,.tup (r.parts.map W.str),.int r.cost]
def d7(rs:List aU):W:=.rl (rs.map cY)
abbrev aH:=Int×Int
def cA(a b:aH):Bool:=decide (a.1 < b.1) || (decide (a.1=b.1) && decide (a.2 < b.2))
theorem nX{a b:aH}:cA a b=true↔a.1 < b.1\/a.1=b.1/\a.2 < b.2:=by simp[cA]
def Le(a b:aH):Prop:=a.1 < b.1\/a.1=b.1/\a.2<=b.2
theorem xH{a b:aH}:Le a b↔¬ cA b a=true:=by
 rw[nX];unfold Le;lia
theorem Le.refl(a:aH):Le a a:=.inr ⟨rfl,Nr _⟩
theorem Le.trans{a b c:aH}(h:Le a b)(h':Le b c):Le a c:=by unfold Le at *;lia
theorem Le.of_lt{a b:aH}(h:cA a b=true):Le a b:=by rw[nX] at h;unfold Le;lia
theorem Le.antisymm{a b:aH}(h:Le a b)(h':Le b a):a=b:=by
 unfold Le at *
 exact Prod.ext (by lia) (by lia)
theorem pQ{a:aH}:¬ cA a a=true:=by rw[nX];lia
theorem pR{a b c:aH}(h:cA a b=true)(h':Le b c):cA a c=true:=by rw[nX] at *;unfold Le at h';lia
def dQ(a b:aH):aH:=(a.1 + b.1,a.2 + b.2)
theorem VJ{a b c d:aH}(h:Le a b)(h':Le c d):Le (dQ a c) (dQ b d):=by unfold Le dQ at *;simp only;lia
section
variable {κ β:Type}[DecidableEq κ]
def aG(t:List (κ×β))(k:κ):Option β:=(t.find? fun e=>decide (e.1=k)).map (·.2)
def cT(t:List (κ×β))(k:κ)(v:β):List (κ×β):=if (t.any fun e=>decide (e.1=k))=true then t.map (fun e=>if e.1=k then(e.1,v) else e) else t ++ [(k,v)]
theorem dU(e:κ×β)(t:List (κ×β))(k:κ):aG (e :: t) k=if e.1=k then some e.2 else aG t k:=by
 unfold aG
 rw[Fp]
 by_cases h:e.1=k
 ·rw[decide_eq_true h,if_pos h];rfl
 ·rw[decide_eq_false h,if_neg h]
theorem mU(t:List (κ×β))(k:κ):(t.any fun e=>decide (e.1=k))=(aG t k).isSome:=by
 induction t with
 | nil=>rfl
 | cons e t a=>
  rw[Gp,dU,a]
  by_cases h:e.1=k
  ·rw[decide_eq_true h,if_pos h];rfl
  ·rw[decide_eq_false h,if_neg h];rfl
theorem xI(t:List (κ×β))(k j:κ)(v:β):aG (t ++ [(k,v)]) j=(aG t j).or (if k=j then some v else none):=by
 induction t with
 | nil=>rw[Ld,dU];rfl
 | cons e t a=>
  rw[List.cons_append,dU,dU,a]
  split <;> rfl
theorem VL(t:List (κ×β))(k j:κ)(v:β)(h:(aG t k).isSome=true):aG (t.map (fun e=>if e.1=k then(e.1,v) else e)) j=if k=j then some v else aG t j:=by
 induction t with
 | nil=>cases h
 | cons e t c=>
  rw[Ar,dU,dU]
  rw[dU] at h
  by_cases hk:e.1=k
  ·rw[if_pos hk]
   by_cases b:k=j
   ·rw[if_pos (by rw[hk,b]:(e.1,v).1=j),if_pos b]
   ·rw[if_neg (by rw[hk];exact b),if_neg b,if_neg (by rw[hk];exact b)]
    by_cases ht:(aG t k).isSome=true
    ·rw[c ht,if_neg b]
    ·have:∀ {t:List (κ×β)},¬ (aG t k).isSome=true->t.map (fun e=>if e.1=k then(e.1,v) else e)=t:=by
      intro t
      induction t with
      | nil=>intro _;rfl
      | cons a t c=>
       intro h
       rw[dU] at h
       by_cases ha:a.1=k
       ·rw[if_pos ha] at h;exact absurd rfl h
       ·rw[if_neg ha] at h
        rw[Ar,if_neg ha,c h]
     rw[this ht]
  ·rw[if_neg hk] at h ⊢
   by_cases b:e.1=j
   ·rw[if_pos b,if_pos b,if_neg (fun z=>hk (by rw[b,z]))]
   ·rw[if_neg b,if_neg b]
    exact c h
theorem kS(t:List (κ×β))(k j:κ)(v:β):aG (cT t k v) j=if k=j then some v else aG t j:=by
 unfold cT
 rw[mU]
 split
 ·rename_i h
  exact VL t k j v h
 ·rename_i h
  rw[xI]
  by_cases a:k=j
  ·subst a
   rw[if_pos rfl,if_pos rfl]
   cases e:aG t k with
   | none=>rfl
   | some z=>rw[e] at h;exact absurd rfl h
  ·rw[if_neg a,if_neg a,Option.or_none]
theorem sQ(t:List (κ×β))(k:κ)(v:β):(cT t k v).length<=t.length + 1:=by
 unfold cT
 split
 ·rw[Ab];lia
 ·simp
def eM{a:Type}(t:List (κ×List a))(k:κ)(v:a):List (κ×List a):=cT t k ((aG t k).getD [] ++ [v])
theorem pT{a:Type}(t:List (κ×List a))(k j:κ)(v:a):(aG (eM t k v) j).getD []=if k=j then(aG t j).getD [] ++ [v] else(aG t j).getD []:=by
 unfold eM
 rw[kS]
 by_cases h:k=j
 ·subst h;rw[if_pos rfl,if_pos rfl];rfl
 ·rw[if_neg h,if_neg h]
end
section
variable {α:Type}
def dD(c:aH)(x:α):List (aH×List α)->List (aH×List α)
 | []=>[(c,[x])]
 | (d,xs) :: r=>if cA c d=true then(d,xs) :: dD c x r else if d=c then(d,xs ++ [x]) :: r else(c,[x]) :: (d,xs) :: r
def aX:List (aH×List α)->List (aH×α)
 | []=>[]
 | (d,xs) :: r=>xs.map (fun x=>(d,x)) ++ aX r
theorem sR(c:aH)(x:α):∀ q:List (aH×List α),(aX (dD c x q)).length=(aX q).length + 1
 | []=>rfl
 | (d,xs) :: r=>by
  rw[dD]
  split
  ·rw[aX,aX,Aw,Aw,sR c x r];lia
  ·split
   ·rw[aX,aX,Aw,Aw,Bs,Aw];simp;lia
   ·simp[aX]
def gC:List (aH×List α)->Prop
 | []=>True
 | (d,xs) :: r=>xs≠[]/\(∀ e∈r,cA e.1 d=true)/\gC r
theorem D7(c:aH)(x:α):∀ q:List (aH×List α),∀ e∈dD c x q,e.1=c\/∃ a∈q,a.1=e.1
 | [],e,h=>by simp[dD] at h;exact .inl (by rw[h])
 | (d,xs) :: r,e,h=>by
  rw[dD] at h
  split at h
  ·rcases Ba.mp h with z | z
   ·exact .inr ⟨(d,xs),by simp,by rw[z]⟩
   ·rcases D7 c x r e z with q | ⟨a,b,f⟩
    ·exact .inl q
    ·exact .inr ⟨a,Bd _ b,f⟩
  ·split at h
   ·rcases Ba.mp h with z | z
    ·exact .inr ⟨(d,xs),by simp,by rw[z]⟩
    ·exact .inr ⟨e,Bd _ z,rfl⟩
   ·rcases Ba.mp h with z | z
    ·exact .inl (by rw[z])
    ·exact .inr ⟨e,z,rfl⟩
theorem xJ(c:aH)(x:α):∀ {q:List (aH×List α)},gC q->gC (dD c x q)
 | [],_=>⟨by simp,by simp,trivial⟩
 | (d,xs) :: r,h=>by
  obtain⟨g,b,i⟩:=h
  rw[dD]
  split
  ·rename_i a
   refine⟨g,fun e j=>?_,xJ c x i⟩
   rcases D7 c x r e j with z | ⟨l,z1,z2⟩
   ·rw[z];exact a
   ·rw[<-z2];exact b l z1
  ·rename_i a
   split
   ·rename_i hd
    subst hd
    exact⟨by simp,b,i⟩
   ·rename_i hd
    have f:cA d c=true:=by
     have k:¬ (c.1 < d.1\/c.1=d.1/\c.2 < d.2):=by rw[<-nX];exact a
     rw[nX]
     by_cases g:d.1=c.1
     ·refine .inr ⟨g,?_⟩
      have:d.2≠c.2:=fun b=>hd (Prod.ext g b)
      lia
     ·left;lia
    refine⟨by simp,fun e j=>?_,g,b,i⟩
    rcases Ba.mp j with z | z
    ·rw[z];exact f
    ·exact pR (b e z) (Le.of_lt f)
def gO:List (aH×List α)->Option (aH×α×List (aH×List α))
 | []=>none
 | [(d,xs)]=>match xs.getLast? with
  | none=>none
  | some x=>some (d,x,if xs.dropLast.isEmpty then [] else [(d,xs.dropLast)])
 | e :: a :: r=>match gO (a :: r) with
  | none=>none
  | some (d,x,q)=>some (d,x,e :: q)
theorem mV:∀ {q:List (aH×List α)},gC q->q≠[]->∃ d x f,gO q=some (d,x,f)/\gC f/\(∀ e,e∈aX q↔e=(d,x)\/e∈aX f)/\(aX q).length=(aX f).length + 1/\(∀ e∈q,Le d e.1)/\∀ e∈f,∃ t∈q,t.1=e.1
 | [],_,h=>absurd rfl h
 | [(d,xs)],h,_=>by
  obtain⟨i,_,_⟩:=h
  rcases Gy xs with z | ⟨ys,y,z⟩
  ·exact absurd z i
  ·rw[Gz] at z
   subst z
   refine⟨d,y,if ys.isEmpty then [] else [(d,ys)],by simp[gO],?_,fun e=>?_,?_,fun e g=>?_,fun e g=>?_⟩
   ·cases ys with
    | nil=>trivial
    | cons a b=>exact⟨by simp,by simp,trivial⟩
   ·cases ys with
    | nil=>simp[aX]
    | cons a b=>simp[aX];constructor <;> (intro h;rcases h with h | h | h <;> simp[h])
   ·cases ys with
    | nil=>simp[aX]
    | cons a b=>simp[aX]
   ·rw[Az.mp g];exact Le.refl _
   ·cases ys with
    | nil=>cases g
    | cons a b=>simp at g;exact⟨(d,a :: b ++ [y]),by simp,by rw[g]⟩
 | e :: m :: r,h,_=>by
  obtain⟨i,o,s⟩:=h
  obtain⟨d,x,f,u,v,p,l1,n,l⟩:=mV s (by simp)
  refine⟨d,x,e :: f,by rw[gO,u],⟨i,fun z hz=>?_,v⟩,fun z=>?_,?_,fun z hz=>?_,fun z hz=>?_⟩
  ·obtain⟨j,c,k⟩:=l z hz
   rw[<-k];exact o j c
  ·rw[aX,Bo,p,aX,Bo]
   constructor
   ·rintro(h | h | h)
    ·exact .inr (.inl h)
    ·exact .inl h
    ·exact .inr (.inr h)
   ·rintro(h | h | h)
    ·exact .inr (.inl h)
    ·exact .inl h
    ·exact .inr (.inr h)
  ·rw[aX,Aw,l1,aX,Aw];lia
  ·rcases Ba.mp hz with q | q
   ·rw[q]
    have:=n m Bg
    exact this.trans (Le.of_lt (o m Bg))
   ·exact n z q
  ·rcases Ba.mp hz with q | q
   ·exact⟨e,Bg,by rw[q]⟩
   ·obtain⟨j,c,k⟩:=l z q
    exact⟨j,Bd _ c,k⟩
theorem D8{q:List (aH×List α)}{e:aH×α}(h:e∈aX q):∃ b∈q,b.1=e.1:=by
 induction q with
 | nil=>cases h
 | cons b r a=>
  obtain⟨d,xs⟩:=b
  rw[aX] at h
  rcases Bo.mp h with z | z
  ·obtain⟨x,_,rfl⟩:=Au.mp z
   exact⟨(d,xs),Bg,rfl⟩
  ·obtain⟨b,hb,c⟩:=a z
   exact⟨b,Bd _ hb,c⟩
end
section
variable {α:Type}
theorem D9(c:aH)(x:α):∀ q:List (aH×List α),(aX (dD c x q)).Perm ((c,x) :: aX q)
 | []=>.refl _
 | (d,xs) :: r=>by
  rw[dD]
  split
  ·rw[aX,aX]
   exact(Cw _ (D9 c x r)).trans Mf
  ·split
   ·rename_i hd
    subst hd
    rw[aX,aX,Bs,Ce]
    exact Mf
   ·exact .refl _
theorem xK:∀ {q c:List (aH×List α)} {d:aH} {x:α},gC q->gO q=some (d,x,c)->(aX q).Perm ((d,x) :: aX c)
 | [],c,d,x,_,h=>by cases h
 | [(f,xs)],c,d,x,hf,h=>by
  obtain⟨i,_,_⟩:=hf
  rcases Gy xs with z | ⟨ys,y,z⟩
  ·exact absurd z i
  ·rw[Gz] at z
   subst z
   simp[gO] at h
   obtain⟨rfl,rfl,rfl⟩:=h
   cases ys with
   | nil=>exact .refl _
   | cons a b=>
    rw[if_neg (by simp)]
    simp only[aX,Gf,Bs,Ar,Kh]
    exact List.perm_append_singleton _ _
 | e :: l :: r,c,d,x,hf,h=>by
  obtain⟨_,_,k⟩:=hf
  rw[gO] at h
  split at h
  ·cases h
  ·rename_i m x1 n g
   simp only[Es,Dk] at h
   obtain⟨rfl,rfl,rfl⟩:=h
   have j:=xK k g
   obtain⟨f,xs⟩:=e
   rw[aX,aX]
   exact(Cw _ j).trans Mf
end
structure Sr where
 rs:List aU
 own:Str->Bool
 places:List Int
 steps:Str->Int->List (Int×Int)
 wt:Nat->Int
structure pU(G:Sr):Prop where
 wt:∀ n,0<=G.wt n
 pr:∀ t p e c,(e,c)∈G.steps t p->0<=c
abbrev K4:=Nat×Nat×Int×Int
abbrev bX:=Str×Int×Int
abbrev bR:=Nat×List Int×aH
def bJ(n:Nat)(a:List Int):K4:=(n,a.length,a.headD 0,a.getLastD 0)
def kT(y:bR):K4:=bJ y.1 y.2.1
abbrev fA:=List (bX×aH×Nat×List Int)
structure SS where
 q:List (aH×List (Nat×List Int))
 reached:List (K4×aH)
 best:fA
 ends:List ((Str×Int)×List (Int×aH))
 begun:List ((Str×Int)×List bR)
def reach(st:SS)(n:Nat)(a:List Int)(c:aH):SS:=match aG st.reached (bJ n a) with
 | some d=>if cA c d=true then {st with reached:=cT st.reached (bJ n a) c,q:=dD c (n,a) st.q} else st
 | none=>{st with reached:=cT st.reached (bJ n a) c,q:=dD c (n,a) st.q}
inductive GI(G:Sr)(B:fA):Nat->List Int->aH->Prop
 | start {n:Nat} {r:aU} {p:Int}:G.rs[n]? = some r->p∈G.places->GI G B n [p] (G.wt n,1)
 | word {n:Nat} {r:aU} {cut:List Int} {c:aH} {part:Str} {e pr:Int}:GI G B n cut c->G.rs[n]? = some r->r.parts[cut.length - 1]? = some part->G.own part=false->(e,pr)∈G.steps part (cut.getLastD 0)->GI G B n (cut ++ [e]) (c.1 + pr,c.2)
 | name {n:Nat} {r:aU} {cut:List Int} {c m:aH} {part:Str} {e:Int} {k:Nat×List Int}:GI G B n cut c->G.rs[n]? = some r->r.parts[cut.length - 1]? = some part->G.own part=true->aG B (part,cut.getLastD 0,e)=some (m,k)->GI G B n (cut ++ [e]) (dQ c m)
theorem GI.mono{G:Sr}{B j:fA}(h:∀ f v,aG B f=some v->aG j f=some v){n:Nat}{e:List Int}{c:aH}(g:GI G B n e c):GI G j n e c:=by
 induction g with
 | start a b=>exact .start a b
 | word _ a b c d i=>exact .word i a b c d
 | name _ a b c d i=>exact .name i a b c (h _ _ d)
theorem GI.ne{G:Sr}{B:fA}{n:Nat}{a:List Int}{c:aH}(g:GI G B n a c):a≠[]:=by cases g <;> simp
def qk(e:aH×(Nat×List Int)):aH×K4:=(e.1,bJ e.2.1 e.2.2)
def eU(st:SS)(k:K4)(c:aH):Prop:=∃ d,aG st.reached k=some d/\Le d c
structure eV(G:Sr)(st:SS)(P:List bR)(cur:aH):Prop where
 fall:gC st.q
 item:∀ e∈aX st.q,GI G st.best e.2.1 e.2.2 e.1
 ge:∀ e∈aX st.q,∃ d,aG st.reached (bJ e.2.1 e.2.2)=some d/\Le d e.1
 nd:((aX st.q).map qk).Nodup
 once:(P.map kT).Nodup
 pr:∀ y∈P,aG st.reached (kT y)=some y.2.2/\Le y.2.2 cur/\GI G st.best y.1 y.2.1 y.2.2
 fresh:∀ e∈aX st.q,∀ y∈P,kT y=bJ e.2.1 e.2.2->cA y.2.2 e.1=true
 curq:∀ e∈aX st.q,Le cur e.1
 hit:∀ k d,aG st.reached k=some d->(∃ e∈aX st.q,e.1=d/\bJ e.2.1 e.2.2=k)\/∃ y∈P,kT y=k/\y.2.2=d
structure i9(st st':SS):Prop where
 best:st'.best=st.best
 ends:st'.ends=st.ends
 begun:st'.begun=st.begun
 le:∀ k c,eU st k c->eU st' k c
theorem i9.refl(st:SS):i9 st st:=⟨rfl,rfl,rfl,fun _ _ h=>h⟩
theorem i9.trans{a b c:SS}(x:i9 a b)(y:i9 b c):i9 a c:=⟨y.best.trans x.best,y.ends.trans x.ends,y.begun.trans x.begun,fun k c h=>y.le k c (x.le k c h)⟩
theorem VM{G:Sr}{st:SS}{P:List bR}{cur:aH}{n:Nat}{a:List Int}{c:aH}(I:eV G st P cur)(g:GI G st.best n a c)(hc:Le cur c) :
  eV G (reach st n a c) P cur/\i9 st (reach st n a c)/\eU (reach st n a c) (bJ n a) c:=by
 have push:(∀ d,aG st.reached (bJ n a)=some d->cA c d=true)->eV G {st with reached:=cT st.reached (bJ n a) c,q:=dD c (n,a) st.q} P cur/\i9 st {st with reached:=cT st.reached (bJ n a) c,q:=dD c (n,a) st.q}/\eU {st with reached:=cT st.reached (bJ n a) c,q:=dD c (n,a) st.q} (bJ n a) c:=by
  intro i
  have s:=D9 c (n,a) st.q
  have o:∀ e,e∈aX (dD c (n,a) st.q)↔e=(c,(n,a))\/e∈aX st.q:=fun e=>by rw[s.mem_iff,Ba]
  have p:∀ y∈P,kT y≠bJ n a:=fun y m e=>by
   obtain⟨b,f,_⟩:=I.pr y m
   rw[e] at b
   have:=pR (i _ b) (f.trans hc)
   exact pQ this
  have le:∀ k d,eU st k d->eU {st with reached:=cT st.reached (bJ n a) c,q:=dD c (n,a) st.q} k d:=fun k d h=>by
   obtain⟨z,b,f⟩:=h
   by_cases e:bJ n a=k
   ·subst e
    exact⟨c,by show aG (cT _ _ _) _=_;rw[kS,if_pos rfl],(Le.of_lt (i z b)).trans f⟩
   ·exact⟨z,by show aG (cT _ _ _) _=_;rw[kS,if_neg e];exact b,f⟩
  refine⟨⟨xJ _ _ I.fall,fun e j=>?_,fun e j=>?_,?_,I.once,fun y m=>?_,fun e j y m l=>?_,fun e j=>?_,fun k d hd=>?_⟩,⟨rfl,rfl,rfl,le⟩,c,by show aG (cT _ _ _) _=_;rw[kS,if_pos rfl],Le.refl c⟩
  ·rcases(o e).mp j with z | z
   ·rw[z];exact g
   ·exact I.item e z
  ·show ∃ d,aG (cT _ _ _) _=_/\_
   rw[kS]
   rcases(o e).mp j with z | z
   ·rw[z,if_pos rfl];exact⟨c,rfl,Le.refl _⟩
   ·obtain⟨d,b,f⟩:=I.ge e z
    by_cases l:bJ n a=bJ e.2.1 e.2.2
    ·rw[if_pos l]
     rw[<-l] at b
     exact⟨c,rfl,(Le.of_lt (i d b)).trans f⟩
    ·rw[if_neg l];exact⟨d,b,f⟩
  ·rw[(s.map qk).nodup_iff,Ar,Dq]
   refine⟨fun z=>?_,I.nd⟩
   obtain⟨e,j,eq⟩:=Au.mp z
   obtain⟨d,b,f⟩:=I.ge e j
   unfold qk at eq
   rw[Dk] at eq
   rw[eq.2] at b
   rw[eq.1] at f
   exact pQ (pR (i d b) f)
  ·obtain⟨b,f,r⟩:=I.pr y m
   refine⟨?_,f,r⟩
   show aG (cT _ _ _) _=_
   rw[kS,if_neg (Bq (p y m))];exact b
  ·rcases(o e).mp j with z | z
   ·rw[z] at l;exact absurd l (p y m)
   ·exact I.fresh e z y m l
  ·rcases(o e).mp j with z | z
   ·rw[z];exact hc
   ·exact I.curq e z
  ·have hd:aG (cT st.reached (bJ n a) c) k=some d:=hd
   rw[kS] at hd
   by_cases e:bJ n a=k
   ·rw[if_pos e] at hd
    cases hd
    exact .inl ⟨(c,(n,a)),(o _).mpr (.inl rfl),rfl,e⟩
   ·rw[if_neg e] at hd
    rcases I.hit k d hd with⟨x,b,f,r⟩ | h
    ·exact .inl ⟨x,(o _).mpr (.inr b),f,r⟩
    ·exact .inr h
 unfold reach
 cases h:aG st.reached (bJ n a) with
 | none=>exact push fun d e=>by rw[h] at e;cases e
 | some d=>
  simp only
  split
  ·rename_i hl
   exact push fun d' e=>by rw[h] at e;cases e;exact hl
  ·rename_i hl
   exact⟨I,i9.refl st,d,h,xH.mpr hl⟩
theorem pV{G:Sr}{P:List bR}{cur:aH}{α:Type}(f:α->Nat×List Int×aH):∀ (xs:List α) {st:SS},eV G st P cur->(∀ x∈xs,GI G st.best (f x).1 (f x).2.1 (f x).2.2/\Le cur (f x).2.2)->
  eV G (xs.foldl (fun st x=>reach st (f x).1 (f x).2.1 (f x).2.2) st) P cur/\i9 st (xs.foldl (fun st x=>reach st (f x).1 (f x).2.1 (f x).2.2) st)/\∀ x∈xs,eU (xs.foldl (fun st x=>reach st (f x).1 (f x).2.1 (f x).2.2) st) (bJ (f x).1 (f x).2.1) (f x).2.2
 | [],st,I,_=>⟨I,i9.refl st,fun x d=>nomatch d⟩
 | x :: xs,st,I,h=>by
  obtain⟨l,g⟩:=h x Bg
  obtain⟨i,b,j⟩:=VM I l g
  obtain⟨e,c,k⟩:=pV f xs i fun y a=>by
   have:=h y (Bd _ a)
   rw[b.best];exact this
  refine⟨e,b.trans c,fun y a=>?_⟩
  rcases Ba.mp a with z | z
  ·rw[z];exact c.le _ _ j
  ·exact k y z
def cB(G:Sr)(n:Nat):Str:=match G.rs[n]? with
 | some r=>r.name
 | none=>""
def cZ(G:Sr)(n:Nat)(a:List Int):Option Str:=match G.rs[n]? with
 | some r=>r.parts[a.length - 1]?
 | none=>none
def cD(G:Sr)(n:Nat)(a:List Int):bX:=(cB G n,a.headD 0,a.getLastD 0)
def settle(G:Sr)(st:SS)(n:Nat)(a:List Int)(c:aH):SS:=match aG st.best (cD G n a) with
 | some _=>st
 | none=>((aG st.begun (cB G n,a.headD 0)).getD []).foldl (fun st y=>reach st y.1 (y.2.1 ++ [a.getLastD 0]) (dQ y.2.2 c)) {st with best:=st.best ++ [(cD G n a,c,n,a)],ends:=eM st.ends (cB G n,a.headD 0) (a.getLastD 0,c)}
def fB(st:SS)(n:Nat)(a:List Int)(c:aH)(b:Str):SS:=((aG st.ends (b,a.getLastD 0)).getD []).foldl (fun st z=>reach st n (a ++ [z.1]) (dQ c z.2)) {st with begun:=eM st.begun (b,a.getLastD 0) (n,a,c)}
def fG(G:Sr)(st:SS)(n:Nat)(a:List Int)(c:aH)(b:Str):SS:=(G.steps b (a.getLastD 0)).foldl (fun st z=>reach st n (a ++ [z.1]) (c.1 + z.2,c.2)) st
def process(G:Sr)(st:SS)(n:Nat)(b:List Int)(c:aH):SS:=match cZ G n b with
 | none=>settle G st n b c
 | some a=>if G.own a=true then fB st n b c a else fG G st n b c a
structure Ob(G:Sr)(st:SS)(P:List bR)(cur:aH):Prop where
 zero:Le (0,0) cur
 fin:∀ y∈P,cZ G y.1 y.2.1=none->∃ m k,aG st.best (cD G y.1 y.2.1)=some (m,k)/\Le m y.2.2
 wrd:∀ y∈P,∀ part,cZ G y.1 y.2.1=some part->G.own part=false->∀ z∈G.steps part (y.2.1.getLastD 0),eU st (bJ y.1 (y.2.1 ++ [z.1])) (y.2.2.1 + z.2,y.2.2.2)
 nam:∀ y∈P,∀ part,cZ G y.1 y.2.1=some part->G.own part=true->y∈(aG st.begun (part,y.2.1.getLastD 0)).getD []
 pair:∀ key,∀ y∈(aG st.begun key).getD [],∀ z∈(aG st.ends key).getD [],eU st (bJ y.1 (y.2.1 ++ [z.1])) (dQ y.2.2 z.2)
 bgn:∀ key,∀ y∈(aG st.begun key).getD [],y∈P/\cZ G y.1 y.2.1=some key.1/\G.own key.1=true/\y.2.1.getLastD 0=key.2/\Le (0,0) y.2.2
 ends:∀ nm b e m,(e,m)∈(aG st.ends (nm,b)).getD []↔∃ k,aG st.best (nm,b,e)=some (m,k)
 bst:∀ f m n cut,aG st.best f=some (m,n,cut)->cZ G n cut=none/\f=cD G n cut/\Le (0,0) m/\Le m cur
 ord:∀ pre e post,st.best=pre ++ e :: post->GI G pre e.2.2.1 e.2.2.2 e.2.1/\aG pre e.1=none
theorem VN{a b:aH}(h:Le (0,0) b):Le a (dQ a b):=by unfold Le dQ at *;simp only at *;lia
theorem VO{a b:aH}(h:Le (0,0) b):Le a (dQ b a):=by unfold Le dQ at *;simp only at *;lia
theorem VP{G:Sr}{st:SS}{P:List bR}{cur c:aH}{n:Nat}{f:List Int}{t:List (aH×List (Nat×List Int))}(I:eV G st P cur)(ht:gO st.q=some (c,(n,f),t))(C:aG st.reached (bJ n f)=some c):eV G {st with q:=t} (P ++ [(n,f,c)]) c/\Le cur c/\GI G st.best n f c:=by
 have p:st.q≠[]:=fun e=>by rw[e] at ht;cases ht
 obtain⟨d,x,L,s,H,w,K,J,_⟩:=mV I.fall p
 rw[ht] at s
 simp only[Es,Dk] at s
 obtain⟨rfl,rfl,rfl⟩:=s
 have F:=xK I.fall ht
 have j:(c,(n,f))∈aX st.q:=(w _).mpr (.inl rfl)
 have sub:∀ e∈aX t,e∈aX st.q:=fun e g=>(w e).mpr (.inr g)
 have o:=I.curq _ j
 have r:=I.nd
 rw[(F.map qk).nodup_iff,Ar,Dq] at r
 have l:∀ e∈aX t,Le c e.1:=fun e g=>by
  obtain⟨b,hb,eb⟩:=D8 (sub e g)
  rw[<-eb];exact J b hb
 have B:∀ y∈P,kT y≠bJ n f:=fun y m e=>by
  have i:=I.fresh _ j y m e
  obtain⟨h,_,_⟩:=I.pr y m
  rw[e,C] at h
  cases h
  exact pQ i
 refine⟨⟨H,fun e g=>I.item e (sub e g),fun e g=>I.ge e (sub e g),r.2,?_,fun y m=>?_,fun e g y m D=>?_,l,fun k d hd=>?_⟩,o,I.item _ j⟩
 ·rw[Bs,Gd]
  refine⟨I.once,by simp,fun a ha b hb e=>?_⟩
  obtain⟨y,m,rfl⟩:=Au.mp ha
  rw[List.map_singleton,Az] at hb
  exact B y m (by rw[e,hb];rfl)
 ·rcases Bo.mp m with z | z
  ·obtain⟨i,h,u⟩:=I.pr y z
   exact⟨i,h.trans o,u⟩
  ·rw[Az.mp z]
   exact⟨C,Le.refl _,I.item _ j⟩
 ·rcases Bo.mp m with z | z
  ·exact I.fresh e (sub e g) y z D
  ·have v:=Az.mp z
   subst v
   have i:=l e g
   have p:e.1≠c:=fun s=>r.1 (Au.mpr ⟨e,g,by
    have A:bJ n f=bJ e.2.1 e.2.2:=D
    show(e.1,bJ e.2.1 e.2.2)=(c,bJ n f)
    rw[s,A]⟩)
   show cA c e.1=true
   cases E:cA c e.1 with
   | true=>rfl
   | false=>exact absurd (Le.antisymm (xH.mpr (by rw[E];decide)) i) p
 ·rcases I.hit k d hd with⟨e,i,h,u⟩ | ⟨y,i,h⟩
  ·rcases(w e).mp i with z | z
   ·subst z
    exact .inr ⟨(n,f,c),Dc _ (Az.mpr rfl),u,h⟩
   ·exact .inl ⟨e,z,h,u⟩
  ·exact .inr ⟨y,Ep _ i,h⟩
theorem VQ{G:Sr}{st:SS}{P:List bR}{cur c d:aH}{n:Nat}{f:List Int}{p:List (aH×List (Nat×List Int))}(I:eV G st P cur)(ht:gO st.q=some (c,(n,f),p))(B:aG st.reached (bJ n f)=some d)(hd:cA d c=true):eV G {st with q:=p} P c/\Le cur c:=by
 have t:st.q≠[]:=fun e=>by rw[e] at ht;cases ht
 obtain⟨K,x,J,w,E,r,H,F,_⟩:=mV I.fall t
 rw[ht] at w
 simp only[Es,Dk] at w
 obtain⟨rfl,rfl,rfl⟩:=w
 have D:=xK I.fall ht
 have v:(c,(n,f))∈aX st.q:=(r _).mpr (.inl rfl)
 have sub:∀ e∈aX p,e∈aX st.q:=fun e a=>(r e).mpr (.inr a)
 have g:=I.curq _ v
 have o:=I.nd
 rw[(D.map qk).nodup_iff,Ar,Dq] at o
 refine⟨⟨E,fun e a=>I.item e (sub e a),fun e a=>I.ge e (sub e a),o.2,I.once,fun y s=>?_,fun e a y s C=>I.fresh e (sub e a) y s C,fun e a=>?_,fun k A m=>?_⟩,g⟩
 ·obtain⟨u,j,l⟩:=I.pr y s
  exact⟨u,j.trans g,l⟩
 ·obtain⟨b,hb,eb⟩:=D8 (sub e a)
  rw[<-eb];exact F b hb
 ·rcases I.hit k A m with⟨e,u,j,l⟩ | h
  ·rcases(r e).mp u with z | z
   ·subst z
    have l:bJ n f=k:=l
    have j:c=A:=j
    have i:aG st.reached k=some A:=m
    rw[<-l,B] at i
    cases i
    rw[<-j] at hd
    exact absurd hd pQ
   ·exact .inl ⟨e,z,j,l⟩
  ·exact .inr h
theorem Ob.later{G:Sr}{st:SS}{P:List bR}{cur c:aH}(o:Ob G st P cur)(h:Le cur c)(b:List (aH×List (Nat×List Int))):Ob G {st with q:=b} P c:=
 ⟨o.zero.trans h,o.fin,o.wrd,o.nam,o.pair,o.bgn,o.ends,fun f m n a e=>let ⟨h1,h2,h3,h4⟩:=o.bst f m n a e;⟨h1,h2,h3,h4.trans h⟩,o.ord⟩
theorem GI.rule{G:Sr}{B:fA}{n:Nat}{b:List Int}{c:aH}(g:GI G B n b c):∃ r,G.rs[n]? = some r:=by
 cases g with
 | start a _=>exact⟨_,a⟩
 | word _ a _ _ _=>exact⟨_,a⟩
 | name _ a _ _ _=>exact⟨_,a⟩
theorem part_of{G:Sr}{n:Nat}{a:List Int}{r:aU}(h:G.rs[n]? = some r):cZ G n a=r.parts[a.length - 1]?:=by unfold cZ;rw[h]
theorem iO{α:Type}{P:List α}{x y:α}(h:y∈P ++ [x]):y∈P\/y=x:=by
 rcases Bo.mp h with z | z
 ·exact .inl z
 ·exact .inr (Az.mp z)
theorem VR{G:Sr}(ok:pU G){st:SS}{P:List bR}{c:aH}{n:Nat}{i:List Int}{a:Str}(I:eV G st (P ++ [(n,i,c)]) c)(o:Ob G st P c)(g:GI G st.best n i c)(t:cZ G n i=some a)(A:G.own a=false) :
  eV G (fG G st n i c a) (P ++ [(n,i,c)]) c/\Ob G (fG G st n i c a) (P ++ [(n,i,c)]) c/\∀ k d,eU st k d->eU (fG G st n i c a) k d:=by
 obtain⟨r,w⟩:=g.rule
 rw[part_of w] at t
 obtain⟨C,j,D⟩:=pV (fun z:Int×Int=>(n,i ++ [z.1],(c.1 + z.2,c.2))) (G.steps a (i.getLastD 0)) I fun z hz=>⟨.word g w t A hz,by
  have:=ok.pr _ _ _ _ hz
  show Le c (c.1 + z.2,c.2)
  unfold Le;simp only;lia⟩
 refine⟨C,⟨o.zero,fun y l x=>?_,fun y l pt p s z hz=>?_,fun y l pt p s=>?_,fun key y l z hz=>?_,fun key y l=>?_,fun nm b e m=>?_,fun f m B u e=>?_,fun pre e v h=>?_⟩,j.le⟩
 ·rcases iO l with z | z
  ·obtain⟨m,k,p,s⟩:=o.fin y z x
   exact⟨m,k,by rw[show(fG G st n i c a).best=st.best from j.best];exact p,s⟩
  ·subst z
   rw[part_of w,t] at x;cases x
 ·rcases iO l with q | q
  ·exact j.le _ _ (o.wrd y q pt p s z hz)
  ·subst q
   rw[part_of w,t] at p
   cases p
   exact D z hz
 ·rcases iO l with q | q
  ·rw[show(fG G st n i c a).begun=st.begun from j.begun]
   exact o.nam y q pt p s
  ·subst q
   rw[part_of w,t] at p
   cases p
   rw[A] at s;cases s
 ·rw[show(fG G st n i c a).begun=st.begun from j.begun] at l
  rw[show(fG G st n i c a).ends=st.ends from j.ends] at hz
  exact j.le _ _ (o.pair key y l z hz)
 ·rw[show(fG G st n i c a).begun=st.begun from j.begun] at l
  obtain⟨p,s⟩:=o.bgn key y l
  exact⟨Ep _ p,s⟩
 ·rw[show(fG G st n i c a).ends=st.ends from j.ends,show(fG G st n i c a).best=st.best from j.best]
  exact o.ends nm b e m
 ·rw[show(fG G st n i c a).best=st.best from j.best] at e
  exact o.bst f m B u e
 ·rw[show(fG G st n i c a).best=st.best from j.best] at h
  exact o.ord pre e v h
theorem VS{G:Sr}{st:SS}{P:List bR}{c:aH}{n:Nat}{i:List Int}{a:Str}(I:eV G st (P ++ [(n,i,c)]) c)(o:Ob G st P c)(g:GI G st.best n i c)(C:cZ G n i=some a)(A:G.own a=true) :
  eV G (fB st n i c a) (P ++ [(n,i,c)]) c/\Ob G (fB st n i c a) (P ++ [(n,i,c)]) c/\∀ k d,eU st k d->eU (fB st n i c a) k d:=by
 obtain⟨r,F⟩:=g.rule
 have s:=C
 rw[part_of F] at C
 obtain⟨L,u,K⟩:=pV (G:=G) (P:=P ++ [(n,i,c)]) (cur:=c) (st:={st with begun:=eM st.begun (a,i.getLastD 0) (n,i,c)}) (fun z:Int×aH=>(n,i ++ [z.1],dQ c z.2)) ((aG st.ends (a,i.getLastD 0)).getD []) ⟨I.fall,I.item,I.ge,I.nd,I.once,I.pr,I.fresh,I.curq,I.hit⟩ fun z hz=>by
  obtain⟨k,hk⟩:=(o.ends a (i.getLastD 0) z.1 z.2).mp hz
  exact⟨.name g F C A hk,VN (o.bst _ _ _ _ hk).2.2.1⟩
 have hb:(fB st n i c a).best=st.best:=u.best
 have E:(fB st n i c a).ends=st.ends:=u.ends
 have H:(fB st n i c a).begun=eM st.begun (a,i.getLastD 0) (n,i,c):=u.begun
 have j:∀ key y,y∈(aG (fB st n i c a).begun key).getD []↔y∈(aG st.begun key).getD []\/(a,i.getLastD 0)=key/\y=(n,i,c):=fun key y=>by
  rw[H,pT]
  by_cases h:(a,i.getLastD 0)=key
  ·rw[if_pos h,Bo,Az]
   exact⟨fun z=>z.imp id fun q=>⟨h,q⟩,fun z=>z.imp id fun q=>q.2⟩
  ·rw[if_neg h]
   exact⟨.inl,fun z=>z.elim id fun q=>absurd q.1 h⟩
 refine⟨L,⟨o.zero,fun y l x=>?_,fun y l pt p t z hz=>?_,fun y l pt p t=>?_,fun key y l z hz=>?_,fun key y l=>?_,fun nm b e m=>?_,fun f m J v e=>?_,fun pre e w h=>?_⟩,u.le⟩
 ·rcases iO l with z | z
  ·rw[hb];exact o.fin y z x
  ·subst z
   rw[s] at x;cases x
 ·rcases iO l with q | q
  ·exact u.le _ _ (o.wrd y q pt p t z hz)
  ·subst q
   rw[s] at p
   cases p
   rw[A] at t;cases t
 ·rw[j]
  rcases iO l with q | q
  ·exact .inl (o.nam y q pt p t)
  ·subst q
   rw[s] at p
   cases p
   exact .inr ⟨rfl,rfl⟩
 ·rw[E] at hz
  rcases(j key y).mp l with q | ⟨B,D⟩
  ·exact u.le _ _ (o.pair key y q z hz)
  ·subst D
   rw[<-B] at hz
   exact K z hz
 ·rcases(j key y).mp l with q | ⟨B,D⟩
  ·obtain⟨p,t⟩:=o.bgn key y q
   exact⟨Ep _ p,t⟩
  ·subst D
   rw[<-B]
   exact⟨Dc _ (Az.mpr rfl),s,A,rfl,o.zero⟩
 ·rw[E,hb];exact o.ends nm b e m
 ·rw[hb] at e;exact o.bst f m J v e
 ·rw[hb] at h;exact o.ord pre e w h
theorem VT{G:Sr}{st:SS}{P:List bR}{c:aH}{n:Nat}{a:List Int}(I:eV G st (P ++ [(n,a,c)]) c)(o:Ob G st P c)(g:GI G st.best n a c)(D:cZ G n a=none) :
  eV G (settle G st n a c) (P ++ [(n,a,c)]) c/\Ob G (settle G st n a c) (P ++ [(n,a,c)]) c/\∀ k d,eU st k d->eU (settle G st n a c) k d:=by
 unfold settle
 cases hf:aG st.best (cD G n a) with
 | some v=>
  obtain⟨m,k⟩:=v
  obtain⟨_,_,_,O⟩:=o.bst _ _ _ _ hf
  refine⟨I,⟨o.zero,fun y l H=>?_,fun y l pt i j z hz=>?_,fun y l pt i j=>?_,o.pair,fun key y l=>?_,o.ends,o.bst,o.ord⟩,fun _ _ h=>h⟩
  ·rcases iO l with z | z
   ·exact o.fin y z H
   ·subst z;exact⟨m,k,hf,O⟩
  ·rcases iO l with q | q
   ·exact o.wrd y q pt i j z hz
   ·subst q;rw[D] at i;cases i
  ·rcases iO l with q | q
   ·exact o.nam y q pt i j
   ·subst q;rw[D] at i;cases i
  ·obtain⟨i,j⟩:=o.bgn key y l
   exact⟨Ep _ i,j⟩
 | none=>
  simp only
  have new:∀ f,aG (st.best ++ [(cD G n a,c,n,a)]) f=if cD G n a=f then some (c,n,a) else aG st.best f:=fun f=>by
   rw[xI]
   by_cases h:cD G n a=f
   ·subst h;rw[if_pos rfl,if_pos rfl,hf];rfl
   ·rw[if_neg h,if_neg h,Option.or_none]
  have mono:∀ f v,aG st.best f=some v->aG (st.best ++ [(cD G n a,c,n,a)]) f=some v:=fun f v h=>by
   rw[new,if_neg (fun e=>by rw[<-e,hf] at h;cases h)];exact h
  obtain⟨s,r⟩:∃ z:SS,z = {st with best:=st.best ++ [(cD G n a,c,n,a)],ends:=eM st.ends (cB G n,a.headD 0) (a.getLastD 0,c)}:=⟨_,rfl⟩
  have b1:s.best=st.best ++ [(cD G n a,c,n,a)]:=by rw[r]
  have Y:s.ends=eM st.ends (cB G n,a.headD 0) (a.getLastD 0,c):=by rw[r]
  have Z:s.begun=st.begun:=by rw[r]
  have X:s.reached=st.reached:=by rw[r]
  have q0:s.q=st.q:=by rw[r]
  have W:eV G s (P ++ [(n,a,c)]) c:=by
   rw[r]
   exact⟨I.fall,fun e Q=>(I.item e Q).mono mono,I.ge,I.nd,I.once,fun y l=>let ⟨i,j,J⟩:=I.pr y l;⟨i,j,J.mono mono⟩,I.fresh,I.curq,I.hit⟩
  rw[<-r]
  obtain⟨M,C,L⟩:=pV (fun y:bR=>(y.1,y.2.1 ++ [a.getLastD 0],dQ y.2.2 c)) ((aG st.begun (cB G n,a.headD 0)).getD []) W fun y l=>by
   obtain⟨i,j,J,R,T⟩:=o.bgn _ y l
   obtain⟨_,_,K⟩:=I.pr y (Ep _ i)
   obtain⟨ry,F⟩:=K.rule
   rw[part_of F] at j
   refine⟨.name (k:=(n,a)) (by rw[b1];exact K.mono mono) F j J ?_,VO T⟩
   rw[b1,new,if_pos (by show(cB G n,a.headD 0,a.getLastD 0)=(cB G n,y.2.1.getLastD 0,a.getLastD 0);rw[R])]
  obtain⟨t,w⟩:∃ z,z=((aG st.begun (cB G n,a.headD 0)).getD []).foldl (fun st y=>reach st y.1 (y.2.1 ++ [a.getLastD 0]) (dQ y.2.2 c)) s:=⟨_,rfl⟩
  rw[<-w] at M C L ⊢
  have B:t.best=st.best ++ [(cD G n a,c,n,a)]:=C.best.trans b1
  have E:t.ends=eM st.ends (cB G n,a.headD 0) (a.getLastD 0,c):=C.ends.trans Y
  have N:t.begun=st.begun:=C.begun.trans Z
  have le:∀ k d,eU st k d->eU t k d:=fun k d h=>C.le k d (by
   obtain⟨z,i,j⟩:=h
   exact⟨z,by rw[X];exact i,j⟩)
  have u:∀ key z,z∈(aG t.ends key).getD []↔z∈(aG st.ends key).getD []\/(cB G n,a.headD 0)=key/\z=(a.getLastD 0,c):=fun key z=>by
   rw[E,pT]
   by_cases h:(cB G n,a.headD 0)=key
   ·rw[if_pos h,Bo,Az]
    exact⟨fun z=>z.imp id fun q=>⟨h,q⟩,fun z=>z.imp id fun q=>q.2⟩
   ·rw[if_neg h]
    exact⟨.inl,fun z=>z.elim id fun q=>absurd q.1 h⟩
  refine⟨M,⟨o.zero,fun y l H=>?_,fun y l pt i j z hz=>?_,fun y l pt i j=>?_,fun key y l z hz=>?_,fun key y l=>?_,fun nm b e m=>?_,fun f m U x e=>?_,fun pre e A h=>?_⟩,le⟩
  ·rw[B]
   rcases iO l with z | z
   ·obtain⟨m,k,i,j⟩:=o.fin y z H
    exact⟨m,k,mono _ _ i,j⟩
   ·subst z
    exact⟨c,(n,a),by rw[new,if_pos rfl],Le.refl _⟩
  ·rcases iO l with q | q
   ·exact le _ _ (o.wrd y q pt i j z hz)
   ·subst q;rw[D] at i;cases i
  ·rw[N]
   rcases iO l with q | q
   ·exact o.nam y q pt i j
   ·subst q;rw[D] at i;cases i
  ·rw[N] at l
   rcases(u key z).mp hz with q | ⟨S,V⟩
   ·exact le _ _ (o.pair key y l z q)
   ·subst V
    rw[<-S] at l
    exact L y l
  ·rw[N] at l
   obtain⟨i,j⟩:=o.bgn key y l
   exact⟨Ep _ i,j⟩
  ·rw[u,B,new,o.ends]
   by_cases h:cD G n a=(nm,b,e)
   ·rw[if_pos h]
    unfold cD at h
    simp only[Dk] at h
    obtain⟨rfl,rfl,rfl⟩:=h
    constructor
    ·rintro(⟨k,hk⟩ | ⟨_,hk⟩)
     ·rw[show(cB G n,a.headD 0,a.getLastD 0)=cD G n a from rfl,hf] at hk;cases hk
     ·cases hk;exact⟨(n,a),rfl⟩
    ·rintro⟨k,hk⟩
     cases hk
     exact .inr ⟨rfl,rfl⟩
   ·rw[if_neg h]
    constructor
    ·rintro(hk | ⟨i,j⟩)
     ·exact hk
     ·cases i;cases j;exact absurd rfl h
    ·exact .inl
  ·rw[B,new] at e
   by_cases h:cD G n a=f
   ·rw[if_pos h] at e
    cases e
    exact⟨D,h.symm,o.zero,Le.refl _⟩
   ·rw[if_neg h] at e
    exact o.bst f m U x e
  ·rw[B] at h
   rcases Gy A with z | ⟨ps,p,z⟩
   ·subst z
    have h':=Ml h rfl
    have j:=h'.2
    simp only[Cy,and_true] at j
    rw[<-h'.1,<-j]
    exact⟨g,hf⟩
   ·rw[Gz] at z
    subst z
    rw[show pre ++ e :: (ps ++ [p])=(pre ++ e :: ps) ++ [p] by simp] at h
    have h':=Ml h rfl
    exact o.ord pre e ps h'.1
theorem VU{G:Sr}(ok:pU G){st:SS}{P:List bR}{c:aH}{n:Nat}{a:List Int}(I:eV G st (P ++ [(n,a,c)]) c)(o:Ob G st P c)(g:GI G st.best n a c) :
  eV G (process G st n a c) (P ++ [(n,a,c)]) c/\Ob G (process G st n a c) (P ++ [(n,a,c)]) c/\∀ k d,eU st k d->eU (process G st n a c) k d:=by
 unfold process
 cases e:cZ G n a with
 | none=>exact VT I o g e
 | some b=>
  simp only
  cases f:G.own b with
  | true=>rw[if_pos rfl];exact VS I o g e f
  | false=>rw[if_neg (by decide)];exact VR ok I o g e f
inductive DI(G:Sr):Nat->List Int->aH->Prop
 | start {n:Nat} {r:aU} {p:Int}:G.rs[n]? = some r->p∈G.places->DI G n [p] (G.wt n,1)
 | word {n:Nat} {r:aU} {cut:List Int} {c:aH} {part:Str} {e pr:Int}:DI G n cut c->G.rs[n]? = some r->r.parts[cut.length - 1]? = some part->G.own part=false->(e,pr)∈G.steps part (cut.getLastD 0)->DI G n (cut ++ [e]) (c.1 + pr,c.2)
 | name {n n':Nat} {r:aU} {cut cut':List Int} {c m:aH} {part:Str}:DI G n cut c->G.rs[n]? = some r->r.parts[cut.length - 1]? = some part->G.own part=true->DI G n' cut' m->cZ G n' cut'=none->cB G n'=part->cut'.headD 0=cut.getLastD 0->DI G n (cut ++ [cut'.getLastD 0]) (dQ c m)
theorem DI.ne{G:Sr}{n:Nat}{a:List Int}{c:aH}(h:DI G n a c):a≠[]:=by cases h <;> simp
theorem EA{n:Nat}{a b:List Int}{e:Int}(h:bJ n a=bJ n b)(ha:a≠[])(hb:b≠[]):bJ n (a ++ [e])=bJ n (b ++ [e]):=by
 unfold bJ at *
 simp only[Dk,true_and] at h
 obtain⟨d,c,f⟩:=h
 have hl:∀ l:List Int,(l ++ [e]).getLastD 0=e:=fun l=>by simp[Jl]
 rw[hl,hl,Aw,Aw,d]
 cases a with
 | nil=>exact absurd rfl ha
 | cons x a=>
  cases b with
  | nil=>exact absurd rfl hb
  | cons y b=>
   simp only[List.headD_cons] at c
   subst c
   rfl
theorem sS{G:Sr}{n c:Nat}{a b:List Int}(h:bJ n a=bJ c b):n=c/\cZ G n a=cZ G c b/\cD G n a=cD G c b/\a.getLastD 0=b.getLastD 0:=by
 unfold bJ at h
 simp only[Dk] at h
 obtain⟨rfl,f,e,d⟩:=h
 refine⟨rfl,?_,?_,d⟩
 ·unfold cZ;rw[f]
 ·unfold cD;rw[e,d]
def xM(G:Sr)(st:SS):Prop:=∀ n r p,G.rs[n]? = some r->p∈G.places->eU st (bJ n [p]) (G.wt n,1)
theorem VV{G:Sr}{st:SS}{P:List bR}{cur:aH}(I:eV G st P cur)(o:Ob G st P cur)(hi:xM G st)(hq:st.q=[]){n:Nat}{f:List Int}{c:aH}(h:DI G n f c):eU st (bJ n f) c:=by
 have done:∀ {n:Nat} {f:List Int} {c:aH},eU st (bJ n f) c->∃ y∈P,kT y=bJ n f/\Le y.2.2 c:=fun {n f c} h=>by
  obtain⟨d,A,v⟩:=h
  rcases I.hit _ _ A with⟨e,T,_⟩ | ⟨y,s,Z,X⟩
  ·rw[hq] at T;cases T
  ·exact⟨y,s,Z,by rw[X];exact v⟩
 induction h with
 | start a b=>exact hi _ _ _ a b
 | @word n r f c g e pr hd N O M hs H=>
  obtain⟨y,s,B,u⟩:=done H
  obtain⟨x,k,_,i⟩:=sS (G:=G) B
  have l:=(I.pr y s).2.2.ne
  have:=o.wrd y s g (by rw[k,part_of N];exact O) M (e,pr) (by rw[i];exact hs)
  obtain⟨d,A,v⟩:=this
  refine⟨d,?_,v.trans ?_⟩
  ·have t:bJ n y.2.1=bJ n f:=by rw[<-B];unfold kT;rw[x]
   rw[<-EA t l hd.ne,<-x];exact A
  ·unfold Le at u ⊢;simp only at *;lia
 | @name n Y r f j c m g hd N O M hd' w R J H K=>
  obtain⟨y,s,B,u⟩:=done H
  obtain⟨x,k,_,i⟩:=sS (G:=G) B
  obtain⟨V,E,t,D⟩:=done K
  obtain⟨W,C,p,_⟩:=sS (G:=G) t
  obtain⟨U,S,hb,Q⟩:=o.fin V E (by rw[C];exact w)
  rw[p] at hb
  have L:aG st.best (g,f.getLastD 0,j.getLastD 0)=some (U,S):=by
   have:cD G Y j=(g,f.getLastD 0,j.getLastD 0):=by unfold cD;rw[R,J]
   rw[<-this];exact hb
  have hz:=(o.ends g (f.getLastD 0) (j.getLastD 0) U).mpr ⟨S,L⟩
  have z:=o.nam y s g (by rw[k,part_of N];exact O) M
  rw[i] at z
  have l:=(I.pr y s).2.2.ne
  obtain⟨d,A,v⟩:=o.pair _ y z _ hz
  refine⟨d,?_,v.trans (VJ u (Q.trans D))⟩
  have F:bJ n y.2.1=bJ n f:=by rw[<-B];unfold kT;rw[x]
  rw[<-EA F l hd.ne,<-x];exact A
theorem VW{G:Sr}{st:SS}{P:List bR}{cur:aH}(I:eV G st P cur)(o:Ob G st P cur)(hi:xM G st)(g:st.q=[]){n:Nat}{a:List Int}{c:aH}(h:DI G n a c)(hf:cZ G n a=none):∃ m k,aG st.best (cD G n a)=some (m,k)/\Le m c:=by
 obtain⟨d,t,j⟩:=VV I o hi g h
 rcases I.hit _ _ t with⟨e,i,_⟩ | ⟨y,p,r,l⟩
 ·rw[g] at i;cases i
 ·obtain⟨_,f,b,_⟩:=sS (G:=G) r
  obtain⟨m,k,hb,s⟩:=o.fin y p (by rw[f];exact hf)
  rw[b] at hb
  exact⟨m,k,hb,s.trans (by rw[l];exact j)⟩
theorem xN{G:Sr}{B:fA}(h:∀ f m n e,aG B f=some (m,n,e)->DI G n e m/\cZ G n e=none/\f=cD G n e){n:Nat}{e:List Int}{c:aH}(g:GI G B n e c):DI G n e c:=by
 induction g with
 | start a b=>exact .start a b
 | word _ a b c d i=>exact .word i a b c d
 | name p w s u hb i=>
  rename_i k
  obtain⟨x,l⟩:=k
  obtain⟨v,q,j⟩:=h _ _ _ _ hb
  unfold cD at j
  simp only[Dk] at j
  obtain⟨t,r,o⟩:=j
  rw[o]
  exact .name i w s u v q t.symm r.symm
theorem EB{κ c:Type}[DecidableEq κ]{t:List (κ×c)}{k:κ}{v:c}(h:aG t k=some v):∃ a b,t=a ++ (k,v) :: b:=by
 induction t with
 | nil=>cases h
 | cons e t d=>
  rw[dU] at h
  by_cases hk:e.1=k
  ·rw[if_pos hk] at h
   cases h
   exact⟨[],t,by rw[<-hk];rfl⟩
  ·rw[if_neg hk] at h
   obtain⟨a,b,rfl⟩:=d h
   exact⟨e :: a,b,rfl⟩
theorem EC{G:Sr}{st:SS}{P:List bR}{cur:aH}(o:Ob G st P cur):∀ (k:Nat) (pre:fA) (e:bX×aH×Nat×List Int) (c:fA),pre.length=k->st.best=pre ++ e :: c->DI G e.2.2.1 e.2.2.2 e.2.1:=by
 intro k
 induction k using Nat.strongRecOn with
 | _ k w=>
  intro pre e c hk hb
  obtain⟨g,_⟩:=o.ord pre e c hb
  refine xN (B:=pre) (fun f m n d hf=>?_) g
  obtain⟨a,b,l⟩:=EB hf
  have j:st.best=a ++ (f,m,n,d) :: (b ++ e :: c):=by rw[hb,l];simp
  have p:a.length < k:=by rw[<-hk,l];simp
  have hd:=w a.length p a _ _ rfl j
  have i:=(o.ord a _ _ j).2
  have q:aG st.best f=some (m,n,d):=by
   rw[j]
   have:∀ {a:fA} {x:bX×aH×Nat×List Int} {r:fA},aG a x.1=none->aG (a ++ x :: r) x.1=some x.2:=by
    intro a
    induction a with
    | nil=>intro x r _;rw[Ld,dU,if_pos rfl]
    | cons y a s=>
     intro x r h
     rw[dU] at h
     rw[List.cons_append,dU]
     by_cases t:y.1=x.1
     ·rw[if_pos t] at h;cases h
     ·rw[if_neg t] at h ⊢
      exact s h
   exact this (x:=(f,m,n,d)) i
  obtain⟨v,u,_⟩:=o.bst f m n d q
  exact⟨hd,v,u⟩
theorem sU{G:Sr}{st:SS}{P:List bR}{cur:aH}(o:Ob G st P cur){f:bX}{m:aH}{n:Nat}{c:List Int}(h:aG st.best f=some (m,n,c)):DI G n c m/\cZ G n c=none/\f=cD G n c:=by
 obtain⟨a,b,d⟩:=EB h
 obtain⟨g,e,_⟩:=o.bst f m n c h
 exact⟨EC o a.length a _ b rfl d,g,e⟩
theorem ED(st:SS)(n:Nat)(a:List Int)(c:aH):∃ j,j<=1/\(aX (reach st n a c).q).length=(aX st.q).length + j/\(reach st n a c).reached.length<=st.reached.length + j:=by
 have push:∃ j,j<=1/\(aX (dD c (n,a) st.q)).length=(aX st.q).length + j/\(cT st.reached (bJ n a) c).length<=st.reached.length + j:=⟨1,Ai _,sR _ _ _,sQ _ _ _⟩
 unfold reach
 cases aG st.reached (bJ n a) with
 | none=>exact push
 | some d=>
  simp only
  split
  ·exact push
  ·exact⟨0,by lia,rfl,by lia⟩
theorem pW{α:Type}(f:α->Nat×List Int×aH):∀ (xs:List α) (st:SS),∃ j,j<=xs.length/\(aX (xs.foldl (fun st x=>reach st (f x).1 (f x).2.1 (f x).2.2) st).q).length=(aX st.q).length + j/\(xs.foldl (fun st x=>reach st (f x).1 (f x).2.1 (f x).2.2) st).reached.length<=st.reached.length + j
 | [],st=>⟨0,Ai _,rfl,Ai _⟩
 | x :: xs,st=>by
  obtain⟨b,i,a,g⟩:=ED st (f x).1 (f x).2.1 (f x).2.2
  obtain⟨c,h,d,e⟩:=pW f xs (reach st (f x).1 (f x).2.1 (f x).2.2)
  refine⟨b + c,by rw[Bp];lia,?_,?_⟩
  ·rw[Ge,d,a];lia
  ·rw[Ge];lia
def fU(G:Sr)(S:Nat)(st:SS)(y:bR):Nat:=match cZ G y.1 y.2.1 with
 | none=>0
 | some a=>if G.own a=true then((aG st.ends (a,y.2.1.getLastD 0)).getD []).length else S
structure Cn(G:Sr)(S I0:Nat)(st:SS)(P:List bR)(T:Nat):Prop where
 put:(aX st.q).length + T<=I0 + (P.map (fU G S st)).sum
 rch:st.reached.length<=(aX st.q).length + T
 bnd:∀ key,((aG st.begun key).getD []).Nodup
 enn:∀ key,(((aG st.ends key).getD []).map Dv).Nodup
theorem sW(f:bR->Nat)(P:List bR)(x:bR):((P ++ [x]).map f).sum=(P.map f).sum + f x:=by simp
theorem xO{G:Sr}{S:Nat}{st st':SS}(h:st'.ends=st.ends):fU G S st'=fU G S st:=by
 funext y;unfold fU;rw[h]
theorem VX{G:Sr}{S i T:Nat}{st:SS}{P:List bR}{c:aH}{n:Nat}{a:List Int}{b:Str}(C:Cn G S i st P T)(m:∀ t p,(G.steps t p).length<=S)(w:cZ G n a=some b)(s:G.own b=false):Cn G S i (fG G st n a c b) (P ++ [(n,a,c)]) T:=by
 obtain⟨j,D,l,u⟩:=pW (fun z:Int×Int=>(n,a ++ [z.1],(c.1 + z.2,c.2))) (G.steps b (a.getLastD 0)) st
 have keep:∀ (xs:List (Int×Int)) (st:SS),(xs.foldl (fun st z=>reach st n (a ++ [z.1]) (c.1 + z.2,c.2)) st).ends=st.ends/\(xs.foldl (fun st z=>reach st n (a ++ [z.1]) (c.1 + z.2,c.2)) st).begun=st.begun:=by
  intro xs
  induction xs with
  | nil=>intro st;exact⟨rfl,rfl⟩
  | cons x xs r=>
   intro st
   rw[Ge]
   obtain⟨A,v⟩:=r (reach st n (a ++ [x.1]) (c.1 + x.2,c.2))
   have h:(reach st n (a ++ [x.1]) (c.1 + x.2,c.2)).ends=st.ends/\(reach st n (a ++ [x.1]) (c.1 + x.2,c.2)).begun=st.begun:=by
    unfold reach
    split
    ·split <;> exact⟨rfl,rfl⟩
    ·exact⟨rfl,rfl⟩
   exact⟨A.trans h.1,v.trans h.2⟩
 obtain⟨B,o⟩:=keep (G.steps b (a.getLastD 0)) st
 have d:(fG G st n a c b).ends=st.ends:=B
 have e:(fG G st n a c b).begun=st.begun:=o
 have f:(aX (fG G st n a c b).q).length=(aX st.q).length + j:=l
 have y:(fG G st n a c b).reached.length<=st.reached.length + j:=u
 have hs:=m b (a.getLastD 0)
 have g:=C.put
 have k:=C.rch
 refine⟨?_,by lia,fun key=>by rw[e];exact C.bnd key,fun key=>by rw[d];exact C.enn key⟩
 rw[xO d,sW,f]
 have:fU G S st (n,a,c)=S:=by
  unfold fU
  rw[w]
  simp only
  rw[if_neg (by rw[s];decide)]
 lia
theorem VY(st:SS)(n:Nat)(a:List Int)(c:aH):(reach st n a c).ends=st.ends/\(reach st n a c).begun=st.begun/\(reach st n a c).best=st.best:=by
 unfold reach
 split
 ·split <;> exact⟨rfl,rfl,rfl⟩
 ·exact⟨rfl,rfl,rfl⟩
theorem xP{α:Type}(f:α->Nat×List Int×aH):∀ (xs:List α) (st:SS),(xs.foldl (fun st x=>reach st (f x).1 (f x).2.1 (f x).2.2) st).ends=st.ends/\(xs.foldl (fun st x=>reach st (f x).1 (f x).2.1 (f x).2.2) st).begun=st.begun/\(xs.foldl (fun st x=>reach st (f x).1 (f x).2.1 (f x).2.2) st).best=st.best
 | [],st=>⟨rfl,rfl,rfl⟩
 | x :: xs,st=>by
  rw[Ge]
  obtain⟨e,c,b⟩:=xP f xs (reach st (f x).1 (f x).2.1 (f x).2.2)
  obtain⟨d,g,a⟩:=VY st (f x).1 (f x).2.1 (f x).2.2
  exact⟨e.trans d,c.trans g,b.trans a⟩
theorem VZ{G:Sr}{S v T:Nat}{st:SS}{P:List bR}{cur c:aH}{n:Nat}{f:List Int}{d:Str}(C:Cn G S v st P T)(o:Ob G st P cur)(k:(n,f,c)∉P)(A:cZ G n f=some d)(y:G.own d=true):Cn G S v (fB st n f c d) (P ++ [(n,f,c)]) T:=by
 obtain⟨i,g⟩:∃ z:SS,z = {st with begun:=eM st.begun (d,f.getLastD 0) (n,f,c)}:=⟨_,rfl⟩
 obtain⟨j,D,r,u⟩:=pW (fun z:Int×aH=>(n,f ++ [z.1],dQ c z.2)) ((aG st.ends (d,f.getLastD 0)).getD []) i
 obtain⟨x,s,_⟩:=xP (fun z:Int×aH=>(n,f ++ [z.1],dQ c z.2)) ((aG st.ends (d,f.getLastD 0)).getD []) i
 have l:(fB st n f c d).ends=st.ends:=by
  have:(fB st n f c d).ends=i.ends:=by rw[g] at x ⊢;exact x
  rw[this,g]
 have m:(fB st n f c d).begun=eM st.begun (d,f.getLastD 0) (n,f,c):=by
  have:(fB st n f c d).begun=i.begun:=by rw[g] at s ⊢;exact s
  rw[this,g]
 have p:(aX (fB st n f c d).q).length=(aX st.q).length + j:=by rw[g] at r;exact r
 have B:(fB st n f c d).reached.length<=st.reached.length + j:=by rw[g] at u;exact u
 have t:=C.put
 have w:=C.rch
 refine⟨?_,by lia,fun key=>?_,fun key=>by rw[l];exact C.enn key⟩
 ·rw[xO l,sW,p]
  have:fU G S st (n,f,c)=((aG st.ends (d,f.getLastD 0)).getD []).length:=by
   unfold fU
   rw[A]
   simp only
   rw[if_pos y]
  lia
 ·rw[m,pT]
  split
  ·rename_i h
   rw[Gd]
   refine⟨C.bnd key,by simp,fun a ha b hb e=>?_⟩
   rw[Az] at hb
   rw[e,hb] at ha
   exact k (o.bgn key _ ha).1
  ·exact C.bnd key
theorem len_sub{α:Type}[DecidableEq α]:∀ {a b:List α},a.Nodup->(∀ x∈a,x∈b)->a.length<=b.length
 | [],b,_,_=>Bx _
 | x :: a,b,d,hs=>by
  rw[Dq] at d
  have f:=hs x Bg
  have h:=len_sub (a:=a) (b:=b.erase x) d.2 fun y g=>by
   have c:y≠x:=fun e=>d.1 (by rw[<-e];exact g)
   exact(List.mem_erase_of_ne c).mpr (hs y (Bd _ g))
  rw[List.length_erase_of_mem f] at h
  have:=Mv f
  rw[Bp];lia
theorem EE{f g:bR->Nat}{p:bR->Bool}:∀ {P:List bR},(∀ y∈P,g y=f y + if p y=true then 1 else 0)->(P.map g).sum=(P.map f).sum + (P.filter p).length
 | [],_=>rfl
 | y :: P,h=>by
  have a:=EE (P:=P) fun z hz=>h z (Bd _ hz)
  rw[Ar,Ar,List.sum_cons,List.sum_cons,a,h y Bg,Ff]
  split <;> simp <;> lia
theorem V0{G:Sr}{S K T:Nat}{st:SS}{P:List bR}{cur c:aH}{n:Nat}{d:List Int}(C:Cn G S K st P T)(o:Ob G st P cur)(O:cZ G n d=none):Cn G S K (settle G st n d c) (P ++ [(n,d,c)]) T:=by
 have g:∀ st',fU G S st' (n,d,c)=0:=fun st'=>by unfold fU;rw[O]
 have D:=C.put
 have B:=C.rch
 unfold settle
 cases hf:aG st.best (cD G n d) with
 | some v=>
  simp only
  refine⟨?_,C.rch,C.bnd,C.enn⟩
  rw[sW,g];lia
 | none=>
  simp only
  obtain⟨l,f⟩:∃ z:SS,z = {st with best:=st.best ++ [(cD G n d,c,n,d)],ends:=eM st.ends (cB G n,d.headD 0) (d.getLastD 0,c)}:=⟨_,rfl⟩
  rw[<-f]
  obtain⟨j,x,u,A⟩:=pW (fun y:bR=>(y.1,y.2.1 ++ [d.getLastD 0],dQ y.2.2 c)) ((aG st.begun (cB G n,d.headD 0)).getD []) l
  obtain⟨I,F,_⟩:=xP (fun y:bR=>(y.1,y.2.1 ++ [d.getLastD 0],dQ y.2.2 c)) ((aG st.begun (cB G n,d.headD 0)).getD []) l
  obtain⟨r,s⟩:∃ z,z=((aG st.begun (cB G n,d.headD 0)).getD []).foldl (fun st y=>reach st y.1 (y.2.1 ++ [d.getLastD 0]) (dQ y.2.2 c)) l:=⟨_,rfl⟩
  rw[<-s] at u A I F ⊢
  have E:r.ends=eM st.ends (cB G n,d.headD 0) (d.getLastD 0,c):=by rw[I,f]
  have N:r.begun=st.begun:=by rw[F,f]
  have V:(aX l.q).length=(aX st.q).length:=by rw[f]
  have W:l.reached.length=st.reached.length:=by rw[f]
  obtain⟨w,i⟩:∃ w:bR->Bool,w=fun y=>decide (cZ G y.1 y.2.1=some (cB G n)/\G.own (cB G n)=true/\y.2.1.getLastD 0=d.headD 0):=⟨_,rfl⟩
  have t:(P.map (fU G S r)).sum=(P.map (fU G S st)).sum + (P.filter w).length:=EE fun y H=>by
   unfold fU
   cases m:cZ G y.1 y.2.1 with
   | none=>rw[i];simp[m]
   | some p=>
    simp only
    cases J:G.own p with
    | false=>
     rw[i]
     simp only[m,Es]
     rw[if_neg (by decide),if_neg (by decide),if_neg (by rw[decide_eq_true_eq];rintro⟨x,u,_⟩;rw[<-x,J] at u;cases u)]
     rfl
    | true=>
     rw[if_pos rfl,if_pos rfl,E,pT]
     by_cases h:(cB G n,d.headD 0)=(p,y.2.1.getLastD 0)
     ·rw[if_pos h]
      simp only[Dk] at h
      rw[i]
      simp only[m,Es]
      rw[if_pos (by rw[decide_eq_true_eq];exact⟨h.1.symm,by rw[h.1];exact J,h.2.symm⟩)]
      simp
     ·rw[if_neg h]
      rw[i]
      simp only[m,Es]
      rw[if_neg (by rw[decide_eq_true_eq];rintro⟨x,_,A⟩;exact h (by rw[x,A]))]
      lia
  have Q:((aG st.begun (cB G n,d.headD 0)).getD []).length<=(P.filter w).length:=len_sub (C.bnd _) fun y H=>by
   obtain⟨L,U,R,M,_⟩:=o.bgn _ y H
   rw[Fo,i]
   exact⟨L,decide_eq_true ⟨U,R,M⟩⟩
  refine⟨?_,by lia,fun key=>by rw[N];exact C.bnd key,fun key=>?_⟩
  ·rw[sW,g,t];lia
  ·rw[E,pT]
   split
   ·rename_i h
    rw[Bs,Gd]
    refine⟨C.enn key,by simp,fun a ha b hb e=>?_⟩
    obtain⟨z,hz,rfl⟩:=Au.mp ha
    rw[List.map_singleton,Az] at hb
    rw[<-h] at hz
    obtain⟨k,hk⟩:=(o.ends _ _ z.1 z.2).mp hz
    rw[e,hb] at hk
    have:aG st.best (cD G n d)=some (z.2,k):=hk
    rw[hf] at this;cases this
   ·exact C.enn key
def mW(G:Sr)(st:SS):SS:=match gO st.q with
 | none=>st
 | some (c,(n,a),b)=>match aG st.reached (bJ n a) with
  | some d=>if cA d c=true then {st with q:=b} else process G {st with q:=b} n a c
  | none=>{st with q:=b}
structure All(G:Sr)(S I0:Nat)(st:SS)(P:List bR)(cur:aH)(T:Nat):Prop where
 inv:eV G st P cur
 ob:Ob G st P cur
 ini:xM G st
 cn:Cn G S I0 st P T
theorem Cn.q{G:Sr}{S b T:Nat}{st:SS}{P:List bR}{a:List (aH×List (Nat×List Int))}(C:Cn G S b st P T)(h:(aX st.q).length=(aX a).length + 1):Cn G S b {st with q:=a} P (T + 1):=by
 have c:=C.put
 have d:=C.rch
 refine⟨?_,?_,C.bnd,C.enn⟩
 ·show(aX a).length + (T + 1)<=_
  rw[xO (st':={st with q:=a}) (st:=st) rfl]
  lia
 ·show st.reached.length<=(aX a).length + (T + 1)
  lia
theorem V1{G:Sr}{S g T:Nat}{st:SS}{P:List bR}{cur c:aH}{n:Nat}{a:List Int}(C:Cn G S g st P T)(o:Ob G st P cur)(h:∀ t p,(G.steps t p).length<=S)(b:(n,a,c)∉P):Cn G S g (process G st n a c) (P ++ [(n,a,c)]) T:=by
 unfold process
 cases e:cZ G n a with
 | none=>exact V0 C o e
 | some d=>
  simp only
  cases f:G.own d with
  | true=>rw[if_pos rfl];exact VZ C o b e f
  | false=>rw[if_neg (by decide)];exact VX C h e f
theorem V2{G:Sr}(ok:pU G){S o T:Nat}{st:SS}{P:List bR}{cur:aH}(A:All G S o st P cur T)(D:∀ t p,(G.steps t p).length<=S)(z:st.q≠[]):∃ B a,All G S o (mW G st) B a (T + 1):=by
 obtain⟨c,x,m,i,H,y,l,I,_⟩:=mV A.inv.fall z
 obtain⟨n,k⟩:=x
 have j:(c,(n,k))∈aX st.q:=(y _).mpr (.inl rfl)
 obtain⟨d,hd,e⟩:=A.inv.ge _ j
 unfold mW
 rw[i]
 simp only
 rw[hd]
 simp only
 by_cases hl:cA d c=true
 ·rw[if_pos hl]
  obtain⟨b,hc⟩:=VQ A.inv i hd hl
  exact⟨P,c,b,A.ob.later hc m,A.ini,A.cn.q l⟩
 ·rw[if_neg hl]
  have f:d=c:=Le.antisymm e (xH.mpr hl)
  subst f
  obtain⟨b,hc,g⟩:=VP A.inv i hd
  have s:=A.ob.later hc m
  obtain⟨F,C,h⟩:=VU ok b s g
  refine⟨_,_,F,C,fun n r p w v=>h _ _ (A.ini n r p w v),V1 (A.cn.q l) s D fun E=>?_⟩
  have u:=b.once
  rw[Bs,Gd] at u
  exact u.2.2 _ (Au.mpr ⟨_,E,rfl⟩) _ (by simp) rfl
def fV:SS:=⟨[],[],[],[],[]⟩
def jA(G:Sr):List (Nat×Int):=(Cb G.rs.length).flatMap fun n=>G.places.map fun p=>(n,p)
def kU(G:Sr):SS:=(jA G).foldl (fun st x=>reach st x.1 [x.2] (G.wt x.1,1)) fV
theorem V3{G:Sr}(ok:pU G)(S:Nat):All G S (jA G).length (kU G) [] (0,0) 0:=by
 have D:eV G fV [] (0,0):=⟨trivial,(fun e c=>nomatch c),(fun e c=>nomatch c),Fy,Fy,(fun y a=>nomatch a),(fun e c=>nomatch c),(fun e c=>nomatch c),(fun k d hd=>nomatch hd)⟩
 have l:∀ x∈jA G,(∃ r,G.rs[x.1]? = some r)/\x.2∈G.places:=fun x g=>by
  obtain⟨n,H,g⟩:=Hs.mp g
  obtain⟨p,i,rfl⟩:=Au.mp g
  exact⟨⟨_,Am (Eg.mp H)⟩,i⟩
 obtain⟨E,s,F⟩:=pV (fun x:Nat×Int=>(x.1,[x.2],(G.wt x.1,(1:Int)))) (jA G) D fun x g=>by
  obtain⟨⟨r,t⟩,i⟩:=l x g
  refine⟨.start t i,?_⟩
  have:=ok.wt x.1
  show Le (0,0) (G.wt x.1,1)
  unfold Le;simp only;lia
 obtain⟨j,I,o,w⟩:=pW (fun x:Nat×Int=>(x.1,[x.2],(G.wt x.1,(1:Int)))) (jA G) fV
 have v:(kU G).best=[]:=s.best
 have A:(kU G).ends=[]:=s.ends
 have u:(kU G).begun=[]:=s.begun
 refine⟨E,⟨Le.refl _,(fun y a=>nomatch a),(fun y a=>nomatch a),(fun y a=>nomatch a),fun key y a=>?_,fun key y a=>?_,fun nm b e m=>?_,fun f m n C e=>?_,fun pre e B h=>?_⟩,fun n r p t i=>?_,⟨?_,?_,fun key=>?_,fun key=>?_⟩⟩
 ·rw[u] at a;cases a
 ·rw[u] at a;cases a
 ·rw[A,v]
  exact⟨(fun z=>nomatch z),(fun⟨k,hk⟩=>nomatch hk)⟩
 ·rw[v] at e;cases e
 ·rw[v] at h
  cases pre <;> cases h
 ·exact F (n,p) (Hs.mpr ⟨n,Eg.mpr (An.mp t).1,Au.mpr ⟨p,i,rfl⟩⟩)
 ·have o:(aX (kU G).q).length=(aX fV.q).length + j:=o
  have:(aX fV.q).length=0:=rfl
  simp only[Kh,List.sum_nil]
  lia
 ·have o:(aX (kU G).q).length=(aX fV.q).length + j:=o
  have w:(kU G).reached.length<=fV.reached.length + j:=w
  have K:(aX fV.q).length=0:=rfl
  have J:fV.reached.length=0:=rfl
  lia
 ·rw[u];exact Fy
 ·rw[A];exact Fy
structure sX(G:Sr)(V:List Int)(N L:Nat):Prop where
 pl:∀ p∈G.places,p∈V
 st:∀ t p e c,p∈V->(e,c)∈G.steps t p->e∈V
 few:G.rs.length<=N
 len:∀ r∈G.rs,r.parts.length + 1<=L
theorem sY{l:List Int}(h:l≠[]):l.getLastD 0∈l:=by
 rcases Gy l with z | ⟨a,b,z⟩
 ·exact absurd z h
 ·rw[z,Gz];simp[Jl]
theorem V4{l:List Int}(h:l≠[]):l.headD 0∈l:=by
 cases l with
 | nil=>exact absurd rfl h
 | cons a b=>simp
theorem sZ{G:Sr}{V:List Int}{N L:Nat}(v:sX G V N L){n:Nat}{a:List Int}{c:aH}(h:DI G n a c):(∀ x∈a,x∈V)/\n < N/\a.length<=L:=by
 induction h with
 | @start n r p b f=>
  have y:=(An.mp b).1
  have:=v.len r (Bc b)
  have:=v.few
  exact⟨fun x d=>by rw[Az.mp d];exact v.pl p f,by lia,by simp;lia⟩
 | @word n r a c g e pr hd b f w hs q=>
  obtain⟨i,l,u⟩:=q
  have hl:=(An.mp f).1
  have:=v.len r (Bc b)
  have k:=Jn.mpr hd.ne
  refine⟨fun x d=>?_,l,by rw[Aw,Eb];lia⟩
  rcases Bo.mp d with z | z
  ·exact i x z
  ·rw[Az.mp z];exact v.st _ _ _ _ (i _ (sY hd.ne)) hs
 | @name n B r a s c m g hd b f w j hf y A q o=>
  obtain⟨i,l,u⟩:=q
  obtain⟨t,_,_⟩:=o
  have hl:=(An.mp f).1
  have:=v.len r (Bc b)
  have k:=Jn.mpr hd.ne
  refine⟨fun x d=>?_,l,by rw[Aw,Eb];lia⟩
  rcases Bo.mp d with z | z
  ·exact i x z
  ·rw[Az.mp z];exact t _ (sY j.ne)
def tB(V:List Int)(N L:Nat):List K4:=(Cb N).flatMap fun n=>(Cb (L + 1)).flatMap fun l=>V.flatMap fun a=>V.map fun b=>(n,l,a,b)
theorem pX{α b:Type}{f:α->List b}{k:Nat}:∀ {l:List α},(∀ x∈l,(f x).length=k)->(l.flatMap f).length=l.length * k
 | [],_=>by simp
 | x :: l,h=>by
  rw[List.flatMap_cons,Aw,h x Bg,pX fun y a=>h y (Bd _ a),Bp,Nat.succ_mul];lia
theorem V5(V:List Int)(N L:Nat):(tB V N L).length=N * ((L + 1) * (V.length * V.length)):=by
 unfold tB
 rw[pX (k:=(L + 1) * (V.length * V.length)) fun n _=>?_,Ey]
 rw[pX (k:=V.length * V.length) fun l _=>?_,Ey]
 rw[pX (k:=V.length) fun a _=>by rw[Ab]]
theorem EF{G:Sr}{V:List Int}{N L S o T:Nat}{st:SS}{P:List bR}{cur:aH}(v:sX G V N L)(A:All G S o st P cur T):P.length<=N * ((L + 1) * (V.length * V.length))/\(∀ key,((aG st.ends key).getD []).length<=V.length)/\(aX st.q).length + T<=o + N * ((L + 1) * (V.length * V.length)) * (S + V.length):=by
 have j:∀ {B:fA} {n a c},B=st.best->GI G B n a c->DI G n a c:=fun {B n a c} e g=>xN (B:=B) (fun f m D p h=>sU A.ob (by rw[<-e];exact h)) g
 have s:P.length<=N * ((L + 1) * (V.length * V.length)):=by
  have:=len_sub (b:=tB V N L) A.inv.once fun k hk=>by
   obtain⟨y,x,rfl⟩:=Au.mp hk
   have hd:=j rfl (A.inv.pr y x).2.2
   obtain⟨i,r,C⟩:=sZ v hd
   unfold tB
   refine Hs.mpr ⟨y.1,Eg.mpr r,Hs.mpr ⟨y.2.1.length,Eg.mpr (by lia),Hs.mpr ⟨_,i _ (V4 hd.ne),Au.mpr ⟨_,i _ (sY hd.ne),rfl⟩⟩⟩⟩
  rw[Ab,V5] at this
  exact this
 have t:∀ key,((aG st.ends key).getD []).length<=V.length:=fun key=>by
  have:=len_sub (b:=V) (A.cn.enn key) fun e w=>by
   obtain⟨z,hz,rfl⟩:=Au.mp w
   obtain⟨k,hk⟩:=(A.ob.ends key.1 key.2 z.1 z.2).mp hz
   obtain⟨n,a⟩:=k
   obtain⟨hd,_,hf⟩:=sU A.ob hk
   unfold cD at hf
   simp only[Dk] at hf
   rw[hf.2.2]
   exact(sZ v hd).1 _ (sY hd.ne)
  rw[Ab] at this
  exact this
 refine⟨s,t,?_⟩
 have u:(P.map (fU G S st)).sum<=P.length * (S + V.length):=by
  have hd:∀ y,fU G S st y<=S + V.length:=fun y=>by
   unfold fU
   split
   ·lia
   ·rename_i d _
    split
    ·have:=t (d,y.2.1.getLastD 0)
     lia
    ·lia
  have:∀ l:List bR,(l.map (fU G S st)).sum<=l.length * (S + V.length):=by
   intro l
   induction l with
   | nil=>simp
   | cons y l E=>rw[Ar,List.sum_cons,Bp,Nat.succ_mul];have:=hd y;lia
  exact this P
 have i:=A.cn.put
 have r:P.length * (S + V.length)<=N * ((L + 1) * (V.length * V.length)) * (S + V.length):=Nat.mul_le_mul_right _ s
 lia
theorem nY{κ:Type}[DecidableEq κ]{kvs:List (κ×W)}{k j:κ}{w:W}:bD (bV kvs k w) j=if k=j then some w else bD kvs j:=kS kvs k j w
theorem mX{κ:Type}[DecidableEq κ](e:κ×W)(t:List (κ×W))(k:κ):bD (e :: t) k=if e.1=k then some e.2 else bD t k:=dU e t k
theorem tD{κ:Type}[DecidableEq κ]{k j:κ}:∀ {kvs:List (κ×W)},bD (iN kvs k) j=if k=j then none else bD kvs j
 | []=>by unfold iN;rw[List.filter_nil];split <;> rfl
 | e :: t=>by
  have b:=tD (k:=k) (j:=j) (kvs:=t)
  unfold iN at b ⊢
  rw[Ff]
  by_cases h:e.1=k
  ·rw[if_neg (by simp[h]),b,mX]
   by_cases a:k=j
   ·rw[if_pos a,if_pos a]
   ·rw[if_neg a,if_neg a,if_neg (by rw[h];exact a)]
  ·rw[if_pos (by simp[h]),mX,b,mX]
   by_cases a:k=j
   ·rw[if_pos a,if_pos a,if_neg (by rw[<-a];exact h)]
   ·rw[if_neg a,if_neg a]
theorem xQ{κ:Type}[DecidableEq κ](kvs:List (κ×W))(k:κ)(w:W):(bV kvs k w).length<=kvs.length + 1:=sQ kvs k w
theorem EG{κ:Type}[DecidableEq κ]{k:κ}:∀ {kvs:List (κ×W)},(bD kvs k).isSome=true->(iN kvs k).length < kvs.length
 | [],h=>by cases h
 | e :: t,h=>by
  unfold iN
  rw[Ff]
  have c:(t.filter fun b=>decide (b.1≠k)).length<=t.length:=Il _ _
  by_cases a:e.1=k
  ·rw[if_neg (by simp[a]),Bp];omega
  ·rw[if_pos (by simp[a]),Bp,Bp]
   rw[mX,if_neg a] at h
   have:=EG h
   unfold iN at this
   omega
structure dW{κ:Type}(kk:κ->List aD)(M0 M:Mm)(a:Addr)(kvs:List (List aD×W))(g:κ->Option (List W)):Prop where
 sub:L3.Sub M0 M
 new:M0 a=none
 at_:M a=some (.dT kvs)
 non:∀ k,g k=none->bD kvs (kk k)=none
 som:∀ k ws,g k=some ws->∃ p,bD kvs (kk k)=some (.ref p)/\p≠a/\M0 p=none/\M p=some (.lst ws)
 inj:∀ k j p,bD kvs (kk k)=some (.ref p)->bD kvs (kk j)=some (.ref p)->k=j
theorem hW{M0 M:Mm}{p:Addr}{o:MO}(h:L3.Sub M0 M)(n:M0 p=none):L3.Sub M0 (put M p o):=fun a u e=>by
 rw[aP (fun z=>by rw[z,n] at e;cases e)];exact h a u e
section
variable {κ:Type}[DecidableEq κ]{kk:κ->List aD}{M0 M:Mm}{a p:Addr}{kvs:List (List aD×W)}{g:κ->Option (List W)}{o:MO}{k:κ}{ws:List W}
theorem dW.lift(h:dW kk M0 M a kvs g)(l:M p=none\/∃ u,M0 p=some u):dW kk (put M0 p o) (put M p o) a kvs g:=by
 have ne:∀ {b:Addr},M0 b=none->(∃ u,M b=some u)->b≠p:=fun {b} j ⟨u,c⟩ e=>by
  subst e
  rcases l with z | ⟨v,z⟩
  ·rw[c] at z;cases z
  ·rw[j] at z;cases z
 refine⟨Sub.put h.sub,?_,?_,h.non,fun k ws e=>?_,h.inj⟩
 ·rw[aP (ne h.new ⟨_,h.at_⟩)];exact h.new
 ·rw[aP (ne h.new ⟨_,h.at_⟩)];exact h.at_
 ·obtain⟨q,c,i,d,f⟩:=h.som k ws e
  have:=ne d ⟨_,f⟩
  exact⟨q,c,i,by rw[aP this];exact d,by rw[aP this];exact f⟩
theorem dW.more(h:dW kk M0 M a kvs g)(d:M p=none):dW kk M0 (put M p o) a kvs g:=by
 have ne:∀ {b:Addr},(∃ u,M b=some u)->b≠p:=fun {b} ⟨u,c⟩ e=>by subst e;rw[d] at c;cases c
 refine⟨hW h.sub (h.sub.non d),h.new,by rw[aP (ne ⟨_,h.at_⟩)];exact h.at_,h.non,fun k ws e=>?_,h.inj⟩
 obtain⟨q,c,j,i,f⟩:=h.som k ws e
 exact⟨q,c,j,i,by rw[aP (ne ⟨_,f⟩)];exact f⟩
theorem dW.has(h:dW kk M0 M a kvs g)(e:g k=some ws):∃ p,bD kvs (kk k)=some (.ref p)/\M p=some (.lst ws):=by
 obtain⟨q,c,_,_,b⟩:=h.som k ws e
 exact⟨q,c,b⟩
theorem dW.look(h:dW kk M0 M a kvs g)(k:κ):(bD kvs (kk k)).isSome=(g k).isSome:=by
 cases e:g k with
 | none=>rw[h.non k e];rfl
 | some ws=>obtain⟨q,b,_⟩:=h.has e;rw[b];rfl
theorem dW.wr(h:dW kk M0 M a kvs g)(hk:bD kvs (kk k)=some (.ref p)):dW kk M0 (put M p (.lst ws)) a kvs (fun j=>if k=j then some ws else g j):=by
 obtain⟨b,o⟩:∃ b,g k=some b:=by
  cases e:g k with
  | none=>rw[h.non k e] at hk;cases hk
  | some ws=>exact⟨_,rfl⟩
 obtain⟨q,d,l,i,s⟩:=h.som k b o
 rw[hk] at d
 cases d
 refine⟨hW h.sub i,h.new,by rw[aP (Bq l)];exact h.at_,fun j e=>?_,fun j us e=>?_,h.inj⟩
 ·by_cases c:k=j
  ·rw[if_pos c] at e;cases e
  ·rw[if_neg c] at e;exact h.non j e
 ·by_cases c:k=j
  ·rw[if_pos c] at e;cases e
   subst c
   exact⟨p,hk,l,i,bA⟩
  ·rw[if_neg c] at e
   obtain⟨q,f,r,n,m⟩:=h.som j us e
   refine⟨q,f,r,n,?_⟩
   rw[aP (fun z=>c (h.inj k j p hk (by rw[<-z];exact f)))];exact m
theorem dW.add(c:∀ k j,kk k=kk j->k=j)(h:dW kk M0 M a kvs g)(A:g k=none)(s:M p=none):dW kk M0 (put (put M p (.lst ws)) a (.dT (bV kvs (kk k) (.ref p)))) a (bV kvs (kk k) (.ref p)) (fun j=>if k=j then some ws else g j):=by
 have ne:∀ {b:Addr},(∃ u,M b=some u)->b≠p:=fun {b} ⟨u,l⟩ e=>by subst e;rw[s] at l;cases l
 have o:p≠a:=Bq (ne ⟨_,h.at_⟩)
 have d:∀ j q,bD kvs (kk j)=some (.ref q)->∃ u,M q=some u:=fun j q e=>by
  cases x:g j with
  | none=>rw[h.non j x] at e;cases e
  | some us=>
   obtain⟨B,t,_,_,v⟩:=h.som j us x
   rw[e] at t;cases t
   exact⟨_,v⟩
 refine⟨hW (hW h.sub (h.sub.non s)) h.new,h.new,bA,fun j e=>?_,fun j us e=>?_,fun i j q n m=>?_⟩
 ·by_cases f:k=j
  ·rw[if_pos f] at e;cases e
  ·rw[if_neg f] at e
   rw[nY,if_neg (fun z=>f (c _ _ z))];exact h.non j e
 ·by_cases f:k=j
  ·rw[if_pos f] at e;cases e
   subst f
   exact⟨p,by rw[nY,if_pos rfl],o,h.sub.non s,by rw[aP o,bA]⟩
  ·rw[if_neg f] at e
   obtain⟨q,t,w,y,v⟩:=h.som j us e
   exact⟨q,by rw[nY,if_neg (fun z=>f (c _ _ z))];exact t,w,y,by rw[aP w,aP (ne ⟨_,v⟩)];exact v⟩
 ·rw[nY] at n m
  by_cases l:kk k=kk i
  ·by_cases r:kk k=kk j
   ·exact(c _ _ l).symm.trans (c _ _ r)
   ·rw[if_pos l] at n;rw[if_neg r] at m;cases n
    obtain⟨u,z⟩:=d j p m;rw[s] at z;cases z
  ·by_cases r:kk k=kk j
   ·rw[if_neg l] at n;rw[if_pos r] at m;cases m
    obtain⟨u,z⟩:=d i p n;rw[s] at z;cases z
   ·rw[if_neg l] at n;rw[if_neg r] at m
    exact h.inj i j q n m
theorem dW.del(c:∀ k j,kk k=kk j->k=j)(h:dW kk M0 M a kvs g):dW kk M0 (put M a (.dT (iN kvs (kk k)))) a (iN kvs (kk k)) (fun j=>if k=j then none else g j):=by
 refine⟨hW h.sub h.new,h.new,bA,fun j e=>?_,fun j us e=>?_,fun i j q f d=>?_⟩
 ·rw[tD]
  by_cases b:k=j
  ·rw[if_pos (by rw[b])]
  ·rw[if_neg b] at e
   rw[if_neg (fun z=>b (c _ _ z))];exact h.non j e
 ·by_cases b:k=j
  ·rw[if_pos b] at e;cases e
  ·rw[if_neg b] at e
   obtain⟨q,m,l,o,n⟩:=h.som j us e
   exact⟨q,by rw[tD,if_neg (fun z=>b (c _ _ z))];exact m,l,o,by rw[aP l];exact n⟩
 ·rw[tD] at f d
  split at f
  ·cases f
  ·split at d
   ·cases d
   ·exact h.inj i j q f d
theorem dW.same{g':κ->Option (List W)}(h:dW kk M0 M a kvs g)(e:∀ k,g' k=g k):dW kk M0 M a kvs g':=by
 have:g'=g:=funext e
 rw[this];exact h
end
structure Cc where
 q:Addr
 s:Addr
def cW(c:aH):W:=.tup [.int c.1,.int c.2]
def cK(c:aH):List aD:=[Sum.inl c.1,Sum.inl c.2]
theorem V6(c:aH):cW c=.tup ((cK c).map wK):=rfl
theorem EH:∀ a b:aH,cK a=cK b->a=b:=fun a b h=>by
 unfold cK at h
 simp only[Cy,Lo,and_true] at h
 exact Prod.ext h.1 h.2
def gP(a:List Int):W:=.tup (a.map W.int)
def jB(x:Nat×List Int):W:=.tup [.int x.1,gP x.2]
section
variable {α:Type}
theorem tE{κ b:Type}[DecidableEq κ]{t:List (κ×b)}{k:κ}(h:∀ e∈t,e.1≠k):aG t k=none:=by
 induction t with
 | nil=>rfl
 | cons e t a=>rw[dU,if_neg (h e Bg)];exact a fun x c=>h x (Bd _ c)
theorem tF{a b:aH}(h:cA a b=true):a≠b:=fun e=>by subst e;exact pQ h
theorem EI(c:aH)(x:α)(d:aH):∀ {q:List (aH×List α)},gC q->aG (dD c x q) d=if c=d then some ((aG q c).getD [] ++ [x]) else aG q d
 | [],_=>by rw[dD,dU];rfl
 | (e,xs) :: r,h=>by
  obtain⟨_,g,f⟩:=h
  rw[dD]
  by_cases a:cA c e=true
  ·rw[if_pos a,dU,EI c x d f,dU,dU,if_neg (Bq (tF a))]
   by_cases hd:e=d
   ·rw[if_pos hd,if_pos hd,if_neg (fun z=>tF a (z.trans hd.symm))]
   ·rw[if_neg hd,if_neg hd]
  ·rw[if_neg a]
   by_cases b:e=c
   ·subst b
    rw[if_pos rfl,dU,dU,dU,if_pos rfl]
    by_cases hd:e=d
    ·rw[if_pos hd,if_pos hd];rfl
    ·rw[if_neg hd,if_neg hd,if_neg hd]
   ·rw[if_neg b,dU]
    have i:aG ((e,xs) :: r) c=none:=tE fun z hz=>by
     rcases Ba.mp hz with y | y
     ·rw[y];exact b
     ·intro j
      have:=g z y
      rw[j] at this
      exact a this
    rw[i];rfl
def pos(c:aH):List aH->Nat
 | []=>0
 | d :: r=>if cA c d=true then pos c r + 1 else 0
theorem EJ(c:aH):∀ cs:List aH,pos c cs<=cs.length
 | []=>Ai _
 | d :: r=>by
  rw[pos]
  split
  ·have:=EJ c r;simp;lia
  ·simp
theorem xR(c:aH)(x:α):∀ {q:List (aH×List α)},gC q->(aG q c).isSome=false->(dD c x q).map (·.1)=(q.map (·.1)).take (pos c (q.map (·.1))) ++ c :: (q.map (·.1)).drop (pos c (q.map (·.1)))
 | [],_,_=>rfl
 | (e,xs) :: r,h,a=>by
  obtain⟨_,g,f⟩:=h
  rw[dU] at a
  by_cases d:e=c
  ·rw[if_pos d] at a;cases a
  ·rw[if_neg d] at a
   rw[dD,Ar,pos]
   by_cases b:cA c e=true
   ·rw[if_pos b,if_pos b,Ar,xR c x f a];rfl
   ·rw[if_neg b,if_neg b,if_neg d];rfl
theorem EK(c:aH)(x:α):∀ {q:List (aH×List α)},gC q->(aG q c).isSome=true->(dD c x q).map (·.1)=q.map (·.1)
 | [],_,h=>by cases h
 | (e,xs) :: r,h,d=>by
  obtain⟨_,f,i⟩:=h
  rw[dU] at d
  rw[dD]
  by_cases a:cA c e=true
  ·rw[if_neg (Bq (tF a))] at d
   rw[if_pos a,Ar,EK c x i d];rfl
  ·rw[if_neg a]
   by_cases g:e=c
   ·rw[if_pos g];rfl
   ·rw[if_neg g] at d
    obtain⟨ys,l⟩:=Option.isSome_iff_exists.mp d
    have:∃ z∈r,z.1=c:=by
     have:∀ {t:List (aH×List α)},aG t c=some ys->∃ z∈t,z.1=c:=by
      intro t
      induction t with
      | nil=>intro e;cases e
      | cons b t k=>
       intro e
       rw[dU] at e
       by_cases hb:b.1=c
       ·exact⟨b,Bg,hb⟩
       ·rw[if_neg hb] at e
        obtain⟨z,a,f⟩:=k e
        exact⟨z,Bd _ a,f⟩
     exact this l
    obtain⟨z,hz,j⟩:=this
    have:=f z hz
    rw[j] at this
    exact absurd this a
theorem xS:∀ {q:List (aH×List α)},gC q->q.length<=(aX q).length
 | [],_=>Ai _
 | (e,xs) :: r,h=>by
  obtain⟨a,_,b⟩:=h
  have:=xS b
  have:=Jn.mpr a
  rw[aX,Aw,Ab,Bp];lia
theorem EL:∀ {q:List (aH×List α)} {c:aH},((aG q c).getD []).length<=(aX q).length
 | [],_=>Ai _
 | (e,xs) :: r,c=>by
  rw[dU,aX,Aw,Ab]
  split
  ·show xs.length<=_;lia
  ·have:=EL (q:=r) (c:=c);lia
theorem EM:∀ {q a:List (aH×List α)} {c:aH} {x:α},gC q->gO q=some (c,x,a)->∃ r ys,q=r ++ [(c,ys ++ [x])]/\a=(if ys.isEmpty then r else r ++ [(c,ys)])
 | [],a,c,x,_,h=>by cases h
 | [(d,xs)],a,c,x,hf,h=>by
  obtain⟨b,_,_⟩:=hf
  rcases Gy xs with z | ⟨ys,y,z⟩
  ·exact absurd z b
  ·rw[Gz] at z
   subst z
   simp[gO] at h
   obtain⟨rfl,rfl,rfl⟩:=h
   refine⟨[],ys,rfl,?_⟩
   cases ys <;> simp
 | e :: k :: r,a,c,x,hf,h=>by
  obtain⟨_,_,g⟩:=hf
  rw[gO] at h
  split at h
  ·cases h
  ·rename_i l x1 j i
   simp only[Es,Dk] at h
   obtain⟨rfl,rfl,rfl⟩:=h
   obtain⟨f,ys,z1,z2⟩:=EM g i
   refine⟨e :: f,ys,by rw[z1];rfl,?_⟩
   rw[z2]
   split <;> rfl
theorem tG{κ b:Type}[DecidableEq κ]{t:List (κ×b)}{k:κ}{v:b}(h:∀ e∈t,e.1≠k)(j:κ):aG (t ++ [(k,v)]) j=if k=j then some v else aG t j:=by
 rw[xI]
 by_cases a:k=j
 ·subst a;rw[if_pos rfl,if_pos rfl,tE h];rfl
 ·rw[if_neg a,if_neg a,Option.or_none]
theorem EN:∀ {r:List (aH×List α)} {c:aH} {ys:List α},gC (r ++ [(c,ys)])->∀ e∈r,e.1≠c
 | [],_,_,_,e,h=>nomatch h
 | b :: r,c,ys,h,e,a=>by
  obtain⟨_,f,d⟩:=h
  rcases Ba.mp a with z | z
  ·rw[z];exact Bq (tF (f (c,ys) (by simp)))
  ·exact EN d e z
theorem EO:∀ {q:List (aH×List α)},gC q->(q.map (·.1)).Pairwise fun a b=>cA b a=true
 | [],_=>.nil
 | (e,xs) :: r,h=>by
  obtain⟨_,d,c⟩:=h
  rw[Ar,List.pairwise_cons]
  refine⟨fun a ha=>?_,EO c⟩
  obtain⟨z,hz,rfl⟩:=Au.mp ha
  exact d z hz
end
theorem ER{c:aH}:∀ {cs:List aH} {k:Nat},k<=cs.length->(∀ i d,i < k->cs[i]? = some d->cA c d=true)->(∀ i d,k<=i->cs[i]? = some d->cA c d=false)->pos c cs=k
 | [],k,h,_,_=>by simp at h;subst h;rfl
 | d :: r,k,h,b,f=>by
  rw[pos]
  cases k with
  | zero=>rw[if_neg (by rw[f 0 d (Ai _) rfl];decide)]
  | succ k=>
   rw[if_pos (b 0 d (by lia) rfl),ER (k:=k) (by simpa using h) (fun i e hi a=>b (i + 1) e (by lia) (by simpa using a)) fun i e hi a=>f (i + 1) e (by lia) (by simpa using a)]
structure Aq where
 o:Addr
 d:Addr
 c:Addr
 w:Addr
def qf(A:Aq):List (Str×W):=[("costs",.ref A.c),("waiting",.ref A.w)]
theorem nZ{A:Aq}:Cm ("costs" : Str) (qf A)=some (W.ref A.c):=by kernel_rfl
theorem n5{A:Aq}:Cm ("waiting" : Str) (qf A)=some (W.ref A.w):=by kernel_rfl
theorem V7{A:Aq}:Cm ("place_of" : Str) (qf A)=none:=by kernel_rfl
theorem V8{A:Aq}:Cm ("put" : Str) (qf A)=none:=by kernel_rfl
theorem V9{A:Aq}:Cm ("take" : Str) (qf A)=none:=by kernel_rfl
theorem WA{A:Aq}:Cm ("is_done" : Str) (qf A)=none:=by kernel_rfl
structure Qm(C:Cc)(M0 M:Mm)(A:Aq)(cs:List aH):Prop where
 sub:L3.Sub M0 M
 no:M0 A.o=none
 nc:M0 A.c=none
 ne:A.o≠A.c
 ob:M A.o=some (.ins C.q A.d (qf A))
 co:M A.c=some (.lst (cs.map cW))
abbrev Qu:=List (aH×List (Nat×List Int))
abbrev wG(q:Qu):aH->Option (List W):=fun c=>(aG q c).map fun xs=>xs.map jB
structure QR(C:Cc)(M0 M:Mm)(A:Aq)(q:Qu):Prop where
 fall:gC q
 ex:∃ M1 kvs,Qm C M0 M1 A (q.map (·.1))/\dW cK M1 M A.w kvs (wG q)/\kvs.length<=q.length
theorem Qm.lift{C:Cc}{M0 M:Mm}{A:Aq}{cs:List aH}{p:Addr}{o:MO}(h:Qm C M0 M A cs)(g:M p=none\/∃ u,M0 p=some u):Qm C (put M0 p o) (put M p o) A cs:=by
 have ne:∀ {b:Addr},M0 b=none->(∃ u,M b=some u)->b≠p:=fun {b} f ⟨u,d⟩ e=>by
  subst e
  rcases g with z | ⟨v,z⟩
  ·rw[d] at z;cases z
  ·rw[f] at z;cases z
 have a:=ne h.no ⟨_,h.ob⟩
 have c:=ne h.nc ⟨_,h.co⟩
 exact⟨Sub.put h.sub,by rw[aP a];exact h.no,by rw[aP c];exact h.nc,h.ne,by rw[aP a];exact h.ob,by rw[aP c];exact h.co⟩
theorem Qm.costs{C:Cc}{M0 M:Mm}{A:Aq}{cs cs':List aH}(h:Qm C M0 M A cs):Qm C M0 (put M A.c (.lst (cs'.map cW))) A cs':=
 ⟨hW h.sub h.nc,h.no,h.nc,h.ne,by rw[aP h.ne];exact h.ob,bA⟩
theorem QR.lift{C:Cc}{M0 M:Mm}{A:Aq}{q:Qu}{p:Addr}{o:MO}(h:QR C M0 M A q)(c:M p=none\/∃ u,M0 p=some u):QR C (put M0 p o) (put M p o) A q:=by
 obtain⟨d,kvs,a,b,e⟩:=h.ex
 refine⟨h.fall,put d p o,kvs,a.lift ?_,b.lift ?_,e⟩
 ·rcases c with z | z
  ·exact .inl (b.sub.non z)
  ·exact .inr z
 ·rcases c with z | ⟨u,z⟩
  ·exact .inl z
  ·exact .inr ⟨u,a.sub _ _ z⟩
theorem QR.more{C:Cc}{M0 M:Mm}{A:Aq}{q:Qu}{p:Addr}{o:MO}(h:QR C M0 M A q)(e:M p=none):QR C M0 (put M p o) A q:=by
 obtain⟨a,kvs,b,d,c⟩:=h.ex
 exact⟨h.fall,a,kvs,b,d.more e,c⟩
theorem QR.sub{C:Cc}{M0 M:Mm}{A:Aq}{q:Qu}(h:QR C M0 M A q):L3.Sub M0 M:=by
 obtain⟨c,kvs,a,b,d⟩:=h.ex
 exact a.sub.trans b.sub
theorem QR.ob{C:Cc}{M0 M:Mm}{A:Aq}{q:Qu}(h:QR C M0 M A q):M A.o=some (.ins C.q A.d (qf A)):=by
 obtain⟨c,kvs,a,b,e⟩:=h.ex
 exact b.sub _ _ a.ob
theorem QR.co{C:Cc}{M0 M:Mm}{A:Aq}{q:Qu}(h:QR C M0 M A q):M A.c=some (.lst ((q.map (·.1)).map cW)):=by
 obtain⟨d,kvs,a,b,e⟩:=h.ex
 exact b.sub _ _ a.co
def xT(C:Cc):bS:=fun ws M R=>∃ M0 a c,ws=[.ref a]/\M=put M0 a (.ins C.q c [])/\M0 a=none/\∀ b (A:Aq),A.o=a->QR C M0 b A []->R .non b
def xU(C:Cc):bS:=fun ws M R=>∃ M0 A q,ws=[.ref A.o]/\QR C M0 M A q/\R (.bl (decide (q=[]))) M
def xV(C:Cc):bS:=fun ws M R=>∃ (A:Aq) (cs:List aH) (c:aH),ws=[.ref A.o,cW c]/\M A.o=some (.ins C.q A.d (qf A))/\M A.c=some (.lst (cs.map cW))/\cs.Pairwise (fun a b=>cA b a=true)/\cs.length < 10000000/\R (.int (pos c cs:Nat)) M
def tH(C:Cc):bS:=fun ws M R=>∃ M0 A q c x,ws=[.ref A.o,cW c,jB x]/\QR C M0 M A q/\(aX (dD c x q)).length < 10000000/\∀ a,QR C M0 a A (dD c x q)->R .non a
def xW(C:Cc):bS:=fun ws M R=>∃ M0 A q c x a,ws=[.ref A.o]/\QR C M0 M A q/\gO q=some (c,x,a)/\∀ b,QR C M0 b A a->R (.tup [cW c,jB x]) b
abbrev WB:List Str:=["self"]
def WC(C:Cc):aK:=
   (aR (i8 C.q (aA 0) "costs" (jR aE))
   (i8 C.q (aA 0) "waiting" mI))
abbrev WD:List Str:=["self"]
def WE(C:Cc):aK:=
   (cL (aF (rEq false) (bT dS (aB (cM C.q (aA 0) "costs") aE)) (vC (.int 0))))
abbrev WG:List Str:=["self","cost","thing"]
def WH(C:Cc):aK:=
   (aR (eL (cX (aF (rIn true) (aA 1) (cM C.q (aA 0) "waiting")))
    (aR (lO (jR aE) (mL (cM C.q (aA 0) "waiting") (aA 1)))
   (eJ (eX "list" D4 (cM C.q (aA 0) "costs") (aB (gN C.q "place_of" (xV C) (aA 0) (aB (aA 1) aE)) (aB (aA 1) aE)))))
    fR)
   (eJ (eX "list" f7 (aF aY (cM C.q (aA 0) "waiting") (aA 1)) (aB (aA 2) aE))))
abbrev WI:List Str:=["self","cost","low","high","middle"]
def WJ(C:Cc):aK:=
   (bH 2 (vC (.int 0)))
def WK(C:Cc):aK:=
   (bH 3 (bT dS (aB (cM C.q (aA 0) "costs") aE)))
def WL(C:Cc):aK:=
   (aR (bH 4 (aF nM (aF cS (aA 2) (aA 3)) (vC (.int 2))))
   (eL (cX (aF D1 (aF aY (cM C.q (aA 0) "costs") (aA 4)) (aA 1)))
    (bH 2 (aF cS (aA 4) (vC (.int 1))))
    (bH 3 (aA 4))))
def WM(C:Cc):aK:=
   (r9 (cX (aF mG (aA 2) (aA 3))) (WL C))
def WN(C:Cc):aK:=
   (cL (aA 2))
def WO(C:Cc):aK:=(aR (WJ C) (aR (WK C) (aR (WM C) (WN C))))
abbrev WQ:List Str:=["self","cost","things","thing"]
def WR(C:Cc):aK:=
   (bH 1 (aF aY (cM C.q (aA 0) "costs") (kI kN (vC (.int 1)))))
def WS(C:Cc):aK:=
   (bH 2 (aF aY (cM C.q (aA 0) "waiting") (aA 1)))
def WT(C:Cc):aK:=
   (bH 3 (rQ "list" rPop (aA 2)))
def WU(C:Cc):aK:=
   (eL (cX (aF (rEq false) (bT dS (aB (aA 2) aE)) (vC (.int 0))))
    (aR (eJ (rQ "list" rPop (cM C.q (aA 0) "costs")))
   (eJ (eX "dict" DX (cM C.q (aA 0) "waiting") (aB (aA 1) aE))))
    fR)
def WV(C:Cc):aK:=
   (cL (dB (aB (aA 1) (aB (aA 3) aE))))
def WW(C:Cc):aK:=(aR (WR C) (aR (WS C) (aR (WT C) (aR (WU C) (WV C)))))
theorem WX{C:Cc}:∀ ws M R,xT C ws M R->ws.length=1:=by rintro ws M R ⟨_,_,_,rfl,_⟩;rfl
theorem WY{C:Cc}:∀ ws M R,xU C ws M R->ws.length=1:=by rintro ws M R ⟨_,_,_,rfl,_⟩;rfl
theorem WZ{C:Cc}:∀ ws M R,xV C ws M R->ws.length=2:=by rintro ws M R ⟨_,_,_,rfl,_⟩;rfl
theorem W0{C:Cc}:∀ ws M R,tH C ws M R->ws.length=3:=by rintro ws M R ⟨_,_,_,_,_,rfl,_⟩;rfl
theorem W5{C:Cc}:∀ ws M R,xW C ws M R->ws.length=1:=by rintro ws M R ⟨_,_,_,_,_,_,rfl,_⟩;rfl
theorem z1:1<=Aj:=by decide
theorem z2:2<=Aj:=by decide
theorem z3:3<=Aj:=by decide
theorem z4:4<=Aj:=by decide
theorem cG{b:Bool}{P Q:Prop}(a:b=true->P)(c:b=false->Q):if b=true then P else Q:=by cases b;exact c rfl;exact a rfl
theorem xX{w:W}{ws:List W}{M:Mm}{R:List W->(Mm->Prop)->Mm->Prop}(e:w=.rl ws)(h:R ws (fun _=>True) M):L3.mN w M R:=by rw[e];exact h
theorem pY{M:Mm}{a:Addr}{kvs:List (List aD×W)}{k:List aD}{w:W}{R:K3}(h:M a=some (.dT kvs))(hl:bD kvs k=some w)(r:R w M):L3.aY (.ref a) (.tup (k.map wK)) M R:=⟨w,.inr ⟨kvs,k,h,rfl,hl.symm⟩,r⟩
theorem gQ{M:Mm}{a:Addr}{ws:List W}(h:M a=some (.lst ws)):kK "list" (.ref a) M:=.inl ⟨rfl,_,h⟩
theorem pZ{M:Mm}{a:Addr}{kvs:List (List aD×W)}(h:M a=some (.dT kvs)):kK "dict" (.ref a) M:=.inr ⟨rfl,.inr ⟨_,h⟩⟩
theorem W6{C:Cc}{ws:List W}{M:Mm}{R:K3}(h:xU C ws M R):WE C (bW R) (b5 WD ws) M:=by
 obtain⟨M0,A,q,rfl,a,r⟩:=h
 refine⟨_,rfl,A.o,A.d,qf A,_,rfl,a.ob,nZ,.inl ⟨_,a.co,M,Sub.refl _,?_⟩⟩
 show R (.bl (decide (((Mi cW (q.map fun x=>x.1)).length:Int)=0))) M
 have e:decide (((Mi cW (q.map fun x=>x.1)).length:Int)=0)=decide (q=[]):=by
  cases q <;> simp
  lia
 rw[e];exact r
theorem W7{C:Cc}{ws:List W}{M:Mm}{R:K3}(h:xT C ws M R):WC C (bW R) (b5 WB ws) M:=by
 obtain⟨M0,a,d,rfl,rfl,ha,r⟩:=h
 refine⟨Bx _,fun p m=>?_⟩
 have c:p≠a:=fun e=>by rw[e,bA] at m;cases m
 have l:M0 p=none:=by rw[aP c] at m;exact m
 refine⟨_,rfl,a,d,[],rfl,by rw[aP (Bq c),bA],by decide,fun w hw=>?_⟩
 have f:w≠a:=fun e=>by rw[e,bA] at hw;cases hw
 have g:w≠p:=fun e=>by rw[e,aP c,bA] at hw;cases hw
 have i:M0 w=none:=by rw[aP f,aP g,aP f] at hw;exact hw
 refine⟨_,rfl,a,d,bQ "costs" (.ref p) [],rfl,by rw[aP (Bq f),bA],(show(1:Nat) < 1000 by decide),_,Sub.refl _,r _ ⟨a,d,p,w⟩ rfl ⟨trivial,put (put M0 p (.lst [])) a (.ins C.q d (qf ⟨a,d,p,w⟩)),[],⟨hW (hW (Sub.refl _) l) ha,ha,l,Bq c,bA,by rw[aP c,bA];rfl⟩,?_,Ai _⟩⟩
 have e:put (put (put (put (put M0 a (.ins C.q d [])) p (.lst [])) a (.ins C.q d (bQ "costs" (.ref p) []))) w (.dT [])) a (.ins C.q d (bQ "waiting" (.ref w) (bQ "costs" (.ref p) [])))=put (put (put M0 p (.lst [])) a (.ins C.q d (qf ⟨a,d,p,w⟩))) w (.dT []):=by
  have eq:bQ "waiting" (.ref w) (bQ "costs" (.ref p) [])=qf ⟨a,d,p,w⟩:=by
   show(if (("costs" : Str)=("waiting" : Str)) then _ else _)=_
   rw[if_neg (by decide +kernel)];rfl
  rw[eq]
  funext b
  unfold put
  by_cases n:b=a <;> by_cases o:b=w <;> by_cases s:b=p <;> simp_all
 rw[e]
 exact⟨hW (Sub.refl _) (by rw[aP f,aP g];exact i),by rw[aP f,aP g];exact i,bA,(fun _ _=>rfl),(fun k ws e=>nomatch e),(fun k j p e=>nomatch e)⟩
theorem W8{C:Cc}{ws:List W}{M:Mm}{R:K3}(h:xV C ws M R):WO C (bW R) (b5 WI ws) M:=by
 obtain⟨A,cs,c,rfl,w,hc,F,hl,r⟩:=h
 refine⟨_,rfl,A.o,A.d,qf A,_,rfl,w,nZ,.inl ⟨_,hc,?_⟩⟩
 refine⟨fun m y u=>∃ lo hi:Nat,∃ o,y=[some (.ref A.o),some (cW c),some (.int lo),some (.int hi),o]/\u=M/\lo<=hi/\hi<=cs.length/\(∀ i d,i < lo->cs[i]? = some d->cA c d=true)/\(∀ i d,hi<=i->cs[i]? = some d->cA c d=false)/\m=hi - lo,⟨_,0,cs.length,none,by rw[Ab];rfl,rfl,Bx _,Ai _,(fun i d hi=>absurd hi (Nat.not_lt_zero _)),(fun i d hi e=>by rw[Im hi] at e;cases e),rfl⟩,?_⟩
 rintro m y u ⟨lo,hi,o,rfl,rfl,J,t,v,x,rfl⟩
 refine⟨_,rfl,_,rfl,_,rfl,cG (fun hb=>?_) fun hb=>?_⟩
 ·have p:=of_decide_eq_true hb
  refine⟨_,rfl,_,rfl,⟨by decide,by decide⟩,?_⟩
  obtain⟨f,K⟩:∃ f,f=(lo + hi) / 2:=⟨_,rfl⟩
  have D:((lo:Int) + (hi:Int)) / 2=(f:Nat):=by lia
  dsimp only
  rw[D]
  obtain⟨d,hd⟩:∃ d,cs[f]? = some d:=⟨_,Am (by lia)⟩
  refine⟨_,rfl,A.o,A.d,qf A,_,rfl,w,nZ,_,rfl,.inl ⟨_,cW d,hc,jF (by rw[Bi,hd];rfl),_,rfl,d.1,d.2,c.1,c.2,rfl,rfl,_,rfl,?_⟩⟩
  have pg:∀ i j a b,i < j->cs[i]? = some a->cs[j]? = some b->cA b a=true:=fun i j a b q l s=>by
   obtain⟨G,I⟩:=An.mp l
   obtain⟨B,H⟩:=An.mp s
   rw[<-I,<-H]
   exact Ft.mp F i j G B q
  show if cA c d=true then _ else _
  by_cases g:cA c d=true
  ·rw[if_pos g]
   refine⟨_,rfl,_,_,?_,Sub.refl _,f + 1,hi,_,rfl,rfl,by lia,t,fun i e l n=>?_,x,rfl⟩
   ·lia
   ·by_cases iR:i < f
    ·exact pR g (Le.of_lt (pg i f e d iR n hd))
    ·have:i=f:=by lia
     rw[this,hd] at n;cases n;exact g
  ·rw[if_neg g]
   refine⟨_,rfl,_,_,?_,Sub.refl _,lo,f,_,rfl,rfl,by lia,by lia,v,fun i e l n=>?_,rfl⟩
   ·lia
   ·by_cases iR:f < i
    ·have E:=pg f i d e iR hd n
     cases z:cA c e with
     | false=>rfl
     | true=>exact absurd (pR z (Le.of_lt E)) g
    ·have:i=f:=by lia
     rw[this,hd] at n;cases n
     simpa using g
 ·have p:=of_decide_eq_false hb
  have:lo=hi:=by lia
  subst this
  refine⟨_,rfl,_,Sub.refl _,?_⟩
  rw[<-ER (c:=c) (cs:=cs) (k:=lo) t v x];exact r
theorem W9{C:Cc}{ws:List W}{M:Mm}{R:K3}(h:tH C ws M R):WH C (bW R) (b5 WG ws) M:=by
 obtain⟨M0,A,q,c,x,rfl,v,hl,r⟩:=h
 have J:=sR c x q
 have hf:=v.fall
 have K:=xS hf
 have u:=EL (q:=q) (c:=c)
 have w:=xJ c x hf
 obtain⟨G,kvs,l,n,H⟩:=v.ex
 refine⟨_,rfl,_,rfl,A.o,A.d,qf A,_,rfl,v.ob,n5,.inr ⟨_,.inr ⟨kvs,cK c,n.at_,V6 c,rfl⟩,_,rfl,?_⟩⟩
 rw[n.look c]
 have i:∀ j,wG (dD c x q) j=if c=j then some (((aG q c).getD []).map jB ++ [jB x]) else wG q j:=fun j=>by
  show(aG (dD c x q) j).map _=_
  rw[EI c x j hf]
  by_cases g:c=j
  ·rw[if_pos g,if_pos g,Kx,Bs];rfl
  ·rw[if_neg g,if_neg g]
 cases t:aG q c with
 | some xs=>
  have b:wG q c=some (xs.map jB):=by show(aG q c).map _=_;rw[t];rfl
  rw[b]
  rw[t] at u i
  have u:xs.length<=(aX q).length:=u
  refine cG (fun h=>nomatch (show false=true from h)) fun _=>?_
  obtain⟨p,a,f⟩:=n.has b
  have m:=EK c x hf (by rw[t];rfl)
  refine⟨_,rfl,A.o,A.d,qf A,_,rfl,v.ob,n5,_,rfl,pY n.at_ a ⟨gQ f,_,rfl,_,f,hJ (by rw[Ab];lia),_,Sub.refl _,r _ ⟨w,G,kvs,?_,(n.wr a).same i,?_⟩⟩⟩
  ·rw[m];exact l
  ·have:=congrArg Dl m
   rw[Ab,Ab] at this
   rw[this];exact H
 | none=>
  have b:wG q c=none:=by show(aG q c).map _=_;rw[t];rfl
  rw[b]
  rw[t] at i
  refine cG (fun _=>⟨Bx _,fun p z=>?_⟩) fun h=>nomatch (show true=false from h)
  have s:=n.add EH (ws:=[]) b z
  have D:A.o≠p:=fun e=>by rw[<-e,v.ob] at z;cases z
  have y:((q.map (·.1)).map cW).length=q.length:=by rw[Ab,Ab]
  have E:=EJ c (q.map (·.1))
  rw[Ab] at E
  refine⟨_,rfl,A.o,A.d,qf A,_,rfl,by rw[aP D];exact v.ob,n5,_,rfl,sI (k:=cK c) (kvs:=kvs) (by rw[aP (fun e=>by rw[<-e,n.at_] at z;cases z)];exact n.at_) (hJ (by lia)) ?_⟩
  refine⟨_,rfl,A.o,A.d,qf A,_,rfl,s.sub _ _ l.ob,nZ,gQ (s.sub _ _ l.co),?_⟩
  have B:=s.lift (p:=A.c) (o:=.lst ((((q.map (·.1)).take (pos c (q.map (·.1))) ++ c :: (q.map (·.1)).drop (pos c (q.map (·.1)))).map cW))) (.inr ⟨_,l.co⟩)
  have F:=l.costs (cs':=(q.map (·.1)).take (pos c (q.map (·.1))) ++ c :: (q.map (·.1)).drop (pos c (q.map (·.1))))
  refine⟨_,rfl,A.o,A.d,qf A,rfl,s.sub _ _ l.ob,V7,_,rfl,A,q.map (·.1),c,rfl,s.sub _ _ l.ob,s.sub _ _ l.co,EO hf,by rw[Ab];lia,_,rfl,_,s.sub _ _ l.co,hJ (by rw[y];lia),by lia,by rw[y];lia,?_⟩
  have L:((q.map (·.1)).map cW).take (Int.toNat (pos c (q.map (·.1)):Nat)) ++ cW c :: ((q.map (·.1)).map cW).drop (Int.toNat (pos c (q.map (·.1)):Nat))=(((q.map (·.1)).take (pos c (q.map (·.1))) ++ c :: (q.map (·.1)).drop (pos c (q.map (·.1)))).map cW):=by
   rw[Cj,Bs,Ar,Ly,Oa]
  rw[L]
  obtain⟨O,a,f⟩:=B.has (k:=c) (ws:=[]) (by rw[if_pos rfl])
  refine⟨_,rfl,A.o,A.d,qf A,_,rfl,B.sub _ _ F.ob,n5,_,rfl,pY B.at_ a ⟨gQ f,_,rfl,_,f,hJ (by simp),_,Sub.refl _,r _ ⟨w,_,_,?_,(B.wr a).same (fun j=>?_),?_⟩⟩⟩
  ·rw[xR c x hf (by rw[t];rfl)];exact F
  ·rw[i j]
   by_cases g:c=j
   ·rw[if_pos g,if_pos g];rfl
   ·rw[if_neg g,if_neg g,if_neg g]
  ·have I:=congrArg Dl (xR c x hf (by rw[t];rfl))
   have N:=xQ kvs (cK c) (W.ref p)
   rw[Ab,Aw,Bp,Cg,Gs,Ab] at I
   lia
theorem XA{C:Cc}{ws:List W}{M:Mm}{R:K3}(h:xW C ws M R):WW C (bW R) (b5 WQ ws) M:=by
 obtain⟨M0,A,q,c,x,D,rfl,u,ht,r⟩:=h
 have hf:=u.fall
 have ⟨_,_,_,e0,hf',_,_,_,_⟩:=mV hf (fun e=>by rw[e] at ht;cases ht)
 rw[ht] at e0
 cases e0
 obtain⟨G,kvs,s,w,B⟩:=u.ex
 obtain⟨n,ys,f,l⟩:=EM hf ht
 have a:∀ e∈n,e.1≠c:=by rw[f] at hf;exact EN hf
 have z:wG q c=some (ys.map jB ++ [jB x]):=by
  show(aG q c).map _=_
  rw[f,tG a,if_pos rfl,Kx,Bs];rfl
 obtain⟨p,g,t⟩:=w.has z
 have hc:M A.c=some (.lst (((n.map (·.1)).map cW) ++ [cW c])):=by rw[u.co,f];simp
 refine⟨_,rfl,A.o,A.d,qf A,_,rfl,u.ob,nZ,.inl ⟨_,_,hc,BA _ _,_,rfl,A.o,A.d,qf A,_,rfl,u.ob,n5,_,rfl,pY w.at_ g ⟨_,rfl,gQ t,⟨_,_,t,_,rfl,.inl ⟨_,bA,_,rfl,?_⟩⟩⟩⟩⟩
 have m:=w.wr (ws:=ys.map jB) g
 cases ys with
 | nil=>
  refine cG (fun _=>?_) fun h=>nomatch (show true=false from h)
  have i:G A.c=some (.lst (((n.map (·.1)).map cW) ++ [cW c])):=by rw[s.co,f];simp
  have E:=s.costs (cs':=n.map (·.1))
  have v:=m.lift (p:=A.c) (o:=.lst ((n.map (·.1)).map cW)) (.inr ⟨_,i⟩)
  have F:=v.del (k:=c) EH
  refine⟨_,rfl,A.o,A.d,qf A,_,rfl,m.sub _ _ s.ob,nZ,gQ (m.sub _ _ i),_,_,m.sub _ _ i,_,rfl,A.o,A.d,qf A,_,rfl,v.sub _ _ E.ob,n5,pZ v.at_,_,rfl,_,cK c,_,v.at_,rfl,g,?_⟩
  refine⟨_,rfl,_,rfl,z2,_,Sub.refl _,r _ ⟨hf',_,_,?_,F.same (fun j=>?_),?_⟩⟩
  ·rw[l];exact E
  ·show(aG D j).map _=_
   rw[l,if_pos (by rfl:([]:List (Nat×List Int)).isEmpty=true)]
   by_cases b:c=j
   ·subst b;rw[if_pos rfl,tE a];rfl
   ·rw[if_neg b,if_neg b]
    show _=(aG q j).map _
    rw[f,tG a,if_neg b]
  ·have H:=EG (kvs:=kvs) (k:=cK c) (by rw[g];rfl)
   rw[f,Aw,Eb] at B
   rw[l,if_pos (by rfl:([]:List (Nat×List Int)).isEmpty=true)];lia
 | cons y ys=>
  refine cG (fun h=>?_) fun _=>?_
  ·have h:=of_decide_eq_true (show decide (((Mi jB (y :: ys)).length:Int)=0)=true from h)
   rw[Ar,Bp] at h
   lia
  refine⟨_,rfl,_,rfl,z2,_,Sub.refl _,r _ ⟨hf',_,_,?_,m.same (fun j=>?_),?_⟩⟩
  ·rw[l,if_neg (by simp)];rw[f] at s;simpa using s
  ·show(aG D j).map _=_
   rw[l,if_neg (by simp),tG a]
   by_cases b:c=j
   ·rw[if_pos b,if_pos b];rfl
   ·rw[if_neg b,if_neg b]
    show _=(aG q j).map _
    rw[f,tG a,if_neg b]
  ·rw[f] at B;rw[l,if_neg (by simp)];simpa using B
def tI:bS:=fun ws M R=>∃ z g:Str,ws=[.str z,.str g]/\z.length<=1000/\R (.bl (kD z g)) M
def xY:bS:=fun ws M R=>∃ z:Str,ws=[.str z]/\z.length<=1000/\R (.bl (jM z)) M
def tJ:bS:=fun ws M R=>∃ rs:List aU,ws=[.rl (rs.map cY)]/\rs.length<=100/\aV ((namesOf rs).map W.str) M R
def xZ:bS:=fun ws M R=>∃ (r:aU) (rs:List aU),ws=[.rl ((r :: rs).map cY)]/\R (.str r.name) M
def yA:bS:=fun ws M R=>∃ (r:aU) (ns:List Str),ws=[cY r,.rl (ns.map W.str)]/\0<=r.cost/\(∀ t∈r.parts,t.length<=1000/\(jM t=true->t∈ns))/\R .non M
def yB:bS:=fun ws M R=>∃ rs:List aU,ws=[.rl (rs.map cY)]/\xE rs/\aV (rs.map cY) M R
abbrev XB:List Str:=["text","signs"]
def XC:aK:=
   (cL (rN (aF (rEq true) (aA 0) (vC (.str ""))) (bT CQ (aB (cV (fT (eT fN (aA 0)) (bP 0) iZ (aF (rIn false) (aA 0) (aA 1)) [none,some 1])) aE))))
abbrev XD:List Str:=["part","pieces","right_end"]
def XE:aK:=
   (bH 1 (eX "str" DC (aA 0) (aB (vC (.str "_")) aE)))
def XF:aK:=
   (bH 2 (B5 (aF (rEq false) (aF aY (aA 1) (vC (.int 1))) (vC (.str ""))) (bZ tI (aB (aF aY (aA 1) (vC (.int 2))) (aB (vC (.str "0123456789")) aE)))))
def ES:aK:=
   (cL (rN (aA 2) (bZ tI (aB (aF aY (aA 1) (vC (.int 0))) (aB (vC (.str "ABCDEFGHIJKLMNOPQRSTUVWXYZ")) aE)))))
def XG:aK:=(aR XE (aR XF ES))
abbrev XH:List Str:=["grammar","found","rule"]
def XI:aK:=
   (bH 1 CT)
def XJ:aK:=
   (lO (vC (.bl true)) (mL (aA 1) (aF aY (aA 2) (vC (.int 0)))))
def XM:aK:=
   (fM (eT fN (aA 0)) (bP 2) XJ)
def XN:aK:=
   (cL (bT rZ (aB (aA 1) aE)))
def XO:aK:=(aR XI (aR XM XN))
abbrev XQ:List Str:=["grammar"]
def XR:aK:=
   (cL (aF aY (aF aY (aA 0) (vC (.int 0))) (vC (.int 0))))
abbrev XS:List Str:=["rule","known","part"]
def XT:aK:=
   (aR (eL (cX (aF mG (aF aY (aA 0) (vC (.int 2))) (vC (.int 0))))
    wO
    fR)
   (fM (eT fN (aF aY (aA 0) (vC (.int 1)))) (bP 2)
    (eL (rL (iX (bZ xY (aB (aA 2) aE))) (cX (aF (rIn true) (aA 2) (aA 1))))
    wO
    fR)))
abbrev XU:List Str:=["rules","known","rule"]
def XW:aK:=
   (eL (cX (aF (rEq false) (bT dS (aB (aA 0) aE)) (vC (.int 0))))
    wO
    fR)
def XX:aK:=
   (bH 1 (cV (bZ tJ (aB (aA 0) aE))))
def XY:aK:=
   (eJ (bZ yA (aB (aA 2) (aB (aA 1) aE))))
def XZ:aK:=
   (fM (eT fN (aA 0)) (bP 2) XY)
def X0:aK:=
   (cL (bT rZ (aB (aA 0) aE)))
def X1:aK:=(aR XW (aR XX (aR XZ X0)))
end Rg
namespace L3
open PySem PySem.Spec PyProof.Rows L2
theorem zd1{n:Bool}{i j:Str}{M:Mm}{R:K3}:L3.rIn n (.str i) (.str j) M R=R (.bl (if n then !occ i j else occ i j)) M:=rfl
theorem zd2{n:Bool}{i:Str}{ws:List W}{M:Mm}{R:K3}:L3.rIn n (.str i) (.rl ws) M R=(eY (.str i)=true/\ws.all eY=true/\R (.bl (if n then !inW (.str i) ws else inW (.str i) ws)) M):=rfl
end L3
namespace Rg
open PySem PySem.Spec PyProof.Rows L2 L3
theorem X2:∀ ws M R,tI ws M R->ws.length=2:=by rintro ws M R ⟨_,_,rfl,_⟩;rfl
theorem X3:∀ ws M R,xY ws M R->ws.length=1:=by rintro ws M R ⟨_,rfl,_⟩;rfl
theorem X4:∀ ws M R,tJ ws M R->ws.length=1:=by rintro ws M R ⟨_,rfl,_⟩;rfl
theorem X5:∀ ws M R,xZ ws M R->ws.length=1:=by rintro ws M R ⟨_,_,rfl,_⟩;rfl
theorem X6:∀ ws M R,yA ws M R->ws.length=2:=by rintro ws M R ⟨_,_,rfl,_⟩;rfl
theorem X7:∀ ws M R,yB ws M R->ws.length=1:=by rintro ws M R ⟨_,rfl,_⟩;rfl
theorem X8(c:Nat)(g:Str):occ ⟨#[c]⟩ g=decide (c∈cs g):=StrLaws.found_one g c
theorem mY{b:Bool}{P Q:Prop}(c:b=true->P)(a:b=false->Q):if b=true then P else Q:=by cases b;exact a rfl;exact c rfl
theorem X9{P Q:Prop}(h:P):if true=true then P else Q:=h
theorem YA{ws:List W}{M:Mm}{R:K3}(h:tI ws M R):XC (bW R) (b5 XB ws) M:=by
 obtain⟨z,g,rfl,hz,r⟩:=h
 have a:kD z g=(!decide (z = "") && (cs z).all fun c=>decide (c∈cs g)):=by rw[<-rS];rfl
 refine⟨_,rfl,_,rfl,mY (fun hb=>⟨_,rfl,wX (rest:=[some (.str g)]) (fun w=>match w with | .str x=>.bl (occ x g) | _=>.non) (eA (by rw[Ab];exact Bh (Fe (QZ z)) (Bh hz (by decide)))) (fun _ _=>trivial) (fun w hw d C sb b=>?_) (aV.frz ⟨(cs z).map fun c=>decide (c∈cs g),?_,_,Sub.refl _,?_⟩)⟩) fun hb=>⟨_,Sub.refl _,?_⟩⟩
 ·obtain⟨c,_,rfl⟩:=Au.mp hw
  exact⟨_,rfl,_,rfl,b⟩
 ·rw[a,show(!decide (z = ""))=false from hb,Bool.false_and] at r
  exact r
 ·unfold bools
  rw[Ed,Ed]
  exact Nx fun c _=>congrArg W.bl (X8 c g)
 ·rw[a,show(!decide (z = ""))=true from hb,Bool.true_and] at r
  rw[List.all_map];exact r
theorem YB(z:Str):(Cu z "_").1.length<=z.length/\(Cu z "_").2.2.length<=z.length:=by
 have:=fact_partition z "_"
 exact⟨this.1,this.2.2⟩
theorem YC(z:Str):jM z=((decide ((Cu z "_").2.1 = "") || kD (Cu z "_").2.2 BS) && kD (Cu z "_").1 lF):=by
 unfold jM;rw[rS]
theorem YD{ws:List W}{M:Mm}{R:K3}(h:xY ws M R):XG (bW R) (b5 XD ws) M:=by
 obtain⟨z,rfl,hz,r⟩:=h
 obtain⟨a,c⟩:=YB z
 rw[YC z] at r
 have go:∀ {b:Bool} {M:Mm},R (.bl (b && kD (Cu z "_").1 lF)) M->ES (bW R) [some (.str z),some (.tup [.str (Cu z "_").1,.str (Cu z "_").2.1,.str (Cu z "_").2.2]),some (.bl b)] M:=fun {b M} r=>⟨_,rfl,_,rfl,mY (fun hb=>⟨_,rfl,_,rfl,_,_,rfl,Bh a hz,_,Sub.refl _,by rw[hb] at r;exact r⟩) fun hb=>⟨_,Sub.refl _,by rw[hb] at r;exact r⟩⟩
 exact⟨_,rfl,rfl,by decide +kernel,Bh hz (by decide),_,rfl,_,rfl,_,rfl,mY (fun hb=>go (by rw[show decide ((Cu z "_").2.1 = "")=true from hb] at r;exact r)) fun hb=>⟨_,rfl,_,rfl,_,_,rfl,Bh c hz,go (by rw[show decide ((Cu z "_").2.1 = "")=false from hb] at r;exact r)⟩⟩
def fH(t:Str):aD×W:=(Sum.inr t,.bl true)
theorem ET(acc:List Str)(t:Str):bV (acc.map fH) (Sum.inr t:aD) (.bl true)=(hV acc t).map fH:=by
 unfold bV hV
 have e:((acc.map fH).any fun kv=>decide (kv.1=Sum.inr t))=decide (t∈acc):=by
  rw[List.any_map,Er]
  simp[fH,Ni]
 rw[e]
 by_cases h:t∈acc
 ·rw[if_pos (decide_eq_true h),if_pos h,Ed]
  refine Nx fun u hu=>?_
  simp[fH,Ni]
 ·rw[if_neg (by simpa using h),if_neg h,Bs];rfl
theorem n6{ws:List W}{M:Mm}{R:List W->(Mm->Prop)->Mm->Prop}(h:R ws (fun _=>True) M):fN (.rl ws) M R:=h
theorem YE{ws:List W}{M:Mm}{R:K3}(h:tJ ws M R):XO (bW R) (b5 XH ws) M:=by
 obtain⟨rs,rfl,hl,r⟩:=h
 refine fun p g=>⟨_,rfl,n6 (fF (fun i d c=>∃ o,d=[some (.rl (rs.map cY)),some (.ref p),o]/\c=put M p (.dK ((namesOf (rs.take i)).map fH))) ⟨_,rfl,rfl⟩ (fun _ _ _ _ _=>trivial) ?_ ?_)⟩
 ·rintro i w d c hw ⟨o,rfl,rfl⟩
  rw[Bi] at hw
  obtain⟨q,a,rfl⟩:=Bn.mp hw
  have hi:i < rs.length:=(An.mp a).1
  have e:namesOf (rs.take (i + 1))=hV (namesOf (rs.take i)) q.name:=by
   rw[Ga,a]
   unfold namesOf pP
   simp
  have f:(namesOf (rs.take i)).length<=i:=by
   have:=xG ((rs.take i).map aU.name) []
   unfold namesOf pP
   simp at this
   simp;lia
  refine⟨_,rfl,_,rfl,_,rfl,UL bA (by rw[Ab];exact hJ (by lia)) ⟨_,Sub.refl _,_,rfl,?_⟩⟩
  rw[kF,ET,e]
 ·rintro d c ⟨o,rfl,rfl⟩
  rw[Ab,Eu]
  refine⟨_,rfl,.inr ⟨_,bA,fun q a=>?_⟩⟩
  have b:q≠p:=fun e=>by subst e;rw[bA] at a;cases a
  rw[aP b] at a
  refine⟨_,?_,r q a⟩
  rw[Ed]
  exact Sub.put (Sub.new g)
theorem YF{ws:List W}{M:Mm}{R:K3}(h:xZ ws M R):XR (bW R) (b5 XQ ws) M:=by
 obtain⟨q,rs,rfl,r⟩:=h
 exact⟨_,rfl,_,jF (j:=0) rfl,_,rfl,_,Sub.refl _,r⟩
theorem EU{t:Str}{ts:List Str}:inW (.str t) (ts.map W.str)=decide (t∈ts):=by
 unfold inW
 rw[List.any_map,Er,Km,decide_eq_true_eq]
 exact⟨fun⟨x,h,e⟩=>eq_of_beq (show(x == t)=true from e) ▸ h,fun h=>⟨t,h,beq_self_eq_true t⟩⟩
theorem EV(ts:List Str):(ts.map W.str).all eY=true:=by
 rw[List.all_map,Kn];intro t _;rfl
theorem YG{ws:List W}{M:Mm}{R:K3}(h:yA ws M R):XT (bW R) (b5 XS ws) M:=by
 obtain⟨q,ns,rfl,hc,d,r⟩:=h
 refine⟨_,rfl,_,rfl,_,rfl,mY (fun hb=>absurd (of_decide_eq_true hb) (Int.not_lt.mpr hc)) fun _=>⟨_,rfl,_,rfl,?_⟩⟩
 refine fF (ws:=q.parts.map W.str) (fun i c b=>∃ o,c=[some (cY q),some (.rl (ns.map W.str)),o]/\b=M) ⟨_,rfl,rfl⟩ (fun _ _ _ _ _=>trivial) ?_ ?_
 ·rintro i w c b hw ⟨o,rfl,rfl⟩
  obtain⟨t,ht,rfl⟩:=Au.mp (Bc hw)
  obtain⟨e,f⟩:=d t ht
  refine⟨_,rfl,t,rfl,e,mY (fun hb=>⟨_,rfl,_,rfl,rfl,EV ns,_,rfl,mY (fun a=>?_) fun _=>⟨_,Sub.refl _,_,rfl,rfl⟩⟩) fun _=>⟨_,Sub.refl _,_,rfl,rfl⟩⟩
  rw[show(!inW (.str t) (ns.map W.str))=false by rw[EU,decide_eq_true (f hb)];rfl] at a
  cases a
 ·rintro c b ⟨o,rfl,rfl⟩
  exact⟨_,Sub.refl _,r⟩
theorem YH{ws:List W}{M:Mm}{R:K3}(h:yB ws M R):X1 (bW R) (b5 XU ws) M:=by
 obtain⟨rs,rfl,g,r⟩:=h
 refine⟨_,rfl,_,rfl,mY (fun hb=>?_) fun _=>⟨_,rfl,rs,rfl,by have:=g.few;lia,aV.frz ⟨_,rfl,n6 ?_⟩⟩⟩
 ·have h:=of_decide_eq_true hb
  rw[Ab] at h
  exact g.ne (Ka.mp (Int.ofNat.inj h))
 refine fF (fun i b a=>∃ o,b=[some (.rl (rs.map cY)),some (.rl ((namesOf rs).map W.str)),o]/\a=M) ⟨_,rfl,rfl⟩ (fun _ _ _ _ _=>trivial) ?_ ?_
 ·rintro i w b a hw ⟨o,rfl,rfl⟩
  obtain⟨t,ht,rfl⟩:=Au.mp (Bc hw)
  obtain⟨c,d⟩:=VI g ht
  exact⟨_,rfl,_,rfl,t,_,rfl,c,d,_,Sub.refl _,_,rfl,rfl⟩
 ·rintro b a ⟨o,rfl,rfl⟩
  exact⟨_,rfl,fun q e=>⟨_,Sub.refl _,r q e⟩⟩
def eK(k:Str×Int):List aD:=[Sum.inr k.1,Sum.inl k.2]
def iP(z:Int×aH):W:=.tup [.int z.1,cW z.2]
def iQ(y:bR):W:=.tup [.int y.1,gP y.2.1,cW y.2.2]
def jW(k:K4):List aD:=[Sum.inl k.1,Sum.inl k.2.1,Sum.inl k.2.2.1,Sum.inl k.2.2.2]
def fK(f:bX):List aD:=[Sum.inr f.1,Sum.inl f.2.1,Sum.inl f.2.2]
def hX(e:aH×Nat×List Int):W:=.tup [cW e.1,.int e.2.1,gP e.2.2]
theorem EW:∀ a b:Str×Int,eK a=eK b->a=b:=fun a b h=>by
 unfold eK at h
 simp only[Cy,Lo,Sum.inr.injEq,and_true] at h
 exact Prod.ext h.1 h.2
theorem tK:∀ a b:K4,jW a=jW b->a=b:=fun a b h=>by
 unfold jW at h
 simp only[Cy,Lo,and_true,Int.natCast_inj] at h
 obtain⟨a1,a2,k,j⟩:=a
 obtain⟨b1,b2,i,g⟩:=b
 simp only at h
 obtain⟨e,f,d,c⟩:=h
 rw[e,f,d,c]
theorem p5:∀ a b:bX,fK a=fK b->a=b:=fun a b h=>by
 unfold fK at h
 simp only[Cy,Lo,Sum.inr.injEq,and_true] at h
 obtain⟨a1,a2,g⟩:=a
 obtain⟨b1,b2,f⟩:=b
 simp only at h
 obtain⟨d,e,c⟩:=h
 rw[d,e,c]
section
variable {κ β:Type}[DecidableEq κ]{kk:κ->List aD}{f:β->W}
abbrev dX(kk:κ->List aD)(f:β->W)(t:List (κ×β)):List (List aD×W):=t.map fun e=>(kk e.1,f e.2)
theorem p6(c:∀ a b,kk a=kk b->a=b)(t:List (κ×β))(k:κ):bD (dX kk f t) (kk k)=(aG t k).map f:=by
 induction t with
 | nil=>rfl
 | cons e t d=>
  show bD ((kk e.1,f e.2) :: dX kk f t) (kk k)=_
  rw[mX,dU,d]
  by_cases h:e.1=k
  ·rw[if_pos (by rw[h]),if_pos h];rfl
  ·rw[if_neg (fun z=>h (c _ _ z)),if_neg h]
theorem EX(c:∀ a b,kk a=kk b->a=b)(t:List (κ×β))(k:κ)(v:β):bV (dX kk f t) (kk k) (f v)=dX kk f (cT t k v):=by
 unfold bV cT
 rw[show((dX kk f t).any fun d=>decide (d.1=kk k))=(bD (dX kk f t) (kk k)).isSome from mU _ _,p6 c,mU]
 cases aG t k with
 | none=>simp
 | some w=>
  simp only[Kx,Option.isSome_some,if_true,Ed]
  apply Nx
  intro e _
  simp only[Ni]
  by_cases h:e.1=k
  ·rw[if_pos (by rw[h]),if_pos h]
  ·rw[if_neg (fun z=>h (c _ _ z)),if_neg h]
end
structure Env where
 rs:List aU
 own:List (aD×W)
 stp:List (List aD×W)
structure Ad where
 s:Addr
 d:Addr
 Q:Aq
 r:Addr
 b:Addr
 e:Addr
 g:Addr
def sf(E:Env)(A:Ad):List (Str×W):=[("grammar",(d7 E.rs)),("own",(.dk E.own)),("steps",(.dt E.stp)),("queue",(.ref A.Q.o)),("reached",(.ref A.r)),("best",(.ref A.b)),("ends",(.ref A.e)),("begun",(.ref A.g))]
theorem EY{E:Env}{A:Ad}:Cm ("grammar" : Str) (sf E A)=some (d7 E.rs):=by kernel_rfl
theorem YI{E:Env}{A:Ad}:Cm ("own" : Str) (sf E A)=some (W.dk E.own):=by kernel_rfl
theorem YJ{E:Env}{A:Ad}:Cm ("steps" : Str) (sf E A)=some (W.dt E.stp):=by kernel_rfl
theorem yC{E:Env}{A:Ad}:Cm ("queue" : Str) (sf E A)=some (W.ref A.Q.o):=by kernel_rfl
theorem tL{E:Env}{A:Ad}:Cm ("reached" : Str) (sf E A)=some (W.ref A.r):=by kernel_rfl
theorem yD{E:Env}{A:Ad}:Cm ("best" : Str) (sf E A)=some (W.ref A.b):=by kernel_rfl
theorem EZ{E:Env}{A:Ad}:Cm ("ends" : Str) (sf E A)=some (W.ref A.e):=by kernel_rfl
theorem E1{E:Env}{A:Ad}:Cm ("begun" : Str) (sf E A)=some (W.ref A.g):=by kernel_rfl
theorem tM{E:Env}{A:Ad}:Cm ("reach" : Str) (sf E A)=none:=by kernel_rfl
theorem YK{E:Env}{A:Ad}:Cm ("take_next" : Str) (sf E A)=none:=by kernel_rfl
theorem YL{E:Env}{A:Ad}:Cm ("step_by_name" : Str) (sf E A)=none:=by kernel_rfl
theorem YM{E:Env}{A:Ad}:Cm ("settle" : Str) (sf E A)=none:=by kernel_rfl
structure Mn(C:Cc)(E:Env)(M0 M:Mm)(A:Ad)(rc:List (K4×aH))(bs:fA):Prop where
 sub:L3.Sub M0 M
 ns:M0 A.s=none
 nr:M0 A.r=none
 nb:M0 A.b=none
 sr:A.s≠A.r
 sb:A.s≠A.b
 rb:A.r≠A.b
 os:M A.s=some (.ins C.s A.d (sf E A))
 or:M A.r=some (.dT (dX jW cW rc))
 ob:M A.b=some (.dT (dX fK hX bs))
abbrev eG(t:List ((Str×Int)×List (Int×aH))):Str×Int->Option (List W):=fun k=>(aG t k).map fun xs=>xs.map iP
abbrev gG(t:List ((Str×Int)×List bR)):Str×Int->Option (List W):=fun k=>(aG t k).map fun xs=>xs.map iQ
def Kept(M:Mm):Option (Addr×List W)->Prop
 | none=>True
 | some x=>M x.1=some (.lst x.2)
structure SK(C:Cc)(E:Env)(M0 M:Mm)(A:Ad)(st:SS)(kp:Option (Addr×List W)):Prop where
 ex:∃ M1 M2 M3 e g,Mn C E M0 M1 A st.reached st.best/\dW eK M1 M2 A.e e (eG st.ends)/\dW eK M2 M3 A.g g (gG st.begun)/\QR C M3 M A.Q st.q/\e.length<=st.ends.length/\g.length<=st.begun.length/\Kept M3 kp
abbrev SR(C:Cc)(E:Env)(M0 M:Mm)(A:Ad)(st:SS):Prop:=SK C E M0 M A st none
section
variable {C:Cc}{E:Env}{M0 M:Mm}{A:Ad}{st:SS}{kp:Option (Addr×List W)}
theorem SK.os(h:SK C E M0 M A st kp):M A.s=some (.ins C.s A.d (sf E A)):=by
 obtain⟨j,k,i,e,g,c,f,b,a,_⟩:=h.ex
 exact a.sub _ _ (b.sub _ _ (f.sub _ _ c.os))
theorem SK.or(h:SK C E M0 M A st kp):M A.r=some (.dT (dX jW cW st.reached)):=by
 obtain⟨i,j,f,e,g,c,d,b,a,_⟩:=h.ex
 exact a.sub _ _ (b.sub _ _ (d.sub _ _ c.or))
theorem SK.ob(h:SK C E M0 M A st kp):M A.b=some (.dT (dX fK hX st.best)):=by
 obtain⟨j,k,i,e,g,d,f,c,a,_⟩:=h.ex
 exact a.sub _ _ (c.sub _ _ (f.sub _ _ d.ob))
theorem SK.fall(h:SK C E M0 M A st kp):gC st.q:=by
 obtain⟨d,i,c,e,g,f,j,b,a,_⟩:=h.ex
 exact a.fall
theorem SK.free(h:SK C E M0 M A st kp):SR C E M0 M A st:=by
 obtain⟨f,j,d,e,g,i,k,c,b,l,a,_⟩:=h.ex
 exact⟨f,j,d,e,g,i,k,c,b,l,a,trivial⟩
theorem SK.kept{p:Addr}{ws:List W}(h:SK C E M0 M A st (some (p,ws))):M p=some (.lst ws):=by
 obtain⟨i,k,f,e,g,j,l,d,a,m,c,b⟩:=h.ex
 exact a.sub _ _ b
theorem Mn.rput{b:Mm}{c:List (K4×aH)}{bs:fA}(h:Mn C E M0 b A c bs)(a:List (K4×aH)):Mn C E M0 (put b A.r (.dT (dX jW cW a))) A a bs:=
 ⟨hW h.sub h.nr,h.ns,h.nr,h.nb,h.sr,h.sb,h.rb,by rw[aP h.sr];exact h.os,bA,by rw[aP (Bq h.rb)];exact h.ob⟩
theorem Mn.bput{d:Mm}{c:List (K4×aH)}{bs:fA}(h:Mn C E M0 d A c bs)(a:fA):Mn C E M0 (put d A.b (.dT (dX fK hX a))) A c a:=
 ⟨hW h.sub h.nb,h.ns,h.nr,h.nb,h.sr,h.sb,h.rb,by rw[aP h.sb];exact h.os,by rw[aP h.rb];exact h.or,bA⟩
theorem SK.rput(h:SK C E M0 M A st kp)(a:List (K4×aH)):SK C E M0 (put M A.r (.dT (dX jW cW a))) A {st with reached:=a} kp:=by
 obtain⟨o,p,f,e,g,c,k,d,m,n,l,b⟩:=h.ex
 have i:=k.sub _ _ c.or
 have j:=d.sub _ _ i
 refine⟨_,_,_,e,g,c.rput a,k.lift (.inr ⟨_,c.or⟩),d.lift (.inr ⟨_,i⟩),m.lift (.inr ⟨_,j⟩),n,l,?_⟩
 cases kp with
 | none=>trivial
 | some x=>
  have b:f x.1=some (.lst x.2):=b
  show put f A.r _ x.1=some (.lst x.2)
  rw[aP (fun z=>by rw[z,j] at b;cases b)];exact b
theorem SK.bput(h:SR C E M0 M A st)(a:fA):SR C E M0 (put M A.b (.dT (dX fK hX a))) A {st with best:=a}:=by
 obtain⟨o,p,n,e,g,c,i,d,k,m,j,q⟩:=h.ex
 have f:=i.sub _ _ c.ob
 have l:=d.sub _ _ f
 exact⟨_,_,_,e,g,c.bput a,i.lift (.inr ⟨_,c.ob⟩),d.lift (.inr ⟨_,f⟩),k.lift (.inr ⟨_,l⟩),m,j,trivial⟩
theorem SK.que(h:SK C E M0 M A st kp):∃ a,QR C a M A.Q st.q/\∀ c b,QR C a c A.Q b->SK C E M0 c A {st with q:=b} kp:=by
 obtain⟨j,l,a,e,g,k,m,i,f,n,d,o⟩:=h.ex
 exact⟨a,f,fun c b p=>⟨j,l,a,e,g,k,m,i,p,n,d,o⟩⟩
theorem E2{κ β:Type}[DecidableEq κ]{t:List (κ×β)}{k:κ}{v:β}(h:(aG t k).isSome=true):(cT t k v).length=t.length:=by
 unfold cT
 rw[mU,if_pos h,Ab]
theorem yE{κ β:Type}[DecidableEq κ]{t:List (κ×β)}{k:κ}{v:β}(h:aG t k=none):cT t k v=t ++ [(k,v)]:=by
 unfold cT
 rw[mU,h,if_neg (by simp)]
theorem tN{a:Type}(f:a->W)(t:List ((Str×Int)×List a))(k:Str×Int)(z:a)(j:Str×Int):((aG (eM t k z) j).map fun xs=>xs.map f)=if k=j then some (((aG t k).getD []).map f ++ [f z]) else(aG t j).map fun xs=>xs.map f:=by
 unfold eM
 rw[kS]
 by_cases h:k=j
 ·rw[if_pos h,if_pos h,Kx,Bs];rfl
 ·rw[if_neg h,if_neg h]
theorem SK.epush(h:SR C E M0 M A st){k:Str×Int}{z:Int×aH}{R:K3}(S:st.ends.length < 10000000)(hl:((aG st.ends k).getD []).length < 10000000)(r:∀ F,SR C E M0 F A {st with ends:=eM st.ends k z}->R .non F) :
  ∃ kvs,M A.e=some (.dT kvs)/\kvs.length < Aj/\∀ p,M p=none->put M p (.lst []) A.e=some (.dT kvs)/\(∀ w,bD kvs (eK k)=some w->kK "list" w (put M p (.lst []))/\f7 w [iP z] (put M p (.lst [])) R)/\
   (bD kvs (eK k)=none->kK "list" (.ref p) (put (put M p (.lst [])) A.e (.dT (bV kvs (eK k) (.ref p))))/\f7 (.ref p) [iP z] (put (put M p (.lst [])) A.e (.dT (bV kvs (eK k) (.ref p)))) R):=by
 obtain⟨Q,O,P,e,g,B,c,l,v,K,D,T⟩:=h.ex
 have ha:M A.e=some (.dT e):=v.sub _ _ (l.sub _ _ c.at_)
 refine⟨e,ha,hJ (by lia),fun p f=>⟨by rw[aP (fun z=>by rw[<-z,ha] at f;cases f)];exact ha,fun w hw=>?_,fun hw=>?_⟩⟩
 ·obtain⟨xs,b⟩:∃ xs,aG st.ends k=some xs:=by
   cases q:aG st.ends k with
   | none=>have:=c.non k (by show(aG _ _).map _=_;rw[q];rfl);rw[hw] at this;cases this
   | some xs=>exact⟨_,rfl⟩
  have i:eG st.ends k=some (xs.map iP):=by show(aG _ _).map _=_;rw[b];rfl
  obtain⟨L,a,u⟩:=c.has i
  rw[hw] at a;cases a
  have n:=l.sub _ _ u
  have s:=v.more (o:=.lst []) f
  have t:=s.sub _ _ n
  rw[b] at hl
  refine⟨gQ t,_,t,hJ (by rw[Ab];exact hl),r _ ⟨_,_,_,e,g,B,(c.wr (ws:=xs.map iP ++ [iP z]) hw).same fun j=>?_,l.lift (.inr ⟨_,u⟩),s.lift (.inr ⟨_,n⟩),?_,D,trivial⟩⟩
  ·refine(tN _ _ k z j).trans ?_;rw[b];rfl
  ·show _<=(cT _ _ _).length
   rw[E2 (by rw[b];rfl)];exact K
 ·have b:aG st.ends k=none:=by
   cases q:aG st.ends k with
   | none=>rfl
   | some xs=>obtain⟨L,a,_⟩:=c.has (k:=k) (ws:=xs.map iP) (by show(aG _ _).map _=_;rw[q];rfl);rw[hw] at a;cases a
  have i:eG st.ends k=none:=by show(aG _ _).map _=_;rw[b];rfl
  have G:=v.sub.non f
  have N:=l.sub.non G
  have I:=c.add EW (ws:=[]) i N
  have d:p≠A.e:=fun z=>by rw[z,ha] at f;cases f
  have x:=(l.lift (o:=.lst []) (.inl G)).lift (p:=A.e) (o:=.dT (bV e (eK k) (.ref p))) (.inr ⟨.dT e,by rw[aP (Bq d)];exact c.at_⟩)
  have y:=(v.lift (o:=.lst []) (.inl f)).lift (p:=A.e) (o:=.dT (bV e (eK k) (.ref p))) (.inr ⟨.dT e,by rw[aP (Bq d)];exact l.sub _ _ c.at_⟩)
  have J:bD (bV e (eK k) (.ref p)) (eK k)=some (.ref p):=by rw[nY,if_pos rfl]
  have H:put (put O p (.lst [])) A.e (.dT (bV e (eK k) (.ref p))) p=some (.lst []):=by rw[aP d,bA]
  have n:=x.sub _ _ H
  have t:=y.sub _ _ n
  refine⟨gQ t,_,t,hJ (by simp),r _ ⟨_,_,_,_,g,B,(I.wr (ws:=[iP z]) J).same fun j=>?_,x.lift (.inr ⟨_,H⟩),y.lift (.inr ⟨_,n⟩),?_,D,trivial⟩⟩
  ·refine(tN _ _ k z j).trans ?_
   rw[b]
   by_cases m:k=j
   ·rw[if_pos m,if_pos m];rfl
   ·rw[if_neg m,if_neg m,if_neg m]
  ·show _<=(cT _ _ _).length
   rw[yE b,Aw,Eb]
   have:=xQ e (eK k) (W.ref p)
   lia
theorem SK.gpush(h:SR C E M0 M A st){k:Str×Int}{z:bR}{R:K3}(O:st.begun.length < 10000000)(hl:((aG st.begun k).getD []).length < 10000000)(r:∀ B,SR C E M0 B A {st with begun:=eM st.begun k z}->R .non B) :
  ∃ kvs,M A.g=some (.dT kvs)/\kvs.length < Aj/\∀ p,M p=none->put M p (.lst []) A.g=some (.dT kvs)/\(∀ w,bD kvs (eK k)=some w->kK "list" w (put M p (.lst []))/\f7 w [iQ z] (put M p (.lst [])) R)/\
   (bD kvs (eK k)=none->kK "list" (.ref p) (put (put M p (.lst [])) A.g (.dT (bV kvs (eK k) (.ref p))))/\f7 (.ref p) [iQ z] (put (put M p (.lst [])) A.g (.dT (bV kvs (eK k) (.ref p)))) R):=by
 obtain⟨L,N,G,e,g,v,y,d,t,x,I,P⟩:=h.ex
 have ha:M A.g=some (.dT g):=t.sub _ _ d.at_
 refine⟨g,ha,hJ (by lia),fun p c=>⟨by rw[aP (fun z=>by rw[<-z,ha] at c;cases c)];exact ha,fun w hw=>?_,fun hw=>?_⟩⟩
 ·obtain⟨xs,b⟩:∃ xs,aG st.begun k=some xs:=by
   cases q:aG st.begun k with
   | none=>have:=d.non k (by show(aG _ _).map _=_;rw[q];rfl);rw[hw] at this;cases this
   | some xs=>exact⟨_,rfl⟩
  have f:gG st.begun k=some (xs.map iQ):=by show(aG _ _).map _=_;rw[b];rfl
  obtain⟨J,a,s⟩:=d.has f
  rw[hw] at a;cases a
  have m:=t.more (o:=.lst []) c
  have n:=m.sub _ _ s
  rw[b] at hl
  refine⟨gQ n,_,n,hJ (by rw[Ab];exact hl),r _ ⟨_,_,_,e,g,v,y,(d.wr (ws:=xs.map iQ ++ [iQ z]) hw).same fun j=>?_,m.lift (.inr ⟨_,s⟩),x,?_,trivial⟩⟩
  ·refine(tN _ _ k z j).trans ?_;rw[b];rfl
  ·show _<=(cT _ _ _).length
   rw[E2 (by rw[b];rfl)];exact I
 ·have b:aG st.begun k=none:=by
   cases q:aG st.begun k with
   | none=>rfl
   | some xs=>obtain⟨J,a,_⟩:=d.has (k:=k) (ws:=xs.map iQ) (by show(aG _ _).map _=_;rw[q];rfl);rw[hw] at a;cases a
  have f:gG st.begun k=none:=by show(aG _ _).map _=_;rw[b];rfl
  have K:=t.sub.non c
  have F:=d.add EW (ws:=[]) f K
  have l:p≠A.g:=fun z=>by rw[z,ha] at c;cases c
  have u:=(t.lift (o:=.lst []) (.inl c)).lift (p:=A.g) (o:=.dT (bV g (eK k) (.ref p))) (.inr ⟨.dT g,by rw[aP (Bq l)];exact d.at_⟩)
  have H:bD (bV g (eK k) (.ref p)) (eK k)=some (.ref p):=by rw[nY,if_pos rfl]
  have D:put (put G p (.lst [])) A.g (.dT (bV g (eK k) (.ref p))) p=some (.lst []):=by rw[aP l,bA]
  have n:=u.sub _ _ D
  refine⟨gQ n,_,n,hJ (by simp),r _ ⟨_,_,_,e,_,v,y,(F.wr (ws:=[iQ z]) H).same fun j=>?_,u.lift (.inr ⟨_,D⟩),x,?_,trivial⟩⟩
  ·refine(tN _ _ k z j).trans ?_
   rw[b]
   by_cases i:k=j
   ·rw[if_pos i,if_pos i];rfl
   ·rw[if_neg i,if_neg i,if_neg i]
  ·show _<=(cT _ _ _).length
   rw[yE b,Aw,Eb]
   have:=xQ g (eK k) (W.ref p)
   lia
theorem SK.ends_at(h:SR C E M0 M A st)(k:Str×Int):∃ kvs,M A.e=some (.dT kvs)/\((bD kvs (eK k)=none/\aG st.ends k=none)\/∃ p xs,bD kvs (eK k)=some (.ref p)/\aG st.ends k=some xs/\SK C E M0 M A st (some (p,xs.map iP))):=by
 obtain⟨l,n,j,e,g,m,a,b,f,o,i,r⟩:=h.ex
 refine⟨e,f.sub _ _ (b.sub _ _ a.at_),?_⟩
 cases q:aG st.ends k with
 | none=>exact .inl ⟨a.non k (by show(aG _ _).map _=_;rw[q];rfl),rfl⟩
 | some xs=>
  obtain⟨p,c,d⟩:=a.has (k:=k) (ws:=xs.map iP) (by show(aG _ _).map _=_;rw[q];rfl)
  exact .inr ⟨p,xs,c,rfl,l,n,j,e,g,m,a,b,f,o,i,b.sub _ _ d⟩
theorem SK.begun_at(h:SR C E M0 M A st)(k:Str×Int):∃ kvs,M A.g=some (.dT kvs)/\((bD kvs (eK k)=none/\aG st.begun k=none)\/∃ p xs,bD kvs (eK k)=some (.ref p)/\aG st.begun k=some xs/\SK C E M0 M A st (some (p,xs.map iQ))):=by
 obtain⟨j,m,i,e,g,l,n,a,d,o,f,r⟩:=h.ex
 refine⟨g,d.sub _ _ a.at_,?_⟩
 cases q:aG st.begun k with
 | none=>exact .inl ⟨a.non k (by show(aG _ _).map _=_;rw[q];rfl),rfl⟩
 | some xs=>
  obtain⟨p,b,c⟩:=a.has (k:=k) (ws:=xs.map iQ) (by show(aG _ _).map _=_;rw[q];rfl)
  exact .inr ⟨p,xs,b,rfl,j,m,i,e,g,l,n,a,d,o,f,c⟩
theorem SK.eput(h:SR C E M0 M A st){nm:Str}{b:Int}{z:Int×aH}{R:K3}{e:S3}{tk:aS}{t:dJ}(o:e[0]? = some (some (.ref A.s)))(u:∀ a Q,Q (W.tup [.str nm,.int b]) a->tk e a Q)(g:∀ a Q,Q [iP z] a->t e a Q)(c:st.ends.length < 10000000)(hl:((aG st.ends (nm,b)).getD []).length < 10000000)(r:∀ j,SR C E M0 j A {st with ends:=eM st.ends (nm,b) z}->R .non j) :
  eX "list" f7 (eX "dict" pN (cM C.s (aA 0) "ends") (aB tk (aB (jR aE) aE))) t e M R:=by
 obtain⟨kvs,q,n,m⟩:=h.epush c hl r
 refine⟨_,o,A.s,A.d,_,_,rfl,h.os,EZ,pZ q,u _ _ ⟨Bx _,fun p l=>?_⟩⟩
 obtain⟨k,i,f⟩:=m p l
 exact⟨kvs,eK (nm,b),k,rfl,n,fun w hw=>⟨(i w hw).1,g _ _ (i w hw).2⟩,fun c=>⟨(f c).1,g _ _ (f c).2⟩⟩
theorem SK.gput(h:SR C E M0 M A st){nm:Str}{b:Int}{z:bR}{R:K3}{e:S3}{tk:aS}{t:dJ}(o:e[0]? = some (some (.ref A.s)))(u:∀ a Q,Q (W.tup [.str nm,.int b]) a->tk e a Q)(g:∀ a Q,Q [iQ z] a->t e a Q)(c:st.begun.length < 10000000)(hl:((aG st.begun (nm,b)).getD []).length < 10000000)(r:∀ j,SR C E M0 j A {st with begun:=eM st.begun (nm,b) z}->R .non j) :
  eX "list" f7 (eX "dict" pN (cM C.s (aA 0) "begun") (aB tk (aB (jR aE) aE))) t e M R:=by
 obtain⟨kvs,q,n,m⟩:=h.gpush c hl r
 refine⟨_,o,A.s,A.d,_,_,rfl,h.os,E1,pZ q,u _ _ ⟨Bx _,fun p l=>?_⟩⟩
 obtain⟨k,i,f⟩:=m p l
 exact⟨kvs,eK (nm,b),k,rfl,n,fun w hw=>⟨(i w hw).1,g _ _ (i w hw).2⟩,fun c=>⟨(f c).1,g _ _ (f c).2⟩⟩
end
def yF:bS:=fun ws M R=>∃ ts:List Str,ws=[.rl (ts.map W.str)]/\ts.length<=400/\R (.dk ((ts.foldl hV []).map fH)) M
def ownOf(rs:List aU):List (aD×W):=((namesOf rs).foldl hV []).map fH
def tO:bS:=fun ws M R=>∃ a b:aH,ws=[cW a,cW b]/\R (cW (dQ a b)) M
structure Sm(st:SS)(k:Nat):Prop where
 q:(aX st.q).length + k < 10000000
 r:st.reached.length + k < 10000000
def n8(C:Cc):bS:=fun ws M R=>∃ (E:Env) (M0:Mm) (A:Ad) (st:SS) (n:Nat) (a:List Int) (c:aH) (kp:Option (Addr×List W)),ws=[.ref A.s,.int n,gP a,cW c]/\SK C E M0 M A st kp/\a≠[]/\Sm st 1/\∀ b,SK C E M0 b A (reach st n a c) kp->R .non b
def yG(C:Cc):bS:=fun ws M R=>∃ (E:Env) (M0:Mm) (A:Ad) (st:SS) (n:Nat) (a:List Int) (c:aH) (b:Str),ws=[.ref A.s,.int n,gP a,cW c,.tup [.str b,.int (a.getLastD 0)]]/\SR C E M0 M A st/\a≠[]/\a.length < 1000/\Sm st ((aG st.ends (b,a.getLastD 0)).getD []).length/\st.begun.length < 10000000/\((aG st.begun (b,a.getLastD 0)).getD []).length < 10000000/\∀ d,SR C E M0 d A (fB st n a c b)->R .non d
def yH(C:Cc):bS:=fun ws M R=>∃ (G:Sr) (E:Env) (M0:Mm) (A:Ad) (st:SS) (n:Nat) (a:List Int) (c:aH),ws=[.ref A.s,.int n,gP a,cW c]/\SR C E M0 M A st/\G.rs=E.rs/\n < E.rs.length/\a≠[]/\(∀ key,∀ y∈(aG st.begun key).getD [],y.2.1.length < 1000/\y.2.1≠[])/\Sm st ((aG st.begun (cB G n,a.headD 0)).getD []).length/\st.best.length < 10000000/\st.ends.length < 10000000/\((aG st.ends (cB G n,a.headD 0)).getD []).length < 10000000/\∀ b,SR C E M0 b A (settle G st n a c)->R .non b
structure E4(G:Sr)(E:Env):Prop where
 rs:G.rs=E.rs
 own:∀ t,(bD E.own (Sum.inr t:aD)).isSome=G.own t
 stp:∀ t p,(bD E.stp (eK (t,p))=none/\G.steps t p=[])\/bD E.stp (eK (t,p))=some (.rl ((G.steps t p).map fun z=>.tup [.int z.1,.int z.2]))
structure Rm(G:Sr)(st:SS):Prop where
 item:∀ c n cut q',gO st.q=some (c,(n,cut),q')->cut≠[]/\cut.length < 1000/\n < G.rs.length/\∃ d,aG st.reached (bJ n cut)=some d
 bg:∀ key,∀ y∈(aG st.begun key).getD [],y.2.1.length < 1000/\y.2.1≠[]
 b:st.best.length < 10000000
 e:st.ends.length < 10000000
 g:st.begun.length < 10000000
 el:∀ key,((aG st.ends key).getD []).length < 10000000/\Sm st ((aG st.ends key).getD []).length
 gl:∀ key,((aG st.begun key).getD []).length < 10000000/\Sm st ((aG st.begun key).getD []).length
 sl:∀ t p,Sm st (G.steps t p).length
def yI(C:Cc):bS:=fun ws M R=>∃ (G:Sr) (E:Env) (M0:Mm) (A:Ad) (st:SS),ws=[.ref A.s]/\SR C E M0 M A st/\E4 G E/\st.q≠[]/\Rm G st/\∀ a,SR C E M0 a A (mW G st)->R .non a
def yJ(C:Cc):bS:=fun ws M R=>∃ (M0:Mm) (s b:Addr) (rs:List aU) (stp:List (List aD×W)),ws=[.ref s,d7 rs,.dt stp]/\rs.length<=100/\M=put M0 s (.ins C.s b [])/\M0 s=none/\∀ a (A:Ad),A.s=s->SR C ⟨rs,ownOf rs,stp⟩ M0 a A fV->R .non a
def tP(G:Sr)(B:fA):Prop:=∃ (S a:Nat) (st:SS) (P:List bR) (cur:aH) (T:Nat),All G S a st P cur T/\st.q=[]/\st.best=B
def yK(C:Cc):bS:=fun ws M R=>∃ (G:Sr) (E:Env) (V:List Int) (L S:Nat),ws=[d7 E.rs,.rl (G.places.map W.int),.dt E.stp,.rl ((Cb G.rs.length).map fun n=>.int (G.wt n))]/\E.rs.length<=100/\E.own=ownOf E.rs/\E4 G E/\pU G/\sX G V G.rs.length L/\L < 1000/\G.places.length<=1000/\(∀ t p,(G.steps t p).length<=S)/\
 (jA G).length + G.rs.length * ((L + 1) * (V.length * V.length)) * (S + V.length) + G.rs.length * ((L + 1) * (V.length * V.length)) + V.length + S + 1 < 10000000/\∀ B,tP G B->iE (dX fK hX B) M R
abbrev YN:List Str:=["things"]
def YO:aK:=
   (cL (bT DT (aB (cV (fT (eT fN (aA 0)) (bP 0) iZ (dB (aB (aA 0) (aB (vC (.bl true)) aE))) [none])) aE)))
abbrev YQ:List Str:=["cost","other"]
def YR:aK:=
   (cL (dB (aB (aF cS (aF aY (aA 0) (vC (.int 0))) (aF aY (aA 1) (vC (.int 0)))) (aB (aF cS (aF aY (aA 0) (vC (.int 1))) (aF aY (aA 1) (vC (.int 1)))) aE))))
abbrev YS:List Str:=["self","grammar","steps"]
def YT(C:Cc):aK:=
   (i8 C.s (aA 0) "grammar" (aA 1))
def YU(C:Cc):aK:=
   (i8 C.s (aA 0) "own" (bZ yF (aB (cV (bZ tJ (aB (aA 1) aE))) aE)))
def YV(C:Cc):aK:=
   (i8 C.s (aA 0) "steps" (aA 2))
def E5(C:Cc):aK:=
   (i8 C.s (aA 0) "queue" (sN C.q (xT C) aE))
def YW(C:Cc):aK:=
   (i8 C.s (aA 0) "reached" mI)
def YX(C:Cc):aK:=
   (i8 C.s (aA 0) "best" mI)
def YY(C:Cc):aK:=
   (i8 C.s (aA 0) "ends" mI)
def YZ(C:Cc):aK:=
   (i8 C.s (aA 0) "begun" mI)
def Y0(C:Cc):aK:=(aR (YT C) (aR (YU C) (aR (YV C) (aR (E5 C) (aR (YW C) (aR (YX C) (aR (YY C) (YZ C))))))))
abbrev Y1:List Str:=["self","number","cut","cost","key"]
def Y2(C:Cc):aK:=
   (aR (bH 4 (dB (aB (aA 1) (aB (bT dS (aB (aA 2) aE)) (aB (aF aY (aA 2) (vC (.int 0))) (aB (aF aY (aA 2) (kI kN (vC (.int 1)))) aE))))))
   (eL (rM (cX (aF (rIn true) (aA 4) (cM C.s (aA 0) "reached"))) (cX (aF xC (aA 3) (aF aY (cM C.s (aA 0) "reached") (aA 4)))))
    (aR (lO (aA 3) (mL (cM C.s (aA 0) "reached") (aA 4)))
   (eJ (gN C.q "put" (tH C) (cM C.s (aA 0) "queue") (aB (aA 3) (aB (dB (aB (aA 1) (aB (aA 2) aE))) aE)))))
    fR))
abbrev Y3:List Str:=["self","taken","cost","number","cut","parts","end","price"]
def Y4(C:Cc):aK:=
   (bH 1 (gN C.q "take" (xW C) (cM C.s (aA 0) "queue") aE))
def Y5(C:Cc):aK:=
   (bH 2 (aF aY (aA 1) (vC (.int 0))))
def Y6(C:Cc):aK:=
   (bH 3 (aF aY (aF aY (aA 1) (vC (.int 1))) (vC (.int 0))))
def Y7(C:Cc):aK:=
   (bH 4 (aF aY (aF aY (aA 1) (vC (.int 1))) (vC (.int 1))))
def Y8(C:Cc):aK:=
   (eL (cX (aF xC (aF aY (cM C.s (aA 0) "reached") (dB (aB (aA 3) (aB (bT dS (aB (aA 4) aE)) (aB (aF aY (aA 4) (vC (.int 0))) (aB (aF aY (aA 4) (kI kN (vC (.int 1)))) aE)))))) (aA 2)))
    wD
    fR)
def Y9(C:Cc):aK:=
   (bH 5 (aF aY (aF aY (cM C.s (aA 0) "grammar") (aA 3)) (vC (.int 1))))
def ZA(C:Cc):aK:=
   (eL (cX (aF CC (bT dS (aB (aA 4) aE)) (bT dS (aB (aA 5) aE))))
    (eJ (gN C.s "settle" (yH C) (aA 0) (aB (aA 3) (aB (aA 4) (aB (aA 2) aE)))))
    (eL (cX (aF (rIn false) (aF aY (aA 5) (aF nL (bT dS (aB (aA 4) aE)) (vC (.int 1)))) (cM C.s (aA 0) "own")))
    (eJ (gN C.s "step_by_name" (yG C) (aA 0) (aB (aA 3) (aB (aA 4) (aB (aA 2) (aB (dB (aB (aF aY (aA 5) (aF nL (bT dS (aB (aA 4) aE)) (vC (.int 1)))) (aB (aF aY (aA 4) (kI kN (vC (.int 1)))) aE))) aE))))))
    (fM (eT mN (eX "dict" sO (cM C.s (aA 0) "steps") (aB (dB (aB (aF aY (aA 5) (aF nL (bT dS (aB (aA 4) aE)) (vC (.int 1)))) (aB (aF aY (aA 4) (kI kN (vC (.int 1)))) aE))) (aB (e6 aE) aE)))) (kQ 2 (fE (bP 6) (fE (bP 7) kP)))
    (eJ (gN C.s "reach" (n8 C) (aA 0) (aB (aA 3) (aB (aF cS (aA 4) (dB (aB (aA 6) aE))) (aB (dB (aB (aF cS (aF aY (aA 2) (vC (.int 0))) (aA 7)) (aB (aF aY (aA 2) (vC (.int 1))) aE))) aE))))))))
def ZC(C:Cc):aK:=(aR (Y4 C) (aR (Y5 C) (aR (Y6 C) (aR (Y7 C) (aR (Y8 C) (aR (Y9 C) (ZA C)))))))
abbrev ZD:List Str:=["self","number","cut","cost","key","end","more"]
def ZE(C:Cc):aK:=
   (aR (eJ (eX "list" f7 (eX "dict" pN (cM C.s (aA 0) "begun") (aB (aA 4) (aB (jR aE) aE))) (aB (dB (aB (aA 1) (aB (aA 2) (aB (aA 3) aE)))) aE)))
   (fM (eT mN (eX "dict" sO (cM C.s (aA 0) "ends") (aB (aA 4) (aB (e6 aE) aE)))) (kQ 2 (fE (bP 5) (fE (bP 6) kP)))
    (eJ (gN C.s "reach" (n8 C) (aA 0) (aB (aA 1) (aB (aF cS (aA 2) (dB (aB (aA 5) aE))) (aB (bZ tO (aB (aA 3) (aB (aA 6) aE))) aE)))))))
abbrev ZF:List Str:=["self","number","cut","cost","key","fact","other","before","paid"]
def ZG(C:Cc):aK:=
   (bH 4 (dB (aB (aF aY (aF aY (cM C.s (aA 0) "grammar") (aA 1)) (vC (.int 0))) (aB (aF aY (aA 2) (vC (.int 0))) aE))))
def ZH(C:Cc):aK:=
   (bH 5 (aF cS (aA 4) (dB (aB (aF aY (aA 2) (kI kN (vC (.int 1)))) aE))))
def ZI(C:Cc):aK:=
   (eL (cX (aF (rIn false) (aA 5) (cM C.s (aA 0) "best")))
    wD
    fR)
def ZJ(C:Cc):aK:=
   (lO (dB (aB (aA 3) (aB (aA 1) (aB (aA 2) aE)))) (mL (cM C.s (aA 0) "best") (aA 5)))
def ZK(C:Cc):aK:=
   (eJ (eX "list" f7 (eX "dict" pN (cM C.s (aA 0) "ends") (aB (aA 4) (aB (jR aE) aE))) (aB (dB (aB (aF aY (aA 2) (kI kN (vC (.int 1)))) (aB (aA 3) aE))) aE)))
def ZL(C:Cc):aK:=
   (eJ (gN C.s "reach" (n8 C) (aA 0) (aB (aA 6) (aB (aF cS (aA 7) (dB (aB (aF aY (aA 2) (kI kN (vC (.int 1)))) aE))) (aB (bZ tO (aB (aA 8) (aB (aA 3) aE))) aE)))))
def ZM(C:Cc):aK:=
   (fM (eT mN (eX "dict" sO (cM C.s (aA 0) "begun") (aB (aA 4) (aB (e6 aE) aE)))) (kQ 3 (fE (bP 6) (fE (bP 7) (fE (bP 8) kP)))) (ZL C))
def ZN(C:Cc):aK:=(aR (ZG C) (aR (ZH C) (aR (ZI C) (aR (ZJ C) (aR (ZK C) (ZM C))))))
abbrev ZO:List Str:=["grammar","places","steps","weights","search","number","place"]
def ZP(C:Cc):aK:=
   (bH 4 (sN C.s (yJ C) (aB (aA 0) (aB (aA 2) aE))))
def ZQ(C:Cc):aK:=
   (fM (eT fN (aA 1)) (bP 6)
    (eJ (gN C.s "reach" (n8 C) (aA 4) (aB (aA 5) (aB (dB (aB (aA 6) aE)) (aB (dB (aB (aF aY (aA 3) (aA 5)) (aB (vC (.int 1)) aE))) aE))))))
def ZR(C:Cc):aK:=
   (fM (mO (aB (bT dS (aB (aA 0) aE)) aE)) (bP 5) (ZQ C))
def ZS(C:Cc):aK:=
   (eJ (gN C.s "take_next" (yI C) (aA 4) aE))
def ZT(C:Cc):aK:=
   (r9 (nK (iX (gN C.q "is_done" (xU C) (cM C.s (aA 4) "queue") aE))) (ZS C))
def ZU(C:Cc):aK:=
   (cL (cM C.s (aA 4) "best"))
def ZV(C:Cc):aK:=(aR (ZP C) (aR (ZR C) (aR (ZT C) (ZU C))))
theorem ZW:∀ ws M R,yF ws M R->ws.length=1:=by rintro ws M R ⟨_,rfl,_⟩;rfl
theorem ZX:∀ ws M R,tO ws M R->ws.length=2:=by rintro ws M R ⟨_,_,rfl,_⟩;rfl
theorem ZY{C:Cc}:∀ ws M R,n8 C ws M R->ws.length=4:=by rintro ws M R ⟨_,_,_,_,_,_,_,_,rfl,_⟩;rfl
theorem ZZ{C:Cc}:∀ ws M R,yG C ws M R->ws.length=5:=by rintro ws M R ⟨_,_,_,_,_,_,_,_,rfl,_⟩;rfl
theorem Z0{C:Cc}:∀ ws M R,yH C ws M R->ws.length=4:=by rintro ws M R ⟨_,_,_,_,_,_,_,_,rfl,_⟩;rfl
theorem Z1{C:Cc}:∀ ws M R,yI C ws M R->ws.length=1:=by rintro ws M R ⟨_,_,_,_,_,rfl,_⟩;rfl
theorem Z2{C:Cc}:∀ ws M R,yJ C ws M R->ws.length=3:=by rintro ws M R ⟨_,_,_,_,_,rfl,_⟩;rfl
theorem Z3{C:Cc}:∀ ws M R,yK C ws M R->ws.length=4:=by rintro ws M R ⟨_,_,_,_,_,rfl,_⟩;rfl
theorem E6:∀ (ts acc:List Str),sL (acc.map fH) (ts.map fH)=(ts.foldl hV acc).map fH
 | [],acc=>rfl
 | t :: r,acc=>by
  show sL (bV (acc.map fH) (Sum.inr t) (.bl true)) (r.map fH)=_
  rw[ET,E6,Ge]
theorem Z4{ws:List W}{M:Mm}{R:K3}(h:yF ws M R):YO (bW R) (b5 YN ws) M:=by
 obtain⟨ts,rfl,hl,r⟩:=h
 have l:(ts.map W.str).length<=Aj:=eA (by rw[Ab];exact Bh hl (by decide))
 refine⟨_,rfl,n6 (wX (rest:=[]) (fun w=>.tup [w,.bl true]) l (fun _ _=>trivial) (fun w hw b C sb a=>⟨_,rfl,z2,a⟩) (aV.frz ⟨ts.map fH,?_,by rw[Ab];exact l,_,Sub.refl _,?_⟩))⟩
 ·unfold sM
  rw[Ed,Ed];rfl
 ·rw[show([]:List (aD×W))=([]:List Str).map fH from rfl,E6]
  exact r
theorem Z5{ws:List W}{M:Mm}{R:K3}(h:tO ws M R):YR (bW R) (b5 YQ ws) M:=by
 obtain⟨a,b,rfl,r⟩:=h
 exact⟨_,rfl,_,rfl,_,rfl,_,rfl,_,rfl,_,rfl,_,rfl,_,rfl,z2,_,Sub.refl _,r⟩
variable {α:Type}
theorem yL{b:List Int}(h:b≠[]):b9 (b.map W.int) 0=some (.int (b.headD 0)):=by
 cases b with
 | nil=>exact absurd rfl h
 | cons a t=>exact UK _ _
theorem mZ{c:List Int}(h:c≠[]):b9 (c.map W.int) (-1)=some (.int (c.getLastD 0)):=by
 rcases Gy c with z | ⟨a,b,z⟩
 ·exact absurd z h
 ·rw[z,Gz,Bs]
  refine(BA _ _).trans ?_
  simp[Jl]
theorem E7{n:Nat}{a:List Int}:W.tup [.int n,.int (a.map W.int).length,.int (a.headD 0),.int (a.getLastD 0)]=.tup ((jW (bJ n a)).map wK):=by
 rw[Ab];rfl
theorem Z6{M:Mm}{a:Addr}{t:List (K4×aH)}{n:Nat}{b:List Int}{d:aH}{R:K3}(h:M a=some (.dT (dX jW cW t)))(hd:aG t (bJ n b)=some d)(r:R (cW d) M):L3.aY (.ref a) (.tup [.int n,.int (b.map W.int).length,.int (b.headD 0),.int (b.getLastD 0)]) M R:=by rw[E7];exact pY h (by rw[p6 tK,hd];rfl) r
theorem E8{C:Cc}{E:Env}{g M:Mm}{A:Ad}{st:SS}{n:Nat}{a:List Int}{c:aH}{R:K3}{kp:Option (Addr×List W)}(hs:SK C E g M A st kp)(sm:Sm st 1)(r:∀ b,SK C E g b A {st with reached:=cT st.reached (bJ n a) c,q:=dD c (n,a) st.q} kp->R .non b) :
  aR (lO (aA 3) (mL (cM C.s (aA 0) "reached") (aA 4))) (eJ (gN C.q "put" (tH C) (cM C.s (aA 0) "queue") (aB (aA 3) (aB (dB (aB (aA 1) (aB (aA 2) aE))) aE)))) (bW R) [some (W.ref A.s),some (W.int n),some (gP a),some (cW c),some (W.tup (Mi wK (jW (bJ n a))))] M:=by
 have i:=sm.q
 have k:=sm.r
 refine⟨_,rfl,_,rfl,A.s,A.d,_,_,rfl,hs.os,tL,_,rfl,sI hs.or (hJ (by rw[Ab];lia)) ?_⟩
 rw[EX tK]
 have e:=hs.rput (cT st.reached (bJ n a) c)
 obtain⟨j,h,f⟩:=e.que
 exact⟨_,rfl,A.s,A.d,_,_,rfl,e.os,yC,A.Q.o,A.Q.d,qf A.Q,rfl,h.ob,V8,_,rfl,_,rfl,_,rfl,z2,j,A.Q,_,c,(n,a),rfl,h,(by rw[sR];exact i),fun b h'=>⟨b,Sub.refl _,r b (f b _ h')⟩⟩
theorem Z7{C:Cc}{ws:List W}{M:Mm}{R:K3}(h:n8 C ws M R):Y2 C (bW R) (b5 Y1 ws) M:=by
 obtain⟨E,g,A,st,n,e,c,kp,rfl,hs,a,sm,r⟩:=h
 refine⟨_,rfl,_,rfl,_,rfl,_,yL a,_,rfl,_,mZ a,z4,?_⟩
 rw[E7]
 refine⟨_,rfl,_,rfl,A.s,A.d,_,_,rfl,hs.os,tL,.inr ⟨_,.inr ⟨_,_,hs.or,rfl,rfl⟩,_,rfl,?_⟩⟩
 rw[p6 tK]
 cases b:aG st.reached (bJ n e) with
 | none=>
  refine cG (fun _=>X9 (E8 hs sm fun f h'=>r f ?_)) fun h=>nomatch (show true=false from h)
  unfold reach;rw[b];exact h'
 | some d=>
  refine cG (fun h=>nomatch (show false=true from h)) fun _=>⟨_,rfl,_,rfl,A.s,A.d,_,_,rfl,hs.os,tL,_,rfl,pY hs.or (by rw[p6 tK,b];rfl) ⟨c.1,c.2,d.1,d.2,rfl,rfl,_,rfl,cG (fun hl=>E8 hs sm fun f h'=>r f ?_) fun hl=>⟨M,Sub.refl _,r M ?_⟩⟩⟩
  ·unfold reach;rw[b];simp only;rw[if_pos (show cA c d=true from hl)];exact h'
  ·unfold reach;rw[b];simp only;rw[if_neg (ne_true_of_eq_false (show cA c d=false from hl))];exact hs
theorem Sm.reach{st:SS}{k:Nat}(h:Sm st (k + 1))(n:Nat)(a:List Int)(c:aH):Sm (Rg.reach st n a c) k:=by
 obtain⟨j,d,e,b⟩:=ED st n a c
 have:=h.q
 have:=h.r
 exact⟨by lia,by lia⟩
theorem Sm.le{st:SS}{k j:Nat}(h:Sm st k)(a:j<=k):Sm st j:=⟨by have:=h.q;lia,by have:=h.r;lia⟩
def eF(f:α->Nat×List Int×aH)(xs:List α)(st:SS):SS:=xs.foldl (fun st x=>reach st (f x).1 (f x).2.1 (f x).2.2) st
theorem tQ{f:α->Nat×List Int×aH}{xs:List α}{st:SS}{i:Nat}{x:α}(h:xs[i]? = some x):eF f (xs.take (i + 1)) st=reach (eF f (xs.take i) st) (f x).1 (f x).2.1 (f x).2.2:=by
 unfold eF
 rw[Ga,h,List.foldl_append];rfl
theorem n9{f:α->Nat×List Int×aH}:∀ {xs:List α} {st:SS} {k:Nat},Sm st (xs.length + k)->Sm (eF f xs st) k
 | [],st,k,h=>by simp at h;exact h
 | x :: xs,st,k,h=>by
  show Sm (eF f xs (reach st (f x).1 (f x).2.1 (f x).2.2)) k
  exact n9 (Sm.reach (by rw[Bp] at h;exact h.le (by lia)) _ _ _)
theorem p7{f:α->Nat×List Int×aH}:∀ {xs:List α} {st:SS},(eF f xs st).ends=st.ends/\(eF f xs st).begun=st.begun/\(eF f xs st).best=st.best
 | [],st=>⟨rfl,rfl,rfl⟩
 | x :: xs,st=>by
  have b:=p7 (f:=f) (xs:=xs) (st:=reach st (f x).1 (f x).2.1 (f x).2.2)
  have e:∀ n a c,(reach st n a c).ends=st.ends/\(reach st n a c).begun=st.begun/\(reach st n a c).best=st.best:=by
   intro n a c
   unfold reach
   split
   ·split <;> exact⟨rfl,rfl,rfl⟩
   ·exact⟨rfl,rfl,rfl⟩
  obtain⟨a1,a2,d⟩:=e (f x).1 (f x).2.1 (f x).2.2
  exact⟨b.1.trans a1,b.2.1.trans a2,b.2.2.trans d⟩
theorem Z8{C:Cc}{ws:List W}{M:Mm}{R:K3}(h:yG C ws M R):ZE C (bW R) (b5 ZD ws) M:=by
 obtain⟨E,J,A,st,n,a,c,b,rfl,hs,t,x,sm,hb,y,r⟩:=h
 refine SK.gput hs (z:=(n,a,c)) rfl (fun D Q h=>⟨_,rfl,h⟩) (fun D Q h=>⟨_,rfl,_,rfl,_,rfl,z3,h⟩) hb y fun D o=>?_
 have hf:=o.ends_at (b,a.getLastD 0)
 obtain⟨kvs,K,hc⟩:=hf
 refine⟨_,rfl,A.s,A.d,_,_,rfl,o.os,EZ,pZ K,_,rfl,Bx _,_,.inr ⟨kvs,eK (b,a.getLastD 0),K,rfl,rfl⟩,?_⟩
 rcases hc with⟨F,v⟩ | ⟨p,xs,F,v,hk⟩
 ·rw[F]
  refine xX rfl (fF (fun i m l=>l=D) rfl (fun _ _ _ _ _=>trivial) (fun i w m l hw=>nomatch hw) fun m l e=>⟨_,Sub.refl _,r _ ?_⟩)
  rw[e]
  unfold fB
  rw[show aG st.ends (b,a.getLastD 0)=none from v]
  exact o
 ·rw[F]
  obtain⟨f,hf⟩:∃ f:Int×aH->Nat×List Int×aH,f=fun z=>(n,a ++ [z.1],dQ c z.2):=⟨_,rfl⟩
  obtain⟨j,k⟩:∃ j,j = {st with begun:=eM st.begun (b,a.getLastD 0) (n,a,c)}:=⟨_,rfl⟩
  rw[<-k] at hk
  have I:Sm j xs.length:=by
   rw[show aG st.ends (b,a.getLastD 0)=some xs from v] at sm
   rw[k];exact⟨sm.q,sm.r⟩
  refine⟨_,hk.kept,fF (fun i m l=>∃ B G,m=[some (.ref A.s),some (.int n),some (gP a),some (cW c),some (.tup [.str b,.int (a.getLastD 0)]),B,G]/\SK C E J l A (eF f (xs.take i) j) (some (p,xs.map iP))) ⟨_,_,rfl,hk⟩ (fun i m l _ ⟨_,_,_,h⟩=>h.kept) ?_ ?_⟩
  ·rintro i w m l hw ⟨B,G,rfl,g⟩
   rw[Bi] at hw
   obtain⟨z,hz,rfl⟩:=Bn.mp hw
   have hi:=(An.mp hz).1
   have H:Sm (eF f (xs.take i) j) 1:=n9 (I.le (by rw[Cg];lia))
   have N:W.tup (Mi W.int a ++ [W.int z.1])=gP (a ++ [z.1]):=by unfold gP;rw[Bs];rfl
   refine⟨rfl,rfl,_,rfl,A.s,A.d,_,rfl,g.os,tM,_,rfl,_,rfl,_,rfl,z1,by simpa using t,by rw[Ab];exact Bh x (eA (by decide)),_,rfl,_,rfl,c,z.2,rfl,E,J,A,_,n,a ++ [z.1],dQ c z.2,_,by rw[N],g,by simp,H,fun L u=>⟨L,Sub.refl _,_,_,rfl,?_⟩⟩
   rw[tQ hz,hf]
   rw[hf] at u
   exact u
  ·rintro m l ⟨B,G,rfl,g⟩
   rw[Ab,Eu] at g
   refine⟨_,Sub.refl _,r _ ?_⟩
   unfold fB
   rw[show aG st.ends (b,a.getLastD 0)=some xs from v]
   rw[k,hf] at g
   exact g.free
end Rg
namespace Rg
open PySem PySem.Spec PyProof.Rows L2 L3
theorem E9{rs:List aU}{n:Nat}(h:n < rs.length):∃ r,rs[n]? = some r/\b9 (rs.map cY) (n:Int)=some (cY r):=by
 refine⟨rs[n],Am h,jF ?_⟩
 rw[Bi,Am h];rfl
theorem Z9{bs:fA}{k:bX}{v:aH×Nat×List Int}(h:aG bs k=none):bV (dX fK hX bs) (fK k) (hX v)=dX fK hX (bs ++ [(k,v)]):=by
 rw[EX p5,yE h]
theorem zaa{C:Cc}{ws:List W}{M:Mm}{R:K3}(h:yH C ws M R):ZN C (bW R) (b5 ZF ws) M:=by
 obtain⟨G,E,O,A,st,n,a,c,rfl,hs,hG,hn,l,P,sm,hb,he,L,r⟩:=h
 obtain⟨j,hr1,S⟩:=E9 hn
 have I:cB G n=j.name:=by unfold cB;rw[hG,hr1]
 have t:cD G n a=(j.name,a.headD 0,a.getLastD 0):=by unfold cD;rw[I]
 rw[I] at sm L
 refine⟨_,rfl,A.s,A.d,_,_,rfl,hs.os,EY,_,rfl,_,S,_,rfl,_,rfl,_,yL l,z2,_,rfl,_,rfl,_,mZ l,z1,(fun h=>nomatch h),z3,_,rfl,_,rfl,A.s,A.d,_,_,rfl,hs.os,yD,.inr ⟨_,.inr ⟨_,fK (j.name,a.headD 0,a.getLastD 0),hs.ob,rfl,rfl⟩,_,rfl,?_⟩⟩
 rw[p6 p5]
 cases u:aG st.best (j.name,a.headD 0,a.getLastD 0) with
 | some v=>
  refine cG (fun _=>⟨M,Sub.refl _,r M ?_⟩) fun h=>nomatch (show true=false from h)
  unfold settle;rw[t,u];exact hs
 | none=>
  refine cG (fun h=>nomatch (show false=true from h)) fun _=>⟨_,rfl,_,rfl,_,rfl,z3,_,rfl,A.s,A.d,_,_,rfl,hs.os,yD,_,rfl,sI (k:=fK (j.name,a.headD 0,a.getLastD 0)) hs.ob (hJ (by rw[Ab];exact hb)) ?_⟩
  rw[show bV (dX fK hX st.best) _ (W.tup [cW c,W.int n,gP a])=_ from Z9 (v:=(c,n,a)) u]
  have hs1:=hs.bput (st.best ++ [((j.name,a.headD 0,a.getLastD 0),c,n,a)])
  refine SK.eput hs1 (nm:=j.name) (b:=a.headD 0) (z:=(a.getLastD 0,c)) rfl (fun N Q h=>⟨_,rfl,h⟩) (fun N Q h=>⟨_,rfl,_,mZ l,_,rfl,z2,h⟩) he L fun N o=>?_
  obtain⟨g,m⟩:∃ g:SS,g = {st with best:=st.best ++ [((j.name,a.headD 0,a.getLastD 0),c,n,a)],ends:=eM st.ends (j.name,a.headD 0) (a.getLastD 0,c)}:=⟨_,rfl⟩
  have o:SR C E O N A g:=by rw[m];exact o
  have B:∀ xs,(aG st.begun (j.name,a.headD 0)).getD []=xs->settle G st n a c=eF (fun y:bR=>(y.1,y.2.1 ++ [a.getLastD 0],dQ y.2.2 c)) xs g:=fun xs hx=>by
   unfold settle
   rw[t,u,I,hx,m];rfl
  have D:g.begun=st.begun:=by rw[m]
  obtain⟨kvs,hg,hc⟩:=o.begun_at (j.name,a.headD 0)
  refine⟨_,rfl,A.s,A.d,_,_,rfl,o.os,E1,pZ hg,_,rfl,Bx _,_,.inr ⟨kvs,eK (j.name,a.headD 0),hg,rfl,rfl⟩,?_⟩
  rcases hc with⟨X,H⟩ | ⟨p,xs,X,H,hk⟩
  ·rw[X]
   refine xX rfl (fF (fun i J F=>F=N) rfl (fun _ _ _ _ _=>trivial) (fun i w J F hw=>nomatch hw) fun J F e=>⟨_,Sub.refl _,r _ ?_⟩)
   rw[B [] (by rw[D] at H;rw[H];rfl),e]
   exact o
  ·rw[X]
   rw[D] at H
   obtain⟨f,hf⟩:∃ f:bR->Nat×List Int×aH,f=fun y=>(y.1,y.2.1 ++ [a.getLastD 0],dQ y.2.2 c):=⟨_,rfl⟩
   have sm1:Sm g xs.length:=by
    rw[H] at sm
    rw[m];exact⟨sm.q,sm.r⟩
   refine⟨_,hk.kept,fF (fun i J F=>∃ Y U o8,J=[some (.ref A.s),some (.int n),some (gP a),some (cW c),some (.tup [.str j.name,.int (a.headD 0)]),some (.tup ([.str j.name,.int (a.headD 0)] ++ [.int (a.getLastD 0)])),Y,U,o8]/\SK C E O F A (eF f (xs.take i) g) (some (p,xs.map iQ))) ⟨_,_,_,rfl,hk⟩ (fun i J F _ ⟨_,_,_,_,h⟩=>h.kept) ?_ ?_⟩
   ·rintro i w J F hw ⟨Y,U,o8,rfl,x⟩
    rw[Bi] at hw
    obtain⟨y,V,rfl⟩:=Bn.mp hw
    have hi:=(An.mp V).1
    obtain⟨Z,T⟩:=P (j.name,a.headD 0) y (by rw[H];exact Bc V)
    refine⟨rfl,rfl,_,rfl,A.s,A.d,_,rfl,x.os,tM,_,rfl,_,rfl,_,rfl,_,mZ l,z1,by simpa using T,by rw[Ab];exact eA (Bh Z (by decide)),_,rfl,_,rfl,y.2.2,c,rfl,E,O,A,_,y.1,y.2.1 ++ [a.getLastD 0],dQ y.2.2 c,_,by rw[gP,Bs];rfl,x,by simp,n9 (sm1.le (by rw[Cg];lia)),fun M2 K=>⟨M2,Sub.refl _,_,_,_,rfl,?_⟩⟩
    rw[tQ V,hf]
    rw[hf] at K
    exact K
   ·rintro J F ⟨Y,U,o8,rfl,x⟩
    rw[Ab,Eu] at x
    refine⟨_,Sub.refl _,r _ ?_⟩
    rw[B xs (by rw[H];rfl),<-hf]
    exact x.free
theorem zab{C:Cc}{ws:List W}{M:Mm}{R:K3}(h:yI C ws M R):ZC C (bW R) (b5 Y3 ws) M:=by
 obtain⟨G,E,T,A,st,rfl,hs,K,hq,v,r⟩:=h
 obtain⟨c,x,D,e1,f1,m1,l1,_,_⟩:=mV hs.fall hq
 obtain⟨n,a⟩:=x
 obtain⟨l,N,hn,d,hd⟩:=v.item c n a D e1
 obtain⟨M3,hQ,S⟩:=hs.que
 refine⟨_,rfl,A.s,A.d,_,_,rfl,hs.os,yC,A.Q.o,A.Q.d,_,rfl,hQ.ob,V9,M3,A.Q,_,c,(n,a),D,rfl,hQ,e1,fun M1 Z=>?_⟩
 have m:=S M1 D Z
 have B:∀ k,Sm st k->Sm {st with q:=D} k:=fun k h=>⟨by have:=h.q;show(aX D).length + k < _;lia,h.r⟩
 have ht:mW G st=if cA d c=true then {st with q:=D} else process G {st with q:=D} n a c:=by
  unfold mW
  simp only[e1,hd]
 obtain⟨j,t⟩:∃ j:SS,j = {st with q:=D}:=⟨_,rfl⟩
 have b1:j.begun=st.begun:=by rw[t]
 have b2:j.ends=st.ends:=by rw[t]
 have b3:j.best=st.best:=by rw[t]
 have b4:j.reached=st.reached:=by rw[t]
 rw[<-t] at m B ht
 clear t
 refine⟨_,rfl,_,rfl,_,rfl,_,rfl,_,rfl,_,rfl,_,rfl,_,rfl,_,rfl,A.s,A.d,_,_,rfl,m.os,tL,_,rfl,_,rfl,_,rfl,_,yL l,_,rfl,_,mZ l,z4,Z6 m.or (by rw[b4];exact hd) ⟨_,rfl,d.1,d.2,c.1,c.2,rfl,rfl,_,rfl,cG (fun hl=>?_) fun hl=>?_⟩⟩
 ·rw[ht,if_pos (show cA d c=true from hl)] at r
  exact⟨M1,Sub.refl _,r M1 m⟩
 rw[ht,if_neg (ne_true_of_eq_false (show cA d c=false from hl))] at r
 rw[K.rs] at hn
 obtain⟨L,hr1,Y⟩:=E9 hn
 have u:cZ G n a=L.parts[a.length - 1]?:=by unfold cZ;rw[K.rs,hr1]
 have hpos:=Jn.mpr l
 have y:(Mi W.int a).length=a.length:=Ab _
 have P:(Mi W.str L.parts).length=L.parts.length:=Ab _
 refine⟨_,rfl,A.s,A.d,_,_,rfl,m.os,EY,_,rfl,_,Y,_,rfl,_,rfl,_,rfl,_,rfl,cG (fun p=>?_) fun p=>?_⟩
 ·have p:=of_decide_eq_true p
  rw[y,P] at p
  have U:cZ G n a=none:=by rw[u];exact Im (by lia)
  refine⟨_,rfl,A.s,A.d,_,rfl,m.os,YM,_,rfl,_,rfl,_,rfl,G,E,T,A,j,n,a,c,rfl,m,K.rs,hn,l,by rw[b1];exact v.bg,by rw[b1];exact B _ (v.gl _).2,by rw[b3];exact v.b,by rw[b2];exact v.e,by rw[b2];exact(v.el _).1,fun F H=>⟨F,Sub.refl _,r F ?_⟩⟩
  unfold process;rw[U];exact H
 have p:=of_decide_eq_false p
 rw[y,P] at p
 obtain⟨f,U⟩:∃ f,L.parts[a.length - 1]? = some f:=⟨_,Am (by lia)⟩
 rw[U] at u
 have I:b9 (L.parts.map W.str) ((Mi W.int a).length - 1)=some (.str f):=by
  rw[y,show((a.length:Int) - 1)=((a.length - 1:Nat):Int) by lia]
  exact jF (by rw[Bi,U];rfl)
 have V:process G j n a c=if G.own f=true then fB j n a c f else eF (fun z:Int×Int=>(n,a ++ [z.1],(c.1 + z.2,c.2))) (G.steps f (a.getLastD 0)) j:=by
  unfold process;rw[u];rfl
 rw[V] at r
 refine⟨_,rfl,_,rfl,_,I,_,rfl,A.s,A.d,_,_,rfl,m.os,YI,_,⟨Sum.inr f,rfl,rfl⟩,_,rfl,cG (fun X=>?_) fun X=>?_⟩
 ·rw[if_pos ((K.own f).symm.trans X)] at r
  exact⟨_,rfl,A.s,A.d,_,rfl,m.os,YL,_,rfl,_,rfl,_,rfl,_,rfl,_,rfl,_,I,_,rfl,_,mZ l,z2,E,T,A,j,n,a,c,f,rfl,m,l,N,by rw[b2];exact B _ (v.el _).2,by rw[b1];exact v.g,by rw[b1];exact(v.gl _).1,fun F H=>⟨F,Sub.refl _,r F H⟩⟩
 rw[if_neg (ne_true_of_eq_false ((K.own f).symm.trans X))] at r
 obtain⟨xs,J⟩:∃ xs,xs=G.steps f (a.getLastD 0):=⟨_,rfl⟩
 have sm1:Sm j xs.length:=by rw[J];exact B _ (v.sl _ _)
 have O:(bD E.stp (eK (f,a.getLastD 0))).getD (.rl [])=.rl (xs.map fun z=>.tup [.int z.1,.int z.2]):=by
  rw[J]
  rcases K.stp f (a.getLastD 0) with⟨h1,h2⟩ | h1
  ·rw[h1,h2];rfl
  ·rw[h1];rfl
 rw[<-J] at r
 refine⟨_,rfl,A.s,A.d,_,_,rfl,m.os,YJ,rfl,_,rfl,_,rfl,_,I,_,rfl,_,mZ l,z2,Bx _,_,⟨eK (f,a.getLastD 0),rfl,rfl⟩,xX O (fF (fun i τ M'=>∃ o6 o7,τ=[some (.ref A.s),some (.tup [cW c,jB (n,a)]),some (cW c),some (.int n),some (gP a),some (.tup (L.parts.map W.str)),o6,o7]/\SR C E T M' A (eF (fun z:Int×Int=>(n,a ++ [z.1],(c.1 + z.2,c.2))) (xs.take i) j)) ⟨_,_,rfl,m⟩ (fun _ _ _ _ _=>trivial) ?_ ?_)⟩
 ·rintro i w τ M' hw ⟨o6,o7,rfl,hk⟩
  rw[Bi] at hw
  obtain⟨z,hz,rfl⟩:=Bn.mp hw
  have hi:=(An.mp hz).1
  exact⟨rfl,rfl,_,rfl,A.s,A.d,_,rfl,hk.os,tM,_,rfl,_,rfl,_,rfl,z1,by simpa using l,by rw[y];exact Bh N (eA (by decide)),_,rfl,_,rfl,_,rfl,_,rfl,_,rfl,z2,E,T,A,_,n,a ++ [z.1],(c.1 + z.2,c.2),_,by rw[gP,Bs];rfl,hk,by simp,n9 (sm1.le (by rw[Cg];lia)),fun F hk2=>⟨F,Sub.refl _,_,_,rfl,by rw[tQ hz];exact hk2⟩⟩
 ·rintro τ M' ⟨o6,o7,rfl,hk⟩
  rw[Ab,Eu] at hk
  exact⟨_,Sub.refl _,r _ hk⟩
theorem zac{E:Env}{A:Ad}:bQ "begun" (.ref A.g) (bQ "ends" (.ref A.e) (bQ "best" (.ref A.b) (bQ "reached" (.ref A.r) (bQ "queue" (.ref A.Q.o) ([("grammar",(d7 E.rs)),("own",(W.dk E.own)),("steps",(W.dt E.stp))]:List (Str×W))))))=sf E A:=by kernel_rfl
theorem tR{C:Cc}{B b:Mm}{A:Aq}{q:Qu}{s c p:Addr}{fs fs':List (Str×W)}(d:QR C B b A q)(f:B s=some (.ins C.s c fs))(a:b p=none):p≠s/\B p=none/\put b p (.dT []) s=some (.ins C.s c fs)/\QR C (put (put B p (.dT [])) s (.ins C.s c fs')) (put (put b p (.dT [])) s (.ins C.s c fs')) A q:=by
 have hs:=d.sub _ _ f
 have ne:p≠s:=fun e=>by rw[e,hs] at a;cases a
 exact⟨ne,d.sub.non a,by rw[aP (Bq ne)];exact hs,(d.lift (.inl a)).lift (.inr ⟨_,by rw[aP (Bq ne)];exact f⟩)⟩
theorem p8(f:Str)(w:W):∀ fs:List (Str×W),(bQ f w fs).length<=fs.length + 1
 | []=>Ai _
 | (k,x) :: r=>by
  rw[bQ]
  split
  ·simp
  ·have:=p8 f w r
   simp only[Bp];lia
theorem zad{C:Cc}{ws:List W}{M:Mm}{R:K3}(h:yJ C ws M R):Y0 C (bW R) (b5 YS ws) M:=by
 obtain⟨B,s,d,rs,stp,rfl,hl,rfl,h0,r⟩:=h
 refine⟨_,rfl,_,rfl,s,d,_,rfl,bA,by decide,?_⟩
 rw[kF]
 have e2:∀ w:W,bQ "own" w (bQ "grammar" (d7 rs) [])=([("grammar",d7 rs),("own",w)]:List (Str×W)):=fun w=>by kernel_rfl
 have e3:∀ w:W,bQ "steps" w ([("grammar",d7 rs),("own",.dk (ownOf rs))]:List (Str×W))=([("grammar",d7 rs),("own",.dk (ownOf rs)),("steps",w)]:List (Str×W)):=fun w=>by kernel_rfl
 refine⟨_,rfl,rs,rfl,hl,aV.frz ⟨namesOf rs,rfl,?_,_,rfl,s,d,_,rfl,bA,(show(1:Nat) < 1000 by decide),_,rfl,_,rfl,s,d,_,rfl,bA,?_,?_⟩⟩
 ·have:=xG (rs.map aU.name) []
  rw[Ab] at this
  unfold namesOf pP
  simp at this
  simp;lia
 ·rw[e2];exact(show(2:Nat) < 1000 by decide)
 rw[kF,kF,e2]
 show E5 C _ _ (put B s (.ins C.s d (bQ "steps" (.dt stp) [("grammar",d7 rs),("own",.dk (ownOf rs))])))
 rw[e3]
 refine fun a da ha hda hne=>?_
 have hsa:s≠a:=fun e=>by rw[<-e,bA] at ha;cases ha
 obtain⟨U,v⟩:∃ F:List (Str×W),F=([("grammar",d7 rs),("own",.dk (ownOf rs)),("steps",.dt stp)]:List (Str×W)):=⟨_,rfl⟩
 rw[<-v] at ha hda ⊢
 refine⟨_,a,da,rfl,rfl,ha,fun M1 Aq hAq hQ=>⟨rfl,_,rfl,s,d,U,rfl,hQ.sub _ _ bA,by rw[v];exact(show(3:Nat) < 1000 by decide),?_⟩⟩
 have x:=hQ.lift (p:=s) (o:=.ins C.s d (bQ "queue" (.ref a) U)) (.inr ⟨_,bA⟩)
 rw[kF] at x
 obtain⟨l,H⟩:∃ F:List (Str×W),F=bQ "queue" (.ref a) U:=⟨_,rfl⟩
 have l4:l.length<=4:=by rw[H];have:=p8 "queue" (.ref a) U;rw[v] at this ⊢;exact this
 rw[<-H] at x ⊢
 obtain⟨Mt,Y⟩:∃ m,m=put M1 s (.ins C.s d l):=⟨_,rfl⟩
 rw[<-Y] at x ⊢
 refine fun c hp1=>?_
 obtain⟨u,b1,o1,hQ2⟩:=tR (fs':=bQ "reached" (.ref c) l) x bA hp1
 refine⟨_,rfl,s,d,l,rfl,o1,by lia,fun i hp2=>?_⟩
 obtain⟨D,b2,o2,hQ3⟩:=tR (fs':=bQ "best" (.ref i) (bQ "reached" (.ref c) l)) hQ2 bA hp2
 have l5:=p8 "reached" (.ref c) l
 refine⟨_,rfl,s,d,_,rfl,o2,by lia,fun f hp3=>?_⟩
 obtain⟨N,L,o3,V⟩:=tR (fs':=bQ "ends" (.ref f) (bQ "best" (.ref i) (bQ "reached" (.ref c) l))) hQ3 bA hp3
 have l6:=p8 "best" (.ref i) (bQ "reached" (.ref c) l)
 refine⟨_,rfl,s,d,_,rfl,o3,by lia,fun n Z=>?_⟩
 obtain⟨K,G,o4,y⟩:=tR (fs':=bQ "begun" (.ref n) (bQ "ends" (.ref f) (bQ "best" (.ref i) (bQ "reached" (.ref c) l)))) V bA Z
 have l7:=p8 "ends" (.ref f) (bQ "best" (.ref i) (bQ "reached" (.ref c) l))
 refine⟨_,rfl,s,d,_,rfl,o4,by lia,_,Sub.refl _,r _ ⟨s,d,Aq,c,i,f,n⟩ rfl ?_⟩
 obtain⟨A,O⟩:∃ A:Ad,A=⟨s,d,Aq,c,i,f,n⟩:=⟨_,rfl⟩
 obtain⟨E,hE⟩:∃ E:Env,E=⟨rs,ownOf rs,stp⟩:=⟨_,rfl⟩
 have X:bQ "begun" (.ref n) (bQ "ends" (.ref f) (bQ "best" (.ref i) (bQ "reached" (.ref c) l)))=sf E A:=by
  rw[<-zac,H,v,O,hE,<-hAq]
 rw[X] at y ⊢
 rw[<-O,<-hE]
 have q:i≠c:=fun e=>by rw[e,aP u,bA] at b2;cases b2
 have J:f≠c:=fun e=>by rw[e,aP u,aP (Bq q),aP u,bA] at L;cases L
 have I:f≠i:=fun e=>by rw[e,aP D,bA] at L;cases L
 have T:n≠c:=fun e=>by rw[e,aP u,aP (Bq J),aP u,aP (Bq q),aP u,bA] at G;cases G
 have S:n≠i:=fun e=>by rw[e,aP D,aP (Bq I),aP D,bA] at G;cases G
 have P:n≠f:=fun e=>by rw[e,aP N,bA] at G;cases G
 have z1:B c=none:=by rw[aP u] at b1;exact b1
 have z2:B i=none:=by rw[aP D,aP q,aP D] at b2;exact b2
 have z3:B f=none:=by rw[aP N,aP I,aP N,aP J,aP N] at L;exact L
 have z4:B n=none:=by rw[aP K,aP P,aP K,aP S,aP K,aP T,aP K] at G;exact G
 obtain⟨t,z⟩:∃ m,m=put (put (put B s (.ins C.s d (sf E A))) c (.dT [])) i (.dT []):=⟨_,rfl⟩
 have hB:put (put (put (put (put (put (put (put (put B s (.ins C.s d l)) c (.dT [])) s (.ins C.s d (bQ "reached" (.ref c) l))) i (.dT [])) s (.ins C.s d (bQ "best" (.ref i) (bQ "reached" (.ref c) l)))) f (.dT [])) s (.ins C.s d (bQ "ends" (.ref f) (bQ "best" (.ref i) (bQ "reached" (.ref c) l))))) n (.dT [])) s (.ins C.s d (sf E A))=put (put t f (.dT [])) n (.dT []):=by
  rw[z]
  funext b
  unfold put
  by_cases g0:b=s
  ·subst g0;simp[Bq u,Bq D,Bq N,Bq K]
  ·simp only[if_neg g0]
 rw[hB] at y
 have mn:Mn C E B t A [] []:=by
  rw[z,O]
  exact⟨hW (hW (hW (Sub.refl _) h0) z1) z2,h0,z1,z2,Bq u,Bq D,Bq q,by rw[aP (Bq D),aP (Bq u),bA],by rw[aP (Bq q),bA];rfl,by rw[bA];rfl⟩
 have y3:t f=none:=by rw[z,aP I,aP J,aP N];exact z3
 have y4:t n=none:=by rw[z,aP S,aP T,aP K];exact z4
 have t1:dW eK t (put t f (.dT [])) A.e [] (eG []):=by rw[O];exact⟨Sub.new y3,y3,bA,(fun _ _=>rfl),(fun k ws e=>nomatch e),(fun k j p e=>nomatch e)⟩
 have x4:put t f (.dT []) n=none:=by rw[aP P];exact y4
 have t2:dW eK (put t f (.dT [])) (put (put t f (.dT [])) n (.dT [])) A.g [] (gG []):=by rw[O];exact⟨Sub.new x4,x4,bA,(fun _ _=>rfl),(fun k ws e=>nomatch e),(fun k j p e=>nomatch e)⟩
 have hAQ:A.Q=Aq:=by rw[O]
 rw[<-hAQ] at y
 exact⟨t,_,_,[],[],mn,t1,t2,y,Ai _,Ai _,trivial⟩
structure Ln(st:SS)(T:Nat):Prop where
 b:st.best.length<=T
 e:st.ends.length<=T
 g:st.begun.length<=T
theorem Ln.process{G:Sr}{st:SS}{T:Nat}(h:Ln st T)(n:Nat)(a:List Int)(c:aH):Ln (Rg.process G st n a c) (T + 1):=by
 have k:=h.b
 have l:=h.e
 have j:=h.g
 have keep:Ln st (T + 1):=⟨by lia,by lia,by lia⟩
 unfold Rg.process
 split
 ·unfold settle
  split
  ·exact keep
  ·obtain⟨a1,a2,i⟩:=p7 (f:=fun y:bR=>(y.1,y.2.1 ++ [a.getLastD 0],dQ y.2.2 c)) (xs:=(aG st.begun (cB G n,a.headD 0)).getD []) (st:={st with best:=st.best ++ [(cD G n a,c,n,a)],ends:=eM st.ends (cB G n,a.headD 0) (a.getLastD 0,c)})
   refine⟨?_,?_,?_⟩
   ·refine Bh (Fe (congrArg Dl i)) ?_
    show(st.best ++ [_]).length<=_
    rw[Aw,Eb];lia
   ·refine Bh (Fe (congrArg Dl a1)) ?_
    have:=sQ st.ends (cB G n,a.headD 0) ((aG st.ends (cB G n,a.headD 0)).getD [] ++ [(a.getLastD 0,c)])
    show(cT _ _ _).length<=_
    lia
   ·refine Bh (Fe (congrArg Dl a2)) ?_
    exact keep.g
 ·rename_i d _
  split
  ·unfold fB
   obtain⟨a1,a2,i⟩:=p7 (f:=fun z:Int×aH=>(n,a ++ [z.1],dQ c z.2)) (xs:=(aG st.ends (d,a.getLastD 0)).getD []) (st:={st with begun:=eM st.begun (d,a.getLastD 0) (n,a,c)})
   refine⟨?_,?_,?_⟩
   ·exact Bh (Fe (congrArg Dl i)) keep.b
   ·exact Bh (Fe (congrArg Dl a1)) keep.e
   ·refine Bh (Fe (congrArg Dl a2)) ?_
    have:=sQ st.begun (d,a.getLastD 0) ((aG st.begun (d,a.getLastD 0)).getD [] ++ [(n,a,c)])
    show(cT _ _ _).length<=_
    lia
  ·unfold fG
   obtain⟨a1,a2,i⟩:=p7 (f:=fun z:Int×Int=>(n,a ++ [z.1],(c.1 + z.2,c.2))) (xs:=G.steps d (a.getLastD 0)) (st:=st)
   exact⟨Bh (Fe (congrArg Dl i)) keep.b,Bh (Fe (congrArg Dl a1)) keep.e,Bh (Fe (congrArg Dl a2)) keep.g⟩
theorem Ln.next{G:Sr}{st:SS}{T:Nat}(h:Ln st T):Ln (mW G st) (T + 1):=by
 have d:=h.b
 have f:=h.e
 have c:=h.g
 have keep:Ln st (T + 1):=⟨by lia,by lia,by lia⟩
 have i:∀ a,Ln {st with q:=a} T:=fun a=>⟨d,f,c⟩
 unfold mW
 split
 ·exact keep
 ·split
  ·split
   ·exact⟨keep.b,keep.e,keep.g⟩
   ·exact(i _).process _ _ _
  ·exact⟨keep.b,keep.e,keep.g⟩
theorem zae{G:Sr}{V:List Int}{L S x T:Nat}{st:SS}{P:List bR}{cur:aH}(v:sX G V G.rs.length L)(K:L < 1000)(A:All G S x st P cur T)(D:∀ t p,(G.steps t p).length<=S)(l:Ln st T)
  (hb:x + G.rs.length * ((L + 1) * (V.length * V.length)) * (S + V.length) + G.rs.length * ((L + 1) * (V.length * V.length)) + V.length + S + 1 < 10000000):Rm G st:=by
 obtain⟨U,C,M⟩:=EF v A
 have i:∀ {n a c},GI G st.best n a c->DI G n a c:=fun {n a c} g=>xN (B:=st.best) (fun f m J s h=>sU A.ob h) g
 have N:=A.cn.rch
 generalize G.rs.length * ((L + 1) * (V.length * V.length))=X at *
 generalize X * (S + V.length)=Y at *
 have Q:=l.b
 have O:=l.e
 have I:=l.g
 have E:∀ key,((aG st.begun key).getD []).length<=X:=fun key=>by
  have:=len_sub (b:=P) (A.cn.bnd key) fun y o=>(A.ob.bgn key y o).1
  lia
 refine⟨fun c n a R e=>?_,fun key y o=>?_,by lia,by lia,by lia,fun key=>?_,fun key=>?_,fun t p=>?_⟩
 ·have k:st.q≠[]:=fun z=>by rw[z] at e;cases e
  obtain⟨_,_,_,w,_,H,_⟩:=mV A.inv.fall k
  rw[e] at w
  cases w
  have r:(c,(n,a))∈aX st.q:=(H _).mpr (.inl rfl)
  have hd:=i (A.inv.item _ r)
  obtain⟨_,u,j⟩:=sZ v hd
  obtain⟨d,F,_⟩:=A.inv.ge _ r
  exact⟨hd.ne,by have j:a.length<=L:=j;lia,u,d,F⟩
 ·have hd:=i (A.inv.pr y (A.ob.bgn key y o).1).2.2
  obtain⟨_,u,j⟩:=sZ v hd
  exact⟨by lia,hd.ne⟩
 ·have:=C key
  exact⟨by lia,⟨by lia,by lia⟩⟩
 ·have:=E key
  exact⟨by lia,⟨by lia,by lia⟩⟩
 ·have:=D t p
  exact⟨by lia,by lia⟩
def jX(G:Sr)(i:Nat):List (Nat×Int):=(Cb i).flatMap fun n=>G.places.map fun p=>(n,p)
theorem zaf(G:Sr)(i:Nat):jX G (i + 1)=jX G i ++ G.places.map fun p=>(i,p):=by
 unfold jX
 rw[List.range_succ,List.flatMap_append];simp
theorem yM(G:Sr)(i:Nat):(jX G i).length=i * G.places.length:=by
 unfold jX
 rw[pX (k:=G.places.length) fun n _=>by rw[Ab],Ey]
abbrev m7(G:Sr):Nat×Int->Nat×List Int×aH:=fun x=>(x.1,[x.2],(G.wt x.1,1))
theorem zag{α:Type}{f:α->Nat×List Int×aH}{xs ys:List α}{st:SS}:eF f (xs ++ ys) st=eF f ys (eF f xs st):=by
 unfold eF;rw[List.foldl_append]
theorem SK.told{C:Cc}{E:Env}{a M:Mm}{A:Ad}{st:SS}{kp:Option (Addr×List W)}(h:SK C E a M A st kp):a A.b=none/\L3.Sub (put a A.b (.dT (dX fK hX st.best))) M:=by
 obtain⟨o,l,j,e,g,c,f,d,i,k,m,n⟩:=h.ex
 refine⟨c.nb,fun b u e=>?_⟩
 by_cases hb:b=A.b
 ·subst hb;rw[bA] at e;cases e;exact h.ob
 ·rw[aP hb] at e;exact i.sub _ _ (d.sub _ _ (f.sub _ _ (c.sub _ _ e)))
theorem zah{n i:Nat}{w:W}(h:(g9 0 n)[i]? = some w):i < n/\w=.int (i:Nat):=by
 unfold g9 at h
 rw[Bi] at h
 obtain⟨j,c,rfl⟩:=Bn.mp h
 obtain⟨a,b⟩:=An.mp c
 rw[List.getElem_range] at b
 rw[Ey] at a
 exact⟨a,by rw[<-b,Lj]⟩
theorem FA{lo:Int}{n:Nat}:(g9 lo n).length=n:=by unfold g9;simp
theorem zai{C:Cc}{ws:List W}{M:Mm}{R:K3}(h:yK C ws M R):ZV C (bW R) (b5 ZO ws) M:=by
 obtain⟨G,E,V,L,S,rfl,K,B,ev,ok,v,hL,hpl,hS,hb,r⟩:=h
 refine⟨_,rfl,_,rfl,fun a dx ha hdx hne=>⟨M,a,dx,E.rs,E.stp,rfl,K,rfl,ha,fun M1 A hA hs=>⟨rfl,?_⟩⟩⟩
 rw[<-B] at hs
 have hs:SR C E M M1 A fV:=hs
 subst hA
 have x:(jA G).length=G.rs.length * G.places.length:=yM G G.rs.length
 obtain⟨N,I⟩:∃ N,N=G.rs.length:=⟨_,rfl⟩
 have hNE:E.rs.length=N:=by rw[I,ev.rs]
 refine⟨_,rfl,(N:Int),by rw[Ab,hNE],by lia,by lia,?_⟩
 rw[Cj]
 have O:Sm fV ((jA G).length + 1):=⟨by show 0 + _ < _;lia,by show 0 + _ < _;lia⟩
 refine fF (fun i k D=>∃ t g,k=[some (d7 E.rs),some (.rl (G.places.map W.int)),some (.dt E.stp),some (.rl ((Cb G.rs.length).map fun n=>.int (G.wt n))),some (.ref A.s),t,g]/\SR C E M D A (eF (m7 G) (jX G i) fV)) ⟨_,_,rfl,hs⟩ (fun _ _ _ _ _=>trivial) ?_ ?_
 ·rintro i w k M2 hw ⟨t,g,rfl,e⟩
  obtain⟨hi,rfl⟩:=zah hw
  have hmul:(i + 1) * G.places.length<=N * G.places.length:=Nat.mul_le_mul_right _ hi
  rw[<-I] at x
  refine⟨_,rfl,n6 (fF (fun j k D=>∃ g,k=[some (d7 E.rs),some (.rl (G.places.map W.int)),some (.dt E.stp),some (.rl ((Cb G.rs.length).map fun n=>.int (G.wt n))),some (.ref A.s),some (.int i),g]/\SR C E M D A (eF (m7 G) ((G.places.map fun p=>(i,p)).take j) (eF (m7 G) (jX G i) fV))) ⟨_,rfl,e⟩ (fun _ _ _ _ _=>trivial) ?_ ?_)⟩
  ·rintro j w k J hw ⟨g,rfl,c⟩
   rw[Bi] at hw
   obtain⟨pl,l,rfl⟩:=Bn.mp hw
   have hj:=(An.mp l).1
   have hx:(G.places.map fun p=>(i,p))[j]? = some (i,pl):=by rw[Bi,l];rfl
   have hwt:b9 ((Cb G.rs.length).map fun n=>W.int (G.wt n)) (i:Int)=some (.int (G.wt i)):=jF (by rw[Bi,List.getElem?_range (by lia)];rfl)
   have X:Sm (eF (m7 G) ((G.places.map fun p=>(i,p)).take j) (eF (m7 G) (jX G i) fV)) 1:=by
    refine n9 (n9 (O.le ?_))
    rw[yM,Cg,Ab,x,Nat.succ_mul] at *
    lia
   refine⟨_,rfl,A.s,A.d,_,rfl,c.os,tM,_,rfl,_,rfl,z1,_,rfl,_,rfl,_,hwt,z2,E,M,A,_,i,[pl],(G.wt i,1),none,rfl,c,by simp,X,fun Z hs4=>⟨Z,Sub.refl _,_,rfl,?_⟩⟩
   rw[tQ hx]
   exact hs4
  ·rintro k J ⟨g,rfl,c⟩
   refine⟨J,Sub.refl _,_,_,rfl,?_⟩
   rw[zaf,zag]
   rw[Ab,Dw (by rw[Ab];exact Ai _)] at c
   exact c
 ·rintro k M2 ⟨t,g,rfl,e⟩
  rw[FA] at e
  have u:eF (m7 G) (jX G N) fV=kU G:=by rw[I];rfl
  rw[u] at e
  have U:Ln (kU G) 0:=by
   obtain⟨a1,a2,a3⟩:=p7 (f:=m7 G) (xs:=jX G N) (st:=fV)
   rw[u] at a1 a2 a3
   exact⟨by rw[a3];exact Ai _,by rw[a1];exact Ai _,by rw[a2];exact Ai _⟩
  obtain⟨z,Y⟩:∃ z,z=(jA G).length + G.rs.length * ((L + 1) * (V.length * V.length)) * (S + V.length):=⟨_,rfl⟩
  refine⟨fun m k D=>∃ st P cur T t g,k=[some (d7 E.rs),some (.rl (G.places.map W.int)),some (.dt E.stp),some (.rl ((Cb G.rs.length).map fun n=>.int (G.wt n))),some (.ref A.s),t,g]/\SR C E M D A st/\All G S (jA G).length st P cur T/\Ln st T/\m=z - T,⟨_,_,_,_,_,_,_,rfl,e,V3 ok S,U,rfl⟩,?_⟩
  rintro m k J ⟨st,P,cur,T,t,g,rfl,c,A3,y,rfl⟩
  obtain⟨Z,hQ,back⟩:=c.que
  refine⟨_,rfl,A.s,A.d,_,_,rfl,c.os,yC,A.Q.o,A.Q.d,_,rfl,hQ.ob,WA,Z,A.Q,st.q,rfl,hQ,cG (b:=!decide (st.q=[])) (fun h=>?_) fun h=>?_⟩
  ·have F:¬ st.q=[]:=of_decide_eq_false (by rw[<-Bool.not_not (decide _),h];rfl)
   have rm:=zae v hL A3 hS y hb
   obtain⟨_,_,f3⟩:=EF v A3
   rw[<-Y] at f3
   have hpos:=Jn.mpr F
   have hql:=xS c.fall
   obtain⟨P',H,A4⟩:=V2 ok A3 hS F
   exact⟨_,rfl,A.s,A.d,_,rfl,c.os,YK,G,E,M,A,st,rfl,c,ev,F,rm,fun M5 hs5=>⟨_,M5,(by lia:z - (T + 1) < z - T),Sub.refl _,_,P',H,T + 1,_,_,rfl,hs5,A4,y.next,rfl⟩⟩
  ·have F:st.q=[]:=of_decide_eq_true (by rw[<-Bool.not_not (decide _),h];rfl)
   obtain⟨y1,y2⟩:=c.told
   exact⟨_,rfl,A.s,A.d,_,_,rfl,c.os,yD,_,y2,r st.best ⟨S,_,st,P,cur,T,A3,F,rfl⟩ A.b y1⟩
end Rg
namespace L2
open PySem PySem.Spec PyProof.Rows
section
variable {X:Cx}{pins:List (Addr×Obj)}{σ:St}{H:Hp}{s:Ah}{a:Addr}{u:HO}
end
end L2
namespace L3
open PySem PySem.Spec PyProof.Rows L2
section
variable {X:Cx}{e:Expr}{te:aS}
end
end L3
namespace PySem
namespace Dt
open PyProof.Rows L2 PySem.Spec
open Zd (TK allH DZ pO)
section
variable {prog:Bl}{w:Cd}{A:Bu}{E:Ac->Ah->Prop}{s:Ah}
theorem loop{d I l:Addr}{items:Array Ac}{ps:List (List aD×Addr×Ac)}{R:Result->Ah->Prop}(hh:A.handled=none)(hu:(TK prog w).room A.in1)(G:d≠I)(hdl:d≠l)(J:l≠I)(hn:ps.length=items.size)(hz:items.size<=Aj)(hk:∀ p∈ps,p.2.1≠I/\p.2.1≠d) :
  ∀ (k i:Nat) (s:Ah) (es:List (List aD×Addr×Ac)),items.size - i=k->i<=items.size->es.length<=i->s.heap.IsListIter I l i->s.heap.IsList l items->s.heap.DictOfH (TK prog w) d es->(∀ e∈es,e∈ps\/∃ p∈ps,p.2.1=e.2.1)->
  (∀ p∈ps,(TK prog w).is s.heap p.1 p.2.1)->
  (∀ (j:Nat) (p:List aD×Addr×Ac),ps[j]? = some p->∃ (a:Addr),items[j]? = some (.ref a)/\a≠d/\a≠I/\s.heap.IsTuple a #[.ref p.2.1,p.2.2])->
  (∀ h' tk,(∀ b o,b≠d->b≠I->s.heap.get? b=some o->h'.get? b=some o)->h'.DictOfH (TK prog w) d (allH es (ps.drop i))->R (.ok (.ret .none)) {s with heap:=h',toks:=tk})->
  Jv (Bk prog w) A (.builtin "dict.update.loop" ⟨[.ref d,.ref I,Gv (i:Int),.none],[]⟩) R s:=by
 intro k
 have g:∀ {h h':Heap} {es:List (List aD×Addr×Ac)},h.DictOfH (TK prog w) d es->(∀ e∈es,e∈ps\/∃ p∈ps,p.2.1=e.2.1)->(∀ c o,c≠I->h.get? c=some o->h'.get? c=some o)->h'.DictOfH (TK prog w) d es:=by
  rintro h h' es ⟨o,en,ep,C,hc,hdd,D,his,hn⟩ f r
  refine⟨o,en,ep,r d o G C,hc,hdd,D,fun x F=>pO (his x F) fun o' e=>?_,hn⟩
  have:x.2.1≠I:=by
   rcases f x F with q | ⟨p,q,U⟩
   ·exact(hk x q).1
   ·have:=(hk p q).1;rw[U] at this;exact this
  exact r _ _ this e
 induction k with
 | zero=>
  intro i s es r hi hl hit z hd f u P hR
  have hin:i=items.size:=by lia
  refine Fv Dp.entry_loop ?_
  rw[Em Dp.plain_loop _]
  show Ax _ A.in1 (Hz (.ref I) >>= _) _ _ s
  have W:=Mo (prog:=prog) (w:=w) (A:=A.in1) hh I l J items
  refine Aa (W.done s _ _ (by rw[<-hin];exact⟨hit,z⟩) fun h' tk r=>?_)
  show Ax _ A.in1 (Builtin.Dict.addKeywords d [] >>= _) _ _ _
  refine Aa (Ag (Ag (hR h' tk (fun b o _ hb e=>r b o (by simp[hb]) e) ?_)))
  rw[Ki (by lia)]
  exact g hd f fun c o hc e=>r c o (by simp[hc]) e
 | succ k ih=>
  intro i s es r hi hl hit z hd f u P hR
  have H:i < items.size:=by lia
  refine Fv Dp.entry_loop ?_
  rw[Em Dp.plain_loop _]
  show Ax _ A.in1 (Hz (.ref I) >>= _) _ _ s
  have W:=Mo (prog:=prog) (w:=w) (A:=A.in1) hh I l J items
  refine Aa (W.item i s _ _ H ⟨hit,z⟩ fun v h' tk hv E r=>?_)
  obtain⟨p,y⟩:∃ p,ps[i]? = some p:=⟨_,Am (by lia)⟩
  have L:p∈ps:=Bc y
  obtain⟨a,ha,had,Q,Y⟩:=P i p y
  rw[ha] at hv
  cases hv
  have Z:=g hd f fun c o hc e=>r c o (by simp[hc]) e
  have m:∀ q∈ps,(TK prog w).is h' q.1 q.2.1:=fun q B=>pO (u q B) fun o e=>r _ o (by simp[(hk q B).1]) e
  have K:h'.IsTuple a #[.ref p.2.1,p.2.2]:=by
   obtain⟨o,C,rest⟩:=Y
   exact⟨o,r a o (by simp[Q]) C,rest⟩
  show Ax _ A.in1 (Iq [Value.ref a] _ >>= _) _ _ _
  refine Aa (Cs (Aa (wpAny_tryCatch ?_)))
  unfold Builtin.Dict.pairItems
  obtain⟨o,C,hc,n,hd2⟩:=K
  refine Aa (Kq (T:="tuple") ⟨o,C,hc⟩ ?_)
  rw[if_pos (by decide)]
  refine Aa (Gg C hd2 (Ag ?_))
  show Ax _ _ (Iq [Value.ref p.2.1,p.2.2] (dictSet d (.ref p.2.1) p.2.2)) _ _ _
  refine Cs (wpAny_dictSet_heap (knd:=TK prog w) hu (m p L) Z (hsz:=by lia) fun O S t=>?_)
  have e1:ps.drop i=p :: ps.drop (i + 1):=by rw[Hb (by lia)];congr 1;exact(An.mp y).2
  refine Ag ⟨Hw Dp.plain_loop _,?_⟩
  refine ih (i + 1) _ (Nn es p.1 p.2.1 p.2.2) (by lia) H (by have:=DZ es p.1 p.2.1 p.2.2;lia) (E.1.at fun o e=>(t.2 I (Bq G)).trans e) (E.2.at fun o e=>(t.2 l (Bq hdl)).trans e) S (fun e D=>?_) (fun q B=>pO (m q B) fun o e=>(t.2 _ (hk q B).2).trans e) (fun j q B=>?_) fun h3 X V N=>?_
  ·unfold Nn at D
   split at D
   ·obtain⟨M,he0,rfl⟩:=Au.mp D
    have:(putAt p.1 p.2.2 M).2.1=M.2.1:=by unfold putAt;split <;> rfl
    rw[this]
    rcases f M he0 with q | ⟨p',q,U⟩
    ·exact .inr ⟨M,q,rfl⟩
    ·exact .inr ⟨p',q,U⟩
   ·rcases Bo.mp D with q | q
    ·exact f e q
    ·obtain rfl:=Az.mp q
     exact .inl L
  ·obtain⟨a,g1,g2,g3,⟨o,g4,g5⟩⟩:=P j q B
   exact⟨a,g1,g2,g3,⟨o,(t.2 a g2).trans (r a o (by simp[g3]) g4),g5⟩⟩
  ·refine hR h3 X (fun b o h1 O e=>V b o h1 O ((t.2 b h1).trans (r b o (by simp[O]) e))) ?_
   rw[e1];exact N
theorem call_pairs{l:Addr}{items:Array Ac}{c:Nat}{ps:List (List aD×Addr×Ac)}{Q:Ac->Ah->Prop}(O:A.handled=none)(R:A.units + 2 < Fz)(r:s.heap.get? l=some {cls:=.type "list",data:=.seq items c})(Z:ps.length=items.size)(hz:items.size<=Aj)
  (f:∀ p∈ps,(TK prog w).is s.heap p.1 p.2.1)
  (i:∀ (j:Nat) (p:List aD×Addr×Ac),ps[j]? = some p->∃ (a:Addr),items[j]? = some (.ref a)/\s.heap.IsTuple a #[.ref p.2.1,p.2.2])
  (h:∀ h' tk,(∀ b o,s.heap.get? b=some o->h'.get? b=some o)->h'.DictOfH (TK prog w) s.heap.objs.size (allH [] ps)->Q (.ref s.heap.objs.size) {s with heap:=h',toks:=tk}) :
  Ax (Bk prog w) A (call (.type "dict") [.ref l]) Q E s:=by
 refine callType_codes (Q₁:=fun obj g=>obj=.ref s.heap.objs.size/\g = {s with heap:=s.heap.push {cls:=.type "dict",data:=.dict #[]}}) F.kt_called_dict (F.kt_typeCall_dict_1 _) F.entry_dict_init (kt_code_dict_new _ ⟨rfl,rfl⟩) ?_
 rintro obj g ⟨rfl,rfl⟩
 have lt:l < s.heap.objs.size:=Ak r
 have k:(s.heap.push {cls:=.type "dict",data:=.dict #[]}).DictOfH (TK prog w) s.heap.objs.size []:=Heap.DictOfH.new s.heap
 have m:(s.heap.push {cls:=.type "dict",data:=.dict #[]}).get? l=some {cls:=.type "list",data:=.seq items c}:=Af _ r
 have y:({s with heap:=s.heap.push {cls:=.type "dict",data:=.dict #[]}}:Ah).TypeIs (.ref s.heap.objs.size) "dict":=k.typeIs
 refine⟨y,F.args_dict_init_2 _ _,?_⟩
 unfold Hg.«dict.__init__»
 refine Aa ?_
 unfold Builtin.Dict.selfAndRest
 refine Aa (Jd y ?_)
 show Ax _ _ (pure (s.heap.objs.size,[Value.ref l])) _ _ _
 refine Ag ?_
 show Ax _ _ (Jf "dict.__init__" s.heap.objs.size (.ref l) [] .none) _ _ _
 unfold Jf
 refine Aa (Kq (T:="list") ⟨_,m,rfl⟩ ?_)
 rw[if_pos (by decide)]
 refine Aa (Dp.keys_miss m O fun t tk1 q=>?_)
 rw[if_pos (by decide)]
 have u:=q _ _ m
 have z:t.DictOfH (TK prog w) s.heap.objs.size []:=by
  obtain⟨o,es,ep,v,L,J,K,Y,C⟩:=k
  exact⟨o,es,ep,q _ o v,L,J,K,(fun x r=>nomatch r),C⟩
 refine Aa (Ei (Aa (Jh (items:=items) ⟨_,u,rfl,c,rfl⟩ ?_)))
 have W:(t.push {cls:=.type "list_iterator",data:=.fields #[.ref l,.int 0 0]}).IsListIter t.objs.size l 0:=⟨_,Ap _ rfl,rfl,rfl⟩
 have up:∀ b o,s.heap.get? b=some o->(t.push {cls:=.type "list_iterator",data:=.fields #[.ref l,.int 0 0]}).get? b=some o:=fun b o e=>Af _ (q b o (Af _ e))
 have B:s.heap.objs.size < t.objs.size:=by
  obtain⟨o,es,ep,v,rest⟩:=z
  exact Ak v
 have M:∀ p∈ps,@LT.lt Nat _ p.2.1 s.heap.objs.size:=fun p i=>by
  obtain⟨o,items,n,e,_⟩:=f p i
  exact Ak e
 refine Ag ⟨Hw Dp.plain_loop _,?_⟩
 refine loop (A:=A.in1) (d:=s.heap.objs.size) (I:=t.objs.size) (l:=l) (items:=items) (ps:=ps) O (Fi (A:=A.in1) (show(A.units + 1) + 1 < Fz from R)) (Be B) (Dy lt) (Be (Hh lt B)) Z hz (fun p i=>⟨Be (Hh (M p i) B),Be (M p i)⟩) items.size 0 _ [] rfl (Bx _) (Ai _) W ⟨_,Af _ u,rfl,c,rfl⟩ (by
  obtain⟨o,es,ep,v,L,J,K,Y,C⟩:=z
  exact⟨o,es,ep,Af _ v,L,J,K,(fun x r=>nomatch r),C⟩) (fun e V=>nomatch V) (fun p i=>pO (f p i) (up _)) (fun j p U=>?_) fun S G D H=>?_
 ·obtain⟨a,X,⟨o,N,P⟩⟩:=i j p U
  have la:=Ak N
  exact⟨a,X,Be la,Be (Hh la B),⟨o,up a o N,P⟩⟩
 ·exact⟨rfl,h S G (fun b o e=>D b o (Be (Ak e)) (Be (Hh (Ak e) B)) (up b o e)) H⟩
end
end Dt
end PySem
namespace L3
open PySem PySem.Spec PyProof.Rows L2
section
variable {X:Cx}
def oA(ps:List (List aD×W)):List W:=ps.map fun p=>.tup [.tup (p.1.map wK),p.2]
theorem FC{d:List (Addr×Obj)}{A:L2.St}{H:Hp}{M:Mm}{s:Ah}(I:L2.Inv X d A H s):∀ {ps:List (List aD×W)} {vs:List V} {its:List Ac},aL X.K H M vs (oA ps)->aQ vs its->
  ∃ (c:List (List aD×Addr×V)) (rs:List (List aD×Addr×Ac)),bN X.K H M (List aD) (c.map fun q=>(q.1,q.2.2)) ps/\(∀ q∈c,H q.2.1=some (.tup (q.1.map kV)))/\Ir (fun(q:List aD×Addr×V) (p:List aD×Addr×Ac)=>q.1=p.1/\q.2.1=p.2.1/\RelV q.2.2 p.2.2) c rs/\rs.length=its.length/\
   (∀ z∈rs,H z.2.1=some (.tup (z.1.map kV)))/\∀ (j:Nat) (p:List aD×Addr×Ac),rs[j]? = some p->∃ (a:Addr),its[j]? = some (.ref a)/\s.heap.IsTuple a #[.ref p.2.1,p.2.2]
 | [],_,_,.nil,.nil=>⟨[],[],.nil,(fun q f=>nomatch f),.nil,rfl,(fun q f=>nomatch f),fun j p h=>by simp at h⟩
 | (k,w) :: ps,_,_,.cons r i,.cons l g=>by
  obtain⟨c,rs,B,u,y,E,F,G⟩:=FC I i g
  obtain⟨a,xs,C,e,q⟩:=r.inv
  rw[C] at l
  obtain⟨O,v,ex,a1,a2⟩:=q.two
  obtain⟨b,N,t,eb,x⟩:=a1.inv
  rw[x.keys] at eb
  obtain⟨o,n,pl,_⟩:=I.tuple (bM.of e)
  rw[ex,t] at n
  obtain⟨D,L,J,x1,x2⟩:=vals2 n
  rw[J,show D=.ref b from x1] at pl
  refine⟨(k,b,v) :: c,(k,b,L) :: rs,.cons ⟨rfl,a2⟩ B,List.forall_mem_cons.mpr ⟨eb,u⟩,.cons ⟨rfl,rfl,x2⟩ y,congrArg (· + 1) E,List.forall_mem_cons.mpr ⟨eb,F⟩,fun j p m=>?_⟩
  cases j with
  | zero=>rw[<-Dz m];exact⟨a,congrArg some l,pl⟩
  | succ j=>exact G j p m
def FD:List W->Mm->K3->Prop
 | [.rl ws],M,R=>∃ ps:List (List aD×W),ws=oA ps/\ws.length<=Aj/\iE (nW [] ps) M R
 | _,_,_=>False
theorem zaj(hc:X.calm=true)(G:X.A.units + 2 < Fz):cU X (.type "dict") (fZ X.K FD):=by
 rintro B s σ H xs us Q I rs ⟨ws,M,R,y,i,h,k⟩
 match ws,h with
 | [.rl ws],h=>
  obtain⟨v,rfl,D⟩:=i.one
  obtain⟨ps,rfl,hz,r⟩:=h
  obtain⟨u,rfl,ru⟩:=vals1 rs
  cases D with
  | rl f n q=>
   cases ru
   obtain⟨z,its,c,J,hl,e⟩:=I.lstM f
   obtain⟨a,l,x,F,L,U,Y,h6⟩:=FC I q J
   have S:ps.length<=Aj:=by simpa [oA] using hz
   have E:a.length=ps.length:=by have:=Eo x;rwa [Ab] at this
   refine Dt.call_pairs (items:=its.toArray) (ps:=l) (I.ok.hd hc) G e (by simpa using U) (by rw[Bb];lia) (fun p T=>jI I.hok (Y p T)) (fun j p P=>by simpa using h6 j p P) fun h' tk hk dd=>?_
   have b:=I.hok.fresh (Ai _)
   have len:=D0 (a.map fun q=>(q.1,q.2.2)) []
   rw[Ab] at len
   have d:∀ {ps:List (List aD×W)} {a:List (List aD×V)} {ks:List (List aD×V)} {kvs:List (List aD×W)},bN X.K H M (List aD) a ps->bN X.K H M (List aD) ks kvs->bN X.K H M (List aD) (mT ks a) (nW kvs ps):=by
    intro ps a ks kvs h
    induction h generalizing ks kvs with
    | nil=>intro h;exact h
    | @cons q p a ps r t N=>
     intro h
     obtain⟨O,q2⟩:=q
     obtain⟨p1,p2⟩:=p
     obtain⟨rfl,w⟩:=r
     exact N (rV h O w)
   have g:=d (ks:=[]) (kvs:=[]) x .nil
   refine⟨.ref s.heap.objs.size,aN H s.heap.objs.size (.dT (mT [] (a.map fun q=>(q.1,q.2.2)))),I.laid (o:=.dT (mT [] (a.map fun q=>(q.1,q.2.2)))) (t':=tk) hk (Ai _) ⟨by simp at len;lia,beq_eq_false_iff_ne.mpr (Bq (Be I.big)),_,(U6 L F .nil).keeps fun c ys C=>?_,?_⟩,rfl,?_⟩
   ·rw[bK (d6 C b)];exact C
   ·obtain⟨o,en,ep,r1,w,r3,r4,_,r5⟩:=dd
    exact⟨o,en,ep,r1,w,r3,r4,r5⟩
   ·obtain⟨m,Z⟩:=y.laid (o:=.dT (nW [] ps)) (u:=.dT (mT [] (a.map fun q=>(q.1,q.2.2)))) b ⟨_,dZ,oX g.keys (g.vals.newL b)⟩
    exact k _ _ _ _ Z m (.ref _) (r _ (y.nonM b))
end
end L3
namespace bF
open PySem SetTable
def kW(xs:Array Nat):Prop:=∀ i j (hi:i < xs.size) (a:j < xs.size),i < j->xs[i] < xs[j]
theorem zak{l:List Nat}(h:l.Pairwise (· < ·)):kW l.toArray:=by
 intro i j hi b a
 simp only[List.getElem_toArray]
 exact Ft.mp h i j (by simpa using hi) (by simpa using b) a
theorem yN{xs:Array Nat}{j:Nat}(f:kW xs):∀ (a lo hi:Nat),hi - lo<=a->lo<=hi->hi<=xs.size->(∀ i (h:i < xs.size),i < lo->xs[i] < j)->(∀ i (h:i < xs.size),hi<=i->j<=xs[i])->
  below.go xs j a lo hi<=xs.size/\(∀ i (h:i < xs.size),i < below.go xs j a lo hi->xs[i] < j)/\∀ i (h:i < xs.size),below.go xs j a lo hi<=i->j<=xs[i]
 | 0,lo,hi,hf,hl,hs,g,d=>by
  have:lo=hi:=by lia
  subst this
  exact⟨hs,g,d⟩
 | a + 1,lo,hi,hf,hl,hs,g,d=>by
  unfold below.go
  by_cases h:lo < hi
  ·rw[if_pos h]
   have l:(lo + hi) / 2 < xs.size:=by lia
   have e:xs.getD ((lo + hi) / 2) j=xs[(lo + hi) / 2]:=by simp[Array.getD,l]
   dsimp only
   rw[e]
   by_cases c:xs[(lo + hi) / 2] < j
   ·rw[if_pos c]
    refine yN f a _ hi (by lia) (by lia) hs (fun i b n=>?_) d
    by_cases k:i=(lo + hi) / 2
    ·subst k;exact c
    ·exact Hh (f i _ b l (by lia)) c
   ·rw[if_neg c]
    refine yN f a lo _ (by lia) (by lia) (by lia) g fun i b m=>?_
    by_cases k:i=(lo + hi) / 2
    ·subst k;exact Nat.le_of_not_lt c
    ·exact Bh (Nat.le_of_not_lt c) (Ic (f _ i l b (by lia)))
  ·rw[if_neg h]
   have:lo=hi:=by lia
   subst this
   exact⟨hs,g,d⟩
theorem yO{xs:Array Nat}(a:kW xs)(j:Nat):below xs j<=xs.size/\(∀ i (h:i < xs.size),i < below xs j->xs[i] < j)/\∀ i (h:i < xs.size),below xs j<=i->j<=xs[i]:=
 yN a xs.size 0 xs.size (by lia) (Bx _) (Ai _) (fun i _ h=>by lia) fun i b c=>by lia
theorem zal{xs:Array Nat}(a:kW xs){i:Nat}(h:i < xs.size):below xs (xs[i] + 1)=i + 1:=by
 obtain⟨b1,b2,b⟩:=yO a (xs[i] + 1)
 rcases Nat.lt_trichotomy (below xs (xs[i] + 1)) (i + 1) with c | c | c
 ·have:=b i h (by lia);lia
 ·exact c
 ·have h':i + 1 < xs.size:=by lia
  have:=b2 (i + 1) h' c
  have:=a i (i + 1) h h' (by lia)
  lia
theorem zam{xs:Array Nat}(a:kW xs):below xs 0=0:=by
 obtain⟨b1,b2,b⟩:=yO a 0
 rcases Nat.eq_zero_or_pos (below xs 0) with c | c
 ·exact c
 ·have:=b2 0 (by lia) c;lia
theorem zan{xs:Array Nat}{j:Nat}(m:kW xs)(u:xs[below xs j]?≠some j):kW (insertAt xs (below xs j) j):=by
 obtain⟨b1,b2,t⟩:=yO m j
 have k:∀ i (h:i < xs.size),below xs j<=i->j < xs[i]:=fun i h o=>by
  have q:=t i h o
  rcases Nat.lt_or_ge j xs[i] with c | c
  ·exact c
  ·have e:xs[i]=j:=by lia
   by_cases hb:i=below xs j
   ·exact(u (by rw[<-hb,getElem?_pos xs i h,e])).elim
   ·have l:below xs j < xs.size:=by lia
    have:=m (below xs j) i l h (by lia)
    have:=t (below xs j) l (Ai _)
    lia
 have d:∀ i (h:i < xs.size),xs.getD i 0=xs[i]:=fun i h=>by simp[Array.getD,h]
 have hz:(insertAt xs (below xs j) j).size=xs.size + 1:=by unfold insertAt;simp;lia
 have a:∀ i (h:i < (insertAt xs (below xs j) j).size),(insertAt xs (below xs j) j)[i]=if i < below xs j then xs.getD i 0 else if i=below xs j then j else xs.getD (i - 1) 0:=by
  intro i h
  have h':i < xs.size + 1:=by rw[<-hz];exact h
  have v:(xs.extract 0 (below xs j)).size=below xs j:=by simp;lia
  unfold insertAt at h ⊢
  by_cases b:i < below xs j
  ·rw[if_pos b,Array.getElem_append_left (by simp;lia),Array.getElem_push_lt (by lia),d i (by lia)]
   simp
  ·rw[if_neg b]
   by_cases g:i=below xs j
   ·rw[if_pos g,Array.getElem_append_left (by simp;lia),Array.getElem_push,dif_neg (by lia)]
   ·rw[if_neg g,Array.getElem_append_right (by simp;lia),d (i - 1) (by lia)]
    simp only[Array.size_push,v,Array.getElem_extract]
    congr 1
    lia
 intro p q s r n
 rw[a p s,a q r]
 rw[hz] at s r
 by_cases b:p < below xs j
 ·rw[if_pos b,d p (by lia)]
  by_cases g:q < below xs j
  ·rw[if_pos g,d q (by lia)];exact m p q _ _ n
  ·rw[if_neg g]
   by_cases f:q=below xs j
   ·rw[if_pos f];exact b2 p _ b
   ·rw[if_neg f,d (q - 1) (by lia)]
    exact Hh (b2 p _ b) (k (q - 1) _ (by lia))
 ·rw[if_neg b,if_neg (show ¬ q < below xs j by lia),if_neg (show ¬ q=below xs j by lia),d (q - 1) (by lia)]
  by_cases f:p=below xs j
  ·rw[if_pos f];exact k (q - 1) _ (by lia)
  ·rw[if_neg f,d (p - 1) (by lia)];exact m (p - 1) (q - 1) _ _ (by lia)
def p9(t:Ho)(j:Nat):Prop:=t.place[below t.place j]?≠some j
theorem FE{t:Ho}{j:Nat}(h:t.slot j=.empty\/t.slot j=.dummy):p9 t j:=by
 intro e
 unfold SetTable.slot at h
 simp[e] at h
theorem yP{t:Ho}{f:Nat->Int}{h:Int}:∀ (fuel:Nat) (p:Probe) {j:Nat} {d:Option Nat},probe.go t f h fuel p=some (.empty j d)->(∀ x,p.dummy=some x->p9 t x)->p9 t j/\∀ x,d=some x->p9 t x
 | 0,p,j,d,e,_=>by simp[probe.go] at e
 | fuel + 1,p,j,d,e,hd=>by
  unfold probe.go at e
  have adv:∀ q:Probe,(t.advance q).dummy=q.dummy:=fun q=>by unfold advance;split <;> rfl
  cases hs:t.slot p.j with
  | empty=>
   rw[hs] at e
   simp only[Es,Met.empty.injEq] at e
   obtain⟨rfl,rfl⟩:=e
   exact⟨FE (.inl hs),hd⟩
  | dummy=>
   rw[hs] at e
   refine yP fuel _ e fun x hx=>?_
   rw[adv] at hx
   cases hx
   exact FE (.inr hs)
  | live i=>
   rw[hs] at e
   dsimp only at e
   split at e
   ·cases e
   ·exact yP fuel _ e fun x hx=>hd x (by rw[adv] at hx;exact hx)
theorem zao{t:Ho}{h:Int}{j:Nat}{b:Bool}(e:t.freeSlot h=some (j,b)):p9 t j:=by
 unfold freeSlot at e
 split at e
 ·next j' d hp=>
  simp only[Es,Dk] at e
  obtain⟨a,c⟩:=yP _ _ hp fun x f=>by simp[probeStart] at f
  cases d with
  | none=>rw[<-e.1];exact a
  | some x=>rw[<-e.1];exact c x rfl
 ·cases e
def Good(b:Bool)(t:Ho):Prop:=kW t.place/\t.led=b
theorem zap(n:Nat):kW (Array.range n):=by
 intro i j hi b a
 simpa using a
theorem tS{b:Bool}{t:Ho}(h:t.led=b)(n:Nat):Good b (t.standIn n):=⟨zap n,h⟩
theorem zaq{b:Bool}{t:Ho}(a:Good b t)(es:Array (Int×Ac))(h:Int)(x:Ac):Good b (layNew t es h x).2.1:=by
 unfold layNew
 split
 ·next j w e=>
  dsimp only
  unfold orStandIn
  split
  ·exact⟨zan a.1 (zao e),a.2⟩
  ·exact tS (t:=(t.put j).1) a.2 _
 ·exact tS a.2 _
theorem zar{b:Bool}{t:Ho}(d:Good b t)(es:Array (Int×Ac))(n:Nat):Good b (relayAll t es n).2.1:=by
 unfold relayAll
 split
 ·next t' order e=>
  dsimp only
  split
  ·unfold relaid laid at e
   simp only[Option.bind_eq_bind,Option.bind_eq_some_iff] at e
   obtain⟨owner,_,e⟩:=e
   simp only[Option.pure_def,Es,Dk] at e
   obtain⟨rfl,_⟩:=e
   refine⟨zak ?_,d.2⟩
   rw[List.map_filterMap]
   have:∀ l:List Nat,l.Pairwise (· < ·)->∀ f:Nat->Option Nat,(∀ a c,f a=some c->c=a)->(l.filterMap f).Pairwise (· < ·):=by
    intro l hl f hf
    refine List.Pairwise.filterMap (R:=(· < ·)) f (fun a i h c hc j g=>?_) hl
    rw[hf a c hc,hf i j g]
    exact h
   refine this _ List.pairwise_lt_range _ fun a c hc=>?_
   simp only[Option.map_map,Bn] at hc
   obtain⟨_,_,rfl⟩:=hc
   rfl
  ·exact tS d.2 _
 ·exact tS d.2 _
end bF
namespace bF
open PySem PyProof.Rows
def Dj(prog:Bl)(w:Cd)(es:List (Int×Ac)):Prop:=es.Pairwise fun e a=>∀ k,(En prog w).is k e.2=true->(En prog w).is k a.2=true->False
def Nz(prog:Bl)(w:Cd)(es:Array (Int×Ac))(n:Nat):Prop:=es.size<=n/\Dj prog w es.toList
theorem Dj.perm{prog:Bl}{w:Cd}{es c:List (Int×Ac)}(h:Dj prog w es)(p:c.Perm es):Dj prog w c:=p.symm.pairwise h fun q k a b=>q k b a
def fW(prog:Bl)(w:Cd)(h:Heap)(a:Addr)(S:Int->Prop)(n:Nat)(b:Bool):Prop:=
 ∃ o es ep t,h.get? a=some o/\o.ExactSet/\o.data=.set es ep t/\ElemsOf (En prog w) es.toList/\(∀ k,S k↔∃ e∈es.toList,(En prog w).is k e.2=true)/\Nz prog w es n/\t.fits es.size=true/\Good b t
section
variable {prog:Bl}{w:Cd}{A:Bu}{E:Ac->Ah->Prop}{s:Ah}{a:Addr}{b:Bool}
theorem fW.at{h h':Heap}{S:Int->Prop}{n:Nat}(x:fW prog w h a S n b)(e:∀ o,h.get? a=some o->h'.get? a=some o):fW prog w h' a S n b:=
 let ⟨o,es,ep,t,ho,r⟩:=x;⟨o,es,ep,t,e o ho,r⟩
theorem FF{o:Obj}{es c:Array (Int×Ac)}{ep:Nat}{t t':Ho}{S:Int->Prop}{n:Nat}{Q:Unit->Ah->Prop}(j:s.heap.get? a=some o)(i:o.ExactSet)(hd:o.data=.set es ep t)(l:ElemsOf (En prog w) c.toList)
  (p:∀ k,S k↔∃ e∈c.toList,(En prog w).is k e.2=true) (hz:c.size<=n) (hb:c.size < Oh) (hf:t'.fits c.size=true) (m:Good b t')
  (h:∀ h' d,Dx a s.heap h'->h'.get? a=some d->d.ExactSet->(∃ g,d.data=.set c g t')->Q () {s with heap:=h'}):Ax (Bk prog w) A (storeSet a c t') Q E s:=by
 refine wpAny_storeSet_of j hd ?_ (fits_of_scanBound hb)
 obtain⟨f,_⟩:=SetOf_store (knd:=En prog w) (S':=fun k=>c.toList.any fun e=>(En prog w).is k e.2) j i hd l (fun k=>by rw[Km]) hb hf
 exact h _ _ (Ca s.heap a (Obj.putSet c t')) f i ⟨_,rfl⟩
theorem zas{S:Int->Prop}{n:Nat}{k:Int}{x:Ac}{Q:Bool->Ah->Prop}(hk:(En prog w).is k x=true)(hc:x.scannable=true)(hS:fW prog w s.heap a S n b)(hn:n + 1 < Oh)
  (h:∀ c h',Dx a s.heap h'->fW prog w h' a (fun f=>S f\/f=k) (n + 1) b->Q c {s with heap:=h'}):Ax (Bk prog w) A (setAddHashed a x ((En prog w).hash k)) Q E s:=by
 obtain⟨o,es,ep,t,W,hx,hd,K,X,hz,hf,hg⟩:=hS
 unfold setAddHashed setAddHashedIn
 refine Cs (Aa (Fq W hd hf ?_))
 dsimp only
 have hz0:=hz.1
 rw[byScan_of hc (by lia) K]
 simp only[↓reduceIte]
 unfold setAddByScan
 refine Aa (Aa (Ei (Aa (wpAny_setScan_of hk W hd hf K ?_))))
 cases hr:List.findIdx? (fun e=>(En prog w).is k e.2) es.toList with
 | some j=>
  obtain⟨hj,hpj,_⟩:=List.findIdx?_eq_some_iff_getElem.mp hr
  have hSk:S k:=(X k).mpr ⟨es.toList[j],List.getElem_mem hj,hpj⟩
  refine Ag (Ag ?_)
  exact h false s.heap (Heap.SameBut.refl a s.heap) ⟨o,es,ep,t,W,hx,hd,K,fun f=>⟨fun q=>(X f).mp (q.elim id fun e=>e ▸ hSk),fun q=>.inl ((X f).mpr q)⟩,⟨by have:=hz.1;lia,hz.2⟩,hf,hg⟩
 | none=>
  dsimp only
  have H:=layNew_perm t es ((En prog w).hash k) x
  have hl:=layNew_fits t es ((En prog w).hash k) x
  have u:=zaq hg es ((En prog w).hash k) x
  generalize layNew t es ((En prog w).hash k) x=L at H hl u ⊢
  obtain⟨i,t1,wd,gv⟩:=L
  dsimp only at H hl u ⊢
  rw[Array.toList_push] at H
  have C:ElemsOf (En prog w) i.toList:=(K.push hk hc).perm H
  have hz1:i.size=es.size + 1:=by rw[<-Bv,H.length_eq,Aw,Bv];rfl
  have I:∀ f,(S f\/f=k)↔∃ e∈i.toList,(En prog w).is f e.2=true:=fun f=>by
   have q:=mem_push_iff (S:=fun k=>es.toList.any fun e=>(En prog w).is k e.2) hk (fun f=>by rw[Km]) H f
   rw[<-q,Bool.or_eq_true,decide_eq_true_eq,Km,X f]
  have P:Dj prog w i.toList:=Dj.perm (Ct.mpr ⟨hz.2,Mh _ _,fun e K e' he' k1 a1 a2=>by
   cases Az.mp he'
   have:k1=k:=of_decide_eq_true ((KeyKind.is_eq_decide hk k1).symm.trans a2)
   subst this
   have:=List.findIdx?_eq_none_iff.mp hr e K
   rw[a1] at this
   cases this⟩) H
  have gw:∀ (c:Bool) {d:Ah} {v:Unit->Ah->Prop},v () d->Ax (Bk prog w) A (match c with | true=>rule "set.scan.the-table-gave-way" | false=>pure ()) v E d:=
   fun c d v q=>by cases c <;> first | exact Ag q | exact Ei q
  refine Aa (gw _ ?_)
  have fin:∀ l:Ho,l.fits i.size=true->Good b l->∀ h' O,Dx a s.heap h'->h'.get? a=some O->O.ExactSet->(∃ J,O.data=.set i J l)->fW prog w h' a (fun f=>S f\/f=k) (n + 1) b:=
   fun l z p h' O _ V Z ⟨J,h3⟩=>⟨O,i,J,l,V,Z,h3,C,I,⟨by lia,P⟩,z,p⟩
  have hb1:i.size < Oh:=by lia
  have tl:∀ {l:Ho} {R:Option Bool->Ah->Prop} {g:Bool->Sem Unit},(∀ (c:Bool) (d:Ah) (v:Unit->Ah->Prop),v () d->Ax (Bk prog w) A (g c) v E d)->l.fits i.size=true->Good b l->
    (∀ h',Dx a s.heap h'->fW prog w h' a (fun f=>S f\/f=k) (n + 1) b->R (some true) {s with heap:=h'})->Ax (Bk prog w) A (do
     storeSet a i l
     if (!wd && l.tooFull)=true then do
       g (relayAll l i (Ik i.size)).2.2
       storeSet a (relayAll l i (Ik i.size)).1 (relayAll l i (Ik i.size)).2.1
       pure (some true)
      else pure (some true)) R E s:=by
   intro l R g hgo z p hR
   refine Aa (FF (S:=fun f=>S f\/f=k) (n:=n + 1) W hx hd C I (by lia) hb1 z p fun V o1 F U N D=>?_)
   obtain⟨ep1,D⟩:=D
   split
   ·have m:=relayAll_perm l i (Ik i.size)
    have B:=relayAll_fits l i (Ik i.size)
    have y:=zar p i (Ik i.size)
    generalize relayAll l i (Ik i.size)=L2 at m B y ⊢
    obtain⟨e2,t3,gv2⟩:=L2
    dsimp only at m B y ⊢
    have hz2:e2.size=i.size:=by rw[<-Bv,m.length_eq,Bv]
    have M:∀ f,(S f\/f=k)↔∃ e∈e2.toList,(En prog w).is f e.2=true:=fun f=>(I f).trans ⟨fun⟨e,q1,q2⟩=>⟨e,m.mem_iff.mpr q1,q2⟩,fun⟨e,q1,q2⟩=>⟨e,m.mem_iff.mp q1,q2⟩⟩
    refine Aa (hgo _ _ _ ?_)
    refine Aa (FF (s:={s with heap:=V}) (S:=fun f=>S f\/f=k) (n:=n + 1) U N D (C.perm m) M (by lia) (by lia) B y fun Z o2 sb2 ho2 hx2 G=>Ag ?_)
    obtain⟨Y,G⟩:=G
    exact hR Z (F.trans sb2) ⟨o2,e2,Y,t3,ho2,hx2,G,C.perm m,M,⟨by lia,P.perm m⟩,B,y⟩
   ·exact Ag (hR V F (fin l z p V o1 F U N ⟨ep1,D⟩))
  have T:∀ (c:Bool) (d:Ah) (v:Unit->Ah->Prop),v () d->Ax (Bk prog w) A (match c with | true=>rule "set.scan.the-table-gave-way" | false=>pure ()) v E d:=fun c d v q=>gw c q
  split
  ·refine Aa ?_
   rw[hashByValue_scannable 8 hc]
   refine Ag (tl T ?_ ?_ fun h' sb r=>Ag (h true h' sb r))
   ·split
    ·exact hl
    ·exact SetTable.fits_plain_off hl
   ·split
    ·exact u
    ·exact u
  ·refine Aa (Ag ?_)
   simp only[↓reduceIte]
   exact tl T hl u fun h' sb r=>Ag (h true h' sb r)
end
def jC(w:Cd):Bool:=!w.params.followText "set-order"
abbrev jY(w:Cd):Obj:={cls:=.type "set",dict:=none,data:=.set #[] 0 (.fresh 0 0 (jC w))}
section
variable {prog:Bl}{w:Cd}{A:Bu}{E:Ac->Ah->Prop}{s:Ah}
theorem zat{h:Heap}{a:Addr}(e:h.get? a=some (jY w)):fW prog w h a (fun _=>False) 0 (jC w):=
 ⟨_,#[],0,_,e,⟨rfl,rfl,rfl⟩,rfl,fun e b=>by simp at b,fun k=>by simp,⟨Ai _,.nil⟩,by rfl,fun i j hi=>by simp[SetTable.fresh] at hi,rfl⟩
theorem zau(a:Ac){Q₁:Ac->Ah->Prop}(h:Q₁ (.ref s.heap.objs.size) {s with heap:=s.heap.push (jY w)}) :
  Jv (Bk prog w) A (.call (.builtin "set.__new__") ⟨[.type "set",a],[]⟩) (wants Q₁ E) s:=by
 refine codeAny_of_tree ?_
 show Ax _ A.in1 (checkBuiltinCall "set.__new__" ⟨[.type "set",a],[]⟩ >>= fun _=>again (.builtin "set.__new__" ⟨[.type "set",a],[]⟩)) _ _ s
 refine Aa (wpAny_of_eq (F.newCall_set_1 a) (Ag ⟨Hw F.plain_set_new _,Fv F.entry_set_new ?_⟩))
 rw[Em F.plain_set_new _]
 unfold Hg.«set.__new__» Builtin.Frozenset.newClass
 have b:=sub_set_self
 obtain⟨c,g,d,tk,os⟩:=s
 dsimp only
 wp_walk
 refine Fm (Ag ?_)
 dsimp only
 simp only[newObj]
 exact Aa (wpAny_alloc (Ag (Ag h)))
end
section
variable {prog:Bl}{w:Cd}{A:Bu}{R:Result->Ah->Prop}{I:Addr}{fp wr:List Addr}{G:Array GenState->Array GenState->Prop}{n:Nat}{P:Nat->Ac->Prop}{St:Nat->Ah->Prop}{b:Bool}
theorem zav(W:WalksS prog w A.in1 I fp wr G n P St)(S:Addr)(q:S∉fp)(val:Nat->Int)(D:∀ i v,P i v->∃ t,v=.int (val i) t)(hb:n + 1 < Oh):∀ (k i:Nat) (s:Ah),n - i=k->i<=n->St i s->
  fW prog w s.heap S (fun x=>∃ j,j < i/\x=val j) i b->(∀ a,Moved (S :: wr) G s a->fW prog w a.heap S (fun x=>∃ j,j < n/\x=val j) n b->R (.ok (.ret .none)) a)->
  Jv (Bk prog w) A (.builtin "set.update.loop" ⟨[.ref S,.ref I],[]⟩) R s:=by
 have B:S∉wr:=fun h=>q (W.sub _ h)
 have sb:∀ c∈wr,c∈S :: wr:=fun c hc=>Bd _ hc
 intro k
 induction k with
 | zero=>
  intro i s hk hi d z hR
  cases (show i=n by lia)
  refine Fv F.entry_set_update_loop ?_
  rw[Em Mz _]
  refine Aa (W.done s _ _ d fun a g=>?_)
  exact Ag (hR a (g.mono sb) (z.at fun o e=>g.heap S o B e))
 | succ k E=>
  intro i s hk hi d z hR
  refine Fv F.entry_set_update_loop ?_
  rw[Em Mz _]
  refine Aa (W.item i s _ _ (by lia) d fun v a L f g=>?_)
  obtain⟨t,rfl⟩:=D i v L
  show Ax _ A.in1 (Iq [Value.int (val i) t] (setAdd S (.int (val i) t)) >>= _) _ _ a
  refine Aa (Cs ?_)
  unfold setAdd
  refine Cs (Aa ((En prog w).pyHash (k:=val i) (intKind_is _ _ _ _) ?_))
  refine zas (b:=b) (s:={a with toks:=a.toks + 1}) (intKind_is _ _ _ _) rfl (z.at fun o e=>g.heap S o B e) (by lia) fun c h' m r=>?_
  have u:fW prog w h' S (fun x=>∃ j,j < i + 1/\x=val j) (i + 1) b:=by
   obtain⟨o,es,ep,C,H,N,Q,O,K,M⟩:=r
   refine⟨o,es,ep,C,H,N,Q,O,fun x=>(show _↔_ from ?_).trans (K x),M⟩
   constructor
   ·rintro⟨j,J,rfl⟩
    by_cases e:j=i
    ·exact .inr (by rw[e])
    ·exact .inl ⟨j,by lia,rfl⟩
   ·rintro(⟨j,J,rfl⟩ | rfl)
    ·exact⟨j,by lia,rfl⟩
    ·exact⟨i,by lia,rfl⟩
  refine Ag ⟨Hw Mz _,E (i + 1) _ (by lia) (by lia) (W.frame _ a _ _ f (Lb _) fun c hc o e=>?_) u fun y p l=>?_⟩
  ·rw[m.2 c (fun h:c=S=>q (by rw[<-h];exact hc))];exact e
  ·refine hR y (Moved.trans W.gtrans ((g.mono sb).then_heap (Lb _) fun c o hc e=>?_) p) l
   rw[m.2 c (fun h:c=S=>hc (by rw[h];exact Bg))];exact e
end
section
variable {prog:Bl}{w:Cd}{A:Bu}{E:Ac->Ah->Prop}{s:Ah}
theorem zaw{l:Addr}{items:Array Ac}{ns:List Int}{Q:Ac->Ah->Prop}(hh:A.handled=none)(hl:s.heap.IsList l items)(hi:Iv items.toList ns)(hb:items.size + 1 < Oh)
  (h:∀ (h':Heap) (tk:Nat),fW prog w h' s.heap.objs.size (fun x=>x∈ns) items.size (jC w)->(∀ c o,c < s.heap.objs.size->s.heap.get? c=some o->h'.get? c=some o)->Q (.ref s.heap.objs.size) {s with heap:=h',toks:=tk}) :
  Ax (Bk prog w) A (call (.type "set") [.ref l]) Q E s:=by
 obtain⟨c,ml0,mr0⟩:=Jp.mro
 have md0:=Jp.made
 have hsub:=Jp.sub
 refine wpAny_call (codeAny_of_tree ?_)
 show Ax _ _ (callAny (.type "set") _) _ _ _
 refine Ag ⟨Code.quiet_builtin _ (by decide +kernel),Fv F.entry_type_call ?_⟩
 rw[Around.under_plain (weight_type_call_type "set" [.ref l] []) rfl]
 have h1:=Jp.notType
 have h2:=Jp.canCreate
 have tc0:=F.typeCall_set_1 (.ref l)
 repeat (any_goals (first | assumption | wp_step))
 refine Ks (zau (w:=w) (.ref l) (E:=E) (Q₁:=fun obj s₁=>obj=.ref s.heap.objs.size/\s₁ = {s with heap:=s.heap.push (jY w)}) ⟨rfl,rfl⟩) fun r s₁ hr=>?_
 cases r with
 | error e=>exact hr
 | ok fl=>
  cases fl with
  | ret obj=>
   obtain⟨rfl,rfl⟩:=hr
   have hS:(s.heap.push (jY w)).get? s.heap.objs.size=some (jY w):=Ap _ rfl
   have hT:Shared.TypeIs {s with heap:=s.heap.push (jY w)} (.ref s.heap.objs.size) "set":=⟨_,hS,rfl⟩
   have in1:=Jp.init.lookup
   have in2:=Jp.init.bind (.ref s.heap.objs.size)
   repeat (any_goals (first | assumption | wp_step))
   refine Ks (codeAny_call_builtin (R:=wants (fun r s₂=>r=.none/\∃ h' tk,s₂ = {s with heap:=h',toks:=tk}/\fW prog w h' s.heap.objs.size (fun x=>x∈ns) items.size (jC w)/\(∀ c o,c < s.heap.objs.size->s.heap.get? c=some o->h'.get? c=some o)) E)
    Jp.init.plain F.entry_set_init (check_set_init_1 hT ?_)) fun r₂ s₂ rz=>?_
   ·have hlt:l < s.heap.objs.size:=by obtain⟨ol,hol,_⟩:=hl;exact Ak hol
    have hl1:(s.heap.push (jY w)).IsList l items:=hl.push _
    obtain⟨ol,hol,hcl,nl,hdl⟩:=id hl1
    obtain⟨oc,od,oda,os⟩:=ol
    simp only at hcl hdl
    subst hcl;subst hdl
    have sl1:=F.sub_list_set
    have sl2:=F.sub_list_frozenset
    have nld:(Value.type "list" == Value.type "dict")=false:=by decide
    unfold Hg.«set.__init__» noKeywords Builtin.Frozenset.updateFrom
    generalize hPI:Oe=PI
    wp_walk
    subst hPI
    refine Jh hl1 (Aa (wpAny_runValue ?_))
    have hd3:A.in1.in1.in1.handled=none:=by simp[hh]
    have hsz:(s.heap.push (jY w)).objs.size=s.heap.objs.size + 1:=Dr _ _
    have ni:l≠(s.heap.push (jY w)).objs.size:=by rw[hsz];exact Be (Hi hlt)
    have nf:s.heap.objs.size∉[(s.heap.push (jY w)).objs.size,l]:=by
     simp only[Ba,Ew,or_false,not_or]
     exact⟨by rw[hsz];exact Be (Hx _),Dy hlt⟩
    have vl:∀ (i:Nat) (v:Ac),items[i]? = some v->∃ t,v=.int ((fun i=>ns.getD i 0) i) t:=fun i v hv=>IntsAre.int_at hi i v (by rw[Ds];exact hv)
    refine zav (b:=jC w) ((Mo hd3 _ l ni items).toS) s.heap.objs.size nf (fun i=>ns.getD i 0) vl hb (items.size - 0) 0 _ (by lia) (Bx _) ⟨⟨_,Ap _ rfl,rfl,rfl⟩,hl1.push _⟩ ?hS0 ?hR
    case hS0=>
     obtain⟨o,es,ep,tb,q1,q2,q3,q4,q5,q6⟩:=zat (prog:=prog) (Af {cls:=.type "list_iterator",data:=.fields #[.ref l,.int 0 0]} hS)
     exact⟨o,es,ep,tb,q1,q2,q3,q4,fun x=>⟨fun⟨j,hj,_⟩=>by lia,fun q=>((q5 x).mpr q).elim⟩,q6⟩
    case hR=>
     intro s' hm hS'
     obtain⟨h',g',d',tk',os'⟩:=s'
     cases (show g'=s.gens from hm.gens)
     cases (show d'=s.drawn from hm.drawn)
     cases (show os'=s.os from hm.os)
     refine Ag (Ag ⟨rfl,h',tk',rfl,?_,fun c o hc e=>hm.heap c o ?_ (Af _ (Af _ e))⟩)
     ·have hlen:items.size=ns.length:=by
       have:∀ {vs:List Ac} {ns:List Int},Iv vs ns->vs.length=ns.length:=by
        intro vs ns q
        induction q with
        | nil=>rfl
        | cons _ _ _ ih=>simp[ih]
       rw[<-this hi,Bv]
      obtain⟨o,es,ep,tb,q1,q2,q3,q4,q5,q6⟩:=hS'
      refine⟨o,es,ep,tb,q1,q2,q3,q4,fun x=>(show _↔_ from ?_).trans (q5 x),q6⟩
      constructor
      ·intro hx
       obtain⟨j,hj,e⟩:=Hf.mp hx
       exact⟨j,by lia,by simp[hj,e]⟩
      ·rintro⟨j,hj,rfl⟩
       have:j < ns.length:=by lia
       simp[this]
     ·simp only[Ba,Ew,or_false,not_or]
      exact⟨Be hc,by rw[hsz];exact Be (Hi hc)⟩
   ·cases r₂ with
    | error e=>exact rz
    | ok fl₂=>
     cases fl₂ with
     | ret r=>
      obtain⟨rfl,h',tk,rfl,hS',kz⟩:=rz
      repeat (any_goals (first | assumption | wp_step))
      exact h _ _ hS' kz
     | _=>exact rz.elim
  | _=>exact hr.elim
end
end bF
namespace bF
open PySem
theorem yQ{a:Type}:∀ {l:List a} {i:Nat} (h:i < l.length),(l[i] :: l.eraseIdx i).Perm l
 | x :: l,0,_=>List.Perm.refl _
 | x :: l,i + 1,h=>by
  have:=yQ (l:=l) (i:=i) (by simpa using h)
  exact(List.Perm.swap _ _ _).trans (this.cons x)
theorem FG{b:Type}{next:Nat->Nat}:∀ (a k:Nat) (left:List b) (out:Array b),a=left.length->(pickOrder.go next a k left out).toList.Perm (out.toList ++ left)
 | 0,k,left,out,h=>by
  cases left with
  | nil=>simp[pickOrder.go]
  | cons _ _=>simp at h
 | a + 1,k,left,out,h=>by
  have hi:next k % left.length < left.length:=Nat.mod_lt _ (by lia)
  unfold pickOrder.go
  rw[Am hi]
  dsimp only
  refine(FG a (k + 1) _ _ (by rw[List.length_eraseIdx,if_pos hi];lia)).trans ?_
  rw[Array.toList_push,Ce]
  exact Cw _ (yQ hi)
theorem tT{a:Type}(next:Nat->Nat)(xs:Array a):(Lx next xs).toList.Perm xs.toList:=by
 have:=FG (next:=next) xs.size 0 xs.toList #[] (by simp)
 show(pickOrder.go next xs.size 0 xs.toList #[]).toList.Perm _
 simpa using this
section
variable {M:Mu}{A:Bu}{E:Ac->Ah->Prop}
theorem zax{src:Source}{n:Nat}{s:Ah}{Q:Nat->Ah->Prop}(a:n≠0)(h:∀ i d,i < n->Q i {s with drawn:=d}):Ax M A (choose src n) Q E s:=fun b p _=>by
 unfold choose
 rw[Sem.wp_choose]
 exact⟨a,by rw[Sem.wp_pure];exact h _ _ (Nat.mod_lt _ (Nat.pos_of_ne_zero a))⟩
theorem FH{b:Type}:∀ {n:Nat} {xs:List b} {s:Ah} {Q:List b->Ah->Prop},n=xs.length->(∀ ys d,ys.Perm xs->Q ys {s with drawn:=d})->Ax M A (drawOrder n xs) Q E s
 | 0,xs,s,Q,a,h=>by
  cases xs with
  | nil=>unfold drawOrder;exact Ag (h [] s.drawn (List.Perm.refl _))
  | cons _ _=>simp at a
 | n + 1,[],s,Q,a,h=>by simp at a
 | n + 1,x :: xs,s,Q,a,h=>by
  unfold drawOrder
  refine Aa (zax (by simp) fun i d hi=>?_)
  rw[Am hi]
  dsimp only
  refine Aa (FH (by rw[List.length_eraseIdx,if_pos hi];simpa using a) fun ys d' c=>Ag (h _ d' ((c.cons _).trans (yQ hi))))
end
end bF
namespace bF
open PySem PySem.Calls PyProof.Rows
theorem m8:Slot "set_iterator" "__next__" "set_iterator.__next__":=
 .of (owner:="set_iterator") (n:="__next__") (by rw[Lm,Je];kernel_rfl) (by decide +kernel) (by decide +kernel) (by decide +kernel)
  (by first | exact .inl (by decide +kernel) | exact .inr (by decide +kernel)) (by rw[Mb];kernel_rfl)
theorem FJ:entryFor table "set_iterator.__next__" = some Hg.«set_iterator.__next__»:=entryFor_of_tree (by kernel_rfl)
theorem FK(a:Ac):argsOk "set_iterator.__next__" ⟨[a],[]⟩:=by unfold argsOk;kernel_rfl
theorem FN:Slot "set" "__iter__" "set.__iter__":=
 .of (owner:="set") (n:="__iter__") (by rw[Lm,Je];kernel_rfl) (by decide +kernel) (by decide +kernel) (by decide +kernel)
  (by first | exact .inl (by decide +kernel) | exact .inr (by decide +kernel)) (by rw[Mb];kernel_rfl)
theorem zay:entryFor table "set.__iter__" = some Hg.«frozenset.__iter__»:=entryFor_alias (id':="frozenset.__iter__") (by kernel_rfl) rfl (by decide +kernel) (by kernel_rfl)
theorem zaz(a:Ac):argsOk "set.__iter__" ⟨[a],[]⟩:=by unfold argsOk;kernel_rfl
abbrev qA(w:Cd):Bool:=w.params.followText "set-order"
def Drawn(es:Array (Int×Ac))(t:Ho):Bool:=!t.plain && es.size > 1
def zaA(w:Cd)(h:Heap)(a:Addr)(es:Array (Int×Ac))(ep:Nat)(t:Ho)(vals:List Ac)(bs:List Addr)(first:Ac)(i:Nat):Prop:=
 (qA w=true/\(∃ k u,first=.int k u)/\vals=(Lx (w.params.setOrder a ep) es).toList.map (·.2))\/
 (qA w=false/\Drawn es t=false/\Good true t/\(∃ (k:Nat) (u:Tok),first=.int k u/\SetTable.below t.place k=i)/\vals=es.toList.map (·.2))\/
 (qA w=false/\∃ (b:Addr) (o:Obj) (js:List Nat) (m:Nat),first=.ref b/\b∈bs/\h.get? b=some o/\o.cls=.type "tuple"/\o.data=.seq (js.map fun(j:Nat)=>Gv j).toArray m/\(∀ j∈js,j < es.size)/\js.length=es.size/\vals=js.map fun j=>(es.getD j (0,.none)).2)
structure jD(w:Cd)(h:Heap)(I a:Addr)(es:Array (Int×Ac))(ep:Nat)(t:Ho)(vals:List Ac)(bs:List Addr)(i:Nat):Prop where
 it:∃ o first,h.get? I=some o/\o.cls=.type "set_iterator"/\o.data=.fields #[first,Gv i,.ref a,Gv es.size,Gv ep]/\zaA w h a es ep t vals bs first i
 set:∃ o,h.get? a=some o/\o.ExactSet/\o.data=.set es ep t/\t.fits es.size=true
 ne:I≠a
 len:vals.length=es.size
section
variable {prog:Bl}{w:Cd}{A:Bu}{E:Ac->Ah->Prop}{s:Ah}{I a:Addr}{es:Array (Int×Ac)}{ep:Nat}{t:Ho}{vals:List Ac}{bs:List Addr}{i:Nat}
theorem jD.typeIs(h:jD w s.heap I a es ep t vals bs i):s.TypeIs (.ref I) "set_iterator":=let ⟨o,f,ho,hc,_⟩:=h.it;⟨o,ho,hc⟩
theorem oB{h:Heap}{o:Obj}{fs:Array Ac}(b:h.get? I=some o)(hc:o.cls=.type "set_iterator")(hd:o.data=.fields fs)(k:Nat)(v:Ac) :
  ∃ a,(h.update I (Et (·.setIfInBounds k v))).get? I=some a/\a.cls=.type "set_iterator"/\a.data=.fields (fs.setIfInBounds k v):=
 ⟨_,Fc _ b (Nh (Ib hd _)),(Obj.cls_mapFields ..).trans hc,by rw[Ib hd]⟩
theorem next_item{Q:Option Ac->Ah->Prop}(h:jD w s.heap I a es ep t vals bs i)(hi:i < vals.length)
  (N:∀ h',jD w h' I a es ep t vals bs (i + 1)->Dx I s.heap h'->Q (some vals[i]) {s with heap:=h'}):Ax (Bk prog w) A (Hz (.ref I)) Q E s:=by
 have U:=h.typeIs
 obtain⟨⟨o,first,n,hc,hd,Z⟩,⟨oa,e,R,f,d⟩,p,l⟩:=h
 unfold Hz
 refine Aa (Kd (Ee (name:=Cz "__next__") U m8 (De m8 U FJ ?_ (FK _))))
 unfold Hg.«set_iterator.__next__»
 refine Aa (Ag (Aa (Od n hd ?_)))
 dsimp only[Gv]
 refine Aa (Oj e f d ?_)
 rw[if_neg (by simp)]
 have put:∀ {h':Heap},Dx I s.heap h'->∃ o,h'.get? a=some o/\o.ExactSet/\o.data=.set es ep t/\t.fits es.size=true:=fun sb=>⟨oa,(sb.2 a (Bq p)).trans e,R,f,d⟩
 rcases Z with⟨r,⟨k,u,rfl⟩,q⟩ | ⟨r,F,T,⟨k,u,rfl,hk⟩,q⟩ | ⟨r,b,ob,js,m,rfl,O,P,X,M,W,h5,q⟩
 ·have K:i < (Lx (w.params.setOrder a ep) es).size:=by
   have:=(tT (w.params.setOrder a ep) es).length_eq
   rw[Bv,Bv] at this
   lia
  have v:(Lx (w.params.setOrder a ep) es)[i]? = some (Lx (w.params.setOrder a ep) es)[i]:=getElem?_pos _ i K
  have C:vals[i]=((Lx (w.params.setOrder a ep) es)[i]).2:=by simp[q]
  dsimp only
  unfold setNext
  refine Aa (Aa (Fq e f d ?_))
  unfold Ma
  refine Aa (Aa (Fm (Ag ?_)))
  refine Dh (fun _=>?_) fun c=>(c r).elim
  refine Dh (fun c=>by simp at c) fun _=>?_
  unfold setWalk
  refine Aa (Aa (Fq e f d ?_))
  unfold Ma
  refine Aa (Aa (Fm (Ag ?_)))
  refine Dh (fun _=>?_) fun c=>(c r).elim
  refine Aa (Fm (Ag (Ag ?_)))
  rw[Cj]
  erw [v]
  dsimp only[Kx]
  obtain⟨Y,B,S,G⟩:=oB n hc hd 0 (.int ((k.toNat:Nat):Int) 0)
  refine Aa (Ex n hd (by simp) (Aa (Ex (s:={s with heap:=s.heap.update I (Et (·.setIfInBounds 0 (.int ((k.toNat:Nat):Int) 0)))}) B G (by simp) (Ag ?_))))
  obtain⟨D,y,J,H⟩:=oB B S G 1 (.int ((i:Int) + 1) 0)
  have sb:=(Ca s.heap I (Et (·.setIfInBounds 0 (.int ((k.toNat:Nat):Int) 0)))).trans (Ca _ I (Et (·.setIfInBounds 1 (.int ((i:Int) + 1) 0))))
  refine⟨_,rfl,Ag ?_⟩
  rw[<-C]
  exact N _ ⟨⟨D,.int ((k.toNat:Nat):Int) 0,y,J,by rw[H];simp[Gv],.inl ⟨r,⟨_,_,rfl⟩,q⟩⟩,put sb,p,l⟩ sb
 ·have iR:i < es.size:=by lia
  have hps:t.place.size=es.size:=by
   simp only[SetTable.fits,Cr,beq_iff_eq] at d
   exact d.1
  have x:i < t.place.size:=by lia
  have C:vals[i]=es[i].2:=by simp[q]
  dsimp only
  unfold setNext
  refine Aa (Aa (Fq e f d ?_))
  unfold Ma
  refine Aa (Aa (Fm (Ag ?_)))
  refine Dh (fun c=>absurd (Eq.trans (Eq.symm r) c) Ao) fun _=>?_
  refine Dh (fun c=>absurd (Eq.trans (Eq.symm F) c) Ao) fun _=>?_
  refine Aa (Dh (fun c=>by rw[T.2] at c;simp at c) fun _=>Ag ?_)
  refine Ag ?_
  rw[Cj,hk,getElem?_pos es i iR,getElem?_pos t.place i x]
  dsimp only
  obtain⟨Y,B,S,G⟩:=oB n hc hd 0 (.int (((t.place[i] + 1:Nat)):Int) 0)
  refine Aa (Ex n hd (by simp) (Aa (Ex (s:={s with heap:=s.heap.update I (Et (·.setIfInBounds 0 (.int (((t.place[i] + 1:Nat)):Int) 0)))}) B G (by simp) (Ag ?_))))
  obtain⟨D,y,J,H⟩:=oB B S G 1 (.int ((i:Int) + 1) 0)
  have sb:=(Ca s.heap I (Et (·.setIfInBounds 0 (.int (((t.place[i] + 1:Nat)):Int) 0)))).trans (Ca _ I (Et (·.setIfInBounds 1 (.int ((i:Int) + 1) 0))))
  refine⟨_,rfl,Ag ?_⟩
  rw[<-C]
  exact N _ ⟨⟨D,.int (((t.place[i] + 1:Nat)):Int) 0,y,J,by rw[H];simp[Gv],.inr (.inl ⟨r,F,T,⟨_,_,rfl,zal T.1 x⟩,q⟩)⟩,put sb,p,l⟩ sb
 ·have iR:i < js.length:=by lia
  have V:js[i] < es.size:=W _ (List.getElem_mem iR)
  have C:vals[i]=es[js[i]].2:=by simp[q,Array.getD,V]
  have L:b≠I:=fun z=>by subst z;rw[P] at n;cases n;rw[M] at hd;cases hd
  dsimp only
  unfold seqItems?
  refine Aa (Aa (wpAny_load P ?_))
  rw[M]
  refine Ag ?_
  dsimp only
  have v:(js.map fun(j:Nat)=>Gv j).toArray[((i:Nat):Int).toNat]? = some (.int (js[i]:Nat) 0):=by
   rw[Cj,List.getElem?_toArray,Bi,Am iR]
   rfl
  rw[v]
  dsimp only
  unfold setNextDrawn
  refine Aa (Aa (Fq e f d ?_))
  refine Dh (fun c=>by simp at c) fun _=>?_
  rw[Cj,getElem?_pos es js[i] V]
  refine Ag ?_
  obtain⟨D,y,J,H⟩:=oB n hc hd 1 (.int ((i:Int) + 1) 0)
  have sb:=Ca s.heap I (Et (·.setIfInBounds 1 (.int ((i:Int) + 1) 0)))
  refine Aa (Ex n hd (by simp) (Ag ⟨_,rfl,Ag ?_⟩))
  have g:=N _ ⟨⟨D,.ref b,y,J,by rw[H];simp[Gv],.inr (.inr ⟨r,b,ob,js,m,rfl,O,(sb.2 b L).trans P,X,M,W,h5,q⟩)⟩,put sb,p,l⟩ sb
  rw[C] at g
  exact g
theorem yR{Q:Option Ac->Ah->Prop}(f:A.handled=none)(h:∀ h',(∀ b o,s.heap.get? b=some o->h'.get? b=some o)->Q none {s with heap:=h'}) :
  Ax (Bk prog w) A.in1 (newExc (.type "StopIteration") [] >>= fun e=>raiseNew e) (fun(fin:PySem.Fin) d=>∃ v,fin=Fin.done (Flow.ret v)/\Ax (Bk prog w) A (pure (some v)) Q E d)
   (fun e d=>Ax (Bk prog w) A (isInstance e (.type "StopIteration") >>= fun c=>if c=true then pure none else throw e) Q E d) s:=by
 refine Aa ?_
 simp only[newExc,newTuple]
 refine Aa (Dd (Aa (m:=Kr _ _) (wpAny_of_eq (a:=Value.none) (by first | rfl | (simp only[Kr];rfl)) (Dd ?_ (by size_fits)))) (by size_fits))
 simp only[raiseNew]
 refine Aa (wpAny_handled ?_)
 rw[show A.in1.handled=none from f]
 refine Aa (Ag (wpAny_throw ?_))
 refine Aa (Jt (T:="StopIteration") (b:=true) ⟨_,Ap _ rfl,rfl⟩ isSubtype_stop ?_)
 exact Ag (h _ fun b o e=>Af _ (Af _ e))
theorem zaB{Q:Option Ac->Ah->Prop}(v:A.handled=none)(h:jD w s.heap I a es ep t vals bs i)(hi:vals.length<=i)
  (r:∀ h',(∀ b o,b≠I->s.heap.get? b=some o->h'.get? b=some o)->Q none {s with heap:=h'}):Ax (Bk prog w) A (Hz (.ref I)) Q E s:=by
 have y:=h.typeIs
 obtain⟨⟨o,first,p,hc,hd,F⟩,⟨oa,f,L,g,d⟩,K,B⟩:=h
 unfold Hz
 refine Aa (Kd (Ee (name:=Cz "__next__") y m8 (De m8 y FJ ?_ (FK _))))
 unfold Hg.«set_iterator.__next__»
 refine Aa (Ag (Aa (Od p hd ?_)))
 dsimp only[Gv]
 refine Aa (Oj f g d ?_)
 rw[if_neg (by simp)]
 have l:∀ {h':Heap},Dx I s.heap h'->∀ b o,b≠I->s.heap.get? b=some o->h'.get? b=some o:=fun sb b o hb e=>(sb.2 b hb).trans e
 rcases F with⟨q,⟨k,u,rfl⟩,z⟩ | ⟨q,x,M,⟨k,u,rfl,hk⟩,z⟩ | ⟨q,b,ob,js,m,rfl,H,J,O,C,R,S,z⟩
 ·have n:(Lx (w.params.setOrder a ep) es)[i]? = none:=by
   have:=(tT (w.params.setOrder a ep) es).length_eq
   rw[Bv,Bv] at this
   exact getElem?_neg _ i (by lia)
  dsimp only
  unfold setNext
  refine Aa (Aa (Fq f g d ?_))
  unfold Ma
  refine Aa (Aa (Fm (Ag ?_)))
  refine Dh (fun _=>?_) fun c=>(c q).elim
  refine Dh (fun c=>by simp at c) fun _=>?_
  unfold setWalk
  refine Aa (Aa (Fq f g d ?_))
  unfold Ma
  refine Aa (Aa (Fm (Ag ?_)))
  refine Dh (fun _=>?_) fun c=>(c q).elim
  refine Aa (Fm (Ag (Ag ?_)))
  rw[Cj]
  erw [n]
  dsimp only[Option.map_none]
  have sb:=Ca s.heap I (Et (·.setIfInBounds 2 Value.none))
  exact Aa (Ex p hd (by simp) (yR (s:={s with heap:=_}) v fun h' kp=>r h' fun b o hb e=>kp b o (l sb b o hb e)))
 ·have G:t.place.size=es.size:=by
   simp only[SetTable.fits,Cr,beq_iff_eq] at d
   exact d.1
  dsimp only
  unfold setNext
  refine Aa (Aa (Fq f g d ?_))
  unfold Ma
  refine Aa (Aa (Fm (Ag ?_)))
  refine Dh (fun c=>absurd (Eq.trans (Eq.symm q) c) Ao) fun _=>?_
  refine Dh (fun c=>absurd (Eq.trans (Eq.symm x) c) Ao) fun _=>?_
  refine Aa (Dh (fun c=>by rw[M.2] at c;simp at c) fun _=>Ag ?_)
  refine Ag ?_
  rw[Cj,hk,getElem?_neg es i (by lia)]
  dsimp only
  have sb:=Ca s.heap I (Et (·.setIfInBounds 2 Value.none))
  exact Aa (Ex p hd (by simp) (yR (s:={s with heap:=_}) v fun h' kp=>r h' fun b o hb e=>kp b o (l sb b o hb e)))
 ·dsimp only
  unfold seqItems?
  refine Aa (Aa (wpAny_load J ?_))
  rw[C]
  refine Ag ?_
  dsimp only
  have n:(js.map fun(j:Nat)=>Gv j).toArray[((i:Nat):Int).toNat]? = none:=by
   rw[Cj,List.getElem?_toArray]
   exact Im (by rw[Ab];lia)
  rw[n]
  dsimp only
  obtain⟨P,D,T,N⟩:=oB p hc hd 0 (.int 0 0)
  have sb:=(Ca s.heap I (Et (·.setIfInBounds 0 (Value.int 0 0)))).trans (Ca _ I (Et (·.setIfInBounds 2 Value.none)))
  exact Aa (Ex p hd (by simp) (Aa (Ex (s:={s with heap:=_}) D N (by simp) (yR (s:={s with heap:=_}) v fun h' kp=>r h' fun b o hb e=>kp b o (l sb b o hb e)))))
end
theorem FO:Slot "set_iterator" "__iter__" "set_iterator.__iter__":=
 .of (owner:="set_iterator") (n:="__iter__") (by rw[Lm,Je];kernel_rfl) (by decide +kernel) (by decide +kernel) (by decide +kernel)
  (by first | exact .inl (by decide +kernel) | exact .inr (by decide +kernel)) (by rw[Mb];kernel_rfl)
theorem zaC:entryFor table "set_iterator.__iter__" = some Hg.«dict_keyiterator.__iter__»:=entryFor_alias (id':="dict_keyiterator.__iter__") (by kernel_rfl) rfl (by decide +kernel) (by kernel_rfl)
theorem zaD(a:Ac):argsOk "set_iterator.__iter__" ⟨[a],[]⟩:=by unfold argsOk;kernel_rfl
section
variable {prog:Bl}{w:Cd}{A:Bu}{E:Ac->Ah->Prop}{s:Ah}{I a:Addr}{es:Array (Int×Ac)}{ep:Nat}{t:Ho}{vals:List Ac}{bs:List Addr}{i:Nat}
theorem jD.at{h h':Heap}(x:jD w h I a es ep t vals bs i)(k:∀ b,b=I\/b=a\/b∈bs->∀ o,h.get? b=some o->h'.get? b=some o):jD w h' I a es ep t vals bs i:=by
 obtain⟨⟨o,f,n,hc,hd,c⟩,⟨oa,d,r⟩,g,hl⟩:=x
 refine⟨⟨o,f,k I (.inl rfl) o n,hc,hd,?_⟩,⟨oa,k a (.inr (.inl rfl)) oa d,r⟩,g,hl⟩
 rcases c with c | c | ⟨l,b,ob,js,m,e,hb,j,c⟩
 ·exact .inl c
 ·exact .inr (.inl c)
 ·exact .inr (.inr ⟨l,b,ob,js,m,e,hb,k b (.inr (.inr hb)) ob j,c⟩)
theorem zaE(g:A.handled=none):Walks prog w A I (I :: a :: bs) [I] vals.length (fun j v=>vals[j]? = some v) (fun j h=>jD w h I a es ep t vals bs j) where
 sub:=fun b hb=>by simp at hb;simp[hb]
 frame:=fun _ _ _ st hk=>st.at fun b hb o e=>hk b (by simpa using hb) o e
 item:=fun j s Q E f st c=>next_item st f fun h' st' sb=>c _ h' s.toks (by simp[f]) st' fun b o hb e=>(sb.2 b (fun z=>hb (by simp[z]))).trans e
 done:=fun s Q E st c=>zaB g st (Ai _) fun h' kp=>c h' s.toks fun b o hb e=>kp b o (fun z=>hb (by simp[z])) e
 self:=fun _ s _ _ st c=>by
  have d:=st.typeIs
  refine wpAny_pyIter_slot d FO (De FO d zaC ?_ (zaD _))
  show Ax _ _ (ret (.ref I)) _ _ s
  exact Ag ⟨_,rfl,"set_iterator",_,d,m8.lookup,c⟩
theorem zaF{S:Int->Prop}{n:Nat}{Q:Ac->Ah->Prop}(C:fW prog w s.heap a S n (jC w))(hz:n<=Aj)
  (h:∀ (I:Addr) (h':Heap) d es ep t vals bs,jD w h' I a es ep t vals bs 0->(∀ b o,s.heap.get? b=some o->h'.get? b=some o)->s.heap.objs.size<=I->(∀ b∈bs,s.heap.objs.size<=b)->vals.Perm (es.toList.map (·.2))->
   ElemsOf (En prog w) es.toList->(∀ k,S k↔∃ e∈es.toList,(En prog w).is k e.2=true)->Nz prog w es n->Q (.ref I) {s with heap:=h',drawn:=d}):Ax (Bk prog w) A (Oe (.ref a)) Q E s:=by
 obtain⟨o,es,ep,t,f,x,hd,v,q,p,hf,z⟩:=C
 have B:=p.1
 have y:s.TypeIs (.ref a) "set":=⟨o,f,x.1⟩
 refine wpAny_pyIter_slot y FN (De FN y zay ?_ (zaz _))
 unfold Hg.«frozenset.__iter__»
 refine Aa (Ag (Aa (Aa (Oj f hd hf (Ag ?_)))))
 unfold setDrawn Ma
 refine Aa (Aa (Fq f hd hf (Aa (Aa (Fm (Ag (Ag ?_)))))))
 have ha:a < s.heap.objs.size:=Ak f
 refine Dh (fun c=>?_) fun c=>?_
 ·have i:qA w=false:=by
   have:=(Kz.mp c).1
   exact Lw _ ▸ this
  refine Aa (FH (by simp) fun js d u=>?_)
  have g:js.length=es.size:=by rw[u.length_eq];simp
  refine Aa (wpAny_newTuple (s:={s with drawn:=d}) ?_ (by rw[Ab,g];lia))
  have l:=Af {cls:=.type "tuple",data:=.seq (js.map fun(j:Nat)=>Gv j).toArray 0} f
  refine Aa (wpAny_setEpoch_of (s:={s with heap:=_,drawn:=d}) l hd hf ?_)
  unfold newFields
  refine Aa (Dd (Ag ⟨_,rfl,"set_iterator",_,⟨_,Ap _ rfl,rfl⟩,m8.lookup,?_⟩))
  refine h _ _ d es ep t (js.map fun j=>(es.getD j (0,.none)).2) [s.heap.objs.size] ⟨⟨_,.ref s.heap.objs.size,Ap _ rfl,rfl,rfl,.inr (.inr ⟨i,_,_,js,0,rfl,by simp,Af _ (Ap _ rfl),rfl,rfl,fun j H=>by simpa using u.mem_iff.mp H,g,rfl⟩)⟩,
   ⟨o,Af _ l,x,hd,hf⟩,?_,by rw[Ab,g]⟩ (fun b o e=>Af _ (Af _ e)) ?_ (fun b hb=>by simp at hb;rw[hb];exact Ai _) ?_ v q p
  ·show(s.heap.push _).objs.size≠a
   rw[Dr]
   exact Dy (Hi ha)
  ·show s.heap.objs.size<=(s.heap.push _).objs.size
   rw[Dr]
   exact Lb _
  ·have e:es.toList.map (·.2)=(Cb es.size).map fun j=>(es.getD j (0,.none)).2:=by
    refine List.ext_getElem (by simp) fun k D J=>?_
    have:k < es.size:=by simpa using D
    simp[Array.getD,this]
   rw[e]
   exact u.map _
 ·refine Aa (Ag (Aa (wpAny_setEpoch_of f hd hf ?_)))
  unfold newFields
  refine Aa (Dd (Ag ⟨_,rfl,"set_iterator",_,⟨_,Ap _ rfl,rfl⟩,m8.lookup,?_⟩))
  have ne:s.heap.objs.size≠a:=Dy ha
  have st:∀ {F:Obj},∃ o,(s.heap.push F).get? a=some o/\o.ExactSet/\o.data=.set es ep t/\t.fits es.size=true:=⟨o,Af _ f,x,hd,hf⟩
  cases i:qA w with
  | true=>
   exact h _ _ s.drawn es ep t ((Lx (w.params.setOrder a ep) es).toList.map (·.2)) [] ⟨⟨_,Gv 0,Ap _ rfl,rfl,rfl,.inl ⟨i,⟨_,_,rfl⟩,rfl⟩⟩,st,ne,by rw[Ab,(tT _ _).length_eq,Bv]⟩
    (fun b o e=>Af _ e) (Ai _) (fun b hb=>nomatch hb) ((tT _ _).map _) v q p
  | false=>
   have r:Drawn es t=false:=by
    cases G:Drawn es t with
    | false=>rfl
    | true=>exact(c (Kz.mpr ⟨(Lw _).mpr i,G⟩)).elim
   have m:Good true t:=by
    have:jC w=true:=by unfold jC;rw[show w.params.followText "set-order" = false from i];rfl
    rw[this] at z
    exact z
   exact h _ _ s.drawn es ep t (es.toList.map (·.2)) [] ⟨⟨_,Gv 0,Ap _ rfl,rfl,rfl,.inr (.inl ⟨i,r,m,⟨0,0,rfl,zam m.1⟩,rfl⟩)⟩,st,ne,by rw[Ab,Bv]⟩
    (fun b o e=>Af _ e) (Ai _) (fun b hb=>nomatch hb) (List.Perm.refl _) v q p
end
theorem zaG:Slot "set" "__len__" "set.__len__":=
 .of (owner:="set") (n:="__len__") (by rw[Lm,Je];kernel_rfl) (by decide +kernel) (by decide +kernel) (by decide +kernel)
  (by first | exact .inl (by decide +kernel) | exact .inr (by decide +kernel)) (by rw[Mb];kernel_rfl)
section
variable {prog:Bl}{w:Cd}{A:Bu}{E:Ac->Ah->Prop}{s:Ah}{a:Addr}
theorem zaH{Q:Bool->Ah->Prop}(e:s.TypeIs (.ref a) "set")(h:Q false s):Ax (Bk prog w) A (Builtin.List.listLengthHint (.ref a)) Q E s:=by
 unfold Builtin.List.listLengthHint
 refine Aa (wpAny_specialOf e zaG.lookup ?_)
 generalize d:("set.__len__" : String)=id0
 wp_delta
 rw[show splitId id0=some ("set","__len__") from by subst d;decide +kernel]
 subst d
 refine Aa (Jt (T:="set") (b:=true) e (by rw[Mb];kernel_rfl) ?_)
 refine Dh (fun c=>absurd c (by decide)) (fun _=>?_)
 refine Dh (fun _=>?_) (fun c=>absurd (by decide +kernel) c)
 refine Aa (Kq e ?_)
 exact Ag h
theorem zaI{S:Int->Prop}{n:Nat}{R:Result->Ah->Prop}(W:A.handled=none)(P:fW prog w s.heap a S n (jC w))(hz:n<=Aj)(D:Addr)(B:D≠a)(res:Ac)(p:Nat)(L:s.heap.get? D=some {cls:=.type "list",data:=.seq #[] p})
  (hR:∀ h' tk d c v (es:Array (Int×Ac)),(∀ b o,b≠D->s.heap.get? b=some o->h'.get? b=some o)->h'.get? D=some {cls:=.type "list",dict:=none,data:=.seq c v,slots:=#[]}->c.toList.Perm (es.toList.map (·.2))->
   ElemsOf (En prog w) es.toList->(∀ k,S k↔∃ e∈es.toList,(En prog w).is k e.2=true)->Nz prog w es n->R (.ok (.ret res)) {s with heap:=h',toks:=tk,drawn:=d}) :
  Ax (Bk prog w) A.in1 (Kl (.ref D) (.ref a) res)
   (fun fin q=>match fin with | .done f=>R (.ok f) q | .again v=>v.quiet=true/\Jv (Bk prog w) A v R q) (fun e q=>R (.error e) q) s:=by
 have O:s.TypeIs (.ref a) "set":=let ⟨o,_,_,_,ho,hx,_⟩:=P;⟨o,ho,hx.1⟩
 unfold Kl
 refine Aa (Kq (T:="set") O ?_)
 have h1:Builtin.List.listSameRef (.ref D) (.ref a)=false:=by simp[Builtin.List.listSameRef,B]
 simp only[h1,show(Value.type "set" == Value.type "list")=false by decide,show(Value.type "set" == Value.type "tuple")=false by decide,Bool.or_false,Cp,if_false]
 refine Aa (zaF P hz fun I E d es ep t vals bs st kp U hb X Y V N=>?_)
 have r:=kp _ _ L
 have K:D≠I:=fun z=>absurd (Ak L) (by rw[z];exact Nat.not_lt.mpr U)
 have x:D∉I :: a :: bs:=by
  simp only[Ba,not_or]
  exact⟨K,B,fun z=>absurd (Ak L) (Nat.not_lt.mpr (hb D z))⟩
 have J:vals.length<=Aj:=by have:=N.1;rw[st.len];lia
 have key:∀ (h:Heap) (j tk:Nat),jD w h I a es ep t vals bs 0->(∀ b o,b≠D->s.heap.get? b=some o->h.get? b=some o)->
   h.get? D=some {cls:=.type "list",data:=.seq #[] j}->Jv (Bk prog w) A (.builtin "list.extend.loop" ⟨[.ref D,.ref I,res],[]⟩) R {s with heap:=h,toks:=tk,drawn:=d}:=by
  intro h j tk H hk u
  refine codeAny_extend_loopS (zaE (by exact W)).toS J D x res vals.length 0 _ #[] j rfl (Bx _) H u (ItemsOf.nil _) fun q c v y M m=>?_
  have eq:c.toList=vals:=by
   refine List.ext_getElem? fun i=>?_
   rw[Ds]
   by_cases hi:i < c.size
   ·have:=m.2 i _ (getElem?_pos c i hi)
    rw[getElem?_pos c i hi,this]
   ·rw[getElem?_neg c i hi,Im (by have:=m.1;lia)]
  rw[Moved.eq_with y]
  refine hR q.heap q.toks d c v es (fun b o g e=>y.heap b o (fun l=>?_) (hk b o g e)) M (by rw[eq];exact X) Y V N
  rcases Ba.mp l with Z | l
  ·exact g Z
  ·exact absurd (Ak e) (by rw[Az.mp l];exact Nat.not_lt.mpr U)
 have G:Shared.TypeIs {s with heap:=E,drawn:=d} (.ref a) "set":=let ⟨o,ho,hc⟩:=O;⟨o,kp _ _ ho,hc⟩
 refine Aa (Cs (zaH (s:={s with heap:=E,drawn:=d}) G ?_))
 refine Dh (fun _=>?_) (fun _=>Ag ⟨Hw PySem.F.plain_extend_loop _,key _ p _ st (fun b o _ e=>kp b o e) r⟩)
 refine Aa (Ei (Aa ?_))
 show Ax _ _ (updateSeq D (·.push .none) >>= fun _=>updateSeq D (·.pop)) _ _ _
 refine Aa (wpAny_updateSeq r rfl ?_)
 have Q:=Fc (Gw (·.push Value.none)) r rfl
 refine wpAny_updateSeq (hz:=by seq_fits) Q rfl ?_
 have q3:=Fc (Gw (·.pop)) Q rfl
 have C:∀ b o,b≠D->E.get? b=some o->((E.update D (Gw (·.push Value.none))).update D (Gw (·.pop))).get? b=some o:=fun b o g e=>
  (Fn _ _ (Bq g)).trans ((Fn _ _ (Bq g)).trans e)
 exact Ag ⟨Hw PySem.F.plain_extend_loop _,key _ _ _ (st.at fun b g o e=>C b o (fun z=>x (by rw[<-z];simpa using g)) e) (fun b o g e=>C b o g (kp b o e)) q3⟩
end
section
variable {prog:Bl}{w:Cd}{A:Bu}{E:Ac->Ah->Prop}{s:Ah}{a:Addr}
theorem FP:∀ (vs:List Ac),(∀ v∈vs,∃ k,(En prog w).is k v=true)->∃ ns,Iv vs ns/\∀ k,k∈ns↔∃ v∈vs,(En prog w).is k v=true
 | [],_=>⟨[],.nil,fun k=>by simp⟩
 | v :: vs,h=>by
  obtain⟨ns,b,d⟩:=FP vs fun v c=>h v (Bd _ c)
  obtain⟨k,hk⟩:=h v Bg
  obtain⟨t,rfl⟩:=Value.isInt_shape (k:=k) (v:=v) hk
  refine⟨k :: ns,.cons k t b,fun a=>?_⟩
  have e:(En prog w).is a (.int k t)=decide (a=k):=KeyKind.is_eq_decide hk a
  simp only[Ba,d,exists_eq_or_imp,e,decide_eq_true_eq]
theorem FQ:∀ {vs:List Ac} {ns:List Int},Iv vs ns->vs.Pairwise (fun v d=>∀ k,(En prog w).is k v=true->(En prog w).is k d=true->False)->ns.Nodup
 | _,_,.nil,_=>.nil
 | _,_,.cons n t r,h=>by
  have h':=List.pairwise_cons.mp h
  have g:∀ {vs:List Ac} {ns:List Int},Iv vs ns->n∈ns->∃ v∈vs,(En prog w).is n v=true:=by
   intro vs ns q
   induction q with
   | nil=>exact fun z=>nomatch z
   | cons m t _ c=>exact fun z=>(Ba.mp z).elim (fun e=>⟨_,Bg,by rw[e];exact intKind_is _ _ _ _⟩) fun z=>let ⟨v,a,b⟩:=c z;⟨v,Bd _ a,b⟩
  exact Dq.mpr ⟨fun z=>let ⟨v,a,b⟩:=g r z;h'.1 v a n (intKind_is _ _ _ _) b,FQ r h'.2⟩
theorem zaJ{S:Int->Prop}{n:Nat}{R:List Ac->Ah->Prop}(hh:A.handled=none)(hS:fW prog w s.heap a S n (jC w))(hz:n<=Aj)
  (h:∀ (h':Heap) (tk:Nat) d (vs:List Ac) (ns:List Int),(∀ b o,s.heap.get? b=some o->h'.get? b=some o)->Iv vs ns->(∀ k,k∈ns↔S k)->ns.length<=n->ns.Nodup->R vs {s with heap:=h',toks:=tk,drawn:=d}) :
  Ax (Bk prog w) A (collect (.ref a)) R E s:=by
 have ha:a < s.heap.objs.size:=let ⟨o,_,_,_,ho,_⟩:=hS;Ak ho
 unfold collect
 refine Aa (wpAny_runValue (Fv entry_proto_collect' ?_))
 rw[Em PySem.F.plain_proto_collect _]
 show Ax _ A.in1 (newList [] >>= fun l=>again (.builtin "list.__iadd__" ⟨[l,.ref a],[]⟩)) _ _ s
 refine Aa (Dd ?_)
 refine Ag ⟨Hw PySem.F.plain_list_iadd _,Fv entry_list_iadd' ?_⟩
 rw[Em PySem.F.plain_list_iadd _]
 have q1:(s.heap.push {cls:=.type "list",data:=.seq ([]:List Ac).toArray}).get? s.heap.objs.size=some {cls:=.type "list",data:=.seq #[]}:=Ap _ rfl
 show Ax _ A.in1 (Kl (.ref s.heap.objs.size) (.ref a) (.ref s.heap.objs.size)) _ _ _
 have key:=zaI (prog:=prog) (w:=w) (A:=A) (s:={s with heap:=s.heap.push {cls:=.type "list",data:=.seq ([]:List Ac).toArray}})
  (R:=fun(q:Result) (s':Ah)=>∃ (h':Heap) (tk:Nat) (d:_) (acc':Array Ac) (c':Nat) (ns:List Int),q=.ok (.ret (.ref s.heap.objs.size))/\s' = {s with heap:=h',toks:=tk,drawn:=d}/\
   (∀ b o,s.heap.get? b=some o->h'.get? b=some o)/\h'.get? s.heap.objs.size=some {cls:=.type "list",dict:=none,data:=.seq acc' c',slots:=#[]}/\Iv acc'.toList ns/\(∀ k,k∈ns↔S k)/\ns.length<=n/\ns.Nodup)
  hh (hS.at fun o e=>Af _ e) hz s.heap.objs.size (Dy ha) (.ref s.heap.objs.size) 0 q1
  (fun h' tk d acc' c' es hk hD hp he hm hn=>by
   obtain⟨ns,n1,n2⟩:=FP (prog:=prog) (w:=w) acc'.toList fun v hv=>by
    obtain⟨e,h1,rfl⟩:=Au.mp (hp.mem_iff.mp hv)
    obtain⟨⟨k,hk',_⟩,_⟩:=he e h1
    exact⟨k,hk'⟩
   refine⟨h',tk,d,acc',c',ns,rfl,rfl,fun b o e=>hk b o (Be (Ak e)) (Af _ e),hD,n1,fun k=>(n2 k).trans ((hm k).trans ?_).symm,?_,?_⟩
   ·constructor
    ·rintro⟨e,h1,h2⟩
     exact⟨e.2,hp.mem_iff.mpr (Gi h1),h2⟩
    ·rintro⟨v,h1,h2⟩
     obtain⟨e,h3,rfl⟩:=Au.mp (hp.mem_iff.mp h1)
     exact⟨e,h3,h2⟩
   ·have e1:∀ {vs:List Ac} {ns:List Int},Iv vs ns->vs.length=ns.length:=by
     intro vs ns q
     induction q with
     | nil=>rfl
     | cons _ _ _ ih=>simp[ih]
    have l1:=e1 n1
    have l2:=hp.length_eq
    simp only[Ab,Bv] at l1 l2
    have:=hn.1
    lia
   ·exact FQ n1 (hp.symm.pairwise (Gb.mpr hn.2) fun q k a b=>q k b a))
 refine Hv key (fun fin s' x=>?_) fun e s' x=>?_
 ·cases fin with
  | done f=>
   obtain⟨h',tk,d,acc',c',ns,e,rfl,hk,hS',y1,y2,y3⟩:=x
   cases e
   show Ax _ A (load s.heap.objs.size >>= _) _ _ _
   exact Aa (wpAny_load hS' (Ag (h h' tk d _ ns hk y1 y2 y3.1 y3.2)))
  | again c₁=>
   refine⟨x.1,Ks x.2 fun q s₂ y=>?_⟩
   obtain⟨h',tk,d,acc',c',ns,rfl,rfl,hk,hS',y1,y2,y3⟩:=y
   show Ax _ A (load s.heap.objs.size >>= _) _ _ _
   exact Aa (wpAny_load hS' (Ag (h h' tk d _ ns hk y1 y2 y3.1 y3.2)))
 ·obtain⟨_,_,_,_,_,_,e',_⟩:=x
  cases e'
theorem zaK{S:Int->Prop}{n:Nat}{Q:Ac->Ah->Prop}(z:A.handled=none)(r:fW prog w s.heap a S n (jC w))(B:n < 64)
  (h:∀ (g h':Heap) (tk:Nat) d (out:Array Ac) (c:List Int) (e:Nat),(∀ b o,s.heap.get? b=some o->g.get? b=some o)->(∀ b o,g.get? b=some o->h'.get? b=some o)->Iv out.toList c->(∀ k,k∈c↔S k)->c.length<=n->c.Pairwise (·<=·)->c.Nodup->h'.get? g.objs.size=some (Lg "list" out e)->
   Q (.ref g.objs.size) {s with heap:=h',toks:=tk,drawn:=d}):Ax (Bk prog w) A (call (.builtin "sorted") [.ref a]) Q E s:=by
 refine Calls.call_function_entry kind_sorted plain_sorted entry_sorted (args_sorted1 _) ?_
 unfold Hg.«sorted»
 refine Aa (m:=checkCount "sorted" 1 1 _) (Ag (Aa (zaJ (A:=A.in1) z r (by rw[Hl];lia) fun h' tk d vs ns kp p x y l=>?_)))
 have v:∀ {vs:List Ac} {ns:List Int},Iv vs ns->vs.length=ns.length:=by
  intro vs ns q
  induction q with
  | nil=>rfl
  | cons _ _ _ C=>simp[C]
 have hl:=v p
 refine Aa (wpAny_newList (s:={s with heap:=h',toks:=tk,drawn:=d}) ?_ (by rw[hl,Hl];lia))
 have i:(h'.push (Lg "list" vs.toArray 0)).get? h'.objs.size=some (Lg "list" vs.toArray 0):=Ap _ rfl
 refine Aa (Cs (De slot_list_sort ⟨_,i,rfl⟩ entry_list_sort (list_sort_tree i p (by lia) fun out j a1 a2 u=>⟨_,rfl,?_⟩) (args_list_sort _)))
 obtain⟨e,t⟩:=sortedHeap_at (out:=out) i
 refine Ag ⟨_,rfl,h h' _ tk d out j e kp (fun b o eb=>?_) a1 (fun k=>a2.mem_iff.trans (x k)) (by rw[a2.length_eq];exact y) u (a2.nodup_iff.mpr l) t⟩
 have f:b < h'.objs.size:=Ak eb
 exact(sortedHeap_old (Be f) (by rw[Dr];exact Hi f)).trans (Af _ eb)
end
end bF
namespace L2
open PySem PySem.Spec PyProof.Rows bF
section
variable {X:Cx}{a:Expr}{ta:TA}{p p2 pos pos2:Pos}
theorem Inv.dr{a:List (Addr×Obj)}{e:St}{H:Hp}{s:Ah}(I:Inv X a e H s)(d:_):Inv X a e H {s with drawn:=d}:=by
 refine I.step (h':=s.heap) (g':=s.gens) (d':=d) (t':=s.toks) (ch:=[]) (fun _ z=>nomatch z) (fun b o _ _ _ c _=>c) (fun b o _ _ _ c _=>⟨o.slots,c⟩) (fun b o _ _ n=>n) (fun b o _ c=>⟨o,c⟩)
  (fun b xs eb=>eb) (fun b o u eb=>eb) (fun b ps eb=>⟨#[],by rw[eb];simp⟩) (fun m f=>f) (fun b v eb=>I.hok b v eb) I.bare
theorem FR:∀ {vs:List Ac} {ns:List Int},Iv vs ns->aQ (ns.map V.int) vs
 | _,_,.nil=>.nil
 | _,_,.cons n t r=>.cons ⟨t,rfl⟩ (FR r)
def zaL(ta:TA):TE:=fun c H Q=>ta c H fun vs b=>∃ (l:Addr) (ns:List Int),vs=[.ref l]/\b l=some (.lst (ns.map V.int))/\ns.length < 64/\∀ a:List Int,(∀ k,k∈a↔k∈ns)->a.length<=ns.length->a.Pairwise (·<=·)->a.Nodup->∀ q,b q=none->Q (.ref q) (aN b q (.lst (a.map V.int)))
theorem zaM:Cv "set" = some (.type "set"):=by decide +kernel
theorem zaN:Cv "sorted" = some (.builtin "sorted"):=by decide +kernel
theorem zaO(hc:X.calm=true)(S:Gl X "sorted")(G:X.mg "sorted" = none)(z:Gl X "set")(w:X.mg "set" = none)(ha:PA X [a] ta)
  (i:Bj [.Call (.Name "set" p2) [a] [] pos2] X.env=[(false,eval (.Call (.Name "set" p2) [a] [] pos2) X.env)]:=by rfl) (v:Bj [a] X.env=[(false,eval a X.env)]:=by rfl) :
  PE X (.Call (.Name "sorted" p) [.Call (.Name "set" p2) [a] [] pos2] [] pos) (zaL ta):=by
 intro c s y H Q I h
 refine Fh (iU I S G zaN (PyProof.Rows.callWith_builtin1 ?_ i rfl))
 rw[i]
 refine Calls.spliced_cons (Fh (iU I z w zaM (Du (aZ (ha pos2 c s y H _ I h) fun us k ⟨vs,C,m,R,Z⟩=>?_) v rfl)))
 obtain⟨l,ns,rfl,hl,A,q⟩:=Z
 obtain⟨u,rfl,W⟩:=vals1 R
 cases W
 obtain⟨hz,its,n,L,j,T⟩:=m.lstM hl
 have f:its.length=ns.length:=by rw[<-j];simp
 refine zaw (items:=its.toArray) (ns:=ns) (m.ok.hd hc) ⟨_,T,rfl,n,rfl⟩ (by simpa using intsAre_of L) (by rw[Bb,f];unfold Oh;lia) fun t g M x=>Calls.spliced_nil ?_
 have r:∀ b o,k.heap.get? b=some o->t.get? b=some o:=fun b o e=>x b o (Ak e) e
 have U:Inv X c y C {k with heap:=t,toks:=g}:=m.kept (t':=g) r
 refine zaK (s:={k with heap:=t,toks:=g}) (m.ok.hd hc) M (by rw[Bb,f];exact A) fun E h3 tk d out D e Y J P N F O K i5=>?_
 have B:Inv X c y C {k with heap:=E,toks:=tk,drawn:=d}:=(U.kept (t':=tk) Y).dr d
 rw[Bb,f] at F
 refine⟨.ref E.objs.size,_,B.laid (o:=.lst (D.map V.int)) (t':=tk) J (Ai _) ⟨by rw[Ab,Hl];lia,out.toList,e,FR P,by rw[Kw];exact i5⟩,rfl,q D N F O K _ (B.hok.fresh (Ai _))⟩
end
end L2
namespace L3
open PySem PySem.Spec PyProof.Rows L2
section
variable {X:Cx}{a:Expr}{ta:aS}
def FT:W->Mm->K3->Prop
 | .rl ws,M,R=>∃ ns:List Int,ws=ns.map W.int/\ns.length < 64/\∀ a:List Int,(∀ k,k∈a↔k∈ns)->a.length<=ns.length->a.Pairwise (·<=·)->a.Nodup->R (.rl (a.map W.int)) M
 | _,_,_=>False
def FU(ta:aS):aS:=fun a M R=>ta a M fun w b=>FT w b R
theorem zaP{K:Ae}{H:Hp}{M:Mm}(a:List Int):aL K H M (a.map V.int) (a.map W.int):=by
 induction a with
 | nil=>exact .nil
 | cons s r b=>exact .cons (.int s) b
theorem zaQ{p p2 pos pos2:Pos}(A:Gl X "sorted")(o:X.mg "sorted" = none)(f:Gl X "set")(c:X.mg "set" = none)(ha:E3 X a ta)(hc:X.calm=true:=by rfl)
  (d:Bj [.Call (.Name "set" p2) [a] [] pos2] X.env=[(false,eval (.Call (.Name "set" p2) [a] [] pos2) X.env)]:=by rfl) (b:Bj [a] X.env=[(false,eval a X.env)]:=by rfl) :
  E3 X (.Call (.Name "sorted" p) [.Call (.Name "set" p2) [a] [] pos2] [] pos) (FU ta):=
 (zaO hc A o f c (aC ha aJ (by rw[b];rfl)) d b).weak fun G H Q z0=>z0.el fun y M R x u h k=>⟨y,M,fun ws l=>match ws with | [w]=>FT w l R | _=>False,x,u,h,fun vs F ws l B i C r=>by
  match ws,r with
  | [w],r=>
   obtain⟨v,rfl,t⟩:=C.one
   cases t <;> first | exact(show False from r).elim | skip
   case rl a xs ws e n q=>
    obtain⟨ns,rfl,g,r⟩:=r
    rw[q.intsL] at e
    exact⟨a,ns,rfl,e,g,fun j z E m D p s=>DD i (k.kp B) s (zaP j) (r j z E m D)⟩⟩
end
end L3
namespace Tso
open PySem PyProof.Rows
set_option autoImplicit false
def tU:Bool->Ay->Array Ay->Nat->Nat->Nat->StateT Cq Sem (Option Nat):=sortPriv% PySem.Builtin.gallop
def zaR:Array Ay->Array Ay->StateT Cq Sem (Array Ay):=sortPriv% PySem.Builtin.mergeLo
def zaS:Array Ay->Array Ay->StateT Cq Sem (Array Ay):=sortPriv% PySem.Builtin.mergeHi
structure Ord(S:Ay->Prop)(lt:Ay->Ay->Bool):Prop where
 asym:∀ {x y},S x->S y->lt x y=true->lt y x=false
 tran:∀ {x y z},S x->S y->S z->lt y x=false->lt z y=false->lt z x=false
def Cmp(M:Mu)(A:Bu)(E:Ac->Ah->Prop)(s:Ah)(κ:He)(S:Ay->Prop)(lt:Ay->Ay->Bool):Prop:=
 ∀ x y st (Q:Option Bool->Cq->Prop),S x->S y->kindOf st=κ->Q (some (lt x y)) st->wpS M A E s (lt' x y) Q st
def bU(S:Ay->Prop)(xs:Array Ay):Prop:=∀ p∈xs.toList,S p
section
variable {M:Mu}{A:Bu}{E:Ac->Ah->Prop}{s:Ah}{κ:He}{S:Ay->Prop}{lt:Ay->Ay->Bool}{st:Cq}
theorem bU.at{xs:Array Ay}(h:bU S xs){i:Nat}(hi:i < xs.size):∃ p,xs[i]? = some p/\S p:=⟨xs[i],getElem?_pos xs i hi,h _ (by simp)⟩
theorem bU.get{xs:Array Ay}(h:bU S xs){i:Nat}{p:Ay}(hi:xs[i]? = some p):S p:=h p (by obtain⟨_,rfl⟩:=Co.mp hi;simp)
theorem w_ite{a:Type}{c:Prop}[Decidable c]{t e:StateT Cq Sem a}{Q:a->Cq->Prop}(b:c->wpS M A E s t Q st)(d:¬c->wpS M A E s e Q st):wpS M A E s (if c then t else e) Q st:=by
 by_cases h:c
 ·rw[if_pos h];exact b h
 ·rw[if_neg h];exact d h
theorem eN{xs:Array Ay}{i:Nat}{Q:Ay->Cq->Prop}(h:bU S xs)(hi:i < xs.size)(b:∀ p,xs[i]? = some p->S p->Q p st):wpS M A E s (elem' xs i) Q st:=by
 obtain⟨p,a,sp⟩:=h.at hi
 rw[elem'_eq,a]
 exact Bf (b p a sp)
theorem zaT{i j:Nat}{Q:Option Bool->Cq->Prop}(c:Cmp M A E s κ S lt)(hk:kindOf st=κ)(h:bU S (Dg st))(hi:i < (Dg st).size)(e:j < (Dg st).size)
  (b:∀ p q,(Dg st)[i]? = some p->(Dg st)[j]? = some q->S p->S q->Q (some (lt p q)) st):wpS M A E s (ltAt' i j) Q st:=by
 rw[ltAt'_eq]
 exact Av (Ko (Av (eN h hi fun p d sp=>Av (eN h e fun q a sq=>c p q st Q sp sq hk (b p q d a sp sq)))))
def zaU(left:Bool)(key:Ay)(xs:Array Ay)(base i:Nat):StateT Cq Sem (Option Bool):=do
 let x <-elem' xs (base + i)
 if left=true then lt' x key else do
  let r <-lt' key x
  pure (Option.map (fun b=>!b) r)
theorem zaV{left:Bool}{key:Ay}{xs:Array Ay}{base n a:Nat}{Q:Option Nat->Cq->Prop}(J:Cmp M A E s κ S lt)(hk:kindOf st=κ)(v:S key)(h:bU S xs)(hb:base + n<=xs.size)(H:a < n)
  (B:Nat->Bool) (T:∀ i p,i < n->xs[base + i]? = some p->S p->(if left=true then lt p key else !lt key p)=B i) (mono:∀ i j,i<=j->j < n->B j=true->B i=true)
  (V:∀ k,k<=n->(∀ i,i < k->B i=true)->(∀ i,k<=i->i < n->B i=false)->Q (some k) st):wpS M A E s (tU left key xs base n a) Q st:=by
 have hf:∀ i (Q:Option Bool->Cq->Prop),i < n->Q (some (B i)) st->wpS M A E s (zaU left key xs base i) Q st:=fun i Q hi h'=>by
  refine Av (eN h (by lia) fun p N sp=>?_)
  have e:=T i p hi N sp
  refine w_ite (fun c=>?_) fun c=>?_
  ·rw[if_pos c] at e
   exact J _ _ _ _ sp v hk (by rw[e];exact h')
  ·rw[if_neg c] at e
   exact Av (J _ _ _ _ v sp hk (Bf (by show Q (some (!lt key p)) st;rw[e];exact h')))
 have t:∀ i j,i<=j->j < n->B i=false->B j=false:=fun i j D F e=>by
  cases q:B j with
  | false=>rfl
  | true=>rw[mono i j D F q] at e;cases e
 have u:∀ (f:Nat->Option (Option Nat)×Nat×Nat->StateT Cq Sem (ForInStep (Option (Option Nat)×Nat×Nat))) (g:Option (Option Nat)×Nat×Nat->StateT Cq Sem (Option Nat)) (lo hi:Nat),
   (∀ x lo hi (R:ForInStep (Option (Option Nat)×Nat×Nat)->Cq->Prop),hi<=n->(hi<=lo->R (.done (none,lo,hi)) st)->(lo < hi->B (lo + (hi - lo) / 2)=true->R (.yield (none,lo + (hi - lo) / 2 + 1,hi)) st)->(lo < hi->B (lo + (hi - lo) / 2)=false->R (.yield (none,lo,lo + (hi - lo) / 2)) st)->wpS M A E s (f x (none,lo,hi)) R st)->
   (∀ lo hi,Q (some hi) st->wpS M A E s (g (none,lo,hi)) Q st)->lo<=hi->hi<=n->(∀ i,i < lo->B i=true)->(∀ i,hi<=i->i < n->B i=false)->wpS M A E s (forIn [0:n] (none,lo,hi) f >>= g) Q st:=fun f g lo hi hs P D F L U=>by
  refine Av (Hc (Eh (I:=fun x c st'=>st=st'/\c.1=none/\c.2.1<=c.2.2/\c.2.2<=n/\c.2.2 - c.2.1 + x<=n/\(∀ i,i < c.2.1->B i=true)/\∀ i,c.2.2<=i->i < n->B i=false)
   (Q:=fun c st'=>st=st'/\c.1=none/\c.2.1=c.2.2/\c.2.2<=n/\(∀ i,i < c.2.1->B i=true)/\∀ i,c.2.2<=i->i < n->B i=false) ?_ ?_ ⟨rfl,rfl,D,F,by dsimp only;lia,L,U⟩) ?_)
  ·rintro x ⟨y,lo,hi⟩ st' _ K ⟨rfl,e,l,r,o,b,m⟩
   dsimp only at e l r o b m ⊢
   subst e
   exact hs x lo hi _ r (fun c=>⟨rfl,rfl,by dsimp only;lia,r,b,m⟩) (fun c d=>⟨rfl,rfl,by dsimp only;lia,r,by dsimp only;lia,fun i hi=>mono i _ (by dsimp only at hi;lia) (by lia) d,m⟩)
    fun c d=>⟨rfl,rfl,by dsimp only;lia,by dsimp only;lia,by dsimp only;lia,b,fun i hi w=>t _ i hi w d⟩
  ·rintro c st' ⟨rfl,e,l,r,o,b,m⟩
   exact⟨rfl,e,by lia,r,b,m⟩
  ·rintro⟨y,lo,hi⟩ st' ⟨rfl,e,l,r,b,m⟩
   dsimp only at e l r b m ⊢
   subst e
   exact P lo hi (V _ r (by rw[<-l];exact b) m)
 refine Av (hf a _ H ?_)
 dsimp only
 refine w_ite (fun c=>?_) fun c=>?_
 ·refine Av (Hc (Eh (I:=fun x c st'=>st=st'/\c.1=none/\c.2.1 < c.2.2/\x + 1<=c.2.2/\a + c.2.1 < n/\B (a + c.2.1)=true)
   (Q:=fun c st'=>st=st'/\c.1=none/\c.2.1 < c.2.2/\a + c.2.1 < n/\B (a + c.2.1)=true/\(n - a<=c.2.2\/B (a + c.2.2)=false)) ?_ ?_ ⟨rfl,rfl,Nat.zero_lt_one,Ai _,H,by exact c⟩) ?_)
  ·rintro x ⟨y,la,of⟩ st' _ K ⟨rfl,e,l,r,o,b⟩
   dsimp only at e l r o b ⊢
   refine w_ite (fun d=>Bf ⟨rfl,rfl,l,o,b,.inl d⟩) fun d=>?_
   refine Av (hf _ _ (by lia) ?_)
   dsimp only
   refine w_ite (fun d=>Bf ⟨rfl,rfl,l,o,b,.inr (by simpa using d)⟩) fun d=>Bf ⟨rfl,rfl,by dsimp only;lia,by dsimp only;lia,by dsimp only;lia,by simpa using d⟩
  ·rintro c st' ⟨rfl,e,l,r,o,b⟩
   exact⟨rfl,e,l,o,b,.inl (by lia)⟩
  ·rintro⟨y,la,of⟩ st' ⟨rfl,e,l,o,b,m⟩
   dsimp only at e l o b m ⊢
   subst e
   refine u _ _ (a + la + 1) (a + min of (n - a)) (fun x lo hi R w G z C=>w_ite (fun c=>Bf (G c)) fun c=>have c:¬ hi<=lo:=c;Av (hf _ _ (show lo + (hi - lo) / 2 < n by lia) (w_ite (fun d=>Bf (z (by lia) d)) fun d=>Bf (C (by lia) (by simpa using d))))) (fun lo hi h=>Bf h) (by lia) (by lia) (fun i hi=>mono i (a + la) (by lia) o b) fun i hi w=>?_
   rcases m with m | m
   ·lia
   ·exact t _ i (by lia) w m
 ·have O:B a=false:=by simpa using c
  refine Av (Hc (Eh (I:=fun x c st'=>st=st'/\c.1=none/\c.2.1 < c.2.2/\x + 1<=c.2.2/\c.2.1<=a/\B (a - c.2.1)=false)
   (Q:=fun c st'=>st=st'/\c.1=none/\c.2.1 < c.2.2/\c.2.1<=a/\B (a - c.2.1)=false/\(a + 1<=c.2.2\/B (a - c.2.2)=true)) ?_ ?_ ⟨rfl,rfl,Nat.zero_lt_one,Ai _,Bx _,by exact O⟩) ?_)
  ·rintro x ⟨y,la,of⟩ st' _ K ⟨rfl,e,l,r,o,b⟩
   dsimp only at e l r o b ⊢
   refine w_ite (fun d=>Bf ⟨rfl,rfl,l,o,b,.inl d⟩) fun d=>?_
   refine Av (hf _ _ (by lia) ?_)
   dsimp only
   refine w_ite (fun d=>Bf ⟨rfl,rfl,l,o,b,.inr d⟩) fun d=>Bf ⟨rfl,rfl,by dsimp only;lia,by dsimp only;lia,by dsimp only;lia,by simpa using d⟩
  ·rintro c st' ⟨rfl,e,l,r,o,b⟩
   exact⟨rfl,e,l,o,b,.inl (by lia)⟩
  ·rintro⟨y,la,of⟩ st' ⟨rfl,e,l,o,b,m⟩
   dsimp only at e l o b m ⊢
   subst e
   refine u _ _ (a + 1 - min of (a + 1)) (a - la) (fun x lo hi R w G z C=>w_ite (fun c=>Bf (G c)) fun c=>have c:¬ hi<=lo:=c;Av (hf _ _ (show lo + (hi - lo) / 2 < n by lia) (w_ite (fun d=>Bf (z (by lia) d)) fun d=>Bf (C (by lia) (by simpa using d))))) (fun lo hi h=>Bf h) (by lia) (by lia) (fun i hi=>?_) fun i hi w=>t _ i hi w b
   rcases m with m | m
   ·lia
   ·exact mono i _ (by lia) (by lia) m
end
set_option autoImplicit false
def bF(lt:Ay->Ay->Bool)(l:List Ay):Prop:=l.Pairwise fun x y=>lt y x=false
def cC(lt:Ay->Ay->Bool)(xs:Array Ay)(i j:Nat):Prop:=∀ k l p q,i<=k->k < l->l < j->xs[k]? = some p->xs[l]? = some q->lt q p=false
structure eC(st st':Cq):Prop where
 kind:kindOf st'=kindOf st
 arr:Dg st'=Dg st
 pend:Ec st'=Ec st
 failed:Hn st'=Hn st
theorem eC.refl(st:Cq):eC st st:=⟨rfl,rfl,rfl,rfl⟩
theorem eC.mg{st st':Cq}(h:eC st st')(g:Nat):eC st (SortSt.mk' (kindOf st') (Dg st') (Ec st') g (Hn st')):=⟨h.1,h.2,h.3,h.4⟩
theorem yS{xs:Array Ay}{i:Nat}{p:Ay}(h:xs[i]? = some p):xs.toList.drop i=p :: xs.toList.drop (i + 1):=by
 obtain⟨hi,rfl⟩:=Co.mp h
 rw[Hb (by simpa using hi)]
 simp
theorem lS(xs:Array Ay)(i:Nat):(xs.extract i xs.size).toList=xs.toList.drop i:=by simp[List.extract,Dw]
theorem qB(xs:Array Ay)(i j:Nat):(xs.extract i j).toList=(xs.toList.drop i).take (j - i):=by simp[List.extract]
theorem FV(xs:Array Ay)(i k:Nat):xs.toList.drop i=(xs.extract i (i + k)).toList ++ xs.toList.drop (i + k):=by
 rw[qB,Nat.add_sub_cancel_left,<-List.drop_drop,Nb]
theorem yT{xs:Array Ay}{i:Nat}{p:Ay}(h:p∈xs.toList.drop i):∃ j,xs[i + j]? = some p:=by
 obtain⟨j,a,e⟩:=Hf.mp h
 refine⟨j,?_⟩
 rw[<-Ds,<-List.getElem?_drop,Am a,e]
theorem tV{xs:Array Ay}{i k:Nat}{p:Ay}(h:p∈(xs.extract i (i + k)).toList):∃ j,j < k/\xs[i + j]? = some p:=by
 rw[qB,Nat.add_sub_cancel_left] at h
 obtain⟨j,a,e⟩:=Hf.mp h
 rw[Cg] at a
 refine⟨j,by omega,?_⟩
 rw[List.getElem_take] at e
 rw[<-Ds,<-List.getElem?_drop,Am (by omega),e]
section
variable {S:Ay->Prop}{lt:Ay->Ay->Bool}{a b out out':Array Ay}{ia ib:Nat}
theorem bF.mv{o m r t:List Ay}(a:bF lt (o ++ (m ++ r)))(f:bF lt (o ++ t))(h:∀ x∈m,∀ y∈t,lt y x=false):bF lt (o ++ m ++ r)/\bF lt (o ++ m ++ t):=by
 rw[<-Ce] at a
 refine⟨a,?_⟩
 obtain⟨g,d,e⟩:=Ct.mp f
 refine Ct.mpr ⟨(Ct.mp a).1,d,fun x c y b=>?_⟩
 rcases Bo.mp c with q | q
 ·exact e x q y b
 ·exact h x q y b
theorem bF.idx{xs:Array Ay}(h:bF lt xs.toList){i j:Nat}{p q:Ay}(a:i < j)(d:xs[i]? = some p)(c:xs[j]? = some q):lt q p=false:=by
 obtain⟨b,rfl⟩:=Co.mp d
 obtain⟨e,rfl⟩:=Co.mp c
 have:=Ft.mp h i j (by simpa using b) (by simpa using e) a
 simpa using this
structure dR(lt:Ay->Ay->Bool)(a b out:Array Ay)(ia ib:Nat):Prop where
 p:(out.toList ++ a.toList.drop ia ++ b.toList.drop ib).Perm (a.toList ++ b.toList)
 oa:bF lt (out.toList ++ a.toList.drop ia)
 ob:bF lt (out.toList ++ b.toList.drop ib)
theorem qC(O:Ord S lt)(hb:bU S b)(sb:bF lt b.toList){e x:Ay}(f:S x)(c:b[ib]? = some e)(d:lt e x=false):∀ y∈b.toList.drop ib,lt y x=false:=fun y g=>by
 obtain⟨j,a⟩:=yT g
 cases j with
 | zero=>rw[Nat.add_zero,c] at a;cases a;exact d
 | succ j=>exact O.tran f (hb.get c) (hb.get a) d (sb.idx (by omega) c a)
theorem dR.ma{m:List Ay}{e:Nat}(h:dR lt a b out ia ib)(c:out'.toList=out.toList ++ m)(hd:a.toList.drop ia=m ++ a.toList.drop e)(f:∀ x∈m,∀ y∈b.toList.drop ib,lt y x=false):dR lt a b out' e ib:=by
 have d:=h.oa
 rw[hd] at d
 obtain⟨i,g⟩:=d.mv h.ob f
 refine⟨?_,by rw[c];exact i,by rw[c];exact g⟩
 have:=h.p
 rw[hd] at this
 rw[c]
 simpa using this
theorem dR.mb{m:List Ay}{e:Nat}(h:dR lt a b out ia ib)(c:out'.toList=out.toList ++ m)(hd:b.toList.drop ib=m ++ b.toList.drop e)(f:∀ x∈m,∀ y∈a.toList.drop ia,lt y x=false):dR lt a b out' ia e:=by
 have d:=h.ob
 rw[hd] at d
 obtain⟨i,g⟩:=d.mv h.oa f
 refine⟨?_,by rw[c];exact g,by rw[c];exact i⟩
 have:=h.p
 rw[hd] at this
 rw[c]
 refine List.Perm.trans ?_ this
 simp only[Ce]
 refine Cw _ ?_
 rw[<-Ce,<-Ce]
 exact Hq _ Gx
theorem dR.pa(O:Ord S lt)(ha:bU S a)(hb:bU S b)(sb:bF lt b.toList){p c:Ay}(h:dR lt a b out ia ib)(d:a[ia]? = some p)(f:b[ib]? = some c)(hl:lt c p=false):dR lt a b (out.push p) (ia + 1) ib:=
 h.ma (m:=[p]) (by simp) (by rw[yS d];rfl) fun x e=>by cases Az.mp e;exact qC O hb sb (ha.get d) f hl
theorem dR.pb(O:Ord S lt)(ha:bU S a)(hb:bU S b)(sa:bF lt a.toList){p c:Ay}(h:dR lt a b out ia ib)(d:b[ib]? = some p)(f:a[ia]? = some c)(hl:lt c p=false):dR lt a b (out.push p) ia (ib + 1):=
 h.mb (m:=[p]) (by simp) (by rw[yS d];rfl) fun x e=>by cases Az.mp e;exact qC O ha sa (hb.get d) f hl
theorem dR.ea(O:Ord S lt)(ha:bU S a)(hb:bU S b)(sb:bF lt b.toList){c:Ay}{k:Nat}(h:dR lt a b out ia ib)(f:b[ib]? = some c)(hl:∀ i x,i < k->a[ia + i]? = some x->lt c x=false):dR lt a b (out ++ a.extract ia (ia + k)) (ia + k) ib:=
 h.ma (by simp) (FV a ia k) fun x d=>by obtain⟨j,g,e⟩:=tV d;exact qC O hb sb (ha.get e) f (hl j x g e)
theorem dR.eb(O:Ord S lt)(ha:bU S a)(hb:bU S b)(sa:bF lt a.toList){c:Ay}{k:Nat}(h:dR lt a b out ia ib)(f:a[ia]? = some c)(hl:∀ i x,i < k->b[ib + i]? = some x->lt c x=false):dR lt a b (out ++ b.extract ib (ib + k)) ia (ib + k):=
 h.mb (by simp) (FV b ib k) fun x d=>by obtain⟨j,g,e⟩:=tV d;exact qC O ha sa (hb.get e) f (hl j x g e)
def Mg(lt:Ay->Ay->Bool)(a b r:Array Ay):Prop:=r.toList.Perm (a.toList ++ b.toList)/\bF lt r.toList
theorem dR.db(h:dR lt a b out ia ib)(e:b.size<=ib):Mg lt a b (out ++ a.extract ia a.size ++ b.extract ib b.size):=by
 have z:b.toList.drop ib=[]:=Ki (by simpa using e)
 unfold Mg
 rw[Bw,Bw,lS,lS]
 exact⟨h.p,by rw[z,Gf];exact h.oa⟩
theorem dR.da(h:dR lt a b out ia ib)(e:a.size<=ia):Mg lt a b (out ++ a.extract ia a.size ++ b.extract ib b.size):=by
 have z:a.toList.drop ia=[]:=Ki (by simpa using e)
 unfold Mg
 rw[Bw,Bw,lS,lS]
 exact⟨h.p,by rw[z,Gf];exact h.ob⟩
theorem dR.la(h:dR lt a b out ia ib)(e:ia + 1=a.size)(hl:∀ x y,a[a.size - 1]? = some x->y∈b.toList->lt x y=false):Mg lt a b (out ++ b.extract ib b.size ++ a.extract ia a.size):=by
 unfold Mg
 rw[Bw,Bw,lS,lS]
 refine⟨?_,?_⟩
 ·refine List.Perm.trans ?_ h.p
  rw[Ce,Ce]
  exact Cw _ Gx
 ·obtain⟨l,k,i⟩:=Ct.mp h.oa
  refine Ct.mpr ⟨h.ob,k,fun x g y c=>?_⟩
  rcases Bo.mp g with q | q
  ·exact i x q y c
  ·obtain⟨j,d⟩:=yT c
   have f:=(Co.mp d).1
   have:j=0:=by omega
   subst this
   exact hl y x (by rw[show a.size - 1=ia + 0 by omega];exact d) (Nk q)
end
section
variable {M:Mu}{A:Bu}{E:Ac->Ah->Prop}{s:Ah}{κ:He}{S:Ay->Prop}{lt:Ay->Ay->Bool}{st:Cq}
theorem oC{left:Bool}{key:Ay}{xs:Array Ay}{base n b:Nat}{Q:Option Nat->Cq->Prop}(u:Cmp M A E s κ S lt)(O:Ord S lt)(hk:kindOf st=κ)(a:S key)(h:bU S xs)(hb:base + n<=xs.size)(v:b < n)(hs:cC lt xs base (base + n))
  (w:∀ k,k<=n->(∀ i x,i < k->xs[base + i]? = some x->if left=true then lt key x=false/\lt x key=true else lt key x=false)->(∀ i x,k<=i->i < n->xs[base + i]? = some x->if left=true then lt x key=false else lt x key=false/\lt key x=true)->Q (some k) st) :
  wpS M A E s (tU left key xs base n b) Q st:=by
 have at_:∀ i,i < n->∃ p,xs[base + i]? = some p/\S p:=fun i hi=>h.at (by omega)
 refine zaV u hk a h hb v (fun i=>match xs[base + i]? with | some p=>if left=true then lt p key else !lt key p | none=>false) (fun i p _ l _=>by rw[l]) (fun i j d r e=>?_) fun k m y B=>w k m (fun i x hi g=>?_) fun i x hi t g=>?_
 ·obtain⟨p,l,sp⟩:=at_ i (by omega)
  obtain⟨q,f,sq⟩:=at_ j r
  rcases Lr d with rfl | d
  ·exact e
  have o:=hs _ _ p q (Mq _ _) (Ny d base) (Ny r base) l f
  simp only[l,f] at e ⊢
  split at e
  ·rename_i c
   rw[if_pos c]
   cases z:lt p key with
   | true=>rfl
   | false=>rw[O.tran a sp sq z o] at e;cases e
  ·rename_i c
   rw[if_neg c]
   rw[Lw] at e ⊢
   exact O.tran sp sq a o e
 ·have:=y i hi
  simp only[g] at this
  split at this
  ·rename_i c
   rw[if_pos c];exact⟨O.asym (h.get g) a this,this⟩
  ·rename_i c
   rw[if_neg c];exact Lw _ |>.mp this
 ·have:=B i hi t
  simp only[g] at this
  split at this
  ·rename_i c
   rw[if_pos c];exact this
  ·rename_i c
   rw[if_neg c]
   have z:lt key x=true:=by simpa using this
   exact⟨O.asym a (h.get g) z,z⟩
end
set_option autoImplicit false
structure jZ(lt:Ay->Ay->Bool)(a b:Array Ay)(k:Nat)(out:Array Ay)(ia ib:Nat):Prop where
 n:k<=ia + ib
 ha:ia + 1 < a.size
 hb:ib < b.size
 p:dR lt a b out ia ib
abbrev oE:=Option (Array Ay)×Array Ay×Nat×Nat×Nat×Nat×Nat
def yU(a b out:Array Ay)(ia ib mg k l:Nat):StateT Cq Sem (ForInStep oE):=do
 let q <-elem' a ia
 if (ia + 1 + 1 == a.size)=true then pure (.done (some (out.push q ++ b.extract ib ++ a.extract (ia + 1)),out.push q,ia + 1,ib,mg,k,l))
 else if (decide (k < 7) && decide (l < 7))=true then pure (.done (none,out.push q,ia + 1,ib,mg,k,l))
 else pure (.yield (none,out.push q,ia + 1,ib,mg,k,l))
def lo1(a b out:Array Ay)(ia ib mg k c:Nat)(g:Ay->Option Nat->StateT Cq Sem (ForInStep oE)):StateT Cq Sem (ForInStep oE):=do
 let p <-elem' b ib
 if (ib + 1 == b.size)=true then pure (.done (some (out.push p ++ a.extract ia ++ b.extract (ib + 1)),out.push p,ia,ib + 1,mg,k,c))
 else do
  let q <-elem' a ia
  let x <-tU true q b (ib + 1) (b.size - (ib + 1)) 0
  g p x
structure FW(lt:Ay->Ay->Bool)(a b:Array Ay)(st:Cq)(n:Nat)(Q:ForInStep oE->Cq->Prop):Prop where
 fin:∀ r c st',eC st st'->Mg lt a b r->Q (.done (some r,c)) st'
 non:∀ c st',eC st st'->jZ lt a b n c.1 c.2.1 c.2.2.1->Q (.done (none,c)) st'
 yld:∀ c st',eC st st'->jZ lt a b n c.1 c.2.1 c.2.2.1->Q (.yield (none,c)) st'
structure MC(M:Mu)(A:Bu)(E:Ac->Ah->Prop)(s:Ah)(κ:He)(S:Ay->Prop)(lt:Ay->Ay->Bool)(a b:Array Ay):Prop where
 C:Cmp M A E s κ S lt
 O:Ord S lt
 ha:bU S a
 hb:bU S b
 sa:bF lt a.toList
 sb:bF lt b.toList
 hf:∀ x y,b[0]? = some y->x∈a.toList->lt x y=false
 hl:∀ x y,a[a.size - 1]? = some x->y∈b.toList->lt x y=false
section
variable {M:Mu}{A:Bu}{E:Ac->Ah->Prop}{s:Ah}{κ:He}{S:Ay->Prop}{lt:Ay->Ay->Bool}{st st2:Cq}{a b out:Array Ay}{ia ib mg k l n:Nat}{p q:Ay}{Q:ForInStep oE->Cq->Prop}
theorem bF.ix{xs:Array Ay}(h:bF lt xs.toList)(i j:Nat):cC lt xs i j:=fun _ _ _ _ _ a _ b c=>h.idx a b c
theorem FX(C:MC M A E s κ S lt a b)(K:FW lt a b st n Q)(f:eC st st2)(m:n<=ia + 1 + ib)(p:ia + 1 < a.size)(g:ib < b.size)(v:dR lt a b out ia ib)(j:a[ia]? = some q)(t:∀ y,b[ib]? = some y->lt y q=false):wpS M A E s (yU a b out ia ib mg k l) Q st2:=by
 obtain⟨u,d,w⟩:=C.hb.at g
 have h:=v.pa C.O C.ha C.hb C.sb j d (t u d)
 refine Av (eN C.ha (Hj p) fun x e r=>?_)
 cases j.symm.trans e
 refine w_ite (fun c=>Bf (K.fin _ _ _ f (h.la (by rw[beq_iff_eq] at c;lia) C.hl))) fun o=>?_
 rw[beq_iff_eq] at o
 have i:jZ lt a b n _ _ _:=⟨m,by lia,g,h⟩
 exact w_ite (fun _=>Bf (K.non _ _ f i)) fun _=>Bf (K.yld _ _ f i)
theorem FY(C:MC M A E s κ S lt a b)(K:FW lt a b st n Q)(hk:kindOf st=κ)(f:eC st st2)(R:n<=ia + ib)(h:ia + 1 < a.size)(F:ib < b.size)(N:dR lt a b out ia ib)(t:b[ib]? = some p)(H:∀ q,a[ia]? = some q->lt q p=false){w:Nat}{g:Ay->Option Nat->StateT Cq Sem (ForInStep oE)}
  (G:∀ p l,g p (some l)=if l > 0 then(if (ib + 1 + l == b.size)=true then pure (.done (some (out.push p ++ b.extract (ib + 1) (ib + 1 + l) ++ a.extract ia ++ b.extract (ib + 1 + l)),out.push p ++ b.extract (ib + 1) (ib + 1 + l),ia,ib + 1 + l,mg,k,l)) else yU a b (out.push p ++ b.extract (ib + 1) (ib + 1 + l)) ia (ib + 1 + l) mg k l) else yU a b (out.push p) ia (ib + 1) mg k l):wpS M A E s (lo1 a b out ia ib mg k w g) Q st2:=by
 obtain⟨q,d,sq⟩:=C.ha.at (Hj h)
 have o:=N.pb C.O C.ha C.hb C.sa t d (H q d)
 refine Av (eN C.hb F fun U r D=>?_)
 cases t.symm.trans r
 refine w_ite (fun c=>Bf (K.fin _ _ _ f (o.db (by rw[beq_iff_eq] at c;lia)))) fun I=>?_
 rw[beq_iff_eq] at I
 refine Av (eN C.ha (Hj h) fun T j J=>?_)
 cases d.symm.trans j
 refine Av (oC (left:=true) C.C C.O (f.kind.trans hk) sq C.hb (by lia) (by lia) (C.sb.ix _ _) fun l L u m=>?_)
 simp only[if_true] at u m
 have v:=o.eb C.O C.ha C.hb C.sa d fun i x hi e=>(u i x hi e).1
 rw[G]
 refine w_ite (fun _=>w_ite (fun c=>Bf (K.fin _ _ _ f (v.db (by rw[beq_iff_eq] at c;lia)))) fun B=>?_) fun P=>?_
 ·rw[beq_iff_eq] at B
  exact FX C K f (by lia) h (by lia) v d fun y e=>m l y (Ai _) (by lia) e
 ·have z:l=0:=by lia
  subst z
  exact FX C K f (by lia) h (by lia) o d fun y e=>m 0 y (Ai _) (by lia) e
end
section
variable {M:Mu}{A:Bu}{E:Ac->Ah->Prop}{s:Ah}{κ:He}{S:Ay->Prop}{lt:Ay->Ay->Bool}{st:Cq}
theorem zaW{a b:Array Ay}{Q:Array Ay->Cq->Prop}(U:Cmp M A E s κ S lt)(O:Ord S lt)(hk:kindOf st=κ)(ha:bU S a)(hb:bU S b)(i:1<=a.size)(g:1<=b.size)(sa:bF lt a.toList)(sb:bF lt b.toList)
  (hf:∀ x y,b[0]? = some y->x∈a.toList->lt x y=false) (hl:∀ x y,a[a.size - 1]? = some x->y∈b.toList->lt x y=false)
  (T:∀ r st',eC st st'->Mg lt a b r->Q r st'):wpS M A E s (zaR a b) Q st:=by
 refine Av (Nc (Ei ⟨rfl,?_⟩))
 refine Av (eN hb g fun Z H _=>?_)
 have L:=yS H
 rw[Lk] at L
 have V:dR lt a b #[Z] 0 1:=by
  refine⟨?_,?_,?_⟩
  ·rw[Lk,L]
   exact Mf.symm
  ·rw[Lk]
   exact List.pairwise_cons.mpr ⟨fun x hx=>hf x Z H hx,sa⟩
  ·rw[L] at sb;exact sb
 refine w_ite (fun c=>Bf (T _ _ (.refl _) (V.db (by rw[beq_iff_eq] at c;lia)))) fun c1=>?_
 refine w_ite (fun c=>Bf (T _ _ (.refl _) (V.la (by rw[beq_iff_eq] at c;lia) hl))) fun c2=>?_
 rw[beq_iff_eq] at c1 c2
 refine Av (Ko ?_)
 refine Av (Hc (Eh (I:=fun x c st'=>eC st st'/\c.1=none/\jZ lt a b (x + 1) c.2.1 c.2.2.1 c.2.2.2.1)
  (Q:=fun c st'=>eC st st'/\∃ r,c.1=some r/\Mg lt a b r) ?_ ?_ ⟨.refl _,rfl,⟨by simp,by dsimp only;lia,by dsimp only;lia,V⟩⟩) ?_)
 rotate_left
 ·rintro c st' ⟨_,_,h⟩
  have:=h.n;have:=h.ha;have:=h.hb
  lia
 ·rintro⟨_,c⟩ st' ⟨u,r,rfl,f⟩
  exact Bf (T _ _ u f)
 rintro x c o _ _ ⟨u,_,F⟩
 have R:kindOf o=κ:=u.kind.trans hk
 refine Av (Hc (Eh (I:=fun y c st'=>o=st'/\c.1=none/\jZ lt a b (x + 1 + y) c.2.1 c.2.2.1 c.2.2.2.1)
  (Q:=fun c st'=>o=st'/\((∃ r,c.1=some r/\Mg lt a b r)\/(c.1=none/\jZ lt a b (x + 2) c.2.1 c.2.2.1 c.2.2.2.1))) ?_ ?_ ⟨rfl,rfl,F⟩) ?_)
 ·rintro y c st' _ _ ⟨rfl,_,Y,G,t,D⟩
  refine Av (eN hb t fun p f sp=>Av (eN ha (Hj G) fun q v sq=>Av (U p q o _ sp sq R ?_)))
  refine w_ite (fun d=>?_) fun d=>?_
  ·refine Av (eN hb t fun p' w P=>?_)
   cases f.symm.trans w
   have B:=D.pb O ha hb sa f v (O.asym sp sq d)
   refine w_ite (fun e=>Bf ⟨rfl,.inl ⟨_,rfl,B.db (by rw[beq_iff_eq] at e;lia)⟩⟩) fun N=>?_
   rw[beq_iff_eq] at N
   have m:∀ n,n<=x + 2 + y->jZ lt a b n _ _ _:=fun n hn=>⟨by lia,G,by lia,B⟩
   exact w_ite (fun _=>Bf ⟨rfl,.inr ⟨rfl,m _ (by lia)⟩⟩) fun _=>Bf ⟨rfl,rfl,m _ (by lia)⟩
  ·refine Av (eN ha (Hj G) fun q' J sq'=>?_)
   cases v.symm.trans J
   have B:=D.pa O ha hb sb v f (by simpa using d)
   refine w_ite (fun e=>Bf ⟨rfl,.inl ⟨_,rfl,B.la (by rw[beq_iff_eq] at e;lia) hl⟩⟩) fun N=>?_
   rw[beq_iff_eq] at N
   have m:∀ n,n<=x + 2 + y->jZ lt a b n _ _ _:=fun n hn=>⟨by lia,by lia,t,B⟩
   exact w_ite (fun _=>Bf ⟨rfl,.inr ⟨rfl,m _ (by lia)⟩⟩) fun _=>Bf ⟨rfl,rfl,m _ (by lia)⟩
 ·rintro c st' ⟨rfl,h,m⟩
  exact⟨rfl,.inr ⟨h,⟨by have:=m.n;lia,m.2,m.3,m.4⟩⟩⟩
 rintro⟨_,c⟩ st' ⟨rfl,⟨r,rfl,f⟩ | ⟨rfl,F⟩⟩
 ·exact Bf ⟨u,r,rfl,f⟩
 refine Av (Nc (Ei ⟨rfl,?_⟩))
 refine Av (Hc (Eh (I:=fun y c st'=>eC st st'/\c.1=none/\jZ lt a b (x + 2) c.2.1 c.2.2.1 c.2.2.2.1)
  (Q:=fun c st'=>eC st st'/\((∃ r,c.1=some r/\Mg lt a b r)\/(c.1=none/\jZ lt a b (x + 2) c.2.1 c.2.2.1 c.2.2.2.1))) ?_ (fun c st' h=>⟨h.1,.inr h.2⟩) ⟨u,rfl,F⟩) ?_)
 rotate_left
 ·rintro⟨_,c⟩ st' ⟨u,⟨r,rfl,f⟩ | ⟨rfl,F⟩⟩
  ·exact Bf ⟨u,r,rfl,f⟩
  ·exact Av (Hu (Bf ⟨u.mg _,rfl,F⟩))
 rintro y c st2 _ _ ⟨j,_,Y,G,t,D⟩
 have C:MC M A E s κ S lt a b:=⟨U,O,ha,hb,sa,sb,hf,hl⟩
 obtain⟨p,f,sp⟩:=hb.at t
 refine w_ite (fun _=>?_) fun _=>?_
 all_goals
  refine Av (Hu ?_)
  refine Av (eN hb t fun p' w P=>?_)
  cases f.symm.trans w
  refine Av (oC (left:=false) U O (j.kind.trans hk) sp ha (by lia) (by lia) (sa.ix _ _) fun k hk3 g1 W=>?_)
  simp only[Cp,if_false] at g1 W
  have X:=D.ea O ha hb sb f g1
  refine w_ite (fun _=>w_ite (fun e=>Bf ⟨j.mg _,.inl ⟨_,rfl,X.la (by rw[beq_iff_eq] at e;lia) hl⟩⟩) fun c4=>w_ite (fun e=>Bf ⟨j.mg _,.inl ⟨_,rfl,X.da (by rw[beq_iff_eq] at e;lia)⟩⟩) fun c5=>?_) fun c0=>?_
  ·rw[beq_iff_eq] at c4 c5
   refine FY (n:=x + 2) C ?K hk (j.mg _) ?_ ?_ t X f (fun q e=>(W k q (Ai _) (by lia) e).1) ?_
   case K=>exact⟨fun _ _ _ i g=>⟨i,.inl ⟨_,rfl,g⟩⟩,fun _ _ i g=>⟨i,.inr ⟨rfl,g⟩⟩,fun _ _ i g=>⟨i,rfl,g⟩⟩
   ·lia
   ·lia
   exact fun p l=>rfl
  ·have z:k=0:=by lia
   subst z
   refine FY (n:=x + 2) C ?K hk (j.mg _) Y G t D f (fun q e=>(W 0 q (Ai _) (by lia) e).1) ?_
   case K=>exact⟨fun _ _ _ i g=>⟨i,.inl ⟨_,rfl,g⟩⟩,fun _ _ i g=>⟨i,.inr ⟨rfl,g⟩⟩,fun _ _ i g=>⟨i,rfl,g⟩⟩
   exact fun p l=>rfl
end
set_option autoImplicit false
theorem kX(xs:Array Ay)(i:Nat):(xs.extract 0 i).toList=xs.toList.take i:=by simp[List.extract]
theorem tW{xs:Array Ay}{i j:Nat}(h:j<=i):xs.toList.take i=xs.toList.take j ++ (xs.extract j i).toList:=by
 rw[qB,<-List.take_add,show j + (i - j)=i by lia]
theorem yV{xs:Array Ay}{i:Nat}{p:Ay}(a:1<=i)(h:xs[i - 1]? = some p):xs.toList.take i=xs.toList.take (i - 1) ++ [p]:=by
 obtain⟨j,rfl⟩:∃ j,i=j + 1:=⟨i - 1,by lia⟩
 rw[Nat.add_sub_cancel] at h ⊢
 rw[Ga,Ds,h]
 rfl
theorem tX{xs:Array Ay}{i:Nat}{p:Ay}(h:p∈xs.toList.take i):∃ j,j < i/\xs[j]? = some p:=by
 obtain⟨j,a,e⟩:=Hf.mp h
 rw[Cg] at a
 rw[List.getElem_take] at e
 exact⟨j,by lia,by rw[<-Ds,Am (by lia),e]⟩
section
variable {S:Ay->Prop}{lt:Ay->Ay->Bool}{a b out out':Array Ay}{na nb:Nat}
theorem bF.mvR{o m r t:List Ay}(a:bF lt ((r ++ m) ++ o))(f:bF lt (t ++ o))(h:∀ x∈m,∀ y∈t,lt x y=false):bF lt (r ++ (m ++ o))/\bF lt (t ++ (m ++ o)):=by
 rw[Ce] at a
 refine⟨a,?_⟩
 obtain⟨c,g,d⟩:=Ct.mp f
 refine Ct.mpr ⟨c,(Ct.mp a).2.1,fun y b x e=>?_⟩
 rcases Bo.mp e with q | q
 ·exact h x q y b
 ·exact d y b x q
structure dE(lt:Ay->Ay->Bool)(a b out:Array Ay)(na nb:Nat):Prop where
 p:(a.toList.take na ++ (b.toList.take nb ++ out.toList)).Perm (a.toList ++ b.toList)
 oa:bF lt (a.toList.take na ++ out.toList.reverse)
 ob:bF lt (b.toList.take nb ++ out.toList.reverse)
theorem tY(O:Ord S lt)(hb:bU S b)(sb:bF lt b.toList){c x:Ay}(g:S x)(a:b[nb - 1]? = some c)(d:lt x c=false):∀ y∈b.toList.take nb,lt x y=false:=fun y f=>by
 obtain⟨j,h,e⟩:=tX f
 by_cases z:j=nb - 1
 ·subst z;rw[a] at e;cases e;exact d
 ·exact O.tran (hb.get e) (hb.get a) g (sb.idx (by lia) e a) d
theorem dE.ma{m:List Ay}{d:Nat}(h:dE lt a b out na nb)(c:out'.toList=out.toList ++ m.reverse)(hd:a.toList.take na=a.toList.take d ++ m)(i:∀ x∈m,∀ y∈b.toList.take nb,lt x y=false):dE lt a b out' d nb:=by
 have f:=h.oa
 rw[hd] at f
 obtain⟨g,j⟩:=f.mvR h.ob i
 have e:out'.toList.reverse=m ++ out.toList.reverse:=by rw[c];simp
 refine⟨?_,by rw[e];exact g,by rw[e];exact j⟩
 have:=h.p
 rw[hd,Ce] at this
 rw[c,<-Ce (List.take nb _)]
 exact(Cw _ (Gx.trans (Hq _ (List.reverse_perm _)))).trans this
theorem dE.mb{m:List Ay}{d:Nat}(h:dE lt a b out na nb)(c:out'.toList=out.toList ++ m.reverse)(hd:b.toList.take nb=b.toList.take d ++ m)(i:∀ x∈m,∀ y∈a.toList.take na,lt x y=false):dE lt a b out' na d:=by
 have f:=h.ob
 rw[hd] at f
 obtain⟨g,j⟩:=f.mvR h.oa i
 have e:out'.toList.reverse=m ++ out.toList.reverse:=by rw[c];simp
 refine⟨?_,by rw[e];exact j,by rw[e];exact g⟩
 have:=h.p
 rw[hd,Ce] at this
 rw[c]
 exact(Cw _ (Cw _ (Gx.trans (Hq _ (List.reverse_perm _))))).trans this
theorem dE.pa(O:Ord S lt)(ha:bU S a)(hb:bU S b)(sb:bF lt b.toList){p c:Ay}(h:dE lt a b out na nb)(g:1<=na)(d:a[na - 1]? = some p)(e:b[nb - 1]? = some c)(hl:lt p c=false):dE lt a b (out.push p) (na - 1) nb:=
 h.ma (m:=[p]) (by simp) (yV g d) fun x f=>by cases Az.mp f;exact tY O hb sb (ha.get d) e hl
theorem dE.pb(O:Ord S lt)(ha:bU S a)(hb:bU S b)(sa:bF lt a.toList){p c:Ay}(h:dE lt a b out na nb)(g:1<=nb)(d:b[nb - 1]? = some p)(e:a[na - 1]? = some c)(hl:lt p c=false):dE lt a b (out.push p) na (nb - 1):=
 h.mb (m:=[p]) (by simp) (yV g d) fun x f=>by cases Az.mp f;exact tY O ha sa (hb.get d) e hl
theorem seg_at{xs:Array Ay}{i j:Nat}{p:Ay}(h:p∈(xs.extract i j).toList):∃ k,i<=k/\k < j/\xs[k]? = some p:=by
 by_cases a:i<=j
 ·obtain⟨k,rfl⟩:∃ k,j=i + k:=⟨j - i,by lia⟩
  obtain⟨l,hl,e⟩:=tV h
  exact⟨i + l,by lia,by lia,e⟩
 ·rw[qB,show j - i=0 by lia,Nj] at h;cases h
theorem dE.ea(O:Ord S lt)(ha:bU S a)(hb:bU S b)(sb:bF lt b.toList){d:Ay}{k:Nat}(h:dE lt a b out na nb)(hk:k<=na)(f:b[nb - 1]? = some d)(hl:∀ i x,k<=i->i < na->a[i]? = some x->lt x d=false):dE lt a b (out ++ (a.extract k na).reverse) k nb:=
 h.ma (by simp) (tW hk) fun x g=>by obtain⟨j,l,c,e⟩:=seg_at g;exact tY O hb sb (ha.get e) f (hl j x l c e)
theorem dE.eb(O:Ord S lt)(ha:bU S a)(hb:bU S b)(sa:bF lt a.toList){d:Ay}{k:Nat}(h:dE lt a b out na nb)(hk:k<=nb)(f:a[na - 1]? = some d)(hl:∀ i x,k<=i->i < nb->b[i]? = some x->lt x d=false):dE lt a b (out ++ (b.extract k nb).reverse) na k:=
 h.mb (by simp) (tW hk) fun x g=>by obtain⟨j,l,c,e⟩:=seg_at g;exact tY O ha sa (hb.get e) f (hl j x l c e)
theorem dE.pm(h:dE lt a b out na nb):(a.extract 0 na ++ b.extract 0 nb ++ out.reverse).toList.Perm (a.toList ++ b.toList):=by
 rw[Bw,Bw,Kv,kX,kX,Ce]
 exact(Cw _ (Cw _ (List.reverse_perm _))).trans h.p
theorem dE.da(h:dE lt a b out na nb)(e:na=0):Mg lt a b (a.extract 0 na ++ b.extract 0 nb ++ out.reverse):=by
 refine⟨h.pm,?_⟩
 subst e
 rw[Bw,Bw,Kv,kX,kX,Nj,Ld]
 exact h.ob
theorem dE.db(h:dE lt a b out na nb)(e:nb=0):Mg lt a b (a.extract 0 na ++ b.extract 0 nb ++ out.reverse):=by
 refine⟨h.pm,?_⟩
 subst e
 rw[Bw,Bw,Kv,kX,kX,Nj,Gf]
 exact h.oa
theorem dE.fb(h:dE lt a b out na nb)(e:nb=1)(hf:∀ x y,b[0]? = some y->x∈a.toList->lt x y=false):Mg lt a b (b.extract 0 nb ++ a.extract 0 na ++ out.reverse):=by
 refine⟨?_,?_⟩
 ·refine List.Perm.trans ?_ h.pm
  rw[Bw,Bw,Bw,Bw]
  exact Hq _ Gx
 ·subst e
  rw[Bw,Bw,Kv,kX,kX,Ce]
  obtain⟨d,i,f⟩:=Ct.mp h.ob
  refine Ct.mpr ⟨d,h.oa,fun y c x g=>?_⟩
  rcases Bo.mp g with q | q
  ·obtain⟨j,k,e⟩:=tX c
   have:j=0:=by lia
   subst this
   exact hf x y e (Ky q)
  ·exact f y c x q
end
structure j0(lt:Ay->Ay->Bool)(a b:Array Ay)(k:Nat)(out:Array Ay)(na nb:Nat):Prop where
 n:k + na + nb<=a.size + b.size
 a1:1<=na
 a2:na<=a.size
 b1:2<=nb
 b2:nb<=b.size
 p:dE lt a b out na nb
abbrev oF:=Option (Array Ay)×Nat×Nat×Array Ay×Nat×Nat×Nat
def iR(a b out:Array Ay)(na nb mg k l:Nat):StateT Cq Sem (ForInStep oF):=do
 let q <-elem' a (na - 1)
 if (na - 1 == 0)=true then pure (.done (some (a.extract 0 (na - 1) ++ b.extract 0 nb ++ (out.push q).reverse),na - 1,nb,out.push q,mg,k,l))
 else if (decide (k < 7) && decide (l < 7))=true then pure (.done (none,na - 1,nb,out.push q,mg,k,l))
 else pure (.yield (none,na - 1,nb,out.push q,mg,k,l))
def zaX(a b out:Array Ay)(na nb mg k c:Nat)(g:Ay->Option Nat->StateT Cq Sem (ForInStep oF)):StateT Cq Sem (ForInStep oF):=do
 let p <-elem' b (nb - 1)
 if (nb - 1 == 1)=true then pure (.done (some (b.extract 0 (nb - 1) ++ a.extract 0 na ++ (out.push p).reverse),na,nb - 1,out.push p,mg,k,c))
 else do
  let q <-elem' a (na - 1)
  let x <-tU true q b 0 (nb - 1) (nb - 1 - 1)
  g p x
structure FZ(lt:Ay->Ay->Bool)(a b:Array Ay)(st:Cq)(n:Nat)(Q:ForInStep oF->Cq->Prop):Prop where
 fin:∀ r c st',eC st st'->Mg lt a b r->Q (.done (some r,c)) st'
 non:∀ c st',eC st st'->j0 lt a b n c.2.2.1 c.1 c.2.1->Q (.done (none,c)) st'
 yld:∀ c st',eC st st'->j0 lt a b n c.2.2.1 c.1 c.2.1->Q (.yield (none,c)) st'
section
variable {M:Mu}{A:Bu}{E:Ac->Ah->Prop}{s:Ah}{κ:He}{S:Ay->Prop}{lt:Ay->Ay->Bool}{st st2:Cq}{a b out:Array Ay}{na nb mg k l n:Nat}{p q:Ay}{Q:ForInStep oF->Cq->Prop}
theorem F1(C:MC M A E s κ S lt a b)(K:FZ lt a b st n Q)(f:eC st st2)(B:n + na + nb<=a.size + b.size + 1)(r:1<=na)(z:na<=a.size)(o:2<=nb)(p:nb<=b.size)(m:dE lt a b out na nb)(j:a[na - 1]? = some q)(v:∀ y,b[nb - 1]? = some y->lt q y=false):wpS M A E s (iR a b out na nb mg k l) Q st2:=by
 obtain⟨w,d,x⟩:=C.hb.at (i:=nb - 1) (by lia)
 have h:=m.pa C.O C.ha C.hb C.sb r j d (v w d)
 refine Av (eN C.ha (by lia) fun D e u=>?_)
 cases j.symm.trans e
 refine w_ite (fun c=>Bf (K.fin _ _ _ f (h.da (by rw[beq_iff_eq] at c;exact c)))) fun t=>?_
 rw[beq_iff_eq] at t
 have g:j0 lt a b n _ _ _:=⟨by lia,by lia,by lia,o,p,h⟩
 exact w_ite (fun _=>Bf (K.non _ _ f g)) fun _=>Bf (K.yld _ _ f g)
theorem F2(C:MC M A E s κ S lt a b)(K:FZ lt a b st n Q)(hk:kindOf st=κ)(f:eC st st2)(U:n + na + nb<=a.size + b.size)(u:1<=na)(x:na<=a.size)(T:2<=nb)(P:nb<=b.size)(F:dE lt a b out na nb)(w:b[nb - 1]? = some p)(J:∀ q,a[na - 1]? = some q->lt p q=false){B:Nat}{g:Ay->Option Nat->StateT Cq Sem (ForInStep oF)}
  (H:∀ p l,g p (some l)=if nb - 1 - l > 0 then(if (l == 1)=true then pure (.done (some (b.extract 0 l ++ a.extract 0 na ++ (out.push p ++ (b.extract l (nb - 1)).reverse).reverse),na,l,out.push p ++ (b.extract l (nb - 1)).reverse,mg,k,nb - 1 - l)) else if (l == 0)=true then pure (.done (some (a.extract 0 na ++ b.extract 0 l ++ (out.push p ++ (b.extract l (nb - 1)).reverse).reverse),na,l,out.push p ++ (b.extract l (nb - 1)).reverse,mg,k,nb - 1 - l)) else iR a b (out.push p ++ (b.extract l (nb - 1)).reverse) na l mg k (nb - 1 - l)) else iR a b (out.push p) na (nb - 1) mg k (nb - 1 - l)):wpS M A E s (zaX a b out na nb mg k B g) Q st2:=by
 obtain⟨q,d,sq⟩:=C.ha.at (i:=na - 1) (by lia)
 have m:=F.pb C.O C.ha C.hb C.sa (by lia) w d (J q d)
 refine Av (eN C.hb (by lia) fun W r G=>?_)
 cases w.symm.trans r
 refine w_ite (fun c=>Bf (K.fin _ _ _ f (m.fb (by rw[beq_iff_eq] at c;exact c) C.hf))) fun L=>?_
 rw[beq_iff_eq] at L
 refine Av (eN C.ha (by lia) fun V h N=>?_)
 cases d.symm.trans h
 refine Av (oC (left:=true) C.C C.O (f.kind.trans hk) sq C.hb (by lia) (by lia) (C.sb.ix _ _) fun l t o v=>?_)
 simp only[if_true,Gn] at o v
 have j:=m.eb C.O C.ha C.hb C.sa t d v
 rw[H]
 refine w_ite (fun _=>w_ite (fun c=>Bf (K.fin _ _ _ f (j.fb (by rw[beq_iff_eq] at c;exact c) C.hf))) fun D=>w_ite (fun c=>Bf (K.fin _ _ _ f (j.db (by rw[beq_iff_eq] at c;exact c)))) fun I=>?_) fun R=>?_
 ·rw[beq_iff_eq] at D I
  exact F1 C K f (by lia) u x (by lia) (by lia) j d fun y e=>(o (l - 1) y (by lia) e).1
 ·have z:l=nb - 1:=by lia
  subst z
  exact F1 C K f (by lia) u x (by lia) (by lia) m d fun y e=>(o (nb - 1 - 1) y (by lia) e).1
end
section
variable {M:Mu}{A:Bu}{E:Ac->Ah->Prop}{s:Ah}{κ:He}{S:Ay->Prop}{lt:Ay->Ay->Bool}{st:Cq}
theorem zaY{a b:Array Ay}{Q:Array Ay->Cq->Prop}(U:Cmp M A E s κ S lt)(O:Ord S lt)(hk:kindOf st=κ)(ha:bU S a)(hb:bU S b)(f:1<=a.size)(g:1<=b.size)(sa:bF lt a.toList)(sb:bF lt b.toList)
  (hf:∀ x y,b[0]? = some y->x∈a.toList->lt x y=false) (hl:∀ x y,a[a.size - 1]? = some x->y∈b.toList->lt x y=false)
  (V:∀ r st',eC st st'->Mg lt a b r->Q r st'):wpS M A E s (zaS a b) Q st:=by
 refine Av (Nc (Ei ⟨rfl,?_⟩))
 refine Av (eN ha (by lia) fun H F _=>?_)
 have i0:dE lt a b #[H] (a.size - 1) b.size:=by
  have e:a.toList=a.toList.take (a.size - 1) ++ [H]:=by
   rw[<-yV f F,Dw (by simp)]
  refine⟨?_,?_,?_⟩
  ·rw[Dw (l:=b.toList) (by simp)]
   conv=>rhs;rw[e]
   rw[Ce]
   exact Cw _ Gx
  ·show bF lt (_ ++ [H])
   rw[<-e];exact sa
  ·rw[Dw (l:=b.toList) (by simp)]
   exact Ct.mpr ⟨sb,Mh _ _,fun y hy x hx=>by cases Az.mp hx;exact hl H y F hy⟩
 refine w_ite (fun c=>Bf (V _ _ (.refl _) (i0.da (by rw[beq_iff_eq] at c;exact c)))) fun c1=>?_
 refine w_ite (fun c=>Bf (V _ _ (.refl _) (i0.fb (by rw[beq_iff_eq] at c;exact c) hf))) fun c2=>?_
 rw[beq_iff_eq] at c1 c2
 refine Av (Ko ?_)
 refine Av (Hc (Eh (I:=fun x c st'=>eC st st'/\c.1=none/\j0 lt a b (x + 1) c.2.2.2.1 c.2.1 c.2.2.1)
  (Q:=fun c st'=>eC st st'/\∃ r,c.1=some r/\Mg lt a b r) ?_ ?_ ⟨.refl _,rfl,⟨by dsimp only;lia,by dsimp only;lia,by dsimp only;lia,by dsimp only;lia,by dsimp only;lia,i0⟩⟩) ?_)
 rotate_left
 ·rintro c st' ⟨_,_,h⟩
  have:=h.n
  lia
 ·rintro⟨_,c⟩ st' ⟨u,r,rfl,j⟩
  exact Bf (V _ _ u j)
 rintro x c t _ _ ⟨u,_,B⟩
 have T:kindOf t=κ:=u.kind.trans hk
 refine Av (Hc (Eh (I:=fun y c st'=>t=st'/\c.1=none/\j0 lt a b (x + 1 + y) c.2.2.2.1 c.2.1 c.2.2.1)
  (Q:=fun c st'=>t=st'/\((∃ r,c.1=some r/\Mg lt a b r)\/(c.1=none/\j0 lt a b (x + 2) c.2.2.2.1 c.2.1 c.2.2.1))) ?_ ?_ ⟨rfl,rfl,B⟩) ?_)
 ·rintro y c st' _ _ ⟨rfl,_,i1,L,W,J,G,w⟩
  refine Av (eN hb (by lia) fun p j sp=>Av (eN ha (by lia) fun q v sq=>Av (U p q t _ sp sq T ?_)))
  refine w_ite (fun d=>?_) fun d=>?_
  ·refine Av (eN ha (by lia) fun q2 N sq2=>?_)
   cases v.symm.trans N
   have D:=w.pa O ha hb sb L v j (O.asym sp sq d)
   refine w_ite (fun e=>Bf ⟨rfl,.inl ⟨_,rfl,D.da (by rw[beq_iff_eq] at e;exact e)⟩⟩) fun P=>?_
   rw[beq_iff_eq] at P
   have m:∀ n,n<=x + 2 + y->j0 lt a b n _ _ _:=fun n hn=>⟨by lia,by lia,by lia,J,G,D⟩
   exact w_ite (fun _=>Bf ⟨rfl,.inr ⟨rfl,m _ (by lia)⟩⟩) fun _=>Bf ⟨rfl,rfl,m _ (by lia)⟩
  ·refine Av (eN hb (by lia) fun p2 R sp2=>?_)
   cases j.symm.trans R
   have D:=w.pb O ha hb sa (by lia) j v (by simpa using d)
   refine w_ite (fun e=>Bf ⟨rfl,.inl ⟨_,rfl,D.fb (by rw[beq_iff_eq] at e;exact e) hf⟩⟩) fun P=>?_
   rw[beq_iff_eq] at P
   have m:∀ n,n<=x + 2 + y->j0 lt a b n _ _ _:=fun n hn=>⟨by lia,L,W,by lia,by lia,D⟩
   exact w_ite (fun _=>Bf ⟨rfl,.inr ⟨rfl,m _ (by lia)⟩⟩) fun _=>Bf ⟨rfl,rfl,m _ (by lia)⟩
 ·rintro c st' ⟨rfl,h,m⟩
  exact⟨rfl,.inr ⟨h,⟨by have:=m.n;lia,m.2,m.3,m.4,m.5,m.6⟩⟩⟩
 rintro⟨_,c⟩ st' ⟨rfl,⟨r,rfl,j⟩ | ⟨rfl,B⟩⟩
 ·exact Bf ⟨u,r,rfl,j⟩
 refine Av (Nc (Ei ⟨rfl,?_⟩))
 refine Av (Hc (Eh (I:=fun y c st'=>eC st st'/\c.1=none/\j0 lt a b (x + 2) c.2.2.2.1 c.2.1 c.2.2.1)
  (Q:=fun c st'=>eC st st'/\((∃ r,c.1=some r/\Mg lt a b r)\/(c.1=none/\j0 lt a b (x + 2) c.2.2.2.1 c.2.1 c.2.2.1))) ?_ (fun c st' h=>⟨h.1,.inr h.2⟩) ⟨u,rfl,B⟩) ?_)
 rotate_left
 ·rintro⟨_,c⟩ st' ⟨u,⟨r,rfl,j⟩ | ⟨rfl,B⟩⟩
  ·exact Bf ⟨u,r,rfl,j⟩
  ·exact Av (Hu (Bf ⟨u.mg _,rfl,B⟩))
 rintro y c st2 _ _ ⟨o,_,i1,L,W,J,G,w⟩
 have C:MC M A E s κ S lt a b:=⟨U,O,ha,hb,sa,sb,hf,hl⟩
 obtain⟨p,j,sp⟩:=hb.at (i:=c.2.2.1 - 1) (by lia)
 refine w_ite (fun _=>?_) fun _=>?_
 all_goals
  refine Av (Hu ?_)
  refine Av (eN hb (by lia) fun p' Z sp'=>?_)
  cases j.symm.trans Z
  refine Av (oC (left:=false) U O (o.kind.trans hk) sp ha (by lia) (by lia) (sa.ix _ _) fun k X Y g2=>?_)
  simp only[Cp,if_false,Gn] at Y g2
  have j6:=w.ea O ha hb sb X j fun i x f g e=>(g2 i x f g e).1
  refine w_ite (fun _=>w_ite (fun e=>Bf ⟨o.mg _,.inl ⟨_,rfl,j6.da (by rw[beq_iff_eq] at e;exact e)⟩⟩) fun c4=>?_) fun c0=>?_
  ·rw[beq_iff_eq] at c4
   refine F2 (n:=x + 2) C ?K hk (o.mg _) ?_ ?_ ?_ J G j6 j (fun q e=>Y (k - 1) q (by lia) e) ?_
   case K=>exact⟨fun _ _ _ f g=>⟨f,.inl ⟨_,rfl,g⟩⟩,fun _ _ f g=>⟨f,.inr ⟨rfl,g⟩⟩,fun _ _ f g=>⟨f,rfl,g⟩⟩
   ·lia
   ·lia
   ·lia
   exact fun p l=>rfl
  ·have z:k=c.2.1:=by lia
   subst z
   refine F2 (n:=x + 2) C ?K hk (o.mg _) i1 L W J G w j (fun q e=>Y (c.2.1 - 1) q (by lia) e) ?_
   case K=>exact⟨fun _ _ _ f g=>⟨f,.inl ⟨_,rfl,g⟩⟩,fun _ _ f g=>⟨f,.inr ⟨rfl,g⟩⟩,fun _ _ f g=>⟨f,rfl,g⟩⟩
   exact fun p l=>rfl
end
set_option autoImplicit false
theorem F5(sa:Nat):∀ (l:List Ay) (k:Nat) (xs:Array Ay),sa + k + l.length<=xs.size->
  ((l.zipIdx k).foldl (fun a x=>match x with | (p,j)=>a.setIfInBounds (sa + j) p) xs).toList=xs.toList.take (sa + k) ++ l ++ xs.toList.drop (sa + k + l.length)
 | [],k,xs,_=>by simp
 | p :: l,k,xs,h=>by
  rw[Jj,Ge]
  simp only[Bp] at h
  rw[F5 sa l (k + 1) _ (by simp;lia)]
  simp only[Array.toList_setIfInBounds]
  have hk:sa + k < xs.toList.length:=by simp;lia
  rw[show sa + (k + 1)=sa + k + 1 by lia,List.take_succ_eq_append_getElem (by simpa using hk),List.getElem_set_self,List.take_set_of_le (Ai _),List.drop_set_of_lt (by lia)]
  simp only[Ce,List.singleton_append,Bp]
  congr 3
  lia
section
variable {M:Mu}{A:Bu}{E:Ac->Ah->Prop}{s:Ah}{κ:He}{S:Ay->Prop}{lt:Ay->Ay->Bool}{st:Cq}
theorem zaZ{st':Cq}{Q:PUnit->Cq->Prop}(h:Q ⟨⟩ st'):wpS M A E s (set st':StateT Cq Sem PUnit) Q st:=by
 unfold wpS;rw[StateT.run_set];exact Ag ⟨rfl,h⟩
theorem bU.ext{xs:Array Ay}(h:bU S xs)(i j:Nat):bU S (xs.extract i j):=fun p a=>by
 obtain⟨k,_,_,e⟩:=seg_at a
 exact h.get e
theorem cC.srt{xs:Array Ay}{i j:Nat}(h:cC lt xs i j)(f:j<=xs.size):bF lt (xs.extract i j).toList:=by
 refine Ft.mpr fun u v c d b=>?_
 have e:∀ w (hw:w < (xs.extract i j).toList.length),w < j - i/\xs[i + w]? = some (xs.extract i j).toList[w]:=fun w hw=>by
  have a:w < j - i:=by rw[qB,Cg] at hw;lia
  refine⟨a,?_⟩
  rw[Array.getElem_toList,Array.getElem_extract,Ls]
 obtain⟨a1,a2⟩:=e u c
 obtain⟨b1,b2⟩:=e v d
 exact h _ _ _ _ (Mq _ _) (Ny b i) (by lia) a2 b2
theorem cC.all{xs:Array Ay}(h:cC lt xs 0 xs.size):bF lt xs.toList:=by
 have:=h.srt (Ai _)
 rwa [lS,Lk] at this
theorem cC.sub{xs:Array Ay}{i j k l:Nat}(h:cC lt xs i j)(d:i<=k)(e:l<=j):cC lt xs k l:=fun u v p q a b c=>h u v p q (by lia) b (by lia)
theorem cC.join{xs:Array Ay}{i m j:Nat}(k:cC lt xs i m)(l:cC lt xs m j)(h:∀ u v p q,i<=u->u < m->m<=v->v < j->xs[u]? = some p->xs[v]? = some q->lt q p=false):cC lt xs i j:=fun u v p q a b c d e=>by
 by_cases g:v < m
 ·exact k u v p q a b g d e
 ·by_cases f:u < m
  ·exact h u v p q a f (by lia) c d e
  ·exact l u v p q (by lia) b c d e
theorem za0{b o w w':Nat}{Q:Bool->Cq->Prop}(hC:Cmp M A E s κ S lt)(O:Ord S lt)(hk:kindOf st=κ)(g:bU S (Dg st))(hp:Ec st = #[(0,b,w),(b,o,w')])(hn1:1<=b)(hn2:1<=o)(hz:b + o=(Dg st).size)
  (G:cC lt (Dg st) 0 b) (F:cC lt (Dg st) b (b + o)) (r:Hn st=none)
  (hq:∀ st',(Dg st').Perm (Dg st)->Hn st'=none->(Ec st').size=1->bF lt (Dg st').toList->Q true st'):wpS M A E s (mergeAt' 0) Q st:=by
 obtain⟨xs,P⟩:∃ xs,Dg st=xs:=⟨_,rfl⟩
 rw[P] at g G F hz hq
 have V:b + o=xs.size:=hz
 have hu:(Ec st)[0]? = some (0,b,w):=by rw[hp];rfl
 have hv:(Ec st)[0 + 1]? = some (b,o,w'):=by rw[hp];rfl
 have Z:(((Ec st).setIfInBounds 0 (0,b + o,w)).eraseIdxIfInBounds (0 + 1)).size=1:=by rw[hp];simp
 unfold Dg at P
 have D:∀ {p q:Ay} {j:Nat},xs[b]? = some p->b<=j->j < b + o->xs[j]? = some q->∀ {x},S x->lt p x=false->lt q x=false:=fun {p q j} f n R d {x} sx h=>by
  rcases Lr n with rfl | n
  ·rw[f] at d;cases d;exact h
  ·exact O.tran sx (g.get f) (g.get d) h (F _ _ _ _ (Ai _) n R f d)
 have B:∀ {p q:Ay} {i:Nat},xs[b - 1]? = some q->i < b->xs[i]? = some p->∀ {x},S x->lt x q=false->lt x p=false:=fun {p q i} f n d {x} sx h=>by
  by_cases z:i=b - 1
  ·subst z;rw[f] at d;cases d;exact h
  ·exact O.tran (g.get d) (g.get f) sx (G _ _ _ _ (Bx _) (by lia) (by lia) d f) h
 refine Av (Ko ?_)
 rw[hu,hv,P]
 dsimp only
 refine Av (zaZ ?_)
 have fin:∀ {st':Cq},Dg st'=xs->cC lt xs 0 (b + o)->Hn st'=none->(Ec st').size=1->Q true st':=fun {st'} f d e3 e4=>by
  refine hq st' (by rw[f]) e3 e4 ?_
  rw[f]
  rw[V] at d
  exact d.all
 refine Av (eN g (by lia) fun p J sp=>?_)
 refine Av (oC (left:=false) hC O hk sp g (by lia) (by lia) (by rw[Gn];exact G) fun k W g1 g2=>?_)
 simp only[Cp,if_false,Gn] at g1 g2
 dsimp only
 rw[show 0 + k=k from Gn k]
 refine w_ite (fun c=>Bf (fin rfl (G.join F fun u v x y _ n R h3 f d=>D J R h3 d (g.get f) (g1 u x (by rw[beq_iff_eq] at c;lia) f)) r Z)) fun d1=>?_
 rw[beq_iff_eq] at d1
 refine Av (eN g (by lia) fun q hq' sq=>?_)
 have H:xs[b - 1]? = some q:=by rw[<-hq'];congr 1;lia
 refine Av (oC (left:=true) hC O hk sq g (by lia) (by lia) F fun l hl f1 f2=>?_)
 simp only[if_true] at f1 f2
 dsimp only
 refine w_ite (fun c=>Bf (fin rfl (G.join F fun u v x y _ n R h3 f d=>B H n f (g.get d) (f2 (v - b) y (by rw[beq_iff_eq] at c;lia) (by lia) (by rw[<-d];congr 1;lia))) r Z)) fun d2=>?_
 rw[beq_iff_eq] at d2
 have sA:=(G.sub (Bx k) (Ai b)).srt (by lia)
 have sB:=(F.sub (Ai b) (show b + l<=b + o by lia)).srt (by lia)
 have z1:(xs.extract k b).size=b - k:=by rw[Array.size_extract];lia
 have z2:(xs.extract b (b + l)).size=l:=by rw[Array.size_extract];lia
 have hf:∀ x y,(xs.extract b (b + l))[0]? = some y->x∈(xs.extract k b).toList->lt x y=false:=fun x y e U=>by
  have:y=p:=by
   rw[Array.getElem?_extract] at e
   split at e
   ·rw[Nat.add_zero,J] at e;cases e;rfl
   ·cases e
  subst this
  obtain⟨j,N,I,e⟩:=seg_at U
  exact(g2 j x N I e).1
 have X:∀ x y,(xs.extract k b)[(xs.extract k b).size - 1]? = some x->y∈(xs.extract b (b + l)).toList->lt x y=false:=fun x y e K=>by
  have:x=q:=by
   rw[Array.getElem?_extract] at e
   split at e
   ·rw[z1,show k + (b - k - 1)=b - 1 by lia,H] at e;cases e;rfl
   ·cases e
  subst this
  obtain⟨j,N,I⟩:=tV K
  exact(f1 j y N I).1
 have put:∀ (m:Array Ay),Mg lt (xs.extract k b) (xs.extract b (b + l)) m->∃ L:List Ay,(m.toList.zipIdx.foldl (fun a x=>match x with | (p,j)=>a.setIfInBounds (k + j) p) xs).toList=L/\L.Perm xs.toList/\bF lt L:=fun m ⟨m1,m2⟩=>by
  have len:m.toList.length=b + l - k:=by rw[m1.length_eq,Aw,Bv,Bv];lia
  refine⟨_,F5 k _ 0 _ (by lia),?_,?_⟩
  ·have e:xs.toList=xs.toList.take k ++ ((xs.extract k b).toList ++ (xs.extract b (b + l)).toList) ++ xs.toList.drop (k + 0 + m.toList.length):=by
    rw[<-Ce,<-tW W,<-tW (Mq _ _),show k + 0 + m.toList.length=b + l by lia,Nb]
   conv=>rhs;rw[e]
   exact Hq _ (Cw _ m1)
  ·have mem:∀ y∈m.toList,∃ j,k<=j/\j < b + l/\xs[j]? = some y:=fun y K=>by
    rcases Bo.mp (m1.mem_iff.mp K) with h | h
    ·obtain⟨j,N,I,e⟩:=seg_at h
     exact⟨j,N,by lia,e⟩
    ·obtain⟨j,N,I,e⟩:=seg_at h
     exact⟨j,by lia,I,e⟩
   rw[Nat.add_zero,show k + m.toList.length=b + l by lia]
   have sC:=(G.sub (Ai 0) W).srt (by lia)
   rw[kX] at sC
   have sD:=(F.sub (show b<=b + l by lia) (Ai _)).srt (by lia)
   rw[V,lS] at sD
   refine Ct.mpr ⟨Ct.mpr ⟨sC,m2,fun x U y K=>?_⟩,sD,fun x U y K=>?_⟩
   ·obtain⟨i,Y,f⟩:=tX U
    obtain⟨j,N,I,d⟩:=mem y K
    by_cases hj:j < b
    ·exact G _ _ _ _ (Bx _) (by lia) hj f d
    ·exact D J (by lia) (by lia) d (g.get f) (g1 i x Y f)
   ·obtain⟨j,d⟩:=yT K
    have hj:=(Co.mp d).1
    have fy:=f2 (l + j) y (by lia) (by lia) (by rw[<-d];congr 1;lia)
    have ax:∀ i,i < b + l->xs[i]? = some x->lt y x=false:=fun i hi f=>by
     by_cases h:i < b
     ·exact B H h f (g.get d) fy
     ·exact F _ _ _ _ (by lia) (by lia) (by lia) f d
    rcases Bo.mp U with h | h
    ·obtain⟨i,Y,f⟩:=tX h
     exact ax i (by lia) f
    ·obtain⟨i,_,Y,f⟩:=mem x h
     exact ax i Y f
 have C:∀ (m:Array Ay) (st':Cq),kindOf st'=κ->Dg st'=xs->(Ec st').size=1->Hn st'=none->Mg lt (xs.extract k b) (xs.extract b (b + l)) m->
   Q (Hn st').isNone (SortSt.mk' (kindOf st') (m.toList.zipIdx.foldl (fun a x=>match x with | (p,j)=>a.setIfInBounds (k + j) p) (Dg st')) (Ec st') (gallopOf st') (Hn st')):=fun m st' f d e3 e4 T=>by
  obtain⟨L,n,R,h3⟩:=put m T
  rw[e4]
  refine hq _ ?_ rfl e3 ?_
  ·rw[Iz]
   show(m.toList.zipIdx.foldl _ (Dg st')).toList.Perm _
   rw[d,n];exact R
  ·show bF lt (m.toList.zipIdx.foldl _ (Dg st')).toList
   rw[d,n];exact h3
 refine w_ite (fun _=>?_) fun _=>?_
 ·refine Av (zaW hC O hk (g.ext _ _) (g.ext _ _) (by rw[z1];lia) (by rw[z2];lia) sA sB hf X fun m st' t T=>?_)
  exact Av (Hu (Av (Ko (Bf (by
   have:=C m st' (t.kind.trans hk) t.arr (by rw[t.pend];exact Z) (t.failed.trans r) T
   simpa using this)))))
 ·refine Av (zaY hC O hk (g.ext _ _) (g.ext _ _) (by rw[z1];lia) (by rw[z2];lia) sA sB hf X fun m st' t T=>?_)
  exact Av (Hu (Av (Ko (Bf (by
   have:=C m st' (t.kind.trans hk) t.arr (by rw[t.pend];exact Z) (t.failed.trans r) T
   simpa using this)))))
end
set_option autoImplicit false
def yW(lt:Ay->Ay->Bool)(xs:Array Ay):Prop:=∀ (i j:Nat) p q,i < j->xs[i]? = some p->xs[j]? = some q->lt p q=true\/lt q p=true
def qD(lt:Ay->Ay->Bool)(xs:Array Ay)(i j:Nat):Prop:=∀ k l p q,i<=k->k < l->l < j->xs[k]? = some p->xs[l]? = some q->lt p q=false
structure Rn(κ:He)(a₀:Array Ay)(P:Array (Nat×Nat×Nat))(b₀:Array Ay)(lo:Nat)(st:Cq):Prop where
 perm:(Dg st).Perm a₀
 kind:kindOf st=κ
 failed:Hn st=none
 pend:Ec st=P
 left:∀ k,k < lo->(Dg st)[k]? = b₀[k]?
section
variable {M:Mu}{A:Bu}{E:Ac->Ah->Prop}{s:Ah}{κ:He}{S:Ay->Prop}{lt:Ay->Ay->Bool}{st:Cq}{a₀ b₀:Array Ay}{P:Array (Nat×Nat×Nat)}{lo:Nat}
theorem Rn.size(h:Rn κ a₀ P b₀ lo st):(Dg st).size=a₀.size:=h.perm.size_eq
theorem Rn.all(h:Rn κ a₀ P b₀ lo st)(b:bU S a₀):bU S (Dg st):=fun p a=>b p ((Iz.mp h.perm).mem_iff.mp a)
theorem Rn.arr(h:Rn κ a₀ P b₀ lo st){xs:Array Ay}(a:xs.Perm (Dg st))(hl:∀ k,k < lo->xs[k]? = (Dg st)[k]?):Rn κ a₀ P b₀ lo (setArr st xs):=
 ⟨a.trans h.perm,h.kind,h.failed,h.pend,fun k hk=>(hl k hk).trans (h.left k hk)⟩
theorem Rn.ltw{i j:Nat}{Q:Option Bool->Cq->Prop}(h:Rn κ a₀ P b₀ lo st)(b:Cmp M A E s κ S lt)(a:bU S a₀)(hi:i < a₀.size)(c:j < a₀.size)(d:∀ p q,(Dg st)[i]? = some p->(Dg st)[j]? = some q->S p->S q->Q (some (lt p q)) st):wpS M A E s (ltAt' i j) Q st:=
 zaT b h.kind (h.all a) (Lp hi h.size.symm) (Lp c h.size.symm) d
theorem w_rev{i j:Nat}{Q:Unit->Cq->Prop}(h:Q () (setArr st (mirror (Dg st) i j ((j - i) / 2)))):wpS M A E s (reverseSlice' i j) Q st:=by rw[reverseSlice'_eq];exact Hu h
theorem za1{i j:Nat}{Q:Unit->Cq->Prop}(h:Q () (setArr st (bubble (Dg st) i (i - j)))):wpS M A E s (moveDown' i j) Q st:=by rw[moveDown'_eq];exact Hu h
theorem cC.one{xs:Array Ay}{i:Nat}:cC lt xs i (i + 1):=fun k l p q c a b=>by lia
theorem cC.snoc(O:Ord S lt){xs:Array Ay}(d:bU S xs){i n:Nat}(m:1<=n)(h:cC lt xs i (i + n))(hl:∀ p q,xs[i + n]? = some p->xs[i + n - 1]? = some q->lt p q=false):cC lt xs i (i + (n + 1)):=fun k l p q f g j b a=>by
 by_cases z:l < i + n
 ·exact h k l p q f g z b a
 ·have e:l=i + n:=by lia
  subst e
  by_cases y:k=i + n - 1
  ·subst y;exact hl q p a b
  ·obtain⟨r,c⟩:∃ r,xs[i + n - 1]? = some r:=by
    have:=(Co.mp a).1
    exact⟨_,getElem?_pos xs (i + n - 1) (by lia)⟩
   exact O.tran (d.get b) (d.get c) (d.get a) (h k (i + n - 1) p r f (by lia) (by lia) b c) (hl q r a c)
theorem qD.snoc(O:Ord S lt){xs:Array Ay}(d:bU S xs){i n:Nat}(m:1<=n)(h:qD lt xs i (i + n))(hl:∀ p q,xs[i + n]? = some p->xs[i + n - 1]? = some q->lt q p=false):qD lt xs i (i + (n + 1)):=fun k l p q f g j b a=>by
 by_cases z:l < i + n
 ·exact h k l p q f g z b a
 ·have e:l=i + n:=by lia
  subst e
  by_cases y:k=i + n - 1
  ·subst y;exact hl q p a b
  ·obtain⟨r,c⟩:∃ r,xs[i + n - 1]? = some r:=by
    have:=(Co.mp a).1
    exact⟨_,getElem?_pos xs (i + n - 1) (by lia)⟩
   exact O.tran (d.get a) (d.get c) (d.get b) (hl q r a c) (h k (i + n - 1) p r f (by lia) (by lia) b c)
theorem F6{a:Nat}{Q:Option Nat->Cq->Prop}(B:Cmp M A E s κ S lt)(O:Ord S lt)(u:bU S a₀)(V:∀ xs:Array Ay,xs.Perm a₀->yW lt xs)(g:Rn κ a₀ P b₀ lo st)(hl:lo + a<=a₀.size)(R:1<=a)
  (N:∀ m st',Rn κ a₀ P b₀ lo st'->1<=m->m<=a->cC lt (Dg st') lo (lo + m)->Q (some m) st'):wpS M A E s (countRun' lo a) Q st:=by
 have J:=g.all u
 have F:=V _ g.perm
 refine Av (Hc (Eh (I:=fun x c st'=>st=st'/\c=(none,x)/\cC lt (Dg st) lo (lo + x)) (Q:=fun c st'=>st=st'/\c.1=none/\1<=c.2/\c.2<=a/\cC lt (Dg st) lo (lo + c.2)/\(c.2=a\/∀ p q,(Dg st)[lo + c.2]? = some p->(Dg st)[lo + c.2 - 1]? = some q->lt p q=true)) ?_ ?_ ⟨rfl,rfl,cC.one⟩) ?_)
 ·rintro x c st' H C ⟨rfl,rfl,hs⟩
  refine Av (g.ltw B u (by dsimp only;lia) (by dsimp only;lia) fun p q f b sp sq=>?_)
  dsimp only at f b ⊢
  refine w_ite (fun d=>Bf ⟨rfl,rfl,H,by dsimp only;lia,hs,.inr fun G K j h=>?_⟩) fun d=>Bf ⟨rfl,rfl,hs.snoc O J H fun G K j h=>?_⟩
  ·cases f.symm.trans j;cases b.symm.trans h;exact d
  ·cases f.symm.trans j;cases b.symm.trans h;simpa using d
 ·rintro c st' ⟨rfl,rfl,hs⟩
  have e:max 1 a=a:=by lia
  rw[e] at hs ⊢
  exact⟨rfl,rfl,R,Ai _,hs,.inl rfl⟩
 rintro⟨r,n⟩ st' ⟨rfl,t,w,y,hs,hb⟩
 dsimp only at t w y hs hb ⊢
 subst t
 dsimp only
 refine w_ite (fun _=>Bf (N _ _ g w y hs)) fun U=>?_
 rw[beq_iff_eq] at U
 have hb:=hb.resolve_left U
 refine w_ite (fun c2=>?_) fun c2=>?_
 ·refine Av (g.ltw B u (by lia) (by lia) fun p q f b sp sq=>?_)
  dsimp only
  refine w_ite (fun _=>Bf (N _ _ g w y hs)) fun d=>?_
  rcases F lo (lo + n - 1) p q (by lia) f b with z | z
  ·exact absurd z d
  ·rw[hs lo (lo + n - 1) p q (Ai _) (by lia) (by lia) f b] at z;cases z
 have e:n=1:=by lia
 subst e
 refine Av (Nc (Ei ⟨rfl,?_⟩))
 refine Av (Hc (Eh (I:=fun x c st'=>st=st'/\c=(none,x,0)/\qD lt (Dg st) lo (lo + x)) (Q:=fun c st'=>st=st'/\c.1=none/\2<=c.2.1/\c.2.1<=a/\c.2.2=0/\qD lt (Dg st) lo (lo + c.2.1)) ?_ ?_ ⟨rfl,rfl,fun k l p q k1 k2 k3 f b=>?_⟩) ?_)
 ·rintro x c st' H C ⟨rfl,rfl,hs⟩
  refine Av (g.ltw B u (by dsimp only;lia) (by dsimp only;lia) fun p q f b sp sq=>?_)
  dsimp only at f b ⊢
  refine w_ite (fun d=>w_ite (fun z=>absurd z (Gr 0)) fun _=>Bf ⟨rfl,rfl,hs.snoc O J (by lia) fun G K j h=>?_⟩) fun d=>?_
  ·cases f.symm.trans j;cases b.symm.trans h;exact O.asym sp sq d
  refine Av (g.ltw B u (by lia) (by lia) fun G K j h _ _=>?_)
  cases f.symm.trans h;cases b.symm.trans j
  dsimp only
  refine w_ite (fun _=>Bf ⟨rfl,rfl,by dsimp only;lia,by dsimp only;lia,rfl,hs⟩) fun W=>?_
  rcases F (lo + x - 1) (lo + x) q p (by lia) b f with z | z
  ·exact absurd z W
  ·exact absurd z d
 ·rintro c st' ⟨rfl,rfl,hs⟩
  have e:max (1 + 1) a=a:=by lia
  rw[e] at hs ⊢
  exact⟨rfl,rfl,by dsimp only;lia,Ai _,rfl,hs⟩
 ·have a1:k=lo:=by lia
  have a2:l=lo + 1:=by lia
  subst a1 a2
  exact O.asym (J.get b) (J.get f) (hb q p b f)
 rintro⟨r,n,Y⟩ st' ⟨rfl,t,Z,X,D,hs⟩
 dsimp only at t Z X D hs ⊢
 subst t D
 dsimp only
 refine w_ite (fun z=>absurd z (Gr 0)) fun _=>?_
 have hj:lo + n<=(Dg st).size:=Bh (by lia) (Fe g.size.symm)
 have mg:=fun k=>getElem?_mirror_all (xs:=Dg st) (i:=lo) hj k
 obtain⟨ys,o⟩:∃ ys,ys=mirror (Dg st) lo (lo + n) ((lo + n - lo) / 2):=⟨_,rfl⟩
 have v:Rn κ a₀ P b₀ lo (setArr st ys):=g.arr (by rw[o];exact mirror_perm _ _ _ _) fun k hk=>by rw[o,mg,if_neg (by lia)]
 have L:=v.all u
 refine Av (w_rev ?_)
 have T:cC lt ys lo (lo + n):=fun k l p q R h2 h3 f b=>by
  rw[o,mg,if_pos (by lia)] at f b
  exact hs _ _ q p (by lia) (by lia) (by lia) b f
 show wpS M A E s _ _ (setArr st (mirror (Dg st) lo (lo + n) ((lo + n - lo) / 2)))
 rw[<-o]
 refine Av (Hc (Eh (I:=fun x c st'=>setArr st ys=st'/\c=(none,x)/\cC lt ys lo (lo + x)) (Q:=fun c st'=>setArr st ys=st'/\c.1=none/\1<=c.2/\c.2<=a/\cC lt ys lo (lo + c.2)) ?_ ?_ ⟨rfl,rfl,T⟩) ?_)
 ·rintro x c st' H C ⟨rfl,rfl,hs⟩
  refine Av (v.ltw B u (by dsimp only;lia) (by dsimp only;lia) fun p q f b sp sq=>?_)
  dsimp only at f b ⊢
  refine w_ite (fun d=>Bf ⟨rfl,rfl,by dsimp only;lia,by dsimp only;lia,hs⟩) fun d=>Bf ⟨rfl,rfl,hs.snoc O L (by lia) fun G K j h=>?_⟩
  cases f.symm.trans j;cases b.symm.trans h;simpa using d
 ·rintro c st' ⟨rfl,rfl,hs⟩
  have e:max n a=a:=by lia
  rw[e] at hs ⊢
  exact⟨rfl,rfl,R,Ai _,hs⟩
 rintro⟨r,n⟩ st' ⟨rfl,t,w,y,hs⟩
 dsimp only at t w y hs ⊢
 subst t
 exact Bf (N _ _ v w y hs)
theorem F7{n ok:Nat}{Q:Bool->Cq->Prop}(hC:Cmp M A E s κ S lt)(O:Ord S lt)(X:bU S a₀)(hT:Rn κ a₀ P b₀ lo st)(hl:lo + n<=a₀.size)(hok:1<=ok)(hon:ok<=n)(hs:cC lt (Dg st) lo (lo + ok))
  (hq:∀ st',Rn κ a₀ P b₀ lo st'->cC lt (Dg st') lo (lo + n)->Q true st'):wpS M A E s (binarySort' lo n ok) Q st:=by
 have Y:max ok 1=ok:=by lia
 refine Av (Hc (Eh (I:=fun k c st'=>Rn κ a₀ P b₀ lo st'/\c.1=none/\cC lt (Dg st') lo (lo + k)) (Q:=fun c st'=>Rn κ a₀ P b₀ lo st'/\c.1=none/\cC lt (Dg st') lo (lo + n)) ?_ (fun c st' h=>⟨h.1,h.2.1,by have:=h.2.2;rwa [Y,show max ok n=n by lia] at this⟩) ⟨hT,rfl,by rw[Y];exact hs⟩) ?_)
 ·rintro k ⟨r,u⟩ m hk hkn ⟨B,_,t⟩
  have L:=B.all X
  have sz:=B.size
  obtain⟨xs,w⟩:∃ xs,Dg m=xs:=⟨_,rfl⟩
  rw[w] at L sz t
  obtain⟨J,G,F⟩:=L.at (i:=lo + k) (by lia)
  dsimp only
  refine Av (Hc (Eh (I:=fun x c st'=>m=st'/\c.1=none/\c.2.1<=c.2.2/\c.2.2<=k/\c.2.2 - c.2.1 + x<=k/\(∀ i p,i < c.2.1->xs[lo + i]? = some p->lt J p=false)/\(∀ i p,c.2.2<=i->i < k->xs[lo + i]? = some p->lt J p=true))
   (Q:=fun c st'=>m=st'/\c.1=none/\c.2.1<=k/\(∀ i p,i < c.2.1->xs[lo + i]? = some p->lt J p=false)/\(∀ i p,c.2.1<=i->i < k->xs[lo + i]? = some p->lt J p=true)) ?_ ?_ ⟨rfl,rfl,Bx _,Ai _,by dsimp only;lia,fun i p h=>absurd h (Nat.not_lt_zero _),fun i p g W=>absurd g (by dsimp only;lia)⟩) ?_)
  ·rintro x ⟨r,l,h⟩ st' _ _ ⟨rfl,_,N,U,g3,D,C⟩
   dsimp only at N U g3 D C ⊢
   refine w_ite (fun c=>Bf ⟨rfl,rfl,by dsimp only;lia,D,fun i p g=>C i p (by dsimp only at g;lia)⟩) fun c=>?_
   refine Av (B.ltw hC X (by lia) (by lia) fun p q o f sp sq=>?_)
   rw[w] at o f
   cases G.symm.trans o
   dsimp only
   refine w_ite (fun d=>Bf ⟨rfl,rfl,by dsimp only;lia,by dsimp only;lia,by dsimp only;lia,D,fun i z g W e=>?_⟩) fun d=>Bf ⟨rfl,rfl,by dsimp only;lia,U,by dsimp only;lia,fun i z g e=>?_,C⟩
   ·dsimp only at g
    rcases Lr g with rfl | g
    ·rw[f] at e;cases e;exact d
    ·cases y:lt J z with
     | true=>rfl
     | false=>rw[O.tran sq (L.get e) F (t _ _ q z (by lia) (by lia) (by lia) f e) y] at d;cases d
   ·dsimp only at g
    have d':lt J q=false:=by simpa using d
    rcases Lr (Nat.le_of_lt_succ g) with rfl | g
    ·rw[f] at e;cases e;exact d'
    ·exact O.tran (L.get e) sq F (t _ _ z q (by lia) (by lia) (by lia) e f) d'
  ·rintro c st' ⟨rfl,e,N,U,g3,D,C⟩
   exact⟨rfl,e,by lia,D,fun i p g=>C i p (by lia)⟩
  ·rintro⟨r,l,h⟩ st' ⟨rfl,K,N,D,C⟩
   dsimp only at K N D C ⊢
   subst K
   have bg:=fun j=>getElem?_bubble (xs:=xs) (src:=lo + k) (by lia) (lo + k - (lo + l)) (by lia) j
   rw[show lo + k - (lo + k - (lo + l))=lo + l by lia] at bg
   obtain⟨ys,H⟩:∃ ys,ys=bubble xs (lo + k) (lo + k - (lo + l)):=⟨_,rfl⟩
   rw[<-H] at bg
   have R:Rn κ a₀ P b₀ lo (setArr m ys):=B.arr (by rw[H,w];exact bubble_perm _ _ _) fun j hj=>by rw[bg,if_neg (by lia),if_neg (by lia),w]
   refine Av (za1 (Bf ?_))
   show Rn κ a₀ P b₀ lo (setArr m (bubble (Dg m) (lo + k) (lo + k - (lo + l))))/\_/\cC lt (bubble (Dg m) (lo + k) (lo + k - (lo + l))) lo (lo + (k + 1))
   rw[w,<-H]
   refine⟨R,rfl,fun u v p q g W h3 o f=>?_⟩
   rw[bg] at o f
   have gt:∀ j z,lo + l<=j->j < lo + k->xs[j]? = some z->lt z J=false:=fun j z a b e=>O.asym F (L.get e) (C (j - lo) z (by lia) (by lia) (by rw[show lo + (j - lo)=j by lia];exact e))
   by_cases v1:v < lo + l
   ·rw[if_neg (by lia),if_neg (by lia)] at o f
    exact t u v p q g W (by lia) o f
   ·by_cases v2:v=lo + l
    ·rw[if_neg (by lia),if_neg (by lia)] at o
     rw[if_pos v2,G] at f
     cases f
     exact D (u - lo) p (by lia) (by rw[show lo + (u - lo)=u by lia];exact o)
    ·rw[if_neg v2,if_pos (by lia)] at f
     by_cases u1:u < lo + l
     ·rw[if_neg (by lia),if_neg (by lia)] at o
      exact t u (v - 1) p q g (by lia) (by lia) o f
     ·by_cases Z:u=lo + l
      ·rw[if_pos Z,G] at o
       cases o
       exact gt (v - 1) q (by lia) (by lia) f
      ·rw[if_neg Z,if_pos (by lia)] at o
       exact t (u - 1) (v - 1) p q (by lia) (by lia) (by lia) o f
 ·rintro⟨r,u⟩ st' ⟨T,K,V⟩
  dsimp only at K ⊢
  subst K
  exact Bf (hq _ T V)
end
set_option autoImplicit false
theorem za2{n:Nat}(c:1<=n)(h:n < 128):1<=minRun' n n 0/\minRun' n n 0<=n/\n<=2 * minRun' n n 0:=by
 have key:∀ f,1<=f->64<=n->f + 1=n->minRun' (f + 1) n 0=n / 2 + n % 2:=fun f hf b e=>by
  obtain⟨g,rfl⟩:∃ g,f=g + 1:=⟨f - 1,by lia⟩
  rw[minRun'_succ,if_neg (by lia),minRun'_succ,if_pos (by lia)]
  lia
 obtain⟨f,hf⟩:∃ f,f + 1=n:=⟨n - 1,by lia⟩
 by_cases a:n < 64
 ·have:minRun' (f + 1) n 0=n:=by rw[minRun'_succ,if_pos a];rfl
  rw[hf] at this
  lia
 ·have:=key f (by lia) (by lia) hf
  rw[hf] at this
  lia
section
variable {M:Mu}{A:Bu}{E:Ac->Ah->Prop}{s:Ah}{κ:He}{S:Ay->Prop}{lt:Ay->Ay->Bool}{st:Cq}{a₀:Array Ay}
def One(κ:He)(lt:Ay->Ay->Bool)(a₀:Array Ay)(a:Nat)(st:Cq):Prop:=∃ w,Rn κ a₀ #[(0,a,w)] a₀ 0 st/\cC lt (Dg st) 0 a
def tZ(κ:He)(lt:Ay->Ay->Bool)(a₀:Array Ay)(st:Cq):Prop:=∃ a b w c,1<=a/\1<=b/\a + b=a₀.size/\Rn κ a₀ #[(0,a,w),(a,b,c)] a₀ 0 st/\cC lt (Dg st) 0 a/\cC lt (Dg st) a (a + b)
def Dn(lt:Ay->Ay->Bool)(a₀:Array Ay)(st:Cq):Prop:=(Dg st).Perm a₀/\Hn st=none/\(Ec st).size<=1/\bF lt (Dg st).toList
theorem Rn.push{P a:Array (Nat×Nat×Nat)}{b₀:Array Ay}{lo:Nat}(h:Rn κ a₀ P b₀ lo st){st':Cq}(e:Dg st'=Dg st)(d:kindOf st'=kindOf st)(c:Hn st'=Hn st)(b:Ec st'=a):Rn κ a₀ a a₀ 0 st':=
 ⟨by rw[e];exact h.perm,d.trans h.kind,c.trans h.failed,b,fun k hk=>absurd hk (Nat.not_lt_zero _)⟩
theorem za3{Q:Unit->Cq->Prop}(B:Cmp M A E s κ S lt)(O:Ord S lt)(t:bU S a₀)(T:∀ xs:Array Ay,xs.Perm a₀->yW lt xs)(W:2<=a₀.size)(C:a₀.size < 128)(U:Rn κ a₀ #[] a₀ 0 st)
  (hq:∀ st',(Dg st').Perm a₀->Hn st'=none->bF lt (Dg st').toList->Q () st'):wpS M A E s sortRuns' Q st:=by
 obtain⟨m1,m2,m3⟩:=za2 (n:=a₀.size) (by lia) C
 refine Av (Ko ?_)
 dsimp only
 rw[U.size]
 obtain⟨o,m⟩:∃ o,minRun' a₀.size a₀.size 0=o:=⟨_,rfl⟩
 rw[m] at m1 m2 m3
 unfold minRun' at m
 rw[m]
 refine Av (Hc (Eh (I:=fun x c st'=>c.1=none/\((x=0/\c.2=0/\Rn κ a₀ #[] a₀ 0 st')\/(x=1/\o<=c.2/\c.2<=a₀.size/\One κ lt a₀ c.2 st')\/(2<=x/\c.2=a₀.size/\tZ κ lt a₀ st')))
  (Q:=fun c st'=>c.1=none/\(One κ lt a₀ a₀.size st'\/tZ κ lt a₀ st')) ?_ ?_ ⟨rfl,.inl ⟨rfl,rfl,U⟩⟩) ?_)
 ·rintro x ⟨r,lo⟩ l _ hx ⟨j,hc⟩
  dsimp only at j hc ⊢
  subst j
  rcases hc with⟨rfl,rfl,d⟩ | ⟨rfl,X,k2,w,d,k⟩ | ⟨X,rfl,d⟩
  ·refine w_ite (fun c=>absurd c (by lia)) fun _=>?_
   refine Av (F6 B O t T d (by lia) (by lia) fun n a b J K i=>?_)
   dsimp only
   refine w_ite (fun D=>?_) fun D=>?_
   ·refine Av (Nc (Ei ⟨rfl,?_⟩))
    refine Av (F7 B O t b (by lia) J (Nat.le_min.mpr ⟨K,Ic D⟩) i fun g f F=>?_)
    refine w_ite (fun c=>absurd c (by decide)) fun _=>?_
    refine Av (Ko ?_)
    have hb:(Ec g).back? = none:=by rw[f.pend];rfl
    rw[hb]
    have V:min (a₀.size - 0) o=o:=by lia
    rw[V,Gn] at F
    rw[V]
    exact Av (Hu (Bf ⟨rfl,.inr (.inl ⟨rfl,by dsimp only;lia,by dsimp only;lia,0,by
     dsimp only;rw[Gn];exact f.push rfl rfl rfl (by show(Ec g).push _=_;rw[f.pend];rfl),by dsimp only;rw[Gn];exact F⟩)⟩))
   ·refine Av (Ko ?_)
    have hb:(Ec a).back? = none:=by rw[b.pend];rfl
    rw[hb]
    rw[Gn] at i
    exact Av (Hu (Bf ⟨rfl,.inr (.inl ⟨rfl,by dsimp only;lia,by dsimp only;lia,0,by
     dsimp only;rw[Gn];exact b.push rfl rfl rfl (by show(Ec a).push _=_;rw[b.pend];rfl),by dsimp only;rw[Gn];exact i⟩)⟩))
  ·refine w_ite (fun c=>Bf ⟨rfl,.inl ?_⟩) fun c1=>?_
   ·have e:lo=a₀.size:=Nat.le_antisymm k2 c
    subst e
    exact⟨w,d,k⟩
   have L:Rn κ a₀ #[(0,lo,w)] (Dg l) lo l:=⟨d.perm,d.kind,d.failed,d.pend,fun _ _=>rfl⟩
   have G:∀ (n:Nat) (a:Cq),Rn κ a₀ #[(0,lo,w)] (Dg l) lo a->n=a₀.size - lo->cC lt (Dg a) lo (lo + n)->∀ H,tZ κ lt a₀ (SortSt.mk' (kindOf a) (Dg a) (((Ec a).modify ((Ec a).size - 1) fun x=>(x.1,x.2.1,H)).push (lo,n,0)) (gallopOf a) (Hn a)):=fun n a b hn i H=>by
    refine⟨lo,n,H,0,by lia,by lia,by lia,b.push rfl rfl rfl ?_,fun u v p q h1 W R N P=>?_,i⟩
    ·show((Ec a).modify ((Ec a).size - 1) fun x=>(x.1,x.2.1,H)).push (lo,n,0)=_
     rw[b.pend];rfl
    ·exact k u v p q h1 W R (by rw[<-b.left u (by lia)];exact N) (by rw[<-b.left v R];exact P)
   refine Av (F6 B O t T L (by lia) (by lia) fun n a b J K i=>?_)
   dsimp only
   refine w_ite (fun D=>?_) fun D=>?_
   refine Av (Nc (Ei ⟨rfl,?_⟩))
   refine Av (F7 B O t b (by lia) J (Nat.le_min.mpr ⟨K,Ic D⟩) i fun a b i=>?_)
   refine w_ite (fun c=>absurd c (by decide)) fun _=>?_
   have en:min (a₀.size - lo) o=a₀.size - lo:=by lia
   rotate_left
   have en:n=a₀.size - lo:=by lia
   all_goals
    refine Av (Ko ?_)
    have hb:(Ec a).back? = some (0,lo,w):=by rw[b.pend];rfl
    rw[hb]
    dsimp only
    refine Av (Hc (Eh (I:=fun _ c st'=>c.1=none/\a=st') (Q:=fun c st'=>c.1=none/\a=st') ?_ (fun _ _ h=>h) ⟨rfl,rfl⟩) ?_)
    ·rintro y ⟨r,u⟩ g _ _ ⟨j,rfl⟩
     refine Av (Ko ?_)
     have N:¬ (Ec a).size > 1:=by rw[b.pend];simp
     rw[if_neg N]
     exact Bf ⟨rfl,rfl⟩
    ·rintro⟨r,u⟩ g ⟨j,rfl⟩
     dsimp only at j ⊢
     subst j
     exact Av (Hu (Av (Hu (Bf ⟨rfl,.inr (.inr ⟨Ai _,by dsimp only;lia,G _ a b en i _⟩)⟩))))
  ·exact w_ite (fun c=>Bf ⟨rfl,.inr d⟩) fun c=>absurd (Ai _) c
 ·rintro c l ⟨j,hc⟩
  rcases hc with⟨e,_⟩ | ⟨e,_⟩ | ⟨_,_,h⟩
  ·lia
  ·lia
  ·exact⟨j,.inr h⟩
 ·rintro⟨r,lo⟩ l ⟨j,hc⟩
  dsimp only at j ⊢
  subst j
  dsimp only
  refine Av (Hc (Eh (I:=fun x c st'=>c.1=none/\(Dn lt a₀ st'\/(x=0/\tZ κ lt a₀ st'))) (Q:=fun c st'=>c.1=none/\Dn lt a₀ st') ?_ ?_ ⟨rfl,?_⟩) ?_)
  ·rintro y ⟨r,u⟩ g _ _ ⟨j,hc⟩
   refine Av (Ko ?_)
   rcases hc with hd | ⟨rfl,J,K,w,w',a1,a2,a3,f,s1,s2⟩
   ·exact w_ite (fun _=>Bf ⟨rfl,hd⟩) fun c=>absurd hd.2.2.1 c
   ·refine w_ite (fun c=>?_) fun c=>?_
    ·have c:(Ec g).size<=1:=c
     rw[f.pend] at c
     exact absurd c (by simp)
    ·have z:(Ec g).size - 2=0:=by rw[f.pend];rfl
     rw[z]
     simp only[gt_iff_lt,Gr,if_false,Option.any_none,Cp]
     exact Av (za0 B O f.kind (f.all t) f.pend a1 a2 (a3.trans f.size.symm) s1 s2 f.failed fun Z e1 Y e3 e4=>Bf ⟨rfl,.inl ⟨e1.trans f.perm,Y,Fe e3,e4⟩⟩)
  ·rintro c g ⟨j,hc⟩
   rcases hc with h | ⟨e,_⟩
   ·exact⟨j,h⟩
   ·lia
  ·rcases hc with⟨w,d,k⟩ | h
   ·refine .inl ⟨d.perm,d.failed,by rw[d.pend];exact Ai 1,?_⟩
    rw[<-d.size] at k
    exact k.all
   ·exact .inr ⟨rfl,h⟩
  ·rintro⟨r,u⟩ g ⟨j,hd⟩
   dsimp only at j ⊢
   subst j
   exact Bf (hq _ hd.1 hd.2.1 hd.2.2.2)
end
section
variable {prog:Bl}{w:Cd}{A:Bu}{E:Ac->Ah->Prop}{s:Ah}
theorem za4{lt:Ay->Ay->Bool}{a₀:Array Ay}(h:a₀.toList.Pairwise fun x y=>lt x y=true\/lt y x=true):∀ xs:Array Ay,xs.Perm a₀->yW lt xs:=fun xs c i j p q a g e=>by
 have f:xs.toList.Pairwise fun x y=>lt x y=true\/lt y x=true:=((Iz.mp c).pairwise_iff fun z=>z.symm).mpr h
 obtain⟨d,rfl⟩:=Co.mp g
 obtain⟨b,rfl⟩:=Co.mp e
 have:=Ft.mp f i j (by simpa using d) (by simpa using b) a
 simpa using this
theorem list_sort_srt{a:Addr}{vs:List Ac}{n:Nat}{P:Fin->Ah->Prop}{κ:He}{S:Ac->Prop}{lt:Ac->Ac->Bool}(ho:s.heap.get? a=some (Lg "list" vs.toArray n))(hz:vs.length < 128)(hS:∀ v∈vs,S v)
  (O:Ord (fun p=>S p.1) fun p q=>lt p.1 q.1) (hd:vs.Pairwise fun x y=>lt x y=true\/lt y x=true)
  (hk:∀ h',(∀ b o,b≠a->s.heap.get? b=some o->h'.get? b=some o)->(2<=vs.length->∀ Q:He->Ah->Prop,Q κ {s with heap:=h'}->Ax (Bk prog w) A (keyKind' vs.toArray) Q E {s with heap:=h'})/\Cmp (Bk prog w) A E {s with heap:=h'} κ (fun p=>S p.1) fun p q=>lt p.1 q.1)
  (h:∀ out:List Ac,out.Perm vs->(out.Pairwise fun x y=>lt y x=false)->P (.done (.ret .none)) {s with heap:=sortedHeap s.heap a vs out.toArray}):Ax (Bk prog w) A (Hg.«list.sort» ⟨[.ref a],[]⟩) P E s:=by
 rw[list_sort_plain]
 have hzl:vs.length<=Aj:=by rw[Hl];lia
 have la:a < s.heap.objs.size:=Ak ho
 refine Aa (listItems_at ho rfl ?_)
 refine Aa (listUpdate_at ho rfl ?_ (by simpa using hzl) (Bx _))
 obtain⟨ep1,g1⟩:∃ ep1,(s.heap.update a (Gw fun _=>#[])).get? a=some (Lg "list" #[] ep1):=⟨_,get?_update_seq ho (fun _=>#[])⟩
 refine Aa (seqEpoch_at g1 rfl ?_)
 refine Aa (wpAny_newTuple ?_ (by simpa using hzl))
 refine Aa (wpAny_newList ?_ (Bx _))
 refine Cs ?_
 have g6:(((s.heap.update a (Gw fun _=>#[])).push (Lg "tuple" vs.toArray 0)).push (Lg "list" #[] 0)).get? a=some (Lg "list" #[] ep1):=by
  rw[Heap.get?_push_ne _ _ _ (by rw[size_push',Heap.size_update];exact Be (Hi la)),Heap.get?_push_ne _ _ _ (by rw[Heap.size_update];exact Be la)]
  exact g1
 obtain⟨hk1,hk2⟩:=hk _ (fun b o hb e=>Af _ (Af _ ((Fn _ _ (Bq hb)).trans e)):∀ b o,b≠a->s.heap.get? b=some o->(((s.heap.update a (Gw fun _=>#[])).push (Lg "tuple" vs.toArray 0)).push (Lg "list" #[] 0)).get? b=some o)
 show Ax (Bk prog w) A _ P E {s with heap:=((s.heap.update a (Gw fun _=>#[])).push (Lg "tuple" vs.toArray 0)).push (Lg "list" #[] 0)}
 dsimp only
 have zl:vs.toArray.size=vs.length:=by simp
 have zz:(vs.toArray.zip vs.toArray).toList=vs.map fun v=>(v,v):=by
  rw[Array.toList_zip,List.zip_eq_zipWith]
  simp only[List.zipWith_self]
 have fin:∀ st':Cq,(Dg st').Perm (vs.toArray.zip vs.toArray)->bF (fun p q=>lt p.1 q.1) (Dg st').toList->((Dg st').map (·.2)).size<=Aj + 1/\P (.done (.ret .none)) {s with heap:=sortedHeap s.heap a vs ((Dg st').map (·.2))}:=fun st' hp hs=>by
  have hp1:=Iz.mp hp
  rw[zz] at hp1
  have hp2:((Dg st').map (·.2)).toList.Perm vs:=by
   have:=hp1.map (·.2)
   rw[Ed,show((fun x:Ay=>x.2) ∘ fun v=>(v,v))=id from rfl,List.map_id] at this
   rw[Array.toList_map]
   exact this
  have same:∀ p∈(Dg st').toList,p.1=p.2:=fun p hp'=>by
   obtain⟨v,_,rfl⟩:=Au.mp (hp1.mem_iff.mp hp')
   rfl
  refine⟨?_,?_⟩
  ·have:=hp2.length_eq
   rw[Bv] at this
   lia
  ·have:=h _ hp2 (by
    rw[Array.toList_map,Gb]
    refine Lc (fun {x y} hx hy z=>?_) hs
    rw[<-same x hx,<-same y hy];exact z)
   rw[Kw] at this
   exact this
 by_cases h2:vs.toArray.size < 2
 ·rw[if_pos h2,if_pos h2]
  refine Aa (Ag ?_)
  rw[StateT.run_pure]
  refine Aa (Ag ?_)
  obtain⟨f1,f2⟩:=fin (SortSt.mk' general' (vs.toArray.zip vs.toArray) #[] 7 none) (Array.Perm.refl _) (by
   show bF _ (vs.toArray.zip vs.toArray).toList
   rw[zz]
   match vs,h2 with
   | [],_=>exact .nil
   | [v],_=>exact Mh _ _
   | _ :: _ :: r,h2=>simp at h2;lia)
  dsimp only
  refine Aa (seqEpoch_at g6 rfl ?_)
  refine Aa (listUpdate_at g6 rfl ?_ (Bx _) f1)
  simp only[bne_self_eq_false,Cp,if_false]
  exact Ag f2
 ·rw[if_neg h2,if_neg h2]
  refine Aa (hk1 (by lia) _ ?_)
  have sz:(vs.toArray.zip vs.toArray).size=vs.length:=by rw[<-Bv,zz,Ab]
  refine Aa (Hv (za3 (κ:=κ) (a₀:=vs.toArray.zip vs.toArray) (st:=SortSt.mk' κ (vs.toArray.zip vs.toArray) #[] 7 none)
   (Q:=fun _ st'=>(Dg st').Perm (vs.toArray.zip vs.toArray)/\Hn st'=none/\bF (fun p q=>lt p.1 q.1) (Dg st').toList) hk2 O (fun p hp=>?_) (za4 ?_) (by lia) (by lia) ⟨Array.Perm.refl _,rfl,rfl,rfl,fun _ _=>rfl⟩ fun st' a1 a2 a3=>⟨a1,a2,a3⟩) ?_ fun _ _ e=>e)
  ·rw[zz] at hp
   obtain⟨v,hv,rfl⟩:=Au.mp hp
   exact hS v hv
  ·rw[zz,Gb]
   exact hd
  ·rintro⟨⟨⟩,st'⟩ s' ⟨rfl,hp,hf,hs⟩
   obtain⟨f1,f2⟩:=fin st' hp hs
   dsimp only
   refine Aa (seqEpoch_at g6 rfl ?_)
   refine Aa (listUpdate_at g6 rfl ?_ (Bx _) f1)
   rw[hf]
   simp only[bne_self_eq_false,Cp,if_false]
   exact Ag f2
end
end Tso
namespace L2
open PySem PySem.Spec PyProof.Rows PySem.W
def isStr:aD->Bool
 | .inl _=>false
 | .inr _=>true
def hZ:aD->aD->Bool
 | .inl i,.inl j=>decide (i < j)
 | .inr x,.inr y=>decide (x.cps.toList < y.cps.toList)
 | _,_=>false
def b6:List aD->List aD->Bool
 | a :: c,b :: bs=>if a=b then b6 c bs else hZ a b
 | _,_=>false
theorem za5{x y:Str}(h:x.cps.toList=y.cps.toList):x=y:=by
 obtain⟨⟨x⟩⟩:=x;obtain⟨⟨y⟩⟩:=y
 cases (show x=y from h);rfl
theorem za6{a b:aD}(h:isStr a=isStr b)(d:hZ a b=false)(c:hZ b a=false):a=b:=by
 cases a <;> cases b <;> first | cases h | skip
 ·simp only[hZ,decide_eq_false_iff_not] at d c
  congr 1;lia
 ·simp only[hZ,decide_eq_false_iff_not] at d c
  congr 1
  exact za5 (List.le_antisymm (List.not_lt.mp c) (List.not_lt.mp d))
theorem F8{a b:aD}(h:hZ a b=true):hZ b a=false:=by
 cases a <;> cases b <;> first | cases h | skip
 ·simp only[hZ,decide_eq_true_eq,decide_eq_false_iff_not] at h ⊢
  lia
 ·simp only[hZ,decide_eq_true_eq,decide_eq_false_iff_not] at h ⊢
  exact fun z=>List.lt_irrefl _ (List.lt_trans h z)
theorem za7{a b c:aD}(h:hZ a b=true)(h':hZ b c=true):hZ a c=true:=by
 cases a <;> cases b <;> first | cases h | skip
 all_goals cases c <;> first | cases h' | skip
 ·simp only[hZ,decide_eq_true_eq] at h h' ⊢
  lia
 ·simp only[hZ,decide_eq_true_eq] at h h' ⊢
  exact List.lt_trans h h'
theorem t5:∀ {a b:List aD},a.map isStr=b.map isStr->b6 a b=false->b6 b a=false->a=b
 | [],[],_,_,_=>rfl
 | [],_ :: _,h,_,_=>by simp at h
 | _ :: _,[],h,_,_=>by simp at h
 | a :: f,b :: bs,h,d,c=>by
  rw[Ar,Ar,Cy] at h
  by_cases e:a=b
  ·subst e
   simp only[b6,if_true] at d c
   rw[t5 h.2 d c]
  ·simp only[b6,if_neg e,if_neg (Bq e)] at d c
   exact absurd (za6 h.1 d c) e
theorem F9:∀ {a b:List aD},b6 a b=true->b6 b a=false
 | [],_,h=>by simp[b6] at h
 | _ :: _,[],h=>by simp[b6] at h
 | a :: c,b :: bs,h=>by
  by_cases e:a=b
  ·subst e
   simp only[b6,if_true] at h ⊢
   exact F9 h
  ·simp only[b6,if_neg e,if_neg (Bq e)] at h ⊢
   exact F8 h
theorem GA:∀ {a b c:List aD},b6 a b=true->b6 b c=true->b6 a c=true
 | [],_,_,h,_=>by simp[b6] at h
 | _ :: _,[],_,h,_=>by simp[b6] at h
 | _ :: _,_ :: _,[],_,h=>by simp[b6] at h
 | a :: d,b :: bs,c :: cs,h,h'=>by
  by_cases e:a=b
  ·subst e
   by_cases f:a=c
   ·subst f
    simp only[b6,if_true] at h h' ⊢
    exact GA h h'
   ·simp only[b6,if_neg f] at h' ⊢
    exact h'
  ·simp only[b6,if_neg e] at h
   by_cases f:b=c
   ·subst f
    simp only[b6,if_neg e]
    exact h
   ·simp only[b6,if_neg f] at h'
    have g:a≠c:=fun z=>by subst z;rw[F8 h] at h';cases h'
    simp only[b6,if_neg g]
    exact za7 h h'
theorem za8{x y z:List aD}(b:x.map isStr=y.map isStr)(c:b6 y x=false)(a:b6 z y=false):b6 z x=false:=by
 cases h:b6 z x with
 | false=>rfl
 | true=>
  cases g:b6 x y with
  | true=>rw[GA h g] at a;cases a
  | false=>rw[t5 b g c] at h;rw[h] at a;cases a
def gR(h:Heap)(k:List aD)(v:Ac):Prop:=∃ b o xs n,v=.ref b/\h.get? b=some o/\o.cls=.type "tuple"/\o.data=.seq xs n/\aQ (k.map kV) xs.toList
theorem GB:∀ {k l:List aD} {us:List Ac},aQ (k.map kV) us->aQ (l.map kV) us->k=l
 | [],[],_,_,_=>rfl
 | [],_ :: _,_,h,g=>by cases h;cases g
 | _ :: _,[],_,h,g=>by cases g;cases h
 | a :: k,b :: l,_,.cons d f,.cons c i=>by
  have:a=b:=by
   cases a <;> cases b <;> obtain⟨t,rfl⟩:=d <;> obtain⟨t',e⟩:=c <;> first | cases e;rfl | cases e
  rw[this,GB f i]
theorem gR.inj{h:Heap}{k l:List aD}{v:Ac}(a:gR h k v)(b:gR h l v):k=l:=by
 obtain⟨p,o,xs,n,rfl,m,s,f,e⟩:=a
 obtain⟨r,u,g,q,j,d,t,c,i⟩:=b
 cases j
 rw[m] at d
 cases d
 rw[f] at c
 cases c
 exact GB e i
noncomputable def qE(h:Heap)(x y:Ac):Bool:=@decide (∃ k l,gR h k x/\gR h l y/\b6 k l=true) (Ek _)
theorem kY{h:Heap}{x y:Ac}{k l:List aD}(a:gR h k x)(b:gR h l y):qE h x y=b6 k l:=by
 unfold qE
 rw[Er,@decide_eq_true_eq _ (Ek _)]
 exact⟨fun⟨f,g,c,d,e⟩=>by rw[a.inj c,b.inj d];exact e,fun e=>⟨k,l,a,b,e⟩⟩
section
variable {prog:Bl}{w:Cd}{A:Bu}{E:Ac->Ah->Prop}{s:Ah}
theorem yX{b:Bool}{Q:Bool->Ah->Prop}:∀ (k l:List aD) (xs ys:List Ac) (i:Nat),k.map isStr=l.map isStr->aQ (k.map kV) xs->aQ (l.map kV) ys->Q (b6 k l) s->KatLex prog w A b false Q (xs.zip ys) i s
 | [],[],_,_,_,_,.nil,.nil,h=>h
 | [],_ :: _,_,_,_,e,_,_,_=>by simp at e
 | _ :: _,[],_,_,_,e,_,_,_=>by simp at e
 | .inl x :: k,.inr y :: l,_,_,_,e,_,_,_=>by simp[isStr] at e
 | .inr x :: k,.inl y :: l,_,_,_,e,_,_,_=>by simp[isStr] at e
 | .inr x :: k,.inr y :: l,_,_,i,e,.cons hx rx,.cons hy ry,h=>by
  obtain⟨t,rfl⟩:=hx
  obtain⟨u,rfl⟩:=hy
  rw[Ar,Ar,Cy] at e
  refine kat_cons (wpAny_eqBool_str (kat_go (fun z=>kat_yes (yX k l _ _ (i + 1) e.2 rx ry ?_)) fun z=>kat_no ?_))
  ·have z:x=y:=by simpa using z
   simp only[b6,z,if_true] at h;exact h
  ·have z:¬ (Sum.inr x:aD)=Sum.inr y:=fun q=>by cases q;simp at z
   simp only[b6,if_neg z] at h
   cases hb:(b && i == 0) with
   | true=>exact strKind_oneLt prog w A _ s (.str x t) (.str y u) _ _ rfl rfl h
   | false=>exact kat_one _ _ (PyProof.Rows.lt_str h)
 | .inl x :: k,.inl y :: l,_,_,i,e,.cons hx rx,.cons hy ry,h=>by
  obtain⟨t,rfl⟩:=hx
  obtain⟨u,rfl⟩:=hy
  rw[Ar,Ar,Cy] at e
  refine kat_cons (Ju (kat_go (fun z=>kat_yes (yX k l _ _ (i + 1) e.2 rx ry ?_)) fun z=>kat_no ?_))
  ·have z:x=y:=by simpa using z
   simp only[b6,z,if_true] at h;exact h
  ·have z:¬ (Sum.inl x:aD)=Sum.inl y:=fun q=>by cases q;simp at z
   simp only[b6,if_neg z] at h
   cases hb:(b && i == 0) with
   | true=>exact oneLt_int h
   | false=>exact kat_one _ _ (Me h)
theorem za9{sh:List Bool}{c:Heap}{S:Ac->Prop}(g:∀ v,S v->∃ k,gR c k v/\gR s.heap k v/\k.map isStr=sh):Tso.Cmp (Bk prog w) A E s (tuples' true) (fun p=>S p.1) fun p q=>qE c p.1 q.1:=by
 rintro⟨x,p⟩ ⟨y,q⟩ st Q B t hk b
 obtain⟨k,G,m,h⟩:=g x B
 obtain⟨l,I,u,f⟩:=g y t
 replace b:Q (some (qE c x y)) st:=b
 rw[kY G I] at b
 obtain⟨a,o,xs,n,rfl,C,M,j,e⟩:=m
 obtain⟨O,J,d,L,rfl,F,K,H,i⟩:=u
 rw[lt'_eq]
 refine Av (Ko ?_)
 rw[hk]
 refine Av (Nc (Kd (kat_lt C j F H ?_)))
 have z:decide (xs.size < d.size)=false:=by
  have D:=e.length
  have r:=i.length
  have N:k.length=l.length:=by have:=congrArg Dl (h.trans f.symm);simpa using this
  simp at D r
  rw[decide_eq_false_iff_not];lia
 rw[z]
 exact yX k l _ _ 0 (h.trans f.symm) e i ⟨rfl,Bf b⟩
theorem zba{sh:List Bool}{vs:List Ac}{Q:He->Ah->Prop}(g:0 < vs.length)(d:∀ v∈vs,∃ k,gR s.heap k v/\k.map isStr=true :: sh)(h:Q (tuples' true) s):Ax (Bk prog w) A (keyKind' vs.toArray) Q E s:=by
 obtain⟨fs,hl,hf,ht⟩:∃ fs:List Ac,fs.length=vs.length/\KatTups s.heap vs fs/\∀ f∈fs,∃ x t,f=.str x t:=by
  clear g h
  induction vs with
  | nil=>exact⟨[],rfl,.nil,fun _ z=>nomatch z⟩
  | cons v vs p=>
   obtain⟨fs,u,m,i⟩:=p fun v b=>d v (Bd _ b)
   obtain⟨k,⟨a,o,xs,n,rfl,l,g,j,c⟩,hk⟩:=d v Bg
   obtain⟨x,t,r,q⟩:∃ x t r,xs.toList=.str x t :: r:=by
    match k,hk,c with
    | .inr x :: k,_,c=>
     cases e:xs.toList with
     | nil=>rw[e] at c;cases c
     | cons v r=>
      rw[e] at c
      cases c with
      | cons d _=>obtain⟨t,rfl⟩:=d;exact⟨x,t,r,rfl⟩
   refine⟨.str x t :: fs,by simp[u],.cons l g j (by rw[<-Ds,q];rfl) m,fun f hf=>?_⟩
   rcases Ba.mp hf with rfl | hf
   ·exact⟨x,t,rfl⟩
   ·exact i f hf
 refine kat_kind (T:=.type "str") hf (by lia) (fun v b=>?_) rfl (by rw[show(Value.type "str" != Value.type "tuple")=true from by first | rfl | decide];exact h)
 obtain⟨x,t,rfl⟩:=ht v b
 exact .of_pure rfl
end
theorem zbb{α β:Type}{f:α->β}{out m:List β}(h:out.Perm m):∀ l:List α,m=l.map f->∃ l':List α,l'.Perm l/\out=l'.map f:=by
 induction h with
 | nil=>intro l e;cases l with
  | nil=>exact⟨[],.nil,rfl⟩
  | cons _ _=>cases e
 | cons x _ ih=>intro l e;cases l with
  | nil=>cases e
  | cons y l=>
   obtain⟨e1,e2⟩:=List.cons.inj e
   obtain⟨l',h1,h2⟩:=ih l e2
   exact⟨y :: l',h1.cons y,by rw[Ar,<-h2,<-e1]⟩
 | swap x y r=>
  intro l e
  match l,e with
  | a :: b :: l,e=>
   simp only[Ar,Cy] at e
   obtain⟨e1,e2,e3⟩:=e
   exact⟨b :: a :: l,List.Perm.swap a b l,by simp only[Ar,e1,e2,e3]⟩
 | trans _ _ ih1 ih2=>
  intro l e
  obtain⟨l1,h1,h2⟩:=ih2 l e
  obtain⟨l2,h3,h4⟩:=ih1 l1 h2
  exact⟨l2,h3.trans h1,h4⟩
theorem zbc{P:Bl}{w:Cd}{H:Hp}{h:Heap}{b:Addr}{ks:List aD}(ok:cJ P w H h)(e:H b=some (.tup (ks.map kV))):gR h ks (.ref b):=by
 obtain⟨_,its,r,o,d,a,n,c⟩:=(show cN P w H h b (.tup (ks.map kV)) from ok b _ e)
 exact⟨b,o,its.toArray,n,rfl,d,a,c,by simpa using r⟩
section
variable {X:Cx}
theorem zbd{P:Bl}{w:Cd}{H:Hp}{h:Heap}{a:Addr}{ks:List (List aD×V)}(ok:cJ P w H h)(e:Rd H a (.dT ks)) :
  ∃ es ep,∃ L:List (List aD×Addr),jN h a es ep/\(a == Gm)=false/\es.size=L.length/\L.length<=Aj/\L.map Dv=ks.map Dv/\(∀ (i:Nat) (en:Ig),es[i]? = some en->∃ q,L[i]? = some q/\en.key=.ref q.2)/\∀ q∈L,H q.2=some (.tup (q.1.map kV)):=by
 obtain⟨hz,k,xs,b,o,es,ep,r,s,p,g,m⟩:=(show cN P w H h a (.dT ks) from u7 ok e)
 have n:=Nv g
 have l:=Eo b
 refine⟨es,ep,xs.map fun x=>(x.1,x.2.1),⟨o,r,s,p⟩,k,by rw[Ab];lia,by rw[Ab];lia,?_,fun i en c=>?_,?_⟩
 ·clear g m n l hz e
  induction b with
  | nil=>rfl
  | cons d t f=>simp only[Ar] at f ⊢;rw[d.1,f]
 ·rw[entry_at g i] at c
  obtain⟨x,u,rfl⟩:=Bn.mp c
  exact⟨(x.1,x.2.1),by rw[Bi,u];rfl,rfl⟩
 ·clear g m n l hz e
  induction b with
  | nil=>exact fun q z=>nomatch z
  | cons d t f=>
   intro q j
   rw[Ar] at j
   rcases Ba.mp j with rfl | j
   ·rw[<-d.1];exact d.2.1
   ·exact f q j
def lT(l:List (List aD)):Prop:=l.Pairwise fun x y=>b6 y x=false
theorem zbe(hc:X.calm=true):cU X (.builtin "sorted") (fun xs H Q=>∃ (d:Addr) (ks:List (List aD×V)) (sh:List Bool),xs=[.ref d]/\Rd H d (.dT ks)/\(∀ p∈ks,p.1.map isStr=true :: sh)/\(ks.map Dv).Nodup/\ks.length < 128/\
  ∀ L:List (List aD×Addr),(L.map Dv).Perm (ks.map Dv)->lT (L.map Dv)->(∀ q∈L,H q.2=some (.tup (q.1.map kV)))->∀ p,H p=none->Q (.ref p) (aN H p (.lst (L.map fun q=>V.ref q.2)))):=by
 intro T s σ H xs us Q I r h
 obtain⟨d,ks,sh,rfl,hd,hsh,hnd,O,q⟩:=h
 obtain⟨u,rfl,ru⟩:=vals1 r
 cases ru
 obtain⟨es,ep,L,hat,hne,hsz,hz,c,M,hL⟩:=zbd I.hok hd
 refine Calls.call_function_entry kind_sorted plain_sorted entry_sorted (args_sorted1 _) ?_
 unfold Hg.«sorted»
 refine Aa (m:=checkCount "sorted" 1 1 _) (Ag (Aa (PySem.W.kdu_collect (A:=X.A.in1) (RG (ep:=ep) (es:=es) hne) (I.ok.hd hc) hat (by rw[hsz];exact hz) fun h' tk acc hk t=>?_)))
 have D:acc.toList=L.map fun q=>Value.ref q.2:=by
  refine List.ext_getElem? fun i=>?_
  rw[Ds,Bi]
  by_cases hi:i < es.size
  ·obtain⟨j,hq1,hq2⟩:=M i es[i] (by simp[hi])
   obtain⟨v,w⟩:∃ v,acc[i]? = some v:=⟨_,getElem?_pos acc i (by rw[t.1];exact hi)⟩
   obtain⟨en,Z,rfl⟩:=t.2 i v w
   have:en=es[i]:=by simpa [hi] using Z.symm
   rw[w,hq1,this,hq2]
   rfl
  ·rw[getElem?_neg acc i (by rw[t.1];exact hi),Im (by lia)]
   rfl
 have I1:Inv X T σ H {s with heap:=h',toks:=tk}:=I.kept (t':=tk) hk
 have hLl:L.length=ks.length:=by have:=congrArg Dl c;simpa using this
 have hlz:acc.toList.length < 128:=by rw[D,Ab,hLl];exact O
 have B:∀ j∈L,gR h' j.1 (.ref j.2)/\j.1.map isStr=true :: sh:=fun j Y=>by
  refine⟨zbc I1.hok (hL j Y),?_⟩
  have hm:j.1∈ks.map Dv:=by rw[<-c];exact Gi Y
  obtain⟨p',a,hpe⟩:=Au.mp hm
  rw[<-hpe];exact hsh p' a
 refine Aa (wpAny_newList ?_ (by rw[Hl];lia))
 have ho:(h'.push (Lg "list" acc.toList.toArray 0)).get? h'.objs.size=some (Lg "list" acc.toList.toArray 0):=Ap _ rfl
 have at_:∀ v∈acc.toList,∃ k,gR h' k v/\k.map isStr=true :: sh:=fun v w=>by
  rw[D] at w
  obtain⟨j,Y,rfl⟩:=Au.mp w
  exact⟨j.1,B j Y⟩
 have U:∀ {h2:Heap},(∀ b o,b≠h'.objs.size->(h'.push (Lg "list" acc.toList.toArray 0)).get? b=some o->h2.get? b=some o)->∀ v∈acc.toList,∃ k,gR h' k v/\gR h2 k v/\k.map isStr=true :: sh:=fun {h2} E v w=>by
  obtain⟨k,a1,a2⟩:=at_ v w
  obtain⟨b,o,its,n,e1,e2,e3,e4,e5⟩:=id a1
  exact⟨k,a1,⟨b,o,its,n,e1,E b o (Be (Ak e2)) (Af _ e2),e3,e4,e5⟩,a2⟩
 refine Aa (Cs (De slot_list_sort ⟨_,ho,rfl⟩ entry_list_sort (Tso.list_sort_srt (κ:=tuples' true) (S:=fun v=>v∈acc.toList) (lt:=qE h') ho hlz (fun v w=>w) ⟨fun {x y} J G e=>?_,fun {x y z} J G hz e f=>?_⟩ ?_
  (fun h2 E=>⟨fun h2' Q' K=>zba (sh:=sh) (by lia) (fun v w=>by obtain⟨k,_,a2,a3⟩:=U E v w;exact⟨k,a2,a3⟩) K,za9 (U E)⟩) fun out hp hs=>⟨_,rfl,?_⟩) (args_list_sort _)))
 ·obtain⟨k,N,k2⟩:=at_ _ J
  obtain⟨l,R,l2⟩:=at_ _ G
  rw[kY N R] at e
  rw[kY R N]
  exact F9 e
 ·obtain⟨k,N,k2⟩:=at_ _ J
  obtain⟨l,R,l2⟩:=at_ _ G
  obtain⟨m,m1,m2⟩:=at_ _ hz
  rw[kY R N] at e
  rw[kY m1 R] at f
  rw[kY m1 N]
  exact za8 (k2.trans l2.symm) e f
 ·rw[D,Gb]
  have nd:(L.map Dv).Nodup:=by rw[c];exact hnd
  rw[List.Nodup,Gb] at nd
  refine Lc (fun {x y} J G z=>?_) nd
  obtain⟨a1,a2⟩:=B x J
  obtain⟨b1,b2⟩:=B y G
  rw[kY a1 b1,kY b1 a1]
  cases g:b6 x.1 y.1 with
  | true=>exact .inl rfl
  | false=>
   cases g2:b6 y.1 x.1 with
   | true=>exact .inr rfl
   | false=>exact absurd (t5 (a2.trans b2.symm) g g2) z
 rw[D] at hp
 obtain⟨C,a,rfl⟩:=zbb hp L rfl
 obtain⟨e,Z⟩:=sortedHeap_at (out:=(C.map fun q=>Value.ref q.2).toArray) ho
 have F:C.length=L.length:=a.length_eq
 have vals:aQ (C.map fun q=>V.ref q.2) (C.map fun q=>Value.ref q.2):=by
  clear Z F a hp hs
  induction C with
  | nil=>exact .nil
  | cons z l ih=>exact .cons rfl ih
 have hs':lT (C.map Dv):=by
  unfold lT
  rw[Gb] at hs ⊢
  refine Lc (fun {x y} J G z=>?_) hs
  rw[kY (B y (a.mem_iff.mp G)).1 (B x (a.mem_iff.mp J)).1] at z
  exact z
 refine Ag ⟨_,rfl,.ref h'.objs.size,_,I1.laid (o:=.lst (C.map fun q=>V.ref q.2)) (t':=tk) (fun b o eb=>?_) (Ai _) ⟨by rw[Ab,F];exact hz,C.map fun q=>Value.ref q.2,e,vals,Z⟩,rfl,q C (by rw[<-c];exact a.map _) hs' (fun j K=>hL j (a.mem_iff.mp K)) _ I1.fresh⟩
 have P:b < h'.objs.size:=Ak eb
 exact(sortedHeap_old (Be P) (by rw[Dr];exact Hi P)).trans (Af _ eb)
end
end L2
namespace L3
open PySem PySem.Spec PyProof.Rows L2
section
variable {X:Cx}
def zbf(kvs:List (List aD×W)):W->Mm->Prop
 | .ref a,M=>M a=some (.dT kvs)
 | .dt k,_=>k=kvs
 | .ft k,_=>k=kvs
 | _,_=>False
def qF:List W->Mm->K3->Prop:=fun ws M R=>∃ x kvs sh,ws=[x]/\zbf kvs x M/\(∀ p∈kvs,p.1.map isStr=true :: sh)/\(kvs.map Dv).Nodup/\kvs.length < 128/\∀ L:List (List aD),L.Perm (kvs.map Dv)->lT L->aV (L.map fun k=>.tup (k.map wK)) M R
theorem yY(hc:X.calm=true):cU X (.builtin "sorted") (fZ X.K qF):=by
 rintro c s E H xs us Q I rs ⟨ws,M,R,u,g,⟨x,kvs,sh,rfl,hd,j,i,m,r⟩,k⟩
 obtain⟨v,rfl,J⟩:=g.one
 obtain⟨a,ks,rfl,w,b⟩:∃ a ks,v=.ref a/\Rd H a (.dT ks)/\ks.map Dv=kvs.map Dv:=by
  cases J <;> first | exact(show False from hd).elim | skip
  case ref a=>obtain⟨ks,f,q⟩:=u _ _ (show M a=_ from hd);exact⟨a,ks,rfl,.inl f,q.keys⟩
  case dt a ks k e n b q=>cases (show k=kvs from hd);exact⟨a,ks,rfl,.inl e,b⟩
  case ft a o ks k e b q=>cases (show k=kvs from hd);exact⟨a,ks,rfl,.inr ⟨o,e⟩,b⟩
 refine zbe hc c s E H _ us Q I rs ⟨a,ks,sh,rfl,w,fun p d=>?_,by rw[b];exact i,by have:=congrArg Dl b;simp at this;lia,fun L d hs t p h=>?_⟩
 ·have F:p.1∈kvs.map Dv:=by rw[<-b];exact Gi d
  obtain⟨B,D,A⟩:=Au.mp F
  rw[<-A]
  exact j B D
 ·have C:aL X.K H M (L.map fun q=>V.ref q.2) ((L.map Dv).map fun k=>W.tup (k.map wK)):=by
   clear d hs
   induction L with
   | nil=>exact .nil
   | cons z l y=>exact .cons (.tup (t z Bg) (DY z.1)) (y fun q G=>t q (Bd _ G))
  exact iF u k h C (r (L.map Dv) (by rw[<-b];exact d) hs)
theorem zbg{sh:List Bool}{a b:List (List aD)}(c:a.Perm b)(ha:lT a)(hb:lT b)(hs:∀ k∈a,k.map isStr=sh):a=b:=
 List.Perm.eq_of_pairwise (le:=fun x y=>b6 y x=false) (fun x y g f e d=>t5 ((hs x g).trans (hs y (c.mem_iff.mpr f)).symm) d e) ha hb c
end
end L3
namespace L2
open PySem PySem.Spec PyProof.Rows
section
variable {X:Cx}{a:Expr}{ta:TA}{p p2 pos pos2:Pos}
def zbh(ta:TA):TE:=fun b H Q=>ta b H fun vs a=>∃ n:Nat,vs=[.int n]/\n<=1000/\∀ q,a q=none->Q (.ref q) (aN a q (.lst ((Cb n).map fun(i:Nat)=>V.int i)))
theorem zbi(hc:X.calm=true)(hg:Gl X "list")(hm:X.mg "list" = none)(hg2:Gl X "range")(hm2:X.mg "range" = none)(ha:PA X [a] ta)
  (hs1:Bj [.Call (.Name "range" p2) [a] [] pos2] X.env=[(false,eval (.Call (.Name "range" p2) [a] [] pos2) X.env)]:=by rfl) (hs2:Bj [a] X.env=[(false,eval a X.env)]:=by rfl) :
  PE X (.Call (.Name "list" p) [.Call (.Name "range" p2) [a] [] pos2] [] pos) (zbh ta):=by
 intro pins s σ H Q I h
 refine Fh (iU I hg hm (by decide +kernel:Cv "list" = some (.type "list")) (Du ?_ hs1 rfl))
 rw[hs1]
 refine Calls.spliced_cons (Fh (iU I hg2 hm2 (by decide +kernel:Cv "range" = some (.type "range")) (Du (aZ (ha pos2 pins s σ H _ I h) fun us s1 ⟨vs,H1,I1,r1,q1⟩=>?_) hs2 rfl)))
 obtain⟨n,rfl,hn,q⟩:=q1
 obtain⟨u,rfl,ru⟩:=vals1 r1
 obtain⟨t,rfl⟩:=ru
 refine call_range_1 (Calls.spliced_nil ?_)
 have sz:Builtin.Range.rangeSize 0 (n:Int) 1=(n:Nat):=by rw[rangeSize_one];split <;> lia
 refine call_list_range (n:=n) (b:=(n:Int)) (I1.ok.hd hc) (IsRange.new _ _ _ _ _ _ _) (PySem.small_one (by decide) (by decide) (by lia) (by lia)) sz (by lia) fun h' tk acc c hk hS hacc=>?_
 have up:∀ b o,s1.heap.get? b=some o->h'.get? b=some o:=fun b o e=>hk b o (Af _ e)
 have ez:(s1.heap.push {cls:=.type "range",data:=.fields #[.int 0 0,.int (n:Int) t,.int 1 0]}).objs.size=s1.heap.objs.size + 1:=Dr _ _
 refine⟨.ref _,_,I1.laid (o:=.lst ((Cb n).map fun(i:Nat)=>V.int i)) (t':=tk) up ?_ ⟨by simp[Hl];lia,acc.toList,c,?_,by rw[Kw];exact hS⟩,rfl,q _ (I1.hok.fresh ?_)⟩
 ·first | exact Ic (Lp (Hx _) (Dr _ _).symm) | (rw[Dr];exact Lb _)
 ·refine vM (by simp[hacc.1]) fun j v hv=>?_
  have hv':acc[j]? = some v:=by simpa using hv
  obtain⟨t',rfl⟩:=hacc.2 j v hv'
  have hj:j < n:=by have:=(Co.mp hv').1;rw[hacc.1] at this;exact this
  refine⟨.int j,?_,t',by simp⟩
  simp[hj]
 ·first | exact Ic (Lp (Hx _) (Dr _ _).symm) | (rw[Dr];exact Lb _)
end
end L2
namespace L3
open PySem PySem.Spec PyProof.Rows L2
section
variable {X:Cx}{a:Expr}{ta:aS}
def GC(ta:aS):aS:=fun b M R=>ta b M fun w a=>∃ n:Nat,w=.int n/\n<=1000/\aV ((Cb n).map fun(i:Nat)=>W.int i) a R
theorem zbj{p p2 pos pos2:Pos}(hg:Gl X "list")(hm:X.mg "list" = none)(hg2:Gl X "range")(hm2:X.mg "range" = none)(ha:E3 X a ta)(hc:X.calm=true:=by rfl)
  (hs1:Bj [.Call (.Name "range" p2) [a] [] pos2] X.env=[(false,eval (.Call (.Name "range" p2) [a] [] pos2) X.env)]:=by rfl) (hs2:Bj [a] X.env=[(false,eval a X.env)]:=by rfl) :
  E3 X (.Call (.Name "list" p) [.Call (.Name "range" p2) [a] [] pos2] [] pos) (GC ta):=
 (zbi hc hg hm hg2 hm2 (aC ha aJ (by rw[hs2];rfl)) hs1 hs2).weak fun σ H Q z0=>z0.el fun τ M R as am h k=>⟨τ,M,fun ws M1=>∃ n:Nat,ws=[.int n]/\n<=1000/\aV ((Cb n).map fun(i:Nat)=>W.int i) M1 R,as,am,(show aB ta aE τ M _ from(show ta τ M _ from by
  refine(id h:ta τ M _) |> fun z=>?_
  exact Eq.mp (congrArg (ta τ M) (funext fun w=>funext fun M1=>propext ⟨fun⟨n,e,r⟩=>⟨n,by rw[e],r⟩,fun⟨n,e,r⟩=>⟨n,(List.cons.inj e).1,r⟩⟩)) z)),fun vs H1 ws M1 k1 am1 ax ⟨n,e,hn,r⟩=>by
  subst e
  obtain⟨v,rfl,av⟩:=ax.one
  obtain rfl:=av.inv
  refine⟨n,rfl,hn,fun q hq=>iF am1 (k.kp k1) hq ?_ r⟩
  have:∀ l:List Nat,aL X.K H1 M1 (l.map fun(i:Nat)=>V.int i) (l.map fun(i:Nat)=>W.int i):=by
   intro l
   induction l with
   | nil=>exact .nil
   | cons i r ih=>exact .cons (.int _) ih
  exact this _⟩
end
end L3
namespace Rg
open PySem PySem.Spec PyProof.Rows L2 L3
def NM:List Str:=["S","A","BB","C_1"]
def W3:List Str:=["a","b","cat"]
def W4:List Str:=["a","b","cat","dog"]
def isN(t:Str):Bool:=decide (t∈NM)
theorem yZ{t:Str}(h:t∈W4):isN t=false:=by
 have:∀ t∈W4,isN t=false:=by decide +kernel
 exact this t h
theorem m9{t:Str}(h:t∈W3):t∈W4:=by
 have:∀ t∈W3,t∈W4:=by decide +kernel
 exact this t h
structure gD(rs:List aU):Prop where
 ne:rs≠[]
 few:rs.length<=8
 nm:∀ r∈rs,r.name∈NM
 fp:∀ r∈rs,r.parts.length<=4
 prt:∀ r∈rs,∀ t∈r.parts,t∈W3\/(t∈NM/\∃ q∈rs,q.name=t)
 lo:∀ r∈rs,0<=r.cost
 hi:∀ r∈rs,r.cost < 10 ^ 60
structure Rw(row:List Str):Prop where
 few:row.length<=6
 wd:∀ t∈row,t∈W4
def kZ(rs:List aU)(t:Str):Bool:=decide (t∈namesOf rs)
theorem GD{rs:List aU}{t:Str}:kZ rs t=true↔∃ r∈rs,r.name=t:=by
 unfold kZ;rw[decide_eq_true_eq,D6]
theorem gD.own{rs:List aU}(g:gD rs){r:aU}(c:r∈rs){t:Str}(ht:t∈r.parts):kZ rs t=isN t:=by
 rcases g.prt r c t ht with h | ⟨b,a⟩
 ·rw[yZ (m9 h)]
  cases z:kZ rs t with
  | false=>rfl
  | true=>
   obtain⟨q,d,rfl⟩:=GD.mp z
   have:=yZ (m9 h)
   unfold isN at this
   rw[decide_eq_true (g.nm q d)] at this;cases this
 ·rw[GD.mpr a];unfold isN;rw[decide_eq_true b]
def lU(a:List Str)(t:Str)(p:Int):List (Int×Int):=if 0<=p/\a[p.toNat]? = some t then [(p + 1,0)] else []
def e7(rs:List aU)(a:List Str):Sr:=⟨rs,kZ rs,(Cb (a.length + 1)).map fun(i:Nat)=>(i:Int),lU a,fun _=>0⟩
theorem t6{a:List Str}{t:Str}{p e c:Int}:(e,c)∈lU a t p↔0<=p/\a[p.toNat]? = some t/\e=p + 1/\c=0:=by
 unfold lU
 split
 ·rename_i h;simp[h]
 ·rename_i h
  simp only[Ew,false_iff]
  exact fun z=>h ⟨z.1,z.2.1⟩
theorem y6{n:Nat}{p:Int}:p∈((Cb (n + 1)).map fun(i:Nat)=>(i:Int))↔0<=p/\p<=n:=by
 rw[Au]
 constructor
 ·rintro⟨i,hi,rfl⟩
  have:=Eg.mp hi
  lia
 ·intro h
  exact⟨p.toNat,Eg.mpr (by lia),by lia⟩
inductive Rc(row:List Str)(K:bX->Prop)(b:Int):List Str->Int->Prop
 | nil:Rc row K b [] b
 | word {ps:List Str} {m:Int} {t:Str}:Rc row K b ps m->isN t=false->0<=m->row[m.toNat]? = some t->Rc row K b (ps ++ [t]) (m + 1)
 | name {ps:List Str} {m e:Int} {t:Str}:Rc row K b ps m->isN t=true->m<=e->e<=row.length->K (t,m,e)->Rc row K b (ps ++ [t]) e
theorem Rc.mono{g:List Str}{K j:bX->Prop}(h:∀ f,K f->j f){b e:Int}{ps:List Str}(r:Rc g K b ps e):Rc g j b ps e:=by
 induction r with
 | nil=>exact .nil
 | word _ a b c i=>exact .word i a b c
 | name _ a b c d i=>exact .name i a b c (h _ d)
theorem Rc.in_{a:List Str}{K:bX->Prop}{b e:Int}{ps:List Str}(hb:0<=b/\b<=a.length)(r:Rc a K b ps e):b<=e/\e<=a.length:=by
 induction r with
 | nil=>exact⟨Nr _,hb.2⟩
 | word _ _ f c d=>
  have:=(An.mp c).1
  lia
 | name _ _ f c _ d=>lia
def iS(rs:List aU)(a:List Str)(f:bX):Prop:=∃ n b c,DI (e7 rs a) n b c/\cZ (e7 rs a) n b=none/\f=cD (e7 rs a) n b
theorem y7{rs:List aU}{a:List Str}{n:Nat}{b:List Int}{r:aU}(h:rs[n]? = some r):cZ (e7 rs a) n b=r.parts[b.length - 1]?:=part_of (G:=e7 rs a) h
theorem GF(l:List Int)(z:Int):(l ++ [z]).getLastD 0=z:=by simp[Jl]
theorem zbk{rs:List aU}{f:List Str}(g:gD rs){n:Nat}{r:aU}(u:rs[n]? = some r){b:Int}(hb:0<=b/\b<=f.length){ps:List Str}{e:Int}(h:Rc f (iS rs f) b ps e) :
  ∀ k,ps=r.parts.take k->k<=r.parts.length->∃ a c,DI (e7 rs f) n a c/\a.length=k + 1/\a.headD 0=b/\a.getLastD 0=e:=by
 have s:r∈rs:=Bc u
 have step:∀ {k:Nat} {ps:List Str} {t:Str},ps ++ [t]=r.parts.take k->k<=r.parts.length->∃ j,k=j + 1/\ps=r.parts.take j/\r.parts[j]? = some t:=fun {k ps t} i p=>by
  have hl:ps.length + 1=k:=by have:=congrArg Dl i;simp at this;lia
  refine⟨ps.length,hl.symm,?_,?_⟩
  ·have:=congrArg (List.take ps.length) i
   rw[List.take_left,List.take_take,Na (by lia)] at this
   exact this
  ·have:=congrArg (fun l=>l[ps.length]?) i
   simp only[List.getElem?_concat_length] at this
   rw[List.getElem?_take_of_lt (by lia)] at this
   exact this.symm
 have snoc:∀ {a:List Int} {z:Int},a≠[]->(a ++ [z]).headD 0=a.headD 0/\(a ++ [z]).getLastD 0=z:=fun {a z} h=>by
  cases a with
  | nil=>exact absurd rfl h
  | cons x a=>exact⟨rfl,GF _ _⟩
 induction h with
 | nil=>
  intro k i p
  have:k=0:=by have:=congrArg Dl i;rw[Cg,List.length_nil] at this;lia
  subst this
  exact⟨[b],_,.start u (y6.mpr hb),rfl,rfl,rfl⟩
 | @word ps m t J w C D v=>
  intro k i p
  obtain⟨j,rfl,y,q⟩:=step i p
  obtain⟨a,c,d,l,a1,a2⟩:=v j y (by lia)
  have B:kZ rs t=false:=by rw[g.own s (Bc q)];exact w
  refine⟨a ++ [m + 1],_,.word (e:=m + 1) (pr:=0) d u (by rw[l];exact q) B (by rw[a2];exact t6.mpr ⟨C,D,rfl,rfl⟩),by simp[l],?_,?_⟩
  ·rw[(snoc d.ne).1,a1]
  ·exact(snoc d.ne).2
 | @name ps m e t J w C D G v=>
  intro k i p
  obtain⟨j,rfl,y,q⟩:=step i p
  obtain⟨a,c,d,l,a1,a2⟩:=v j y (by lia)
  have B:kZ rs t=true:=by rw[g.own s (Bc q)];exact w
  obtain⟨K,o,L,d',I,A⟩:=G
  unfold cD at A
  simp only[Dk] at A
  obtain⟨E,H,F⟩:=A
  refine⟨a ++ [o.getLastD 0],_,.name d u (by rw[l];exact q) B d' I E.symm (by rw[a2,H]),by simp[l],?_,?_⟩
  ·rw[(snoc d.ne).1,a1]
  ·rw[(snoc d.ne).2,F]
theorem zbl{rs:List aU}{a:List Str}(g:gD rs){r:aU}(j:r∈rs){b e:Int}(hb:0<=b/\b<=a.length)(h:Rc a (iS rs a) b r.parts e):iS rs a (r.name,b,e):=by
 obtain⟨n,k,rfl⟩:=Hf.mp j
 have f:rs[n]? = some rs[n]:=Am k
 obtain⟨i,c,d,l,a1,a2⟩:=zbk g f hb h _ (Eu.symm) (Ai _)
 refine⟨n,i,c,d,?_,?_⟩
 ·rw[y7 f,l];simp
 ·unfold cD
  rw[a1,a2]
  have:cB (e7 rs a) n=rs[n].name:=by unfold cB;rw[show(e7 rs a).rs[n]? = some rs[n] from f]
  rw[this]
theorem GG{rs:List aU}{j:List Str}(g:gD rs){K:bX->Prop}(Q:∀ r∈rs,∀ b e:Int,0<=b->b<=e->e<=j.length->Rc j K b r.parts e->K (r.name,b,e)){f:bX}(h:iS rs j f):K f:=by
 have inn:∀ {n:Nat} {i:List Int} {c:aH},DI (e7 rs j) n i c->∀ r,rs[n]? = some r->(0<=i.headD 0/\i.headD 0<=j.length)/\i.length - 1<=r.parts.length/\Rc j K (i.headD 0) (r.parts.take (i.length - 1)) (i.getLastD 0):=by
  intro n i c h
  have snoc:∀ {i:List Int} {z:Int},i≠[]->(i ++ [z]).headD 0=i.headD 0/\(i ++ [z]).getLastD 0=z/\(i ++ [z]).length - 1=(i.length - 1) + 1:=fun {i z} h=>by
   cases i with
   | nil=>exact absurd rfl h
   | cons x i=>exact⟨rfl,GF _ _,by simp⟩
  induction h with
  | start l s=>intro r _;exact⟨y6.mp s,Bx _,by simpa using Rc.nil⟩
  | @word n u i c k e pr d l s L E I=>
   intro r o
   have l:rs[n]? = some u:=l
   rw[l] at o;cases o
   obtain⟨G,T,O⟩:=I u l
   obtain⟨M,J,N⟩:=snoc (z:=e) d.ne
   have hl:=(An.mp s).1
   obtain⟨U,W,rfl,Y⟩:=t6.mp E
   rw[M,J,N]
   refine⟨G,by lia,?_⟩
   rw[Ga,s]
   exact .word O (by rw[<-g.own (Bc l) (Bc s)];exact L) U W
  | @name n A u i t c m k d l s L d' E y S I H=>
   intro r o
   have l:rs[n]? = some u:=l
   rw[l] at o;cases o
   obtain⟨G,T,O⟩:=I u l
   obtain⟨M,J,N⟩:=snoc (z:=t.getLastD 0) d.ne
   have hl:=(An.mp s).1
   obtain⟨q,F⟩:∃ q,rs[A]? = some q:=by
    cases z:rs[A]? with
    | some q=>exact⟨q,rfl⟩
    | none=>
     have:cB (e7 rs j) A=k:=y
     have hi:∀ {n:Nat} {i:List Int} {c:aH},DI (e7 rs j) n i c->∃ q,rs[n]? = some q:=fun h=>by
      cases h with
      | start a _=>exact⟨_,a⟩
      | word _ a _ _ _=>exact⟨_,a⟩
      | name _ a _ _ _ _ _ _=>exact⟨_,a⟩
     obtain⟨q,e⟩:=hi d'
     rw[z] at e;cases e
   obtain⟨C,V,v⟩:=H q F
   have X:q.name=k:=by
    have y:cB (e7 rs j) A=k:=y
    unfold cB at y
    rw[show(e7 rs j).rs[A]? = some q from F] at y;exact y
   rw[y7 F] at E
   have R:u.parts.length=u.parts.length:=rfl
   have w:q.parts.take (t.length - 1)=q.parts:=Dw (List.getElem?_eq_none_iff.mp E)
   rw[w] at v
   obtain⟨B,D⟩:=v.in_ C
   have P:=Q q (Bc F) _ _ C.1 B D v
   rw[M,J,N]
   refine⟨G,by lia,?_⟩
   rw[Ga,s]
   rw[X,S] at P
   rw[S] at B
   exact .name O (by rw[<-g.own (Bc l) (Bc s)];exact L) B D P
 obtain⟨n,i,c,d,p,rfl⟩:=h
 obtain⟨r,o⟩:∃ r,rs[n]? = some r:=by
  cases d with
  | start a _=>exact⟨_,a⟩
  | word _ a _ _ _=>exact⟨_,a⟩
  | name _ a _ _ _ _ _ _=>exact⟨_,a⟩
 obtain⟨C,V,v⟩:=inn d r o
 rw[y7 o] at p
 rw[Dw (List.getElem?_eq_none_iff.mp p)] at v
 obtain⟨B,D⟩:=v.in_ C
 have:=Q r (Bc o) _ _ C.1 B D v
 unfold cD
 have e:cB (e7 rs j) n=r.name:=by unfold cB;rw[show(e7 rs j).rs[n]? = some r from o]
 rw[e];exact this
structure t7(n:Nat)(f:bX):Prop where
 nm:f.1∈NM
 lo:0<=f.2.1
 le:f.2.1<=f.2.2
 hi:f.2.2<=n
theorem qG{rs:List aU}{a:List Str}(g:gD rs){f:bX}(h:iS rs a f):t7 a.length f:=GG g (K:=t7 a.length) (fun r j b e i c d _=>⟨g.nm r j,i,c,d⟩) h
def y8:List bX:=NM.flatMap fun s=>(Cb 7).flatMap fun b=>((Cb 7).filter fun(e:Nat)=>decide (b<=e)).map fun(e:Nat)=>(s,(b:Int),(e:Int))
theorem zbm{n:Nat}(i:n<=6){f:bX}(h:t7 n f):f∈y8:=by
 obtain⟨s,b,e⟩:=f
 obtain⟨a,c,d,g⟩:=h
 simp only at a c d g
 refine Hs.mpr ⟨s,a,Hs.mpr ⟨b.toNat,Eg.mpr (by lia),Au.mpr ⟨e.toNat,Fo.mpr ⟨Eg.mpr (by lia),by rw[decide_eq_true_eq];lia⟩,?_⟩⟩⟩
 simp only[Dk,true_and]
 lia
theorem y9{n:Nat}(a:n<=6){l:List bX}(nd:l.Nodup)(h:∀ f∈l,t7 n f):l.length < 128:=by
 have:=len_sub (b:=y8) nd fun f hf=>zbm a (h f hf)
 have e:y8.length=112:=by decide +kernel
 lia
theorem t9{G:Sr}{B:fA}(h:tP G B):(B.map (·.1)).Nodup:=by
 obtain⟨S,f,st,P,cur,T,A,g,rfl⟩:=h
 have o:=A.ob.ord
 generalize st.best=B at o
 rw[List.nodup_iff_pairwise_ne,Gb]
 refine Ft.mpr fun i j hi d c e=>?_
 have sp:B=B.take j ++ B[j] :: B.drop (j + 1):=by rw[<-Hb d,Nb]
 have a:=(o _ _ _ sp).2
 have b:B[i]∈B.take j:=by
  rw[Hf]
  exact⟨i,by rw[Cg];lia,by rw[List.getElem_take]⟩
 unfold aG at a
 rw[Option.map_eq_none_iff,List.find?_eq_none] at a
 have:=a _ b
 rw[decide_eq_true_eq] at this
 exact this e
theorem GH{rs:List aU}{g:List Str}{B:fA}(h:tP (e7 rs g) B)(f:bX):f∈B.map (·.1)↔iS rs g f:=by
 have nd:=t9 h
 obtain⟨S,t,st,P,cur,T,A,r,rfl⟩:=h
 constructor
 ·intro hf
  obtain⟨e,o,rfl⟩:=Au.mp hf
  obtain⟨a,b,sp⟩:=List.append_of_mem o
  have d:=EC A.ob _ a e b rfl sp
  have at_:aG st.best e.1=some e.2:=by
   rw[sp] at nd ⊢
   rw[Bs,Ar,Gd] at nd
   unfold aG
   rw[List.find?_append,List.find?_eq_none.mpr fun x i=>by
    rw[decide_eq_true_eq]
    exact nd.2.2 _ (Gi i) _ Bg]
   simp
  obtain⟨⟨f⟩,c,n,j⟩:=e
  obtain⟨l,q,s⟩:=sU A.ob at_
  exact⟨_,_,_,l,q,s⟩
 ·rintro⟨n,j,c,d,p,rfl⟩
  obtain⟨m,k,e,_⟩:=VW A.inv A.ob A.ini r d p
  unfold aG at e
  obtain⟨x,i,_⟩:=Bn.mp e
  have:=List.find?_some i
  rw[decide_eq_true_eq] at this
  rw[<-this]
  exact Gi (List.mem_of_find?_eq_some i)
end Rg
namespace L2
open PySem PySem.Spec PyProof.Rows
section
variable {X:Cx}{tg:Expr}
end
end L2
namespace L3
open PySem PySem.Spec PyProof.Rows L2
section
variable {X:Cx}{tg a b c:Expr}
def zA:List W->Mm->K3->Prop
 | [.bl b],M,R=>R (.int (if b then 1 else 0)) M
 | _,_,_=>False
theorem zbn:cU X (.type "int") (fZ X.K zA):=by
 rintro c s i H xs us Q I rs ⟨ws,M,R,g,a,h,k⟩
 match ws,h with
 | [.bl b],h=>
  obtain⟨v,rfl,d⟩:=a.one
  obtain rfl:=d.inv
  cases rs with
  | cons r f=>
   cases f
   cases r
   exact call_int_bool ⟨.int _,H,I.kept fun _ _ e=>e,⟨_,rfl⟩,k.at g (.int _) h⟩
end
end L3
namespace Rg
open PySem PySem.Spec PyProof.Rows L2 L3
abbrev fP(a:List Str):W:=.rl (a.map W.str)
structure lV(rs:List aU)(row:List Str)(L:List (List aD)):Prop where
 mem:∀ k,k∈L↔∃ f,iS rs row f/\k=fK f
 nd:L.Nodup
 srt:lT L
def lW(L:List (List aD)):List W:=L.map fun k=>.tup (k.map wK)
def eO(fs:List bX):List (List aD×W):=fs.map fun f=>(fK f,.bl true)
def iT(a:List Str):List (List aD×W):=(a.zipIdx).map fun x=>([Sum.inr x.1,Sum.inl (x.2:Int)],.rl [.tup [.int ((x.2:Int) + 1),.int 0]])
def zB:bS:=fun ws M R=>∃ a:List Str,ws=[fP a]/\a.length<=6/\aV ((Cb (a.length + 1)).map fun(i:Nat)=>W.int i) M R
def zC:bS:=fun ws M R=>∃ a:List Str,ws=[fP a]/\a.length<=6/\iE (iT a) M R
def zD(C:Cc):bS:=fun ws M R=>∃ (rs:List aU) (a:List Str),ws=[d7 rs,fP a,.rl (rs.map fun _=>W.int 0)]/\gD rs/\Rw a/\∀ B,tP (e7 rs a) B->iE (dX fK hX B) M R
def zE:bS:=fun ws M R=>∃ rs:List aU,ws=[d7 rs]/\rs.length<=100/\aV (rs.map fun _=>W.int 0) M R
def zF(C:Cc):bS:=fun ws M R=>∃ (rs:List aU) (a:List Str),ws=[d7 rs,fP a]/\gD rs/\Rw a/\∀ L,lV rs a L->aV (lW L) M R
def oG:bS:=fun ws M R=>∃ (a:List Int) (k:Int),ws=[.sc (a.map W.int),.int k]/\a.length<=63/\∀ i,R (.int i) M
def zG:bS:=fun ws M R=>∃ c k:Int,ws=[.int c,.int k]/\0<=k/\k<=1000/\∀ z:Int,R (.int z) M
def oH:bS:=fun ws M R=>∃ (c:Int) (a:List Int),ws=[.int c,.rl (a.map W.int)]/\a.length<=100/\(∀ s∈a,0 < s/\s<=10 ^ 59)/\∀ b,Drawn b a->aV (b.map W.int) M R
def zH:bS:=fun ws M R=>∃ a:List Int,ws=[.sc (a.map W.int)]/\a.length<=63/\∀ rs:List aU,gD rs->aV (rs.map cY) M R
def qH:bS:=fun ws M R=>∃ t:Str,ws=[.str t]/\(t∈NM\/t∈W4)/\R (.bl (isN t)) M
def zJ:bS:=fun ws M R=>∃ (b:List Int) (rs:List aU),ws=[.sc (b.map W.int),d7 rs,.int 6]/\b.length<=63/\gD rs/\∀ a,Rw a->aV (a.map W.str) M R
def zK:bS:=fun ws M R=>∃ (ps a:List Str) (p:Addr) (b e:Int) (fs:List bX),ws=[.tup (ps.map W.str),fP a,.ref p,.int b,.int e]/\ps.length<=4/\(∀ t∈ps,t∈NM\/t∈W4)/\Rw a/\M p=some (.dT (eO fs))/\(0<=b/\b<=a.length)/\
 ∀ c:Bool,(c=true↔Rc a (fun f=>f∈fs) b ps e)->R (.bl c) M
def zL:bS:=fun ws M R=>∃ (rs:List aU) (a:List Str),ws=[d7 rs,fP a]/\gD rs/\Rw a/\∀ fs:List bX,fs.Nodup->(∀ f,f∈fs↔iS rs a f)->iE (eO fs) M R
abbrev zbo:List Str:=["row"]
def zbp:aK:=
   (cL (GC (aF cS (bT dS (aB (aA 0) aE)) (vC (.int 1)))))
abbrev zbq:List Str:=["row"]
def zbr:aK:=
   (cL (bT FD (aB (cV (fT (w9 (aB (aA 0) aE)) (kQ 2 (fE (bP 0) (fE (bP 1) kP))) iZ (dB (aB (dB (aB (aA 1) (aB (aA 0) aE))) (aB (e6 (aB (dB (aB (aF cS (aA 0) (vC (.int 1))) (aB (vC (.int 0)) aE))) aE)) aE))) [none,none])) aE)))
abbrev zbs:List Str:=["grammar","row","weights"]
def zbt(C:Cc):aK:=
   (cL (bZ (yK C) (aB (aA 0) (aB (cV (bZ zB (aB (aA 1) aE))) (aB (cV (bZ zC (aB (aA 1) aE))) (aB (aA 2) aE))))))
abbrev zbu:List Str:=["grammar"]
def zbv:aK:=
   (cL (fT (eT fN (aA 0)) (bP 0) iZ (vC (.int 0)) [none]))
abbrev zbw:List Str:=["grammar","row"]
def zbx(C:Cc):aK:=
   (cL (bT qF (aB (cV (bZ (zD C) (aB (aA 0) (aB (aA 1) (aB (cV (bZ zE (aB (aA 0) aE))) aE))))) aE)))
abbrev zby:List Str:=["script","k"]
def GJ:aK:=
   (aR (eL (cX (wN CB mG (vC (.int 0)) (aA 1) (bT dS (aB (aA 0) aE))))
    (cL (aF aY (aA 0) (aA 1)))
    fR)
   (cL (aA 1)))
abbrev zbz:List Str:=["cell","k","number"]
def zbA:aK:=
   (bH 2 (aF jU (aF cS (aF cS (aF iM (aA 0) (aF rR (vC (.int 10)) (vC (.int 60)))) (aF jU (vC (.int 7919)) (aA 1))) (vC (.int 1))) (vC (.int 27182818284590452353602874713527))))
def zbB:aK:=
   (bH 2 (aF iM (aA 2) (vC (.int 170141183460469231731687303715884105727))))
def zbC:aK:=
   (bH 2 (aF iM (aF cS (aF cS (aF jU (aA 2) (aA 2)) (aF jU (vC (.int 104729)) (aA 1))) (vC (.int 1))) (vC (.int 170141183460469231731687303715884105727))))
def zbD:aK:=
   (cL (aF nM (aF iM (aF jU (aA 2) (aA 2)) (vC (.int 170141183460469231731687303715884105727))) (vC (.int 5))))
def zbE:aK:=(aR zbA (aR zbB (aR zbC zbD)))
abbrev zbF:List Str:=["cell","sizes","found","rest","k","size"]
def zbG:aK:=
   (bH 2 (jR aE))
def zbH:aK:=
   (bH 3 (aF nL (aA 0) (aF rR (vC (.int 10)) (vC (.int 18)))))
def zbI:aK:=
   (eL (cX (aF CD (aA 3) (vC (.int 0))))
    (aR (eJ (eX "list" f7 (aA 2) (aB (aF iM (aA 3) (aA 5)) aE)))
   (bH 3 (aF nM (aA 3) (aA 5))))
    (eJ (eX "list" f7 (aA 2) (aB (aF iM (bZ zG (aB (aA 0) (aB (aA 4) aE))) (aA 5)) aE))))
def zbJ:aK:=
   (fM (w9 (aB (aA 1) aE)) (kQ 2 (fE (bP 4) (fE (bP 5) kP))) zbI)
def zbK:aK:=
   (cL (aA 2))
def zbL:aK:=(aR zbG (aR zbH (aR zbJ zbK)))
abbrev zbM:List Str:=["script","cells","heads","used","rules","head","cell","d","parts","number"]
def zbN:aK:=
   (bH 1 (cV (fT (mO (aB (aF cS (vC (.int 1)) (aF iM (bZ oG (aB (aA 0) (aB (vC (.int 0)) aE))) (vC (.int 8)))) aE)) (bP 0) iZ (bZ oG (aB (aA 1) (aB (aF cS (vC (.int 1)) (aA 0)) aE))) [none,some 0])))
def zbO:aK:=
   (bH 2 (cV (fT (eT fN (aA 1)) (bP 0) iZ (aF aY (e6 (aB (vC (.str "S")) (aB (vC (.str "A")) (aB (vC (.str "BB")) (aB (vC (.str "C_1")) aE))))) (aF aY (cV (bZ oH (aB (aA 0) (aB (e6 (aB (vC (.int 4)) aE)) aE)))) (vC (.int 0)))) [none])))
def zbP:aK:=
   (bH 3 (cV (fT (mO (aB (bT dS (aB (aA 2) aE)) aE)) (bP 0) (cX (aF (rIn true) (aF aY (aA 1) (aA 0)) (nS (aA 1) pH (kO (aA 0))))) (aF aY (aA 1) (aA 0)) [none,some 2])))
def zbQ:aK:=
   (bH 4 (jR aE))
def zbR:aK:=
   (aR (bH 7 (cV (bZ oH (aB (aA 6) (aB (e6 (aB (vC (.int 4)) (aB (vC (.int 5)) (aB (vC (.int 8)) (aB (vC (.int 8)) (aB (vC (.int 8)) (aB (vC (.int 8)) (aB (vC (.int 4)) (aB (aF rR (vC (.int 10)) (vC (.int 6))) aE))))))))) aE)))))
   (aR (bH 8 (jR aE))
   (aR (fM (eT fN (nS (aA 7) (kO (vC (.int 2))) (kO (aF cS (vC (.int 2)) (aF aY (aA 7) (vC (.int 1))))))) (bP 9)
    (eL (cX (aF mG (aA 9) (vC (.int 3))))
    (eJ (eX "list" f7 (aA 8) (aB (aF aY (e6 (aB (vC (.str "a")) (aB (vC (.str "b")) (aB (vC (.str "cat")) aE)))) (aA 9)) aE)))
    (eJ (eX "list" f7 (aA 8) (aB (aF aY (aA 3) (aF iM (aF nL (aA 9) (vC (.int 3))) (bT dS (aB (aA 3) aE)))) aE)))))
   (eJ (eX "list" f7 (aA 4) (aB (dB (aB (aA 5) (aB (bT wC (aB (aA 8) aE)) (aB (aF aY (e6 (aB (vC (.int 0)) (aB (vC (.int 1)) (aB (aF iM (aF aY (aA 7) (vC (.int 7))) (vC (.int 10))) (aB (aF aY (aA 7) (vC (.int 7))) aE))))) (aF aY (aA 7) (vC (.int 6)))) aE)))) aE))))))
def zbS:aK:=
   (fM (DQ (aB (aA 2) (aB (aA 1) aE))) (kQ 2 (fE (bP 5) (fE (bP 6) kP))) zbR)
def zbT:aK:=
   (cL (aA 4))
def zbU:aK:=(aR zbN (aR zbO (aR zbP (aR zbQ (aR zbS zbT)))))
abbrev zbV:List Str:=["part"]
def zbW:aK:=
   (cL (aF (rIn false) (aF aY (aA 0) (vC (.int 0))) (vC (.str "ABCS"))))
abbrev zbX:List Str:=["script","rules","most","cells","row","k","open_now","at","own","rule"]
def zbY:aK:=
   (bH 3 (nS (aA 0) (kO (vC (.int 9))) (kO (aF cS (vC (.int 9)) (aA 2)))))
def zbZ:aK:=
   (eL (cX (aF (rEq false) (aF iM (aF nM (bZ oG (aB (aA 0) (aB (vC (.int 0)) aE))) (vC (.int 8))) (vC (.int 3))) (vC (.int 0))))
    (cL (fT (eT fN (aA 3)) (bP 0) iZ (aF aY (e6 (aB (vC (.str "a")) (aB (vC (.str "b")) (aB (vC (.str "cat")) (aB (vC (.str "dog")) aE))))) (aF aY (cV (bZ oH (aB (aA 0) (aB (e6 (aB (vC (.int 4)) aE)) aE)))) (vC (.int 0)))) [none]))
    fR)
def zb0:aK:=
   (bH 4 (e6 (aB (aF aY (aF aY (aA 1) (vC (.int 0))) (vC (.int 0))) aE)))
def zb1:aK:=
   (aR (bH 6 (cV (fT (mO (aB (bT dS (aB (aA 4) aE)) aE)) (bP 0) (iX (bZ qH (aB (aF aY (aA 1) (aA 0)) aE))) (aA 0) [none,some 4])))
   (eL (rL (cX (aF (rEq true) (aA 6) (e6 aE))) (cX (aF mG (bT dS (aB (aA 4) aE)) (aF jU (vC (.int 2)) (aA 2)))))
    (aR (bH 7 (aF aY (aA 6) (vC (.int 0))))
   (aR (bH 8 (cV (fT (eT fN (aA 1)) (bP 0) (cX (aF (rEq false) (aF aY (aA 0) (vC (.int 0))) (aF aY (aA 1) (aA 2)))) (aA 0) [none,some 4,some 7])))
   (aR (bH 9 (aF aY (aA 8) (aF aY (cV (bZ oH (aB (aF cS (bZ oG (aB (aA 0) (aB (aF cS (vC (.int 9)) (aF iM (aA 5) (vC (.int 12)))) aE))) (aF jU (aF nM (aA 5) (vC (.int 12))) (vC (.int 7919)))) (aB (e6 (aB (bT dS (aB (aA 8) aE)) aE)) aE)))) (vC (.int 0)))))
   (bH 4 (aF cS (aF cS (nS (aA 4) pH (kO (aA 7))) (bT sF (aB (aF aY (aA 9) (vC (.int 1))) aE))) (nS (aA 4) (kO (aF cS (aA 7) (vC (.int 1)))) pH))))))
    fR))
def zb2:aK:=
   (fM (mO (aB (vC (.int 24)) aE)) (bP 5) zb1)
def zb3:aK:=
   (cL (CJ (cV (fT (eT fN (aA 4)) (bP 0) (nK (iX (bZ qH (aB (aA 0) aE)))) (aA 0) [none])) pH (kO (aA 2))))
def zb4:aK:=(aR zbY (aR zbZ (aR zb0 (aR zb2 zb3))))
abbrev zb5:List Str:=["parts","row","known","begin","end","places","part","further","place"]
def zb6:aK:=
   (bH 5 (e6 (aB (aA 3) aE)))
def zb7:aK:=
   (aR (bH 7 (e6 aE))
   (aR (fM (eT fN (aA 5)) (bP 8)
    (eL (nK (iX (bZ qH (aB (aA 6) aE))))
    (bH 7 (aF cS (aA 7) (aF jU (e6 (aB (aF cS (aA 8) (vC (.int 1))) aE)) (bT zA (aB (rN (aF mG (aA 8) (bT dS (aB (aA 1) aE))) (aF (rEq false) (aF aY (aA 1) (aA 8)) (aA 6))) aE)))))
    (bH 7 (aF cS (aA 7) (cV (fT (wL (aB (aA 8) (aB (aF cS (bT dS (aB (aA 1) aE)) (vC (.int 1))) aE))) (bP 0) (cX (aF (rIn false) (dB (aB (aA 2) (aB (aA 3) (aB (aA 0) aE)))) (aA 1))) (aA 0) [none,some 2,some 6,some 8]))))))
   (bH 5 (FU (aA 7)))))
def zb8:aK:=
   (fM (eT fN (aA 0)) (bP 6) zb7)
def zb9:aK:=
   (cL (aF (rIn false) (aA 4) (aA 5)))
def zca:aK:=(aR zb6 (aR zb8 zb9))
abbrev zcb:List Str:=["rules","row","known","more","name","parts","cost","begin","end"]
def zcc:aK:=
   (bH 2 mI)
def zcd:aK:=
   (bH 3 (vC (.bl true)))
def zce:aK:=
   (aR (bH 3 (vC (.bl false)))
   (fM (eT mN (aA 0)) (kQ 3 (fE (bP 4) (fE (bP 5) (fE (bP 6) kP))))
    (fM (mO (aB (aF cS (bT dS (aB (aA 1) aE)) (vC (.int 1))) aE)) (bP 7)
    (fM (wL (aB (aA 7) (aB (aF cS (bT dS (aB (aA 1) aE)) (vC (.int 1))) aE))) (bP 8)
    (eL (rL (cX (aF (rIn true) (dB (aB (aA 4) (aB (aA 7) (aB (aA 8) aE)))) (aA 2))) (iX (bZ zK (aB (aA 5) (aB (aA 1) (aB (aA 2) (aB (aA 7) (aB (aA 8) aE))))))))
    (aR (lO (vC (.bl true)) (mL (aA 2) (dB (aB (aA 4) (aB (aA 7) (aB (aA 8) aE))))))
   (bH 3 (vC (.bl true))))
    fR)))))
def zcf:aK:=
   (r9 (iX (aA 3)) zce)
def zcg:aK:=
   (cL (aA 2))
def zch:aK:=(aR zcc (aR zcd (aR zcf zcg)))
theorem zci:∀ ws M R,zB ws M R->ws.length=1:=by rintro ws M R ⟨_,rfl,_⟩;rfl
theorem zcj:∀ ws M R,zC ws M R->ws.length=1:=by rintro ws M R ⟨_,rfl,_⟩;rfl
theorem zck{C:Cc}:∀ ws M R,zD C ws M R->ws.length=3:=by rintro ws M R ⟨_,_,rfl,_⟩;rfl
theorem zcl:∀ ws M R,zE ws M R->ws.length=1:=by rintro ws M R ⟨_,rfl,_⟩;rfl
theorem zcm{C:Cc}:∀ ws M R,zF C ws M R->ws.length=2:=by rintro ws M R ⟨_,_,rfl,_⟩;rfl
theorem zcn:∀ ws M R,oG ws M R->ws.length=2:=by rintro ws M R ⟨_,_,rfl,_⟩;rfl
theorem zco:∀ ws M R,zG ws M R->ws.length=2:=by rintro ws M R ⟨_,_,rfl,_⟩;rfl
theorem zcp:∀ ws M R,oH ws M R->ws.length=2:=by rintro ws M R ⟨_,_,rfl,_⟩;rfl
theorem zcq:∀ ws M R,zH ws M R->ws.length=1:=by rintro ws M R ⟨_,rfl,_⟩;rfl
theorem zcr:∀ ws M R,qH ws M R->ws.length=1:=by rintro ws M R ⟨_,rfl,_⟩;rfl
theorem zcs:∀ ws M R,zJ ws M R->ws.length=3:=by rintro ws M R ⟨_,_,rfl,_⟩;rfl
theorem zct:∀ ws M R,zK ws M R->ws.length=5:=by rintro ws M R ⟨_,_,_,_,_,_,rfl,_⟩;rfl
theorem zcu:∀ ws M R,zL ws M R->ws.length=2:=by rintro ws M R ⟨_,_,rfl,_⟩;rfl
theorem z0:0<=Aj:=Bx _
theorem z8:8<=Aj:=eA (by decide)
theorem qI{ws:List W}{M:Mm}{R:K3}(r:aV ws M R):aV ws M fun w b=>∃ a,L3.Sub a b/\R w a:=fun p c=>⟨_,Sub.refl _,r p c⟩
theorem GK{ws:List (List aD×W)}{M:Mm}{R:K3}(r:iE ws M R):iE ws M fun w b=>∃ a,L3.Sub a b/\R w a:=fun p c=>⟨_,Sub.refl _,r p c⟩
theorem zcv{ws:List W}{M:Mm}{R:K3}(h:zB ws M R):zbp (bW R) (b5 zbo ws) M:=by
 obtain⟨a,rfl,hl,r⟩:=h
 exact⟨_,rfl,a.length + 1,by rw[Ab];rfl,by lia,qI r⟩
theorem zcw{ws:List W}{M:Mm}{R:K3}(h:zE ws M R):zbv (bW R) (b5 zbu ws) M:=by
 obtain⟨rs,rfl,hl,r⟩:=h
 refine⟨_,rfl,wX (rest:=[]) (fun _=>.int 0) (eA (by rw[Ab];lia)) (fun _ _=>trivial) (fun w hw b C sb a=>a) ?_⟩
 rw[Ed]
 exact qI r
theorem enum_zip(ws:List Str):∀ n:Nat,hU n (ws.map W.str)=(ws.zipIdx n).map fun x=>W.tup [.int (x.2:Int),.str x.1]:=by
 induction ws with
 | nil=>intro n;rfl
 | cons w ws a=>intro n;rw[Ar,hU,a,Jj,Ar]
theorem GL:∀ {ps acc:List (List aD×W)},((acc ++ ps).map (·.1)).Nodup->nW acc ps=acc ++ ps
 | [],acc,_=>by simp[nW]
 | p :: ps,acc,h=>by
  have b:bD acc p.1=none:=by
   rw[Bs,Gd] at h
   exact tE fun e a z=>h.2.2 _ (Au.mpr ⟨e,a,rfl⟩) p.1 (by simp) z
  have e:bV acc p.1 p.2=acc ++ [p]:=by
   unfold bV
   rw[if_neg (by rw[show(acc.any fun c=>decide (c.1=p.1))=(bD acc p.1).isSome from mU acc p.1,b];decide)]
  show nW (bV acc p.1 p.2) ps=_
  rw[e,GL (by rw[Ce];exact h),Ce];rfl
theorem zcx(a:List Str):((iT a).map (·.1)).Nodup:=by
 unfold iT
 rw[Ed]
 have:∀ (a:List Str) (n:Nat),((a.zipIdx n).map ((fun x:List aD×W=>x.1) ∘ fun x:Str×Nat=>(([Sum.inr x.1,Sum.inl (x.2:Int)]:List aD),W.rl [.tup [.int ((x.2:Int) + 1),.int 0]]))).Nodup:=by
  intro a
  induction a with
  | nil=>intro n;exact Fy
  | cons t a c=>
   intro n
   rw[Jj,Ar,Dq]
   refine⟨fun b=>?_,c _⟩
   obtain⟨x,d,e⟩:=Au.mp b
   have f:=List.mem_zipIdx d
   simp only[Ni,Cy,Sum.inr.injEq,Lo,and_true] at e
   lia
 exact this a 0
theorem zcy(a:List Str)(t:Str)(p:Int):bD (iT a) (eK (t,p))=if 0<=p/\a[p.toNat]? = some t then some (.rl [.tup [.int (p + 1),.int 0]]) else none:=by
 have:∀ (a:List Str) (n:Nat),bD ((a.zipIdx n).map fun x:Str×Nat=>(([Sum.inr x.1,Sum.inl (x.2:Int)]:List aD),W.rl [.tup [.int ((x.2:Int) + 1),.int 0]])) (eK (t,p))=if (n:Int)<=p/\a[(p - n).toNat]? = some t then some (.rl [.tup [.int (p + 1),.int 0]]) else none:=by
  intro a
  induction a with
  | nil=>intro n;simp[bD]
  | cons x a f=>
   intro n
   rw[Jj,Ar,mX,f]
   by_cases d:p=n
   ·subst d
    by_cases c:x=t
    ·subst c
     rw[if_pos (show([Sum.inr x,Sum.inl (n:Int)]:List aD)=eK (x,(n:Int)) from rfl),if_pos ⟨Nr _,by simp⟩]
    ·rw[if_neg (fun z=>c (by simpa [eK] using z)),if_neg (fun z=>by have:=z.1;lia),if_neg (fun z=>c (by simpa using z.2))]
   ·rw[if_neg (fun z=>d (show x=t/\(n:Int)=p by simpa [eK] using z).2.symm)]
    by_cases g:(n:Int) < p
    ·have e:(p - (n:Int)).toNat=(p - ((n + 1:Nat):Int)).toNat + 1:=by lia
     rw[e,Mj]
     by_cases b:a[(p - ((n + 1:Nat):Int)).toNat]? = some t
     ·rw[if_pos ⟨by lia,b⟩,if_pos ⟨by lia,b⟩]
     ·rw[if_neg (fun z=>b z.2),if_neg (fun z=>b z.2)]
    ·rw[if_neg (fun z=>by have:=z.1;lia),if_neg (fun z=>by have:=z.1;lia)]
 have h:=this a 0
 simpa [iT] using h
theorem zcz{ws:List W}{M:Mm}{R:K3}(h:zC ws M R):zbr (bW R) (b5 zbq ws) M:=by
 obtain⟨c,rfl,hl,r⟩:=h
 refine⟨_,rfl,?_⟩
 delta aE
 refine UG (ws:=hU 0 (c.map W.str)) (rest:=[]) (fun w y=>∃ x:Str×Nat,w=W.tup [.int (x.2:Int),.str x.1]/\y=.tup [.tup (([Sum.inr x.1,Sum.inl (x.2:Int)]:List aD).map wK),.rl [.tup [.int ((x.2:Int) + 1),.int 0]]]) (fun w hw=>?_) (eA (by rw[pM,Ab];lia)) (fun _ _=>trivial) (fun a b d m C sb g=>?_) fun ys po=>?_
 ·rw[enum_zip] at hw;obtain⟨x,_,rfl⟩:=Au.mp hw;exact⟨_,_,rfl⟩
 ·rw[enum_zip] at d
  obtain⟨x,_,e⟩:=Au.mp d
  simp only[W.tup.injEq,Cy,and_true] at e
  obtain⟨rfl,rfl⟩:=e
  exact⟨_,rfl,_,rfl,z2,_,rfl,z2,z1,z2,g _ ⟨x,rfl,rfl⟩⟩
 ·have i:ys=oA (iT c):=by
   rw[enum_zip] at po
   unfold oA iT
   rw[Ed]
   revert po
   generalize c.zipIdx=l
   intro po
   induction l generalizing ys with
   | nil=>cases po;rfl
   | cons x l k=>
    cases po with
    | cons h t=>
     obtain⟨j,f,rfl⟩:=h
     simp only[W.tup.injEq,Cy,W.int.injEq,W.str.injEq,and_true] at f
     have:x=j:=Prod.ext f.2 (by lia)
     subst this
     rw[k _ t];rfl
  subst i
  refine aV.frz ⟨iT c,rfl,eA (by unfold oA iT;rw[Ab,Ab,List.length_zipIdx];lia),?_⟩
  rw[GL (by simpa using zcx c),Ld]
  exact GK r
theorem zcA(ts:List Str)(n:Str):(bD (ts.map fH) (Sum.inr n:aD)).isSome=decide (n∈ts):=by
 induction ts with
 | nil=>rfl
 | cons t ts ih=>
  unfold bD at ih ⊢
  rw[Ar,Fp]
  by_cases h:t=n
  ·subst h;simp[fH]
  ·rw[show decide ((fH t).1=(Sum.inr n:aD))=false by simp[fH,h]]
   rw[ih]
   have h2:¬ n=t:=fun e=>h e.symm
   simp[h2]
theorem zcB(rs:List aU)(t:Str):(bD (ownOf rs) (Sum.inr t:aD)).isSome=kZ rs t:=by
 unfold ownOf kZ
 rw[zcA,Er]
 simp only[decide_eq_true_eq]
 rw[xF];simp
theorem zcC{C:Cc}{ws:List W}{M:Mm}{R:K3}(h:zD C ws M R):zbt C (bW R) (b5 zbs ws) M:=by
 obtain⟨rs,a,rfl,g,w,r⟩:=h
 have hl:=w.few
 have hf:=g.few
 refine⟨_,rfl,_,rfl,a,rfl,hl,aV.frz ⟨_,rfl,a,rfl,hl,iE.frz ⟨_,rfl,?_⟩⟩⟩
 refine⟨e7 rs a,⟨rs,ownOf rs,iT a⟩,(e7 rs a).places,5,1,?_,by show rs.length<=100;lia,rfl,⟨rfl,zcB rs,fun t p=>?_⟩,⟨fun _=>Nr _,fun t p e c h=>by rw[(t6.mp h).2.2.2];exact Nr _⟩,⟨fun p h=>h,fun t p e c q d=>?_,Ai _,fun r k=>?_⟩,by decide,?_,fun t p=>?_,?_,fun B o=>GK (r B o)⟩
 ·show [_,_,_,_]=[_,_,_,_]
  congr 2
  ·show W.rl _=W.rl (((Cb (a.length + 1)).map fun(i:Nat)=>(i:Int)).map W.int)
   rw[Ed];rfl
  ·congr 2
   show W.rl (rs.map fun _=>W.int 0)=W.rl ((Cb rs.length).map fun n=>W.int 0)
   rw[List.map_const',List.map_const',Ey]
 ·show(bD (iT a) (eK (t,p))=none/\lU a t p=[])\/bD (iT a) (eK (t,p))=some (.rl ((lU a t p).map fun z=>.tup [.int z.1,.int z.2]))
  rw[zcy]
  unfold lU
  by_cases h:0<=p/\a[p.toNat]? = some t
  ·right;rw[if_pos h,if_pos h];rfl
  ·left;rw[if_neg h,if_neg h];exact⟨rfl,rfl⟩
 ·obtain⟨v,f,rfl,_⟩:=t6.mp d
  have:=(An.mp f).1
  exact y6.mpr ⟨by lia,by lia⟩
 ·have:=g.fp r k
  lia
 ·show((Cb (a.length + 1)).map _).length<=1000
  rw[Ab,Ey];lia
 ·show(lU a t p).length<=1
  unfold lU;split <;> simp
 ·have m:(jA (e7 rs a)).length=rs.length * ((Cb (a.length + 1)).map fun(i:Nat)=>(i:Int)).length:=yM (e7 rs a) rs.length
  rw[m]
  show rs.length * ((Cb (a.length + 1)).map fun(i:Nat)=>(i:Int)).length + rs.length * ((5 + 1) * (((Cb (a.length + 1)).map fun(i:Nat)=>(i:Int)).length * ((Cb (a.length + 1)).map fun(i:Nat)=>(i:Int)).length)) * (1 + ((Cb (a.length + 1)).map fun(i:Nat)=>(i:Int)).length) + rs.length * ((5 + 1) * (((Cb (a.length + 1)).map fun(i:Nat)=>(i:Int)).length * ((Cb (a.length + 1)).map fun(i:Nat)=>(i:Int)).length)) + ((Cb (a.length + 1)).map fun(i:Nat)=>(i:Int)).length + 1 + 1 < 10000000
  rw[Ab,Ey]
  have b:a.length + 1<=7:=by lia
  have j:=Nq b b
  have l:=Nq hf (Nat.mul_le_mul_left (5 + 1) j)
  have u:=Nq l (Hr b 1)
  have s:=Nq hf b
  lia
theorem zcD{c:Type}[DecidableEq c]{a b:List c}(ha:a.Nodup)(hb:b.Nodup)(h:∀ x,x∈a↔x∈b):a.Perm b:=(List.perm_ext_iff_of_nodup ha hb).mpr h
theorem zcE(f:bX):(fK f).map isStr=[true,false,false]:=rfl
theorem lV.eq{rs:List aU}{a:List Str}{L b:List (List aD)}(h:lV rs a L)(h':lV rs a b):L=b:=
 zbg (zcD h.nd h'.nd fun k=>(h.mem k).trans (h'.mem k).symm) h.srt h'.srt fun k hk=>by obtain⟨f,_,rfl⟩:=(h.mem k).mp hk;exact zcE f
theorem zM{fs:List bX}(h:fs.Nodup):(fs.map fK).Nodup:=by
 rw[List.nodup_iff_pairwise_ne] at h ⊢
 rw[Gb]
 exact h.imp fun a e=>a (p5 _ _ e)
theorem GN{rs:List aU}{a:List Str}{fs:List bX}{L:List (List aD)}(nd:fs.Nodup)(e:∀ f,f∈fs↔iS rs a f)(d:L.Perm (fs.map fK))(hs:lT L):lV rs a L:=
 ⟨fun k=>by
  rw[d.mem_iff,Au]
  exact⟨fun⟨f,c,b⟩=>⟨f,(e f).mp c,b.symm⟩,fun⟨f,c,b⟩=>⟨f,(e f).mpr c,b.symm⟩⟩,d.nodup_iff.mpr (zM nd),hs⟩
theorem zcF{C:Cc}{ws:List W}{M:Mm}{R:K3}(h:zF C ws M R):zbx C (bW R) (b5 zbw ws) M:=by
 obtain⟨rs,c,rfl,g,w,r⟩:=h
 have hf:=g.few
 refine⟨_,rfl,_,rfl,_,rfl,rs,rfl,by lia,aV.frz ⟨rs,c,rfl,g,w,fun B a=>iE.frz ⟨_,dX fK hX B,[false,false],rfl,rfl,fun p b=>?_,?_,?_,fun L b hs=>qI (r L ?_)⟩⟩⟩
 ·obtain⟨e,_,rfl⟩:=Au.mp b;rfl
 ·have:(dX fK hX B).map Dv=(B.map (·.1)).map fK:=by unfold dX;rw[Ed,Ed];rfl
  rw[this];exact zM (t9 a)
 ·have:=y9 w.few (t9 a) fun f hf=>qG g ((GH a f).mp hf)
  unfold dX;rw[Ab];rw[Ab] at this;exact this
 ·have e:(dX fK hX B).map Dv=(B.map (·.1)).map fK:=by unfold dX;rw[Ed,Ed];rfl
  rw[e] at b
  exact GN (t9 a) (GH a) b hs
theorem zcG{b a:List Int}{i:Nat}{s d:Int}(h:Drawn b (a.take i))(hs:a[i]? = some s)(hd:Below d s):Drawn (b ++ [d]) (a.take (i + 1)):=by
 rw[Ga,hs]
 exact Paired.snoc h hd
theorem zN{lo:Int}{n i:Nat}{w:W}(h:(g9 lo n)[i]? = some w):i < n/\w=.int (lo + i):=by
 unfold g9 at h
 rw[Bi] at h
 obtain⟨j,c,rfl⟩:=Bn.mp h
 obtain⟨a,b⟩:=An.mp c
 simp at a b
 subst b
 exact⟨a,rfl⟩
theorem nA{lo:Int}{n:Nat}:(g9 lo n).length=n:=by unfold g9;simp
theorem uA{ts:List Str}{k:Int}(c:0<=k)(b:k < ts.length):∃ t,b9 (ts.map W.str) k=some (.str t)/\t∈ts:=by
 obtain⟨x,e,a,_⟩:=nV (xs:=ts.map W.str) c (by rw[Ab];exact b)
 rw[Bi] at a
 obtain⟨t,ht,rfl⟩:=Bn.mp a
 exact⟨t,e,Bc ht⟩
theorem zcH{ws:List W}{M:Mm}{R:K3}(h:oG ws M R):GJ (bW R) (b5 zby ws) M:=by
 obtain⟨a,k,rfl,hl,r⟩:=h
 have z:GJ (bW R) [some (.sc (a.map W.int)),some (.int k)] M:=by
  refine⟨_,rfl,_,rfl,cG (fun c=>⟨_,rfl,_,rfl,cG (fun b=>?_) fun _=>⟨_,rfl,_,Sub.refl _,r _⟩⟩) fun _=>⟨_,rfl,cG (fun h=>nomatch h) fun _=>⟨_,rfl,_,Sub.refl _,r _⟩⟩⟩
  obtain⟨x,e,_,m⟩:=nV (xs:=a.map W.int) (i:=k) (of_decide_eq_true c) (of_decide_eq_true b)
  obtain⟨i,_,rfl⟩:=Au.mp m
  exact⟨_,rfl,_,rfl,_,e,_,Sub.refl _,r _⟩
 exact z
theorem uB(a:Int):(a % 170141183460469231731687303715884105727).natAbs < 2 ^ 4096:=by
 have b:0<=a % 170141183460469231731687303715884105727:=Jw _ (by decide)
 have c:a % 170141183460469231731687303715884105727 < 170141183460469231731687303715884105727:=Ie _ (by decide)
 exact vL (m:=128) (by lia) (by decide)
theorem zcI{ws:List W}{M:Mm}{R:K3}(h:zG ws M R):zbE (bW R) (b5 zbz ws) M:=by
 obtain⟨c,k,rfl,e,d,r⟩:=h
 have b1:(c % 10 ^ (60:Int).toNat + 7919 * k + 1).natAbs < 2 ^ 4096:=by
  have b:0<=c % 10 ^ 60:=Jw _ (by decide)
  have a1:c % 10 ^ 60 < 10 ^ 60:=Ie _ (by decide)
  exact vL (m:=210) (show(c % 10 ^ 60 + 7919 * k + 1).natAbs < _ by lia) (by decide)
 have b2:(27182818284590452353602874713527:Int).natAbs < 2 ^ 4096:=vL (m:=128) (by decide) (by decide)
 have a:(0:Int) < 170141183460469231731687303715884105727:=by decide
 exact⟨_,rfl,⟨by decide,by decide,by decide⟩,show(0:Int) < 10 ^ (60:Int).toNat by decide,_,rfl,.inl (.inl ⟨by decide,by decide⟩),.inr ⟨b1,b2⟩,_,rfl,a,_,rfl,_,rfl,.inr ⟨uB _,uB _⟩,_,rfl,.inl (.inl ⟨by decide,by decide⟩),a,_,rfl,_,rfl,.inr ⟨uB _,uB _⟩,a,⟨by decide,by decide⟩,_,Sub.refl _,r _⟩
theorem zcJ{ws:List W}{M:Mm}{R:K3}(h:oH ws M R):zbL (bW R) (b5 zbF ws) M:=by
 obtain⟨c,d,rfl,hl,hs,r⟩:=h
 refine⟨z0,fun p n=>⟨_,rfl,⟨by decide,by decide,by decide⟩,_,rfl,?_⟩⟩
 refine fF (ws:=hU 0 (d.map W.int)) (fun i g k=>∃ b rest l m,g=[some (.int c),some (.rl (d.map W.int)),some (.ref p),some (.int rest),l,m]/\k=put M p (.lst (b.map W.int))/\Drawn b (d.take i)) ⟨[],_,_,_,rfl,rfl,by simp;exact .nil⟩ (fun _ _ _ _ _=>trivial) ?_ ?_
 ·rintro i w g k hw ⟨b,rest,l,m,rfl,rfl,hd⟩
  rw[w6,Bi] at hw
  cases a:d[i]? with
  | none=>rw[a] at hw;cases hw
  | some s=>
   rw[a] at hw
   cases hw
   obtain⟨e,o⟩:=hs s (Bc a)
   have hi:=(An.mp a).1
   have f:=Eo hd
   rw[Cg] at f
   have j:vJ rest s:=⟨e,Int.lt_of_le_of_lt o (by decide)⟩
   have la:(b.map W.int).length < Aj:=hJ (by rw[Ab];lia)
   have fin:∀ {z:Int},put (put M p (.lst (b.map W.int))) p (.lst (b.map W.int ++ [.int (z % s)]))=put M p (.lst ((b ++ [z % s]).map W.int))/\Drawn (b ++ [z % s]) (d.take (i + 1)):=⟨by rw[kF,Bs];rfl,zcG hd a ⟨Jw _ (by lia),Ie _ e⟩⟩
   exact⟨rfl,rfl,_,rfl,_,rfl,cG (fun _=>⟨_,rfl,gQ bA,_,rfl,_,rfl,e,_,bA,la,_,rfl,_,rfl,j,_,Sub.refl _,_,_,_,_,rfl,fin⟩) fun _=>⟨_,rfl,gQ bA,_,rfl,_,rfl,c,_,rfl,by lia,by lia,fun z=>⟨_,rfl,e,_,bA,la,_,Sub.refl _,_,_,_,_,rfl,fin⟩⟩⟩
 ·rintro g k ⟨b,rest,l,m,rfl,rfl,hd⟩
  rw[pM,Ab,Eu] at hd
  exact⟨_,rfl,_,Sub.refl _,r b hd p n⟩
theorem zcK{ws:List W}{M:Mm}{R:K3}(h:qH ws M R):zbW (bW R) (b5 zbV ws) M:=by
 obtain⟨t,rfl,ht,r⟩:=h
 have key:∀ t∈NM ++ W4,t.length<=10/\((b9 t.cps.toList 0).map fun c=>occ ⟨#[c]⟩ "ABCS")=some (isN t):=by decide +kernel
 obtain⟨f,e⟩:=key t (Bo.mpr ht)
 obtain⟨c,d,b⟩:=Bn.mp e
 refine⟨_,rfl,eA (by lia),c,d,?_⟩
 show ∃ a,L3.Sub a M/\R (.bl (occ ⟨#[c]⟩ "ABCS")) a
 rw[b]
 exact⟨_,Sub.refl _,r⟩
theorem uC(fs:List bX)(f:bX):(bD (eO fs) (fK f)).isSome=decide (f∈fs):=by
 unfold eO
 induction fs with
 | nil=>rfl
 | cons g fs a=>
  rw[Ar,mX]
  by_cases h:g=f
  ·subst h;rw[if_pos rfl];simp
  ·rw[if_neg (fun z=>h (p5 _ _ z)),a]
   have:¬ f=g:=fun z=>h z.symm
   simp[this]
def nB(a:List Str)(fs:List bX)(t:Str)(m x:Int):Prop:=(isN t=false/\a[m.toNat]? = some t/\x=m + 1)\/(isN t=true/\m<=x/\x<=a.length/\(t,m,x)∈fs)
def k7(lo:Int)(k:Nat):List Int:=(Cb k).map fun(i:Nat)=>lo + (i:Int)
theorem zP{lo x:Int}{k:Nat}:x∈k7 lo k↔lo<=x/\x < lo + k:=by
 unfold k7
 rw[Au]
 constructor
 ·rintro⟨i,hi,rfl⟩
  have:=Eg.mp hi
  lia
 ·intro h
  exact⟨(x - lo).toNat,Eg.mpr (by lia),by lia⟩
def qJ(f:Int->Bool):W->Option W
 | .int x=>if f x=true then some (.int x) else none
 | _=>none
theorem GO(f:Int->Bool)(lo:Int)(k:Nat):(g9 lo k).filterMap (qJ f)=((k7 lo k).filter f).map W.int:=by
 unfold g9 k7
 generalize Cb k=l
 induction l with
 | nil=>rfl
 | cons i l a=>
  have e:qJ f (W.int (lo + (i:Int)))=if f (lo + (i:Int))=true then some (.int (lo + (i:Int))) else none:=rfl
  rw[Ar,Ar,Gj,Ff,e]
  by_cases h:f (lo + (i:Int))=true
  ·rw[if_pos h,if_pos h,Ar,<-a]
  ·rw[if_neg h,if_neg h,<-a]
theorem GP{a:List Str}{fs:List bX}{b:Int}{ps:List Str}{t:Str}(hb:0<=b/\b<=a.length)(x:Int):Rc a (fun f=>f∈fs) b (ps ++ [t]) x↔∃ m,Rc a (fun f=>f∈fs) b ps m/\nB a fs t m x:=by
 constructor
 ·intro h
  generalize k:ps ++ [t]=qs at h
  cases h with
  | nil=>simp at k
  | word d c g i=>
   obtain⟨rfl,e⟩:=Ml k rfl
   cases e
   exact⟨_,d,.inl ⟨c,i,rfl⟩⟩
  | name d c g i j=>
   obtain⟨rfl,e⟩:=Ml k rfl
   cases e
   exact⟨_,d,.inr ⟨c,g,i,j⟩⟩
 ·rintro⟨m,d,⟨c,g,rfl⟩ | ⟨c,g,i,j⟩⟩
  ·exact .word d c (Int.le_trans hb.1 (d.in_ hb).1) g
  ·exact .name d c g i j
theorem take_snoc{a:Type}{l:List a}{k:Nat}{x:a}(h:l[k]? = some x):l.take (k + 1)=l.take k ++ [x]:=by
 rw[Ga,h];rfl
theorem zcL{ws:List W}{M:Mm}{R:K3}(h:zK ws M R):zca (bW R) (b5 zb5 ws) M:=by
 obtain⟨ps,d,p,b,e,fs,rfl,hps,Q,hw,hM,hb,r⟩:=h
 have hl:=hw.few
 refine⟨_,rfl,z1,_,rfl,?_⟩
 refine fF (ws:=ps.map W.str) (fun i F L=>∃ (l:List Int) (V S A:Option W),F=[some (.tup (ps.map W.str)),some (fP d),some (.ref p),some (.int b),some (.int e),some (.rl (l.map W.int)),V,S,A]/\L=M/\l.length<=7/\∀ m,m∈l↔Rc d (fun f=>f∈fs) b (ps.take i) m)
  ⟨[b],_,_,_,rfl,rfl,by simp,fun m=>?_⟩ (fun _ _ _ _ _=>trivial) ?_ ?_
 ·rw[Az,Nj]
  constructor
  ·rintro rfl;exact .nil
  ·intro h
   generalize Y:([]:List Str)=qs at h
   cases h with
   | nil=>rfl
   | word=>simp at Y
   | name=>simp at Y
 ·rintro i w F L K ⟨l,V,S,A,rfl,rfl,N,n⟩
  rw[Bi] at K
  obtain⟨t,ht,rfl⟩:=Bn.mp K
  have T:=Q t (Bc ht)
  have P:∀ m∈l,0<=m/\m<=d.length:=fun m G=>by
   have:=((n m).mp G).in_ hb
   lia
  refine⟨z0,_,rfl,?_⟩
  refine fF (ws:=l.map W.int) (fun j F g=>∃ (xs:List Int) (A:Option W),F=[some (.tup (ps.map W.str)),some (fP d),some (.ref p),some (.int b),some (.int e),some (.rl (l.map W.int)),some (.str t),some (.rl (xs.map W.int)),A]/\g=L/\xs.length<=7 * j/\∀ x,x∈xs↔∃ m∈l.take j,nB d fs t m x)
   ⟨[],_,rfl,rfl,Bx _,fun x=>by simp⟩ (fun _ _ _ _ _=>trivial) ?_ ?_
  ·rintro j w F g I ⟨xs,A,rfl,rfl,J,v⟩
   rw[Bi] at I
   obtain⟨m,G,rfl⟩:=Bn.mp I
   obtain⟨m0,m1⟩:=P m (Bc G)
   have hj:=(An.mp G).1
   have fin:∀ (ys:List Int),ys.length<=7->(∀ x,x∈ys↔nB d fs t m x)->∃ H,L3.Sub H g/\∃ (o:List Int) (A:Option W),[some (W.tup (ps.map W.str)),some (fP d),some (.ref p),some (.int b),some (.int e),some (.rl (l.map W.int)),some (.str t),some (.rl (xs.map W.int ++ ys.map W.int)),some (.int m)]=[some (.tup (ps.map W.str)),some (fP d),some (.ref p),some (.int b),some (.int e),some (.rl (l.map W.int)),some (.str t),some (.rl (o.map W.int)),A]/\H=g/\o.length<=7 * (j + 1)/\∀ x,x∈o↔∃ m∈l.take (j + 1),nB d fs t m x:=fun ys s h2=>
    ⟨_,Sub.refl _,xs ++ ys,_,by rw[Bs],rfl,by rw[Aw];lia,fun x=>by
     rw[Bo,v,h2,take_snoc G]
     constructor
     ·rintro(⟨B,a1,a2⟩ | a)
      ·exact⟨B,Ep _ a1,a2⟩
      ·exact⟨m,by simp,a⟩
     ·rintro⟨B,a1,a2⟩
      rcases Bo.mp a1 with a1 | a1
      ·exact .inl ⟨B,a1,a2⟩
      ·cases Az.mp a1;exact .inr a2⟩
   have two:∀ {ys:List Int},ys.length<=7->(xs.map W.int).length + (ys.map W.int).length<=Aj:=fun {ys} h=>eA (by rw[Ab,Ab];lia)
   refine⟨_,rfl,t,rfl,T,cG (fun E=>?_) fun E=>?_⟩
   ·have E:isN t=false:=by simpa using E
    have go:∀ c:Bool,(c=true↔d[m.toNat]? = some t)->∃ H,L3.Sub H g/\_:=fun c hc=>fin (if c=true then [m + 1] else []) (by split <;> simp) fun x=>by
     unfold nB
     cases c with
     | true=>simp[E,hc.mp rfl]
     | false=>
      have hz:¬ d[m.toNat]? = some t:=fun z=>Ao (hc.mpr z)
      simp[E,hz]
    have fl:∀ c:Bool,(Bz (if c=true then(1:Int) else 0).toNat [W.int (m + 1)]).flatten=(if c=true then [m + 1] else []).map W.int:=fun c=>by cases c <;> rfl
    have done:∀ c:Bool,(c=true↔d[m.toNat]? = some t)->zA [.bl c] g fun y M2=>jU (.rl [.int (m + 1)]) y M2 fun z H=>cS (.rl (xs.map W.int)) z H fun w M1=>∃ M4,L3.Sub M4 M1/\∃ (o:List Int) (A:Option W),[some (W.tup (ps.map W.str)),some (fP d),some (.ref p),some (.int b),some (.int e),some (.rl (l.map W.int)),some (.str t),some w,some (.int m)]=[some (.tup (ps.map W.str)),some (fP d),some (.ref p),some (.int b),some (.int e),some (.rl (l.map W.int)),some (.str t),some (.rl (o.map W.int)),A]/\M4=g/\o.length<=7 * (j + 1)/\∀ x,x∈o↔∃ m∈l.take (j + 1),nB d fs t m x:=fun c hc=>by
     refine⟨by cases c <;> decide,by cases c <;> decide,eA (by cases c <;> simp),?_⟩
     rw[fl c]
     exact⟨two (by split <;> simp),go c hc⟩
    refine⟨_,rfl,_,rfl,z1,_,rfl,_,rfl,_,rfl,cG (fun s=>?_) fun s=>done false (Iff.intro (fun z=>nomatch z) fun z=>?_)⟩
    ·have s:=of_decide_eq_true s
     rw[Ab] at s
     obtain⟨x,ex,Z,_⟩:=nV (xs:=d.map W.str) (i:=m) m0 (by rw[Ab];exact s)
     rw[Bi] at Z
     obtain⟨u,hu,rfl⟩:=Bn.mp Z
     refine⟨_,rfl,_,rfl,_,ex,_,rfl,done (decide (u=t)) ?_⟩
     rw[decide_eq_true_eq,hu]
     simp
    ·have:=(An.mp z).1
     have s:=of_decide_eq_false s
     rw[Ab] at s
     lia
   ·have E:isN t=true:=by simpa using E
    refine⟨_,rfl,_,rfl,_,rfl,m,(d.length:Int) + 1,by rw[Ab],⟨by lia,by lia,by lia,by lia⟩,?_⟩
    refine nT (rest:=[some (.ref p),some (.str t),some (.int m)]) (qJ fun x=>decide ((t,m,x)∈fs)) (eA (by rw[FA];lia)) (fun _ _=>trivial) (fun w U H C D sb d1 d2=>?_) ?_
    ·obtain⟨k,hk,rfl⟩:=Au.mp U
     refine⟨_,rfl,_,rfl,_,rfl,z3,_,rfl,.inr ⟨_,.inr ⟨eO fs,fK (t,m,m + (k:Int)),sb p _ hM,rfl,rfl⟩,_,rfl,?_⟩⟩
     show if (bD (eO fs) (fK (t,m,m + (k:Int)))).isSome=true then _ else _
     rw[uC]
     refine cG (fun z=>⟨_,rfl,d1 _ (if_pos z)⟩) fun z=>d2 (if_neg (fun q=>Ao (z.symm.trans q)))
    ·rw[GO]
     refine aV.frz ⟨two ?_,fin _ ?_ fun x=>?_⟩
     ·exact Bh (Il _ _) (by unfold k7;rw[Ab,Ey];lia)
     ·exact Bh (Il _ _) (by unfold k7;rw[Ab,Ey];lia)
     ·rw[Fo,zP,decide_eq_true_eq]
      unfold nB
      constructor
      ·rintro⟨⟨a1,a2⟩,X⟩;exact .inr ⟨E,a1,by lia,X⟩
      ·rintro(⟨a,_⟩ | ⟨_,a1,a2,X⟩)
       ·rw[E] at a;cases a
       ·exact⟨⟨a1,by lia⟩,X⟩
  ·rintro F g ⟨xs,A,rfl,rfl,J,v⟩
   rw[Ab,Eu] at v
   rw[Ab] at J
   refine⟨_,rfl,xs,rfl,by lia,fun ns s h2 h3 h4=>?_⟩
   refine⟨_,Sub.refl _,ns,_,_,_,rfl,rfl,?_,fun m=>?_⟩
   ·have sub:∀ x∈ns,x∈k7 0 7:=fun x O=>by
     obtain⟨m,G,hs⟩:=(v x).mp ((s x).mp O)
     have hr:=(GP (t:=t) hb x).mpr ⟨m,(n m).mp G,hs⟩
     have:=hr.in_ hb
     exact zP.mpr ⟨by lia,by lia⟩
    exact Bh (len_sub h4 sub) (by unfold k7;rw[Ab,Ey];exact Ai _)
   ·rw[s,v,take_snoc ht,GP hb]
    exact⟨fun⟨B,a1,a2⟩=>⟨B,(n B).mp a1,a2⟩,fun⟨B,a1,a2⟩=>⟨B,(n B).mpr a1,a2⟩⟩
 ·rintro F L ⟨l,V,S,A,rfl,rfl,N,n⟩
  rw[Ab,Eu] at n
  refine⟨_,rfl,_,rfl,rfl,?_,_,Sub.refl _,r _ ?_⟩
  ·rw[List.all_map,Kn];exact fun _ _=>rfl
  ·rw[<-n]
   show inW (.int e) (l.map W.int)=true↔_
   unfold inW
   rw[List.any_map,Km]
   constructor
   ·rintro⟨x,O,h⟩
    have:x=e:=eq_of_beq (show(x == e)=true from h)
    rw[<-this];exact O
   ·intro h
    exact⟨e,h,beq_self_eq_true e⟩
structure FI(rs:List aU)(row:List Str)(fs0 fs:List bX)(b:Bool)(C:aU->Int->Int->Prop):Prop where
 nd:fs.Nodup
 der:∀ f∈fs,iS rs row f
 gr:b=true->fs0.length < fs.length
 st:b=false->fs=fs0/\∀ r i e,C r i e->Rc row (fun f=>f∈fs0) i r.parts e->(r.name,i,e)∈fs0
theorem FI.mono{rs:List aU}{a:List Str}{d fs:List bX}{b:Bool}{C f:aU->Int->Int->Prop}(h:FI rs a d fs b C)(k:∀ r i e,f r i e->C r i e):FI rs a d fs b f:=
 ⟨h.nd,h.der,h.gr,fun z=>⟨(h.st z).1,fun r i e c=>(h.st z).2 r i e (k r i e c)⟩⟩
theorem FI.same{rs:List aU}{a:List Str}{d fs:List bX}{b:Bool}{C m:aU->Int->Int->Prop}{r:aU}{i e:Int}(h:FI rs a d fs b C)(q:Rc a (fun f=>f∈fs) i r.parts e->(r.name,i,e)∈fs)
  (k:∀ j l g,m j l g->C j l g\/(j=r/\l=i/\g=e)):FI rs a d fs b m:=
 ⟨h.nd,h.der,h.gr,fun z=>⟨(h.st z).1,fun j l g c=>by
  rcases k _ _ _ c with c | ⟨rfl,rfl,rfl⟩
  ·exact(h.st z).2 _ _ _ c
  ·rw[<-(h.st z).1];exact q⟩⟩
theorem FI.more{rs:List aU}{a:List Str}{c fs:List bX}{b:Bool}{C l:aU->Int->Int->Prop}{r:aU}{i e:Int}(g:gD rs)(h:FI rs a c fs b C)(d:r∈rs)(hi:0<=i/\i<=a.length)(q:Rc a (fun f=>f∈fs) i r.parts e)(n:(r.name,i,e)∉fs):FI rs a c (fs ++ [(r.name,i,e)]) true l:=
 ⟨Gd.mpr ⟨h.nd,by simp,fun x k y j z=>by cases Az.mp j;exact n (z ▸ k)⟩,fun f hf=>by
  rcases Bo.mp hf with hf | hf
  ·exact h.der f hf
  ·cases Az.mp hf
   exact zbl g d hi (q.mono h.der),fun _=>by
  rw[Aw]
  cases z:b with
  | true=>exact Bt (h.gr z) (Mq _ _)
  | false=>rw[(h.st z).1];exact Hx _,fun z=>nomatch z⟩
def KS(rs:List aU)(a:List Str)(e:Mm)(p:Addr)(c:List bX)(C:aU->Int->Int->Prop)(f d:S3)(M:Mm):Prop:=
 ∃ fs b,d=some (d7 rs) :: some (fP a) :: some (.ref p) :: some (.bl b) :: f/\M=put e p (.dT (eO fs))/\FI rs a c fs b C
theorem zcM{fs:List bX}{f:bX}(h:f∉fs):bV (eO fs) (fK f) (.bl true)=eO (fs ++ [f]):=by
 unfold bV
 rw[if_neg (by rw[show((eO fs).any fun a=>decide (a.1=fK f))=(bD (eO fs) (fK f)).isSome from mU _ _,uC,decide_eq_true_eq];exact h)]
 unfold eO
 rw[Bs];rfl
abbrev C1(rs:List aU)(a:List Str)(i:Nat)(r:aU)(b e:Int):Prop:=r∈rs.take i/\0<=b/\b<=e/\e<=a.length
abbrev C2(rs:List aU)(a:List Str)(i:Nat)(q:aU)(j:Nat)(r:aU)(b e:Int):Prop:=C1 rs a i r b e\/(r=q/\0<=b/\b < j/\b<=e/\e<=a.length)
abbrev C3(rs:List aU)(a:List Str)(i:Nat)(q:aU)(j k:Nat)(r:aU)(b e:Int):Prop:=C2 rs a i q j r b e\/(r=q/\b=j/\(j:Int)<=e/\e < (j:Int) + k)
theorem zcN{ws:List W}{M:Mm}{R:K3}(h:zL ws M R):zch (bW R) (b5 zcb ws) M:=by
 obtain⟨rs,a,rfl,g,w,r⟩:=h
 have hl:=w.few
 have few:∀ {l fs b C},FI rs a l fs b C->fs.length < 128:=fun h=>y9 w.few h.nd fun f hf=>qG g (h.der f hf)
 intro p V
 refine⟨fun m n o=>∃ fs b A E B u s,n=[some (d7 rs),some (fP a),some (.ref p),some (.bl b),A,E,B,u,s]/\o=put M p (.dT (eO fs))/\FI rs a fs fs false (fun r i e=>b=false/\r∈rs/\0<=i/\i<=e/\e<=a.length)/\m=128 - fs.length + (if b=true then 1 else 0),
  ⟨_,[],true,_,_,_,_,_,rfl,rfl,⟨.nil,(fun f hf=>nomatch hf),(fun z=>nomatch z),fun _=>⟨rfl,fun _ _ _ z=>(nomatch z.1)⟩⟩,rfl⟩,?_⟩
 rintro m n o ⟨l,b,A,E,B,u,s,rfl,rfl,I,rfl⟩
 refine⟨_,rfl,cG (fun hb=>?_) fun hb=>?_⟩
 ·subst hb
  refine⟨_,rfl,?_⟩
  refine fF (ws:=rs.map cY) (fun i n o=>∃ A E B u s,KS rs a M p l (C1 rs a i) [A,E,B,u,s] n o)
   ⟨_,_,_,_,_,l,false,rfl,rfl,I.mono fun r i e z=>by have:=z.1;simp at this⟩ (fun _ _ _ _ _=>trivial) ?_ ?_
  ·rintro i wr n o hw ⟨A,E,B,u,s,fs,b,rfl,rfl,F⟩
   rw[Bi] at hw
   obtain⟨q,J,rfl⟩:=Bn.mp hw
   have y:=Bc J
   refine⟨rfl,rfl,_,rfl,(a.length:Int) + 1,by rw[Ab],by lia,by lia,?_⟩
   refine fF (fun j n o=>∃ u s,KS rs a M p l (C2 rs a i q j) [some (.str q.name),some (.tup (q.parts.map W.str)),some (.int q.cost),u,s] n o)
    ⟨_,_,fs,b,rfl,rfl,F.mono fun r v e z=>z.elim id fun z=>by lia⟩ (fun _ _ _ _ _=>trivial) ?_ ?_
   ·rintro j wj n o Q ⟨u,s,fs,b,rfl,rfl,F⟩
    obtain⟨T,rfl⟩:=zN Q
    rw[Lj]
    refine⟨_,rfl,_,rfl,(j:Int),(a.length:Int) + 1,by rw[Ab],⟨by lia,by lia,by lia,by lia⟩,?_⟩
    refine fF (fun k n o=>∃ s,KS rs a M p l (C3 rs a i q j k) [some (.str q.name),some (.tup (q.parts.map W.str)),some (.int q.cost),some (.int j),s] n o)
     ⟨_,fs,b,rfl,rfl,F.mono fun r v e z=>z.elim id fun z=>by lia⟩ (fun _ _ _ _ _=>trivial) ?_ ?_
    ·rintro k wk n o hk ⟨s,fs,b,rfl,rfl,F⟩
     obtain⟨O,rfl⟩:=zN hk
     have cs:∀ G v D,C3 rs a i q j (k + 1) G v D->C3 rs a i q j k G v D\/(G=q/\v=j/\D=(j:Int) + k):=by
      rintro G v D (z | ⟨z0,z3,z1,z2⟩)
      ·exact .inl (.inl z)
      ·by_cases P:D=(j:Int) + k
       ·exact .inr ⟨z0,z3,P⟩
       ·exact .inl (.inr ⟨z0,z3,z1,by lia⟩)
     refine⟨_,rfl,_,rfl,_,rfl,z3,_,rfl,.inr ⟨_,.inr ⟨eO fs,fK (q.name,(j:Int),(j:Int) + (k:Int)),bA,rfl,rfl⟩,_,rfl,?_⟩⟩
     show if (!(bD (eO fs) (fK (q.name,(j:Int),(j:Int) + (k:Int)))).isSome)=true then _ else _
     rw[uC]
     refine cG (fun x=>?_) fun x=>?_
     ·have x:(q.name,(j:Int),(j:Int) + (k:Int))∉fs:=by simpa using x
      refine⟨_,rfl,_,rfl,_,rfl,_,rfl,_,rfl,q.parts,a,p,j,(j:Int) + k,fs,rfl,g.fp q y,fun t ht=>(g.prt q y t ht).elim (fun z=>.inr (m9 z)) fun z=>.inl z.1,w,bA,⟨by lia,by lia⟩,fun c hc=>cG (fun H=>?_) fun H=>?_⟩
      ·have hf:=few F
       refine⟨_,rfl,_,rfl,_,rfl,_,rfl,z3,sI (k:=fK (q.name,(j:Int),(j:Int) + (k:Int))) bA (by unfold eO;rw[Ab];exact Bt hf (eA (by decide))) ?_⟩
       rw[zcM x,kF]
       exact⟨_,Sub.refl _,_,_,_,rfl,rfl,F.more g y ⟨by lia,by lia⟩ (hc.mp H) x⟩
      ·exact⟨_,Sub.refl _,_,_,_,rfl,rfl,F.same (fun z=>(Ao (H.symm.trans (hc.mpr z))).elim) cs⟩
     ·have x:(q.name,(j:Int),(j:Int) + (k:Int))∈fs:=by simpa using x
      exact⟨_,Sub.refl _,_,_,_,rfl,rfl,F.same (fun _=>x) cs⟩
    ·rintro n o ⟨s,fs,b,rfl,rfl,F⟩
     rw[nA] at F
     exact⟨_,Sub.refl _,_,_,_,_,rfl,rfl,F.mono fun r v e z=>z.elim (fun z=>.inl (.inl z)) fun z=>by
      by_cases hi:v=j
      ·exact .inr ⟨z.1,hi,by lia,by lia⟩
      ·exact .inl (.inr ⟨z.1,by lia,by lia,by lia,by lia⟩)⟩
   ·rintro n o ⟨u,s,fs,b,rfl,rfl,F⟩
    rw[nA] at F
    refine⟨_,Sub.refl _,_,_,_,_,_,_,_,rfl,rfl,F.mono fun r v e z=>?_⟩
    rw[C1,take_snoc J,Bo,Az] at z
    rcases z.1 with z1 | z1
    ·exact .inl ⟨z1,z.2⟩
    ·exact .inr ⟨z1,by lia,by lia,by lia,by lia⟩
  ·rintro n o ⟨A,E,B,u,s,fs,b,rfl,rfl,F⟩
   rw[Ab,show rs.length=rs.length from rfl] at F
   have Z:=few F
   refine⟨_,_,?_,Sub.refl _,fs,b,_,_,_,_,_,rfl,rfl,⟨F.nd,F.der,(fun z=>nomatch z),fun _=>⟨rfl,fun G v D z q=>?_⟩⟩,rfl⟩
   ·cases z:b with
    | true=>have:=F.gr z;simp;lia
    | false=>rw[(F.st z).1];simp
   ·obtain⟨N,Y⟩:=F.st z.1
    rw[N] at q ⊢
    exact Y _ _ _ ⟨by rw[Eu];exact z.2.1,z.2.2⟩ q
 ·subst hb
  refine⟨_,rfl,_,Sub.refl _,r l I.nd (fun f=>⟨I.der f,fun d=>?_⟩) p V⟩
  exact GG g (K:=fun f=>f∈l) (fun r S b e H X L U=>(I.st rfl).2 r b e ⟨rfl,S,H,X,L⟩ U) d
theorem GQ{ws:List W}{j:Nat}(h:j<=ws.length):dP ws none (some (j:Int))=ws.take j:=by
 unfold dP
 rw[HT.sIx_none,HT.sIx_nat,Na h]
 simp
def oI(hs:List Str):W->Option W
 | .int k=>(hs[k.toNat]?).bind fun t=>if t∈hs.take k.toNat then none else some (.str t)
 | _=>none
theorem zcO{hs:List Str}{xs:List W}(h:∀ w∈xs,∃ k:Nat,w=.int k):∃ us:List Str,xs.filterMap (oI hs)=us.map W.str/\us.length<=xs.length/\∀ t∈us,t∈hs:=by
 induction xs with
 | nil=>exact⟨[],rfl,Ai _,fun _ z=>nomatch z⟩
 | cons w xs a=>
  obtain⟨us,e,l,m⟩:=a fun w hw=>h w (Bd _ hw)
  obtain⟨k,rfl⟩:=h w Bg
  rw[Gj]
  cases z:oI hs (.int k) with
  | none=>exact⟨us,e,Nat.le_succ_of_le l,m⟩
  | some y=>
   unfold oI at z
   obtain⟨t,ht,z⟩:=Option.bind_eq_some_iff.mp z
   split at z
   ·cases z
   ·cases z
    exact⟨t :: us,by rw[e];rfl,Nat.succ_le_succ l,fun t' h'=>(Ba.mp h').elim (fun q=>q ▸ Bc ht) (m t')⟩
theorem GR{P:W->W->Prop}{Q:Str->Prop}{xs ys:List W}(h:Ir P xs ys)(k:∀ x y,P x y->∃ t,y=.str t/\Q t):∃ ts:List Str,ys=ts.map W.str/\ts.length=xs.length/\∀ t∈ts,Q t:=by
 induction h with
 | nil=>exact⟨[],rfl,rfl,fun _ z=>nomatch z⟩
 | cons a _ b=>
  obtain⟨ts,rfl,l,m⟩:=b
  obtain⟨t,rfl,q⟩:=k _ _ a
  exact⟨t :: ts,rfl,by rw[Bp,Bp,l],fun t' h'=>(Ba.mp h').elim (fun e=>e ▸ q) (m t')⟩
theorem zcP{P:W->W->Prop}{xs ys:List W}(h:Ir P xs ys)(k:∀ x y,P x y->∃ i,y=.int i):∃ ts:List Int,ys=ts.map W.int/\ts.length=xs.length:=by
 induction h with
 | nil=>exact⟨[],rfl,rfl⟩
 | cons a _ b=>
  obtain⟨ts,rfl,l⟩:=b
  obtain⟨t,rfl⟩:=k _ _ a
  exact⟨t :: ts,rfl,by rw[Bp,Bp,l]⟩
theorem zcQ{g:List Int}{a1 a2 d c e a b f:Int}(h:Drawn g [a1,a2,d,c,e,a,b,f]):∃ x1 x2 x3 x4 x5 x6 x7 x8,g=[x1,x2,x3,x4,x5,x6,x7,x8]/\Below x2 a2/\(Below x3 d/\Below x4 c/\Below x5 e/\Below x6 a)/\Below x7 b/\Below x8 f:=by
 cases h with | cons p h=>cases h with | cons m h=>cases h with | cons k h=>cases h with | cons l h=>cases h with | cons i h=>cases h with | cons n h=>cases h with | cons o h=>cases h with | cons j h=>cases h;exact⟨_,_,_,_,_,_,_,_,rfl,m,⟨k,l,i,n⟩,o,j⟩
theorem zQ{b:List Int}{a:Int}(h:Drawn b [a]):∃ x,b=[x]/\Below x a:=by
 cases h with | cons c h=>cases h;exact⟨_,rfl,c⟩
theorem zcR{x1 x2 x3 x4 x5 x6 x7 x8:Int}(h:Below x2 5)(a:Below x3 8/\Below x4 8/\Below x5 8/\Below x6 8):∃ b:List Int,dP ([x1,x2,x3,x4,x5,x6,x7,x8].map W.int) (some 2) (some (2 + x2))=b.map W.int/\b.length<=4/\∀ d∈b,Below d 8:=by
 refine⟨[x3,x4,x5,x6].take x2.toNat,?_,by rw[Cg];exact Nat.min_le_right _ _,fun d hd=>?_⟩
 ·obtain⟨e,c⟩:=h
  have:x2=0\/x2=1\/x2=2\/x2=3\/x2=4:=by lia
  rcases this with rfl | rfl | rfl | rfl | rfl <;> rfl
 ·have:=Ky hd
  simp only[Ba,Ew,or_false] at this
  rcases this with rfl | rfl | rfl | rfl
  ·exact a.1
  ·exact a.2.1
  ·exact a.2.2.1
  ·exact a.2.2.2
theorem zcS{ws:List W}{M:Mm}{R:K3}(h:zH ws M R):zbU (bW R) (b5 zbM ws) M:=by
 obtain⟨A,rfl,hz,r⟩:=h
 refine⟨_,rfl,A,0,rfl,hz,fun c0=>⟨show(0:Int) < 8 by decide,1 + c0 % 8,rfl,?_⟩⟩
 have m0:=Jw c0 (b:=8) (by decide)
 have m1:=Ie c0 (b:=8) (by decide)
 refine⟨by lia,by lia,wY (rest:=[some (.sc (A.map W.int))]) (fun _ y=>∃ i,y=.int i) (eA (by rw[nA];lia)) (fun _ _=>trivial) (fun w hw l C sb E=>?_) fun ys po=>aV.frz ?_⟩
 ·obtain⟨k,hk,rfl⟩:=Au.mp hw
  exact⟨_,rfl,_,rfl,A,_,rfl,hz,fun i=>E _ ⟨i,rfl⟩⟩
 obtain⟨cs,rfl,V⟩:=zcP po fun _ _ h=>h
 rw[nA] at V
 refine⟨_,rfl,wY (rest:=[]) (fun _ y=>∃ t,y=.str t/\t∈NM) (eA (by rw[Ab];lia)) (fun _ _=>trivial) (fun w hw l C sb E=>?_) fun ys po=>aV.frz ?_⟩
 ·obtain⟨c,hc,rfl⟩:=Au.mp hw
  refine⟨z4,_,rfl,z1,c,[4],rfl,by decide,fun s hs=>by simp at hs;subst hs;decide,fun ds hd=>aV.frz ?_⟩
  obtain⟨x,rfl,b0,b1⟩:=zQ hd
  obtain⟨t,K,H⟩:=uA (ts:=NM) (k:=x) b0 b1
  exact⟨_,rfl,_,K,E _ ⟨t,rfl,H⟩⟩
 obtain⟨hs,rfl,U,J⟩:=GR po fun _ _ h=>h
 rw[Ab] at U
 refine⟨_,rfl,(hs.length:Int),by rw[Ab],by lia,by lia,nT (rest:=[some (.rl (hs.map W.str))]) (oI hs) (eA (by rw[nA];lia)) (fun _ _=>trivial) (fun w hw l C D sb E P=>?_) (aV.frz ?_)⟩
 ·obtain⟨k,hk,rfl⟩:=Au.mp hw
  have hk:=Eg.mp hk
  have hk:k < hs.length:=by lia
  have O:hs[k]? = some hs[k]:=Am hk
  have ea:b9 (hs.map W.str) ((0:Int) + (k:Int))=some (.str hs[k]):=by rw[Lj];exact jF (by rw[Bi,O];rfl)
  have I:oI hs (.int ((0:Int) + (k:Int)))=if hs[k]∈hs.take k then none else some (.str hs[k]):=by rw[Lj];show(hs[(k:Int).toNat]?).bind (fun t=>if t∈hs.take (k:Int).toNat then none else some (W.str t))=_;rw[Cj,O];rfl
  have ec:dP (hs.map W.str) none (some ((0:Int) + (k:Int)))=(hs.take k).map W.str:=by rw[Lj,GQ (by rw[Ab];lia),<-Ly]
  refine⟨_,rfl,_,rfl,_,ea,_,rfl,_,rfl,_,rfl,rfl,by rw[ec];exact EV _,_,rfl,?_⟩
  show if (!inW (.str hs[k]) (dP (hs.map W.str) none (some ((0:Int) + (k:Int)))))=true then _ else _
  rw[ec,EU]
  refine cG (fun hn=>⟨_,rfl,_,rfl,_,ea,E _ (by rw[I,if_neg (by simpa using hn)])⟩) fun hn=>P (by rw[I,if_pos (by simpa using hn)])
 obtain⟨us,I,Q,G⟩:=zcO (hs:=hs) (xs:=g9 0 (hs.length:Int).toNat) fun w hw=>by obtain⟨k,_,rfl⟩:=Au.mp hw;exact⟨k,by simp⟩
 have X:0 < hs.length:=by lia
 have une:0 < us.length:=by
  have h0:(W.int 0)∈g9 0 (hs.length:Int).toNat:=Au.mpr ⟨0,Eg.mpr (by lia),rfl⟩
  have E:oI hs (.int 0)=some (.str hs[0]):=by show(hs[(0:Int).toNat]?).bind (fun t=>if t∈hs.take (0:Int).toNat then none else some (W.str t))=_;rw[show hs[(0:Int).toNat]? = some hs[0] from Am X];rfl
  have P:=List.mem_filterMap.mpr ⟨_,h0,E⟩
  rw[I] at P
  obtain⟨t,ht,_⟩:=Au.mp P
  exact Mv ht
 rw[I]
 rw[nA] at Q
 refine⟨z0,fun p hp=>⟨_,rfl,_,rfl,?_⟩⟩
 have zl:(iI (hs.map W.str) (cs.map W.int)).length=hs.length:=by rw[lQ,Ab,Ab];lia
 refine fF (fun i B l=>∃ (rs:List aU) (o5 Z T o8 n:Option W),B=[some (.sc (A.map W.int)),some (.rl (cs.map W.int)),some (.rl (hs.map W.str)),some (.rl (us.map W.str)),some (.ref p),o5,Z,T,o8,n]/\l=put M p (.lst (rs.map cY))/\rs.map aU.name=hs.take i/\(∀ r∈rs,r.parts.length<=4/\(∀ t∈r.parts,t∈W3\/t∈us)/\0<=r.cost/\r.cost < 10 ^ 60))
  ⟨[],_,_,_,_,_,rfl,rfl,by simp,fun _ z=>nomatch z⟩ (fun _ _ _ _ _=>trivial) ?_ ?_
 ·rintro i w B l hw ⟨rs,o5,Z,T,o8,n,rfl,rfl,a,f⟩
  have hi:i < hs.length:=by have:=(An.mp hw).1;lia
  rw[sJ (x:=.str hs[i]) (y:=.int (cs[i]'(by lia))) (by rw[Bi,Am hi];rfl) (by rw[Bi,Am (by lia)];rfl)] at hw
  cases hw
  generalize cs[i]'(by lia)=c
  refine⟨rfl,rfl,_,rfl,⟨by decide,by decide,by decide⟩,z8,c,[4,5,8,8,8,8,4,10 ^ 6],rfl,by decide,by decide,fun ds hd=>aV.frz ?_⟩
  obtain⟨x1,x2,x3,x4,x5,x6,x7,x8,rfl,b2,S,b7,b8⟩:=zcQ hd
  obtain⟨ds,ed,dl,db⟩:=zcR (x1:=x1) (x7:=x7) (x8:=x8) b2 S
  refine⟨z0,fun q N=>⟨_,rfl,_,rfl,_,rfl,_,rfl,_,rfl,?_⟩⟩
  have g:p≠q:=fun z=>by rw[<-z,bA] at N;cases N
  have Y:M q=none:=by rw[aP (fun z=>g z.symm)] at N;exact N
  refine fF (ws:=dP ([x1,x2,x3,x4,x5,x6,x7,x8].map W.int) (some 2) (some (2 + x2))) (fun j B l=>∃ (ps:List Str) (n:Option W),B=[some (.sc (A.map W.int)),some (.rl (cs.map W.int)),some (.rl (hs.map W.str)),some (.rl (us.map W.str)),some (.ref p),some (.str hs[i]),some (.int c),some (.rl ([x1,x2,x3,x4,x5,x6,x7,x8].map W.int)),some (.ref q),n]/\l=put (put M p (.lst (rs.map cY))) q (.lst (ps.map W.str))/\ps.length<=j/\∀ t∈ps,t∈W3\/t∈us)
   ⟨[],_,rfl,rfl,Ai _,fun _ z=>nomatch z⟩ (fun _ _ _ _ _=>trivial) ?_ ?_
  ·rintro j w B l hw ⟨ps,n,rfl,rfl,o,v⟩
   rw[ed,Bi] at hw
   obtain⟨d,F,rfl⟩:=Bn.mp hw
   obtain⟨d0,d1⟩:=db d (Bc F)
   have hj:=(An.mp F).1
   have fin:∀ t:Str,t∈W3\/t∈us->f7 (.ref q) [.str t] (put (put M p (.lst (rs.map cY))) q (.lst (ps.map W.str))) fun _ M1=>∃ L,L3.Sub L M1/\∃ (ps:List Str) (n:Option W),[some (W.sc (A.map W.int)),some (.rl (cs.map W.int)),some (.rl (hs.map W.str)),some (.rl (us.map W.str)),some (.ref p),some (.str hs[i]),some (.int c),some (.rl ([x1,x2,x3,x4,x5,x6,x7,x8].map W.int)),some (.ref q),some (.int d)]=[some (.sc (A.map W.int)),some (.rl (cs.map W.int)),some (.rl (hs.map W.str)),some (.rl (us.map W.str)),some (.ref p),some (.str hs[i]),some (.int c),some (.rl ([x1,x2,x3,x4,x5,x6,x7,x8].map W.int)),some (.ref q),n]/\L=put (put M p (.lst (rs.map cY))) q (.lst (ps.map W.str))/\ps.length<=j + 1/\∀ t∈ps,t∈W3\/t∈us:=fun t ht=>
    ⟨_,bA,Bt (by rw[Ab];lia) z8,_,Sub.refl _,ps ++ [t],_,rfl,by rw[kF,Bs];rfl,by rw[Aw];exact Nat.succ_le_succ o,fun t' h'=>(Bo.mp h').elim (v t') fun z=>by cases Az.mp z;exact ht⟩
   refine⟨_,rfl,_,rfl,cG (fun h3=>?_) fun h3=>?_⟩
   ·obtain⟨t,K,H⟩:=uA (ts:=W3) (k:=d) d0 (of_decide_eq_true h3)
    exact⟨_,rfl,gQ bA,z3,_,rfl,_,K,fin t (.inl H)⟩
   ·have h4:0 < (us.length:Int):=by lia
    obtain⟨t,K,H⟩:=uA (ts:=us) (k:=(d - 3) % us.length) (Jw _ (by lia)) (Ie _ h4)
    refine⟨_,rfl,gQ bA,_,rfl,_,rfl,_,rfl,by rw[Ab];exact h4,_,by rw[Ab];exact K,fin t (.inr H)⟩
  ·rintro B l ⟨ps,n,rfl,rfl,o,v⟩
   rw[ed,Ab] at o
   obtain⟨y,ey,my⟩:∃ y:Int,b9 ([0,1,x8 % 10,x8].map W.int) x7=some (.int y)/\y∈[0,1,x8 % 10,x8]:=by
    obtain⟨y,O,_,e2⟩:=nV (xs:=[0,1,x8 % 10,x8].map W.int) (i:=x7) b7.1 b7.2
    obtain⟨z,hz,rfl⟩:=Au.mp e2
    exact⟨z,O,hz⟩
   have u:rs.length<=8:=by have:=congrArg Dl a;rw[Ab,Cg] at this;lia
   refine⟨_,rfl,gQ ((aP g).trans bA),_,rfl,_,rfl,_,bA,_,rfl,_,rfl,show(0:Int) < 10 by decide,_,rfl,_,rfl,z4,_,rfl,_,rfl,_,ey,z3,_,(aP g).trans bA,Bt (m:=9) (by rw[Ab];lia) (eA (by decide)),put M p (.lst ((rs ++ [aU.mk hs[i] ps y]).map cY)),?_,rs ++ [aU.mk hs[i] ps y],_,_,_,_,_,rfl,rfl,?_,fun r e=>?_⟩
   ·rw[RO (fun z=>g z.symm),kF,Bs]
    exact Sub.new (by rw[aP (fun z=>g z.symm)];exact Y)
   ·rw[Bs,a,take_snoc (Am hi)];rfl
   ·rcases Bo.mp e with e | e
    ·exact f r e
    ·cases Az.mp e
     refine⟨by show ps.length<=4;lia,v,?_⟩
     have m0:=Jw x8 (b:=10) (by decide)
     have m1:=Ie x8 (b:=10) (by decide)
     obtain⟨b80,b81⟩:=b8
     have hy:0<=y/\y < 10 ^ 6:=by
      simp only[Ba,Ew,or_false] at my
      lia
     exact⟨hy.1,Int.lt_trans hy.2 (by decide)⟩
 ·rintro B l ⟨rs,o5,Z,T,o8,n,rfl,rfl,a,f⟩
  rw[zl,Eu] at a
  have u:rs.length=hs.length:=by rw[<-a,Ab]
  refine⟨_,rfl,_,Sub.refl _,r rs ⟨fun z=>?_,by lia,fun r e=>J _ ?_,fun r e=>(f r e).1,fun r e t ht=>((f r e).2.1 t ht).imp id fun z=>⟨J _ (G t z),?_⟩,fun r e=>(f r e).2.2.1,fun r e=>(f r e).2.2.2⟩ p hp⟩
  ·rw[z] at u;simp at u;lia
  ·rw[<-a];exact Gi e
  ·have:=G t z
   rw[<-a] at this
   exact Au.mp this
theorem zcT{ws:List W}{j:Nat}(h:j<=ws.length):dP ws (some (j:Int)) none=ws.drop j:=by
 unfold dP
 rw[HT.sIx_none,HT.sIx_nat,Na h]
 exact Dw (by rw[Gs];exact Ai _)
theorem _root_.Nat.min_sub_min(i j n:Nat):min j n - min i n<=j - i:=by
 rcases Nat.le_total i n with h | h
 ·rw[Na h];exact Nat.sub_le_sub_right (Ii _ _) _
 ·rw[Nat.min_eq_right h,Nat.sub_eq_zero_of_le (Nat.min_le_right _ _)];exact Bx _
theorem GS{a:Type}{f:a->W}(xs:List a)(i:Option Nat)(j:Nat):∃ ys:List a,dP (xs.map f) (i.map fun(k:Nat)=>(k:Int)) (some (j:Int))=ys.map f/\ys.length<=j - i.getD 0/\∀ y∈ys,y∈xs:=by
 refine⟨(xs.drop (HT.sIx xs.length 0 (i.map fun(k:Nat)=>(k:Int)))).take (HT.sIx xs.length xs.length (some (j:Int)) - HT.sIx xs.length 0 (i.map fun(k:Nat)=>(k:Int))),?_,?_,fun y b=>Nk (Ky b)⟩
 ·unfold dP;rw[Ab,Ly,Oa]
 ·rw[Cg,Gs,HT.sIx_nat]
  cases i with
  | none=>show min (min j xs.length - HT.sIx xs.length 0 none) _<=j - 0;rw[HT.sIx_none];exact Bh (Ii _ _) (Ii _ _)
  | some i=>show min (min j xs.length - HT.sIx xs.length 0 (some (i:Int))) (xs.length - HT.sIx xs.length 0 (some (i:Int)))<=j - i;rw[HT.sIx_nat];exact Bh (Ii _ _) (Nat.min_sub_min i j xs.length)
def uD(n:Str):W->Option W
 | .tup (.str m :: r)=>if m=n then some (.tup (.str m :: r)) else none
 | _=>none
theorem zcU{n:Str}{rs:List aU}:(rs.map cY).filterMap (uD n)=(rs.filter fun u=>decide (u.name=n)).map cY:=by
 induction rs with
 | nil=>rfl
 | cons q rs a=>
  have e:uD n (cY q)=if q.name=n then some (cY q) else none:=rfl
  rw[Ar,Gj,Ff,e,a]
  by_cases h:q.name=n
  ·rw[if_pos h,if_pos (by simpa using h),Ar]
  ·rw[if_neg h,if_neg (by simpa using h)]
def uE(f:Str->Bool):W->Option W
 | .str x=>if f x=true then some (.str x) else none
 | _=>none
theorem zcV(f:Str->Bool)(ts:List Str):(ts.map W.str).filterMap (uE f)=(ts.filter f).map W.str:=by
 induction ts with
 | nil=>rfl
 | cons t ts a=>
  have e:uE f (.str t)=if f t=true then some (.str t) else none:=rfl
  rw[Ar,Gj,Ff,e,a]
  by_cases h:f t=true
  ·rw[if_pos h,if_pos h,Ar]
  ·rw[if_neg h,if_neg h]
theorem zcW{ws:List W}{M:Mm}{R:K3}(h:zJ ws M R):zb4 (bW R) (b5 zbX ws) M:=by
 obtain⟨m,rs,rfl,hz,g,r⟩:=h
 obtain⟨cs,B,K,_⟩:=GS (f:=W.int) m (some 9) 15
 have K:cs.length<=6:=K
 have hf:=g.few
 have B:dP (m.map W.int) (some 9) (some (9 + 6))=cs.map W.int:=B
 refine⟨_,rfl,_,rfl,_,rfl,_,rfl,_,rfl,m,0,rfl,hz,fun c0=>⟨⟨by decide,by decide⟩,show(0:Int) < 3 by decide,_,rfl,cG (fun _=>?_) fun _=>?_⟩⟩
 ·refine⟨_,rfl,wY (ws:=dP (m.map W.int) (some 9) (some (9 + 6))) (rest:=[]) (fun _ y=>∃ t,y=.str t/\t∈W4) (eA (by rw[B,Ab];lia)) (fun _ _=>trivial) (fun w hw L C sb h1=>?_) fun ys po=>?_⟩
  ·rw[B] at hw
   obtain⟨c,hc,rfl⟩:=Au.mp hw
   refine⟨z4,_,rfl,z1,c,[4],rfl,by decide,fun s hs=>by simp at hs;subst hs;decide,fun ds hd=>aV.frz ?_⟩
   obtain⟨x,rfl,b0,b1⟩:=zQ hd
   obtain⟨t,V,mt⟩:=uA (ts:=W4) (k:=x) b0 b1
   exact⟨_,rfl,_,V,h1 _ ⟨t,rfl,mt⟩⟩
  obtain⟨ts,rfl,U,T⟩:=GR po fun _ _ h=>h
  rw[B,Ab] at U
  exact qI (r ts ⟨by lia,T⟩)
 ·obtain⟨l,p,e0⟩:∃ l p,rs=l :: p:=by
   cases rs with
   | nil=>exact(g.ne rfl).elim
   | cons q rs=>exact⟨_,_,rfl⟩
  have A:l∈rs:=by rw[e0];exact Bg
  refine⟨_,rfl,_,(show b9 (rs.map cY) 0=some (cY l) by rw[e0];exact jF (j:=0) rfl),_,rfl,z1,24,rfl,by decide,by decide,?_⟩
  refine fF (fun i S L=>∃ (ts:List Str) (o5 Q o7 X o9:Option W),S=[some (.sc (m.map W.int)),some (d7 rs),some (.int 6),some (.rl (dP (m.map W.int) (some 9) (some (9 + 6)))),some (.rl (ts.map W.str)),o5,Q,o7,X,o9]/\L=M/\ts.length<=14/\∀ t∈ts,t∈W3\/(t∈NM/\∃ q∈rs,q.name=t))
   ⟨[l.name],_,_,_,_,_,rfl,rfl,by simp,fun t ht=>by cases Az.mp ht;exact .inr ⟨g.nm l A,l,A,rfl⟩⟩ (fun _ _ _ _ _=>trivial) ?_ ?_
  ·rintro i w S L hw ⟨ts,o5,Q,o7,X,o9,rfl,rfl,hl,ht⟩
   obtain⟨hi,rfl⟩:=zN hw
   rw[Lj]
   refine⟨_,rfl,(ts.length:Int),by rw[Ab],by lia,by lia,nT (rest:=[some (.rl (ts.map W.str))]) (qJ fun x=>isN (ts.getD x.toNat "")) (eA (by rw[nA];lia)) (fun _ _=>trivial) (fun w hw M3 C D sb J I=>?_) ?_⟩
   ·obtain⟨k,hk,rfl⟩:=Au.mp hw
    have hk:=Eg.mp hk
    obtain⟨t,V,eg,mt⟩:=nV (xs:=ts.map W.str) (i:=(0:Int) + (k:Int)) (by lia) (by rw[Ab];lia)
    rw[Bi] at eg
    obtain⟨u,G,rfl⟩:=Bn.mp eg
    have P:=Bc G
    have e:qJ (fun x=>isN (ts.getD x.toNat "")) (.int ((0:Int) + (k:Int)))=if isN u=true then some (.int ((0:Int) + (k:Int))) else none:=by
     show(if isN (ts.getD ((0:Int) + (k:Int)).toNat "")=true then _ else _)=_
     rw[List.getD_eq_getElem?_getD,G];rfl
    exact⟨_,rfl,_,rfl,_,V,u,rfl,(ht u P).elim (fun z=>.inr (m9 z)) fun z=>.inl z.1,cG (fun z=>⟨_,rfl,J _ (by rw[e,if_pos z])⟩) fun z=>I (by rw[e,if_neg (by rw[z];decide)])⟩
   ·rw[GO]
    obtain⟨xs,F⟩:∃ xs,xs=(k7 0 (ts.length:Int).toNat).filter fun x=>isN (ts.getD x.toNat ""):=⟨_,rfl⟩
    rw[<-F]
    refine aV.frz ⟨_,rfl,z0,?_⟩
    refine DK (x:=.rl (xs.map W.int)) (y:=.rl []) 1 (by decide) (fun w hw=>by obtain⟨x,_,rfl⟩:=Au.mp hw;trivial) (fun w hw=>nomatch hw) fun b hb=>⟨_,rfl,cG (fun hn=>?_) fun _=>⟨_,Sub.refl _,ts,_,_,_,_,_,rfl,rfl,hl,ht⟩⟩
    refine⟨_,rfl,_,rfl,.inl (.inl ⟨by decide,by decide⟩),_,rfl,cG (fun H=>?_) fun _=>⟨_,Sub.refl _,ts,_,_,_,_,_,rfl,rfl,hl,ht⟩⟩
    have H:ts.length < 12:=by have:=of_decide_eq_true H;rw[Ab] at this;lia
    obtain⟨a,d,ex⟩:∃ a d,xs=a :: d:=by
     cases xs with
     | nil=>rw[hb.mpr rfl] at hn;cases hn
     | cons a d=>exact⟨_,_,rfl⟩
    have ha:a∈xs:=by rw[ex];exact Bg
    rw[F,Fo,zP] at ha
    obtain⟨k,rfl⟩:∃ k:Nat,a=k:=⟨a.toNat,by lia⟩
    have hk:k < ts.length:=by lia
    have Z:ts[k]? = some ts[k]:=Am hk
    have G:isN ts[k]=true:=by have:=ha.2;rw[Cj,List.getD_eq_getElem?_getD,Z] at this;exact this
    have Y:b9 (ts.map W.str) (k:Int)=some (.str ts[k]):=jF (by rw[Bi,Z];rfl)
    obtain⟨q,hq,hqn⟩:∃ q∈rs,q.name=ts[k]:=by
     rcases ht _ (Bc Z) with z | z
     ·rw[yZ (m9 z)] at G;cases G
     ·exact z.2
    refine⟨_,rfl,_,(show b9 (xs.map W.int) 0=some (.int k) by rw[ex];exact jF (j:=0) rfl),_,rfl,n6 (nT (rest:=[some (.rl (ts.map W.str)),some (.int k)]) (uD ts[k]) (eA (by rw[Ab];lia)) (fun _ _=>trivial) (fun w hw M3 C D sb J I=>?_) ?_)⟩
    ·obtain⟨o,hq',rfl⟩:=Au.mp hw
     have e:uD ts[k] (cY o)=if o.name=ts[k] then some (cY o) else none:=rfl
     exact⟨_,rfl,_,rfl,_,rfl,_,rfl,_,Y,_,rfl,cG (fun z=>⟨_,rfl,J _ (by rw[e,if_pos (of_decide_eq_true z)])⟩) fun z=>I (by rw[e,if_neg (of_decide_eq_false z)])⟩
    rw[zcU]
    obtain⟨own,N⟩:∃ own,own=rs.filter fun u=>decide (u.name=ts[k]):=⟨_,rfl⟩
    rw[<-N]
    have v:∀ o∈own,o∈rs:=fun o h=>by rw[N] at h;exact(Fo.mp h).1
    have hqo:q∈own:=by rw[N];exact Fo.mpr ⟨hq,decide_eq_true hqn⟩
    have hol:0 < own.length:=Mv hqo
    have hol8:own.length<=8:=Bh (by rw[N];exact Il _ _) hf
    refine aV.frz ⟨_,rfl,_,rfl,_,rfl,show(0:Int) < 12 by decide,m,_,rfl,hz,fun c=>⟨_,rfl,⟨by decide,by decide⟩,.inl (.inr ⟨by decide,by decide⟩),_,rfl,z1,_,[((own.map cY).length:Int)],rfl,by simp,fun s hs=>?_,fun ds hd=>aV.frz ?_⟩⟩
    ·cases Az.mp hs
     rw[Ab]
     exact⟨by lia,Int.le_trans (b:=8) (by lia) (by decide)⟩
    obtain⟨x,rfl,b0,b1⟩:=zQ hd
    obtain⟨n,e2,_,m2⟩:=nV (xs:=own.map cY) b0 b1
    obtain⟨n,E,rfl⟩:=Au.mp m2
    have hp2:=g.fp n (v n E)
    have c1:dP (ts.map W.str) none (some (k:Int))=(ts.take k).map W.str:=by rw[GQ (by rw[Ab];lia),<-Ly]
    have c2:dP (ts.map W.str) (some ((k:Int) + 1)) none=(ts.drop (k + 1)).map W.str:=by rw[show(k:Int) + 1=((k + 1:Nat):Int) by lia,zcT (by rw[Ab];lia),<-Oa]
    have l1:(ts.take k).length=k:=by rw[Cg];lia
    have l2:(ts.drop (k + 1)).length=ts.length - (k + 1):=Gs
    refine⟨_,rfl,_,e2,_,rfl,_,rfl,_,rfl,_,rfl,_,rfl,?_⟩
    show(dP (ts.map W.str) none (some (k:Int))).length + (n.parts.map W.str).length<=Aj/\_
    rw[c1,Ab,Ab,l1]
    refine⟨eA (by lia),_,rfl,_,rfl,_,rfl,eA (by rw[c2,<-Bs,Ab,Ab,Aw,l1,l2];lia),_,Sub.refl _,ts.take k ++ n.parts ++ ts.drop (k + 1),_,_,_,_,_,by rw[c2,<-Bs,<-Bs];rfl,rfl,by rw[Aw,Aw,l1,l2];lia,fun t h'=>?_⟩
    rcases Bo.mp h' with h' | h'
    ·rcases Bo.mp h' with h' | h'
     ·exact ht t (Ky h')
     ·exact g.prt n (v n E) t h'
    ·exact ht t (Nk h')
  ·rintro S L ⟨ts,o5,Q,o7,X,o9,rfl,rfl,hl,ht⟩
   refine⟨_,rfl,n6 (nT (rest:=[]) (uE fun t=>!isN t) (eA (by rw[Ab];lia)) (fun _ _=>trivial) (fun w hw M3 C D sb J I=>?_) ?_)⟩
   ·obtain⟨t,hm,rfl⟩:=Au.mp hw
    have e:uE (fun t=>!isN t) (.str t)=if (!isN t)=true then some (.str t) else none:=rfl
    exact⟨_,rfl,t,rfl,(ht t hm).elim (fun z=>.inr (m9 z)) fun z=>.inl z.1,cG (fun z=>⟨_,rfl,J _ (by rw[e,if_pos z])⟩) fun z=>I (by rw[e,if_neg (by rw[z];decide)])⟩
   ·rw[zcV]
    obtain⟨ys,O,yl,ym⟩:=GS (f:=W.str) (ts.filter fun t=>!isN t) none 6
    have O:dP ((ts.filter fun t=>!isN t).map W.str) none (some 6)=ys.map W.str:=O
    refine aV.frz ⟨_,rfl,_,rfl,?_⟩
    show aV (dP ((ts.filter fun t=>!isN t).map W.str) none (some 6)) _ _
    rw[O]
    refine qI (r ys ⟨yl,fun t hy=>?_⟩)
    obtain⟨a,b⟩:=Fo.mp (ym t hy)
    rcases ht t a with z | z
    ·exact m9 z
    ·unfold isN at b;rw[decide_eq_true z.1] at b;cases b
theorem zcX{p:Addr}{ws:List W}{M:Mm}{R:K3}(h:M p=some (.lst ws))(r:R (.bl true) M):mR [.ref p,.ty "list"] M R:=⟨"list",true,.inl ⟨rfl,_,h⟩,by decide,r⟩
theorem zcY{x:W}{T:String}{a:S3}{M:Mm}{R:K3}(h:mR [x,.ty T] M R):aB (vC (.ty T)) aE a M fun xs b=>mR (x :: xs) b R:=h
theorem zR{t:Str}(h:t∈NM):mS t:=by
 have:∀ t∈NM,mS t:=by unfold NM mS;decide +kernel
 exact this t h
theorem uF{L:List (List aD)}(h:∀ k∈L,∃ f:bX,k=fK f/\f.1∈NM):∀ w∈lW L,Pl 1 w:=fun w hw=>by
 obtain⟨k,hk,rfl⟩:=Au.mp hw
 obtain⟨f,rfl,hf⟩:=h k hk
 intro z hz
 simp only[fK,Ar,Kh,Ba,Ew,or_false] at hz
 rcases hz with rfl | rfl | rfl
 ·exact zR hf
 ·trivial
 ·trivial
theorem gD.good{rs:List aU}(g:gD rs):xE rs:=by
 refine⟨g.ne,Bh g.few (by decide),rs.map aU.name,W3,by rw[Ab];exact Bh g.few (by decide),fun t ht=>?_,fun t ht=>?_,fun r a=>⟨Gi a,fun t ht=>(g.prt r a t ht).imp id fun z=>Au.mpr z.2,g.fp r a,g.lo r a,g.hi r a⟩,fun t ht=>Au.mp ht⟩
 ·obtain⟨r,a,rfl⟩:=Au.mp ht
  have key:∀ t∈NM,t.length<=20/\jM t=true/\(cs t).head?.any (fun c=>decide (c∈cs lF))=true/\∀ c∈cs t,c < 128:=by decide +kernel
  obtain⟨d,f,b,h⟩:=key _ (g.nm r a)
  refine⟨d,f,?_,h⟩
  cases e:cs r.name with
  | nil=>rw[e] at b;cases b
  | cons c l=>rw[e] at b;exact⟨c,l,rfl,of_decide_eq_true b⟩
 ·have key:∀ t∈W3,t.length<=20/\cs t≠[]/\∀ c∈cs t,c∈cs oV:=by decide +kernel
  obtain⟨d,f,b⟩:=key _ ht
  exact⟨d,f,b⟩
theorem zcZ{rs:List aU}(g:gD rs):∀ w∈rs.map cY,Pl 2 w:=fun w hw=>by
 obtain⟨q,a,rfl⟩:=Au.mp hw
 intro z hz
 simp only[Ba,Ew,or_false] at hz
 rcases hz with rfl | rfl | rfl
 ·exact zR (g.nm q a)
 ·intro y c
  obtain⟨t,ht,rfl⟩:=Au.mp c
  have b:∀ t∈W3,mS t:=by unfold W3 mS;decide +kernel
  exact(g.prt q a t ht).elim (b t) fun z=>zR z.1
 ·trivial
end Rg
namespace L3
open PySem PySem.Spec PyProof.Rows L2
section
variable {X:Cx}
def GU:R3:=fun x y M R=>∃ ws n,jS M y ws/\n<=60/\Pl n x/\(∀ w∈ws,Pl n w)/\∀ b:Bool,(b=true↔x∈ws)->R (.bl b) M
theorem zc0(V:X.A.units + 64 < Fz):bB X (Cf .In) (bY X.K GU):=by
 rintro E s σ H x y v u Q I rx ry ⟨p,wy,M,R,o,ax,W,⟨ws,n,e,N,D,Z,r⟩,k⟩
 obtain⟨l,vs,rfl,f,q⟩:=kM o W e
 cases ry
 obtain⟨its,C,pl,_⟩:=I.list (bC.of f)
 obtain⟨g,G,O,dd⟩:=wV (M:=M) D
 obtain⟨b,Y⟩:=G.reads I o ax rx
 have key:∀ i w,ws[i]? = some w->∃ u,its[i]? = some u/\Oo X.A.in1 s u v (@decide (∃ d b,Reads s.heap u d b/\Gq d g=true) (Ek _))/\((∃ d b,Reads s.heap u d b/\Gq d g=true)↔w=p):=fun i w hw=>by
  obtain⟨z,hz,T⟩:=q.getW hw
  obtain⟨u,L,P⟩:=C.get hz
  have J:=Z w (Bc hw)
  obtain⟨d,F,c,U⟩:=wV (M:=M) J
  obtain⟨bs,rb⟩:=F.reads I o T P
  have B:=DJ J D F G
  have a:(∃ d b,Reads s.heap u d b/\Gq d g=true)↔w=p:=⟨fun⟨d',t,r',e⟩=>B.mp (by rw[SeqAt.Reads.unique d d' u bs t c rb r'];exact e),fun e=>⟨d,bs,rb,B.mpr e⟩⟩
  refine⟨u,L,?_,a⟩
  rw[show @decide _ (Ek _)=Gq d g by rw[Er,@decide_eq_true_eq _ (Ek _),a,B]]
  refine SeqAt.eqAt_reads d g X.A.in1 s u v _ _ rb Y c O (Lq ?_ V)
  exact(Nat.add_assoc X.A.units 1 _).symm ▸ Hr (Bh (Hr (Bh (Ii _ _) (Bh U N)) 1) (by decide:1 + 60<=64)) _
 have at_:∀ u∈its.toArray,∃ w∈ws,Oo X.A.in1 s u v (@decide (∃ d b,Reads s.heap u d b/\Gq d g=true) (Ek _))/\((∃ d b,Reads s.heap u d b/\Gq d g=true)↔w=p):=fun u m=>by
  obtain⟨i,hi⟩:=List.mem_iff_getElem?.mp (List.mem_toArray.mp m)
  have hw:=Am (l:=ws) (i:=i) (by rw[<-q.length,C.length];exact(An.mp hi).1)
  obtain⟨u2,j,x1,x2⟩:=key i _ hw
  cases hi.symm.trans j
  exact⟨_,Bc hw,x1,x2⟩
 refine SeqAt.in_listAt _ pl.isList (fun u m=>(at_ u m).elim fun w h=>h.2.1) ⟨.bl _,H,I,rfl,k.at o (.bl _) (r _ ?_)⟩
 rw[Array.any_eq_true']
 constructor
 ·rintro⟨u,m,hd⟩
  obtain⟨w,hw,_,a⟩:=at_ u m
  rw[<-a.mp (@of_decide_eq_true _ (Ek _) hd)]
  exact hw
 ·intro S
  obtain⟨i,hi⟩:=List.mem_iff_getElem?.mp S
  obtain⟨u,j,_,a⟩:=key i p hi
  exact⟨u,List.mem_toArray.mpr (Bc j),@decide_eq_true _ (Ek _) (a.mpr rfl)⟩
def GV:W->List W->Mm->K3->Prop:=fun x vs M R=>∃ l ws,x=.ref l/\vs=[]/\M l=some (.lst ws)/\R .non (put M l (.lst []))
theorem zc1:iC X "list.clear" (jP X.K GV):=by
 rintro a s g H x xs v us Q I d rs ⟨i,ws,M,R,c,h,b,⟨l,j,rfl,rfl,e,r⟩,k⟩
 obtain⟨vs,f,q⟩:=c.lst e
 exact PJ a s g H _ _ v us Q I d rs ⟨l,vs,h.inv,b.nil_,f,rP c k e .nil .non r⟩
end
end L3
namespace Rg
open PySem PySem.Spec PyProof.Rows L2 L3
def qK(q:aU)(a:List Str):bX:=(q.name,0,a.length)
def zS:bS:=fun ws M R=>∃ (q:aU) (rs:List aU) (a:List Str),ws=[d7 (q :: rs),fP a]/\R (.tup ((fK (qK q a)).map wK)) M
def uG(C:Cc):bS:=fun ws M R=>∃ (q:aU) (rs:List aU) (a:List Str),ws=[d7 (q :: rs),fP a]/\gD (q :: rs)/\Rw a/\(iS (q :: rs) a (qK q a)->R .non M)/\(¬ iS (q :: rs) a (qK q a)->∀ L,lV (q :: rs) a L->aV (lW L) M R)
abbrev zc2:List Str:=["grammar","row"]
def zc3:aK:=
   (cL (dB (aB (bZ xZ (aB (aA 0) aE)) (aB (vC (.int 0)) (aB (bT dS (aB (aA 1) aE)) aE)))))
abbrev zc4:List Str:=["grammar","row","paper"]
def zc5(C:Cc):aK:=
   (aR (bH 2 (bZ (zF C) (aB (aA 0) (aB (aA 1) aE))))
   (cL (B6 (cX (aF GU (bZ zS (aB (aA 0) (aB (aA 1) aE))) (aA 2))) (vC .non) (aA 2))))
abbrev zc6:List Str:=["script","rules","row","grammar","known","handed","found"]
def zc7(C:Cc):aK:=
   (bH 1 (cV (bZ zH (aB (aA 0) aE))))
def zc8(C:Cc):aK:=
   (bH 2 (cV (bZ zJ (aB (aA 0) (aB (aA 1) (aB (vC (.int 6)) aE))))))
def zc9(C:Cc):aK:=
   (bH 3 (cV (bZ yB (aB (aA 1) aE))))
def zda(C:Cc):aK:=
   (bH 4 (cV (bZ zL (aB (aA 1) (aB (aA 2) aE)))))
def zdb(C:Cc):aK:=
   (bH 5 (e6 (aB (bT sF (aB (aA 3) aE)) (aB (bT sF (aB (aA 2) aE)) aE))))
def zdc(C:Cc):aK:=
   (bH 6 (bZ (uG C) (aB (aF aY (aA 5) (vC (.int 0))) (aB (aF aY (aA 5) (vC (.int 1))) aE))))
def zdd(C:Cc):aK:=
   (eL (cX (aF (rEq true) (aA 5) (e6 (aB (aA 3) (aB (aA 2) aE)))))
    (cL (vC (.bl false)))
    fR)
def zde(C:Cc):aK:=
   (eL (cX (aF (rIn false) (dB (aB (aF aY (aF aY (aA 1) (vC (.int 0))) (vC (.int 0))) (aB (vC (.int 0)) (aB (bT dS (aB (aA 2) aE)) aE)))) (aA 4)))
    (cL (aF (vZ false) (aA 6) (vC .non)))
    fR)
def zdf(C:Cc):aK:=
   (eL (rM (nK (iX (bT mR (aB (aA 6) (aB (vC (.ty "list")) aE))))) (cX (aF (rEq true) (aA 6) (cV (bT qF (aB (aA 4) aE))))))
    (cL (vC (.bl false)))
    fR)
def zdg(C:Cc):aK:=
   (eL (cX (aF (rEq true) (cV (fT (eT fN (aA 6)) (bP 0) (rM (nK (iX (bT mR (aB (aA 0) (aB (vC (.ty "tuple")) aE))))) (iX (bT mR (aB (aF aY (aA 0) (vC (.int 1))) (aB (vC (.ty "bool")) aE))))) (aA 0) [none])) (e6 aE)))
    (cL (vC (.bl false)))
    fR)
def zdh(C:Cc):aK:=
   (eJ (rQ "list" GV (aA 6)))
def zdi(C:Cc):aK:=
   (cL (aF (rEq false) (cV (bZ (uG C) (aB (aF aY (aA 5) (vC (.int 0))) (aB (aF aY (aA 5) (vC (.int 1))) aE)))) (cV (bT qF (aB (aA 4) aE)))))
def zdj(C:Cc):aK:=(aR (zc7 C) (aR (zc8 C) (aR (zc9 C) (aR (zda C) (aR (zdb C) (aR (zdc C) (aR (zdd C) (aR (zde C) (aR (zdf C) (aR (zdg C) (aR (zdh C) (zdi C))))))))))))
abbrev GW:bS:=pK
theorem zdk:∀ ws M R,zS ws M R->ws.length=2:=by rintro ws M R ⟨_,_,_,rfl,_⟩;rfl
theorem zdl{C:Cc}:∀ ws M R,uG C ws M R->ws.length=2:=by rintro ws M R ⟨_,_,_,rfl,_⟩;rfl
theorem zdm:∀ ws M R,GW ws M R->ws.length=1:=by rintro ws M R ⟨_,rfl,_⟩;rfl
theorem zdn{ws:List W}{M:Mm}{R:K3}(h:zS ws M R):zc3 (bW R) (b5 zc2 ws) M:=by
 obtain⟨q,rs,a,rfl,r⟩:=h
 refine⟨_,rfl,q,rs,rfl,_,rfl,z3,_,Sub.refl _,?_⟩
 rw[Ab]
 exact r
theorem GX{L:List (List aD)}{k:List aD}:W.tup (k.map wK)∈lW L↔k∈L:=by
 unfold lW
 rw[Au]
 exact⟨fun⟨j,h,e⟩=>by rw[<-(List.map_inj_right fun x y e=>by cases x <;> cases y <;> cases e <;> rfl).mp (W.tup.inj e)];exact h,fun h=>⟨k,h,rfl⟩⟩
theorem zdo{f:bX}(h:f.1∈NM):Pl 1 (.tup ((fK f).map wK)):=uF (L:=[fK f]) (fun k hk=>⟨f,Az.mp hk,h⟩) _ Bg
theorem zdp{C:Cc}{ws:List W}{M:Mm}{R:K3}(h:uG C ws M R):zc5 C (bW R) (b5 zc4 ws) M:=by
 obtain⟨q,rs,c,rfl,g,w,l,m⟩:=h
 refine⟨_,rfl,_,rfl,q :: rs,c,rfl,g,w,fun L i p j=>⟨_,rfl,_,rfl,q,rs,c,rfl,_,rfl,_,1,bA,(by decide),zdo (g.nm q Bg),(uF fun k hk=>?_),fun b hb=>⟨_,rfl,cG (fun a=>?_) fun a=>?_⟩⟩⟩
 ·obtain⟨f,d,rfl⟩:=(i.mem k).mp hk
  exact⟨f,rfl,(qG g d).nm⟩
 ·obtain⟨f,d,e⟩:=(i.mem _).mp (GX.mp (hb.mp a))
  exact⟨M,Sub.new j,l (by rw[p5 _ _ e];exact d)⟩
 ·refine⟨_,rfl,_,Sub.refl _,m (fun d=>?_) L i p j⟩
  rw[hb.mpr (GX.mpr ((i.mem _).mpr ⟨_,d,rfl⟩))] at a
  cases a
theorem GY{M:Mm}{p:Addr}{ws:List W}:der (put M p (.lst ws)) (.ref p)=.rl ws:=by simp[der,bA]
theorem zdq{C:Cc}{ws:List W}{M:Mm}{R:K3}(h:GW ws M R):zdj C (bW R) (b5 zc6 ws) M:=by
 obtain⟨zs,rfl,hz,_,r⟩:=h
 refine⟨_,rfl,zs,rfl,hz,fun rs g=>aV.frz ?_⟩
 refine⟨_,rfl,_,rfl,zs,rs,rfl,hz,g,fun row w=>aV.frz ?_⟩
 refine⟨_,rfl,rs,rfl,g.good,aV.frz ?_⟩
 refine⟨_,rfl,_,rfl,rs,row,rfl,g,w,fun fs nd hfs=>iE.frz ?_⟩
 obtain⟨q,rs,rfl⟩:∃ q rs',rs=q :: rs':=by
  cases rs with
  | nil=>exact(g.ne rfl).elim
  | cons q rs=>exact⟨_,_,rfl⟩
 have so:∀ {M:Mm} {R:K3},(∀ L,lV (q :: rs) row L->L.length < 128->R (.rl (lW L)) M)->qF [.dt (eO fs)] M fun w M'=>L3.frz w M' R:=fun {M R} h=>by
  have l:(eO fs).length < 128:=by unfold eO;rw[Ab];exact y9 w.few nd fun f hf=>qG g ((hfs f).mp hf)
  refine⟨_,eO fs,[false,false],rfl,rfl,fun p hp=>?_,?_,l,fun L hp hs=>aV.frz (h L (GN nd hfs (by unfold eO at hp;rw[Ed] at hp;exact hp) hs) (by rw[hp.length_eq,Ab];exact l))⟩
  ·obtain⟨f,_,rfl⟩:=Au.mp hp;rfl
  ·unfold eO;rw[Ed];exact zM nd
 have hL:∀ {L},lV (q :: rs) row L->∀ k∈L,∃ f:bX,k=fK f/\f.1∈NM:=fun FL k hk=>by
  obtain⟨f,d,rfl⟩:=(FL.mem k).mp hk
  exact⟨f,rfl,(qG g d).nm⟩
 have same:∀ {M:Mm} {R:K3},R (.bl false) M->rEq true (.rl [d7 (q :: rs),fP row]) (.rl [d7 (q :: rs),fP row]) M R:=fun h=>sG (neg:=true) 4 (by decide) (fun w1 hw=>by
  rcases Ba.mp hw with rfl | hw
  ·exact zcZ g
  ·cases Az.mp hw
   intro y hy
   obtain⟨t,ht,rfl⟩:=Au.mp hy
   have w4:∀ t∈W4,mS t:=by unfold W4 mS;decide +kernel
   exact w4 t (w.wd t ht)) rfl h
 have inn:∀ {M:Mm} {R:K3},R (.bl (decide (qK q row∈fs))) M->rIn false (.tup [.str q.name,.int 0,.int (row.map W.str).length]) (.dt (eO fs)) M R:=fun h=>⟨_,⟨fK (qK q row),by rw[Ab];rfl,rfl⟩,by rw[<-uC] at h;exact h⟩
 have e0:b9 ((q :: rs).map cY) 0=some (cY q):=jF (j:=0) rfl
 refine⟨_,rfl,_,rfl,z2,?_⟩
 refine⟨_,rfl,_,rfl,_,rfl,_,rfl,q,rs,row,rfl,g,w,fun d=>?_,fun nd L FL p hp=>?_⟩
 ·refine⟨_,rfl,_,rfl,_,rfl,z2,same ⟨_,rfl,?_⟩⟩
  exact⟨_,rfl,_,e0,_,rfl,_,rfl,z3,_,rfl,inn ⟨_,rfl,cG (fun _=>⟨_,rfl,_,Sub.refl _,r _⟩) fun h=>absurd ((hfs _).mpr d) (of_decide_eq_false h)⟩⟩
 refine⟨_,rfl,_,rfl,_,rfl,z2,same ⟨_,rfl,?_⟩⟩
 refine⟨_,rfl,_,e0,_,rfl,_,rfl,z3,_,rfl,inn ⟨_,rfl,cG (fun h=>absurd ((hfs _).mp (of_decide_eq_true h)) nd) fun _=>?_⟩⟩
 refine⟨_,rfl,zcY (zcX bA ⟨_,rfl,_,rfl,so fun L1 FL1 hl=>sG (neg:=true) 2 (by decide) (by rw[GY];exact uF (hL FL)) (by rw[GY,FL1.eq FL];rfl) ⟨_,rfl,?_⟩⟩)⟩
 refine⟨_,rfl,_,bA,nT (rest:=[]) (fun _=>none) ?_ (fun M sb=>sb _ _ bA) (fun w hw M3 C D sb d1 d2=>?_) ?_⟩
 ·unfold lW;rw[Ab,<-FL1.eq FL];exact eA (by lia)
 ·obtain⟨k,hk,rfl⟩:=Au.mp hw
  obtain⟨⟨n,b,e⟩,rfl,hf⟩:=hL FL k hk
  exact⟨_,rfl,⟨"tuple",true,rfl,by decide,_,rfl,_,rfl,⟨"int",false,rfl,by decide,d2 rfl⟩⟩⟩
 rw[show(lW L).filterMap (fun _=>none)=[] from List.filterMap_eq_nil_iff.mpr fun _ _=>rfl]
 refine aV.frz ⟨z0,sG (neg:=true) 1 (by decide) (fun w hw=>nomatch hw) rfl ⟨_,rfl,?_⟩⟩
 refine⟨_,rfl,gQ bA,_,_,rfl,rfl,bA,_,rfl,_,rfl,_,rfl,_,rfl,q,rs,row,rfl,g,w,fun d=>(nd d).elim,fun _ L2 FL2=>aV.frz ⟨_,rfl,so fun L3 FL3 _=>sG (neg:=false) 2 (by decide) (uF (hL FL2)) (by rw[FL2.eq FL3]) ⟨_,Sub.refl _,r _⟩⟩⟩
end Rg
namespace PySem
namespace Ll
open PyProof.Rows L2 PySem.Spec
open AutoSeq1 (wpAny_loadPart')
open MeetsSeq3 (plain_eq_loop entry_eq_loop)
end Ll
end PySem
namespace L3
open PySem PySem.Spec PyProof.Rows L2
section
variable {X:Cx}
end
section
variable {X:Cx}{pos:Pos}{a b:Expr}{ta tb te:aS}
theorem eD{i:Nat}{x:Str}(b:X.N.Nodup)(hi:X.N[i]? = some x:=by rfl)(a:Loc X.env.scope x:=by first | exact Or.inl rfl | exact Or.inr rfl)(hf:X.fn x=true\/X.env.scope.names.lookup x=some .local:=by first | exact .inl rfl | exact .inr rfl | assumption):PG X (.Name x pos) (gL X.K (bP i)):=CU b hi a hf
theorem h9{i:Nat}{x:Str}(hi:X.N[i]? = some x:=by rfl)(a:Loc X.env.scope x:=by first | exact Or.inl rfl | exact Or.inr rfl)(b:X.N.Nodup:=by exact of_decide_eq_true (by kernel_rfl))(hf:X.fn x=true\/X.env.scope.names.lookup x=some .local:=by first | exact .inl rfl | exact .inr rfl | assumption):PG X (.Name x pos) (gL X.K (bP i)):=CU b hi a hf
theorem bL{i:Nat}{x:Str}{e:Expr}{a:Pos}(c:X.N.Nodup)(d:E3 X e te)(hi:X.N[i]? = some x:=by rfl)(b:Loc X.env.scope x:=by first | exact Or.inl rfl | exact Or.inr rfl)(hs:Kj e (some (.Name x a)) pos.line X.env=pure false:=by rfl)(hf:X.fn x=true\/X.env.scope.names.lookup x=some .local:=by first | exact .inl rfl | exact .inr rfl | assumption) :
  P3 X (.Assign [.Name x a] e pos) (bH i te):=TH c hi b d hs hf
theorem j8{op:CmpOp}{r:R3}(c:bB X (Cf op) (bY X.K r))(ha:E3 X a ta)(hb:E3 X b tb)(d:Ja op b=false:=by first | exact AG _ | with_unfolding_all rfl):E3 X (.Compare a [op] [b] pos) (aF r ta tb):=RV c ha hb d
theorem dY{op:CmpOp}{r:R3}(c:bB X (Cf op) (bY X.K r))(ha:E3 X a ta)(hb:E3 X b tb)(d:Ja op b=false:=by first | exact AG _ | with_unfolding_all rfl):T3 X (.Compare a [op] [b] pos) (cX (aF r ta tb)):=RW c ha hb d
variable {tg iter elt:Expr}{ifs:List Expr}{sc:Kf}{wi:gY}{g:eR}{tt:dH}
theorem uH{i:Nat}{x:Str}{e a:Pos}(m:X.N.Nodup)(b:List Str)(js:List (Option Nat))(hi:PI X tg iter (gZ X.K wi))
  (k:∀ B,PG (dG X sc b B) tg (gL X.K g)) (ht:∀ B,iD (dG X sc b B) ifs (jO X.K tt)) (f:∀ B,PE (dG X sc b B) elt (up X.K te)) (d:X.N[i]? = some x:=by rfl) (j:Loc X.env.scope x:=by first | exact Or.inl rfl | exact Or.inr rfl)
  (h:mD b sc X.env.scope=true:=by kernel_rfl) (l:e8 b X.N sc js b=true:=by kernel_rfl) (hc:X.calm=true:=by rfl) (c:Kj (.ListComp elt [⟨tg,iter,ifs,0⟩] sc pos) (some (.Name x e)) a.line X.env=pure true:=by rfl)
  (hf:X.fn x=true\/X.env.scope.names.lookup x=some .local:=by first | exact .inl rfl | exact .inr rfl | assumption)
  (hs:∀ x,Hm iter X.env x=pure x:=by intro _;rfl):P3 X (.Assign [.Name x e] (.ListComp elt [⟨tg,iter,ifs,0⟩] sc pos) a) (bH i (cV (fT wi g tt te js))):=UA m d j b js hi k ht f h l hc c hf hs
end
theorem cH{N ps:List Str}{sc:Kf}(a:sc.kind=.function:=by rfl)(b:sc.isCoroutine=false:=by rfl)(c:sc.isGenerator=false:=by rfl)(d:N.Nodup:=by decide +kernel)(e:N.take ps.length=ps:=by rfl)(f:∀ x∈ps,sc.names.lookup x=some .local\/sc.names.lookup x=some .cell:=by decide +kernel)(g:∀ y∈sc.names,y.2≠.free:=by decide +kernel):nF N ps sc:=⟨a,b,c,d,e,f,g⟩
end L3
namespace L2
open PySem PySem.Spec PyProof.Rows
end L2
namespace L3
open PySem PySem.Spec PyProof.Rows L2
theorem zdr{C:List Ac->Prop}(h:C [])(us:List Ac)(e:us.length=0):C us:=by rw[Ka.mp e];exact h
theorem qL{C:List Ac->Prop}{n:Nat}(k:∀ a us,us.length=n->C (a :: us)):∀ us:List Ac,us.length=n + 1->C us
 | a :: l,e=>k a l (Nat.succ.inj e)
theorem uI{C:List Ac->Prop}(h:∀ a,C [a]):∀ us:List Ac,us.length=1->C us:=qL fun a=>zdr (h a)
theorem uJ{C:List Ac->Prop}(h:∀ a b,C [a,b]):∀ us:List Ac,us.length=2->C us:=qL fun a=>uI (h a)
theorem uK{C:List Ac->Prop}(h:∀ a b c,C [a,b,c]):∀ us:List Ac,us.length=3->C us:=qL fun a=>uJ (h a)
theorem uL{C:List Ac->Prop}(h:∀ a b c d,C [a,b,c,d]):∀ us:List Ac,us.length=4->C us:=qL fun a=>uK (h a)
theorem zT{C:List Ac->Prop}(h:∀ a b c d e,C [a,b,c,d,e]):∀ us:List Ac,us.length=5->C us:=qL fun a=>uL (h a)
def zU(x q:Str)(st:Stmt)(ps:List Str):Prop:=∀ (kV doc pm:Ac) (an:Option Addr) (cdv ct:Ac) (us:List Ac),us.length=ps.length->bindArgs (Fb x q (iL st) (gH st) (eP st) .none kV doc pm an cdv ct) ⟨us,[]⟩=pure (ps.zip us)
section
variable {K:Ae}{mg:Str->Option Ac}{h:Heap}{x q:Str}{st:Stmt}{C f:Addr}{ps:List Str}{an:Option Addr}{kV doc pm cdv ct:Ac}
theorem dF(X:K.In h)(G:h.Ns El mg)(hb:zU x x st ps:=by first | exact fun _ _ _ _ _ _=>uI fun _=>rfl | exact fun _ _ _ _ _ _=>uJ fun _ _=>rfl | exact fun _ _ _ _ _ _=>uK fun _ _ _=>rfl | exact fun _ _ _ _ _ _=>uL fun _ _ _ _=>rfl | exact fun _ _ _ _ _ _=>zT fun _ _ _ _ _=>rfl)(n:PySem.W.nsIn K El x=some (some (.ref f)):=by kernel_rfl)(l:K.lookup f=some ⟨.type "function",none,.func (Fb x x (iL st) (gH st) (eP st) .none kV doc pm an cdv ct),#[]⟩:=by kernel_rfl)(c:Jy K cdv x=true:=by kernel_rfl)(k:Fw K (.ref f)=true:=by kernel_rfl):Df K mg x st ps f (Fb x x (iL st) (gH st) (eP st) .none kV doc pm an cdv ct):=⟨nG l c k,Kk X G n,(nG l c k).binds hb⟩
theorem dM(hb:zU x q st ps:=by first | exact fun _ _ _ _ _ _=>uI fun _=>rfl | exact fun _ _ _ _ _ _=>uJ fun _ _=>rfl | exact fun _ _ _ _ _ _=>uK fun _ _ _=>rfl | exact fun _ _ _ _ _ _=>uL fun _ _ _ _=>rfl | exact fun _ _ _ _ _ _=>zT fun _ _ _ _ _=>rfl)(a:Ci K (.ref C) x=some (some (.ref f)):=by kernel_rfl)(n:Mc K (.ref f)=true:=by kernel_rfl)(l:K.lookup f=some ⟨.type "function",none,.func (Fb x q (iL st) (gH st) (eP st) .none kV doc pm an cdv ct),#[]⟩:=by kernel_rfl)(c:Jy K cdv q=true:=by kernel_rfl)(k:Fw K (.ref f)=true:=by kernel_rfl):Dm K C x q st ps f (Fb x q (iL st) (gH st) (eP st) .none kV doc pm an cdv ct):=⟨nG l c k,⟨a,n,k⟩,(nG l c k).binds hb⟩
theorem dI(hb:zU x q st ps:=by first | exact fun _ _ _ _ _ _=>uI fun _=>rfl | exact fun _ _ _ _ _ _=>uJ fun _ _=>rfl | exact fun _ _ _ _ _ _=>uK fun _ _ _=>rfl | exact fun _ _ _ _ _ _=>uL fun _ _ _ _=>rfl | exact fun _ _ _ _ _ _=>zT fun _ _ _ _ _=>rfl)(m:PySem.W.makesIn K C=true:=by kernel_rfl)(a:Ci K (.ref C) "__init__" = some (some (.ref f)):=by kernel_rfl)(n:Mc K (.ref f)=true:=by kernel_rfl)(d:Fw K (.ref C)=true:=by kernel_rfl)(l:K.lookup f=some ⟨.type "function",none,.func (Fb x q (iL st) (gH st) (eP st) .none kV doc pm an cdv ct),#[]⟩:=by kernel_rfl)(c:Jy K cdv q=true:=by kernel_rfl)(k:Fw K (.ref f)=true:=by kernel_rfl):Di K C x q st ps f (Fb x q (iL st) (gH st) (eP st) .none kV doc pm an cdv ct):=⟨nG l c k,⟨m,a,n,d⟩,(nG l c k).binds hb⟩
variable {P:Bl}{w:Cd}{base:Heap}{fd:Br}{N:List Str}{k:Nat}{sp:bS}{rd:aK}
theorem cI(P:Bl)(w:Cd)(mg:Str->Option Ac)(base:Heap)(k:Nat)(F:jK K x q st f fd)(_:Binds K fd ps [])(S:nF N ps (eP st))(len:∀ ws M R,sp ws M R->ws.length=ps.length)(good:∀ {ws M R},sp ws M R->rd (bW R) (b5 N ws) M)
  (b:∀ {cdv:Ac} {A:Bu} {outer:List Env} {s:Ah} {H:Hp} {E:XK},cF k (A.deeper (Mw q (eP st) s.heap.objs.size f cdv))->(A.deeper (Mw q (eP st) s.heap.objs.size f cdv)).units + 1 < Fz->N.Nodup->jT (lA fY P w K mg base N q (eP st) f cdv A outer s H E).nox (gH st) rd):eW P w K mg base fY (k + 1) f fd ps (gK K sp):=
 TZ F S len fun _ _ _ _ _ _ _ _ _ a h=>⟨rd,b a (QF a) S.nd,good h⟩
end
section
variable {X:Cx}{pos p:Pos}{x:Str}{st:Stmt}{e:Expr}{es:List Expr}{t:dJ}{k j:Nat}{f:Addr}{fd:Br}{ps:List Str}{sp:bS}
theorem cE(F:eW X.prog X.w X.K X.mg X.base fY k f fd ps (gK X.K sp))(D:Df X.K X.mg x st ps f fd)(d:cF j X.A)(ha:A3 X (e :: es) t)(h:k<=j:=by decide)(g:Gl X x:=by rfl)(a:(x == ("__debug__" : Str))=false:=by decide)(c:Bj (e :: es) X.env=(false,eval e X.env) :: Bj es X.env:=by rfl)(b:(Ia pos (Bj es X.env)).any (·.1)=false:=by rfl) :
  E3 X (.Call (.Name x p) (e :: es) [] pos) (bZ sp t):=R0 F (d.mono h) g D.at_ D.fn.kp D.bi ha a c b
end
end L3
namespace Rg
open PySem PySem.Spec PyProof.Rows L2 L3
noncomputable def bE(i:Nat):Stmt:=PySem.Challenge.pw_readgrove_k21_papers_told.main.body.getD i (.Pass ⟨0,0,0,0⟩)
noncomputable abbrev GZ:Stmt:=bE 6
noncomputable abbrev G0:Stmt:=bE 7
noncomputable abbrev G1:Stmt:=bE 8
noncomputable abbrev G2:Stmt:=bE 9
noncomputable abbrev G3:Stmt:=bE 10
noncomputable abbrev G4:Stmt:=bE 11
noncomputable abbrev G5:Stmt:=bE 13
noncomputable abbrev G6:Stmt:=bE 14
noncomputable abbrev G7:Stmt:=bE 15
noncomputable abbrev G8:Stmt:=jJ (bE 17) 0
noncomputable abbrev G9:Stmt:=jJ (bE 17) 1
noncomputable abbrev HA:Stmt:=jJ (bE 17) 2
noncomputable abbrev HB:Stmt:=jJ (bE 17) 3
noncomputable abbrev HC:Stmt:=jJ (bE 17) 4
noncomputable abbrev HD:Stmt:=bE 19
noncomputable abbrev HE:Stmt:=jJ (bE 20) 0
noncomputable abbrev HF:Stmt:=jJ (bE 20) 1
noncomputable abbrev HG:Stmt:=jJ (bE 20) 2
noncomputable abbrev HH:Stmt:=jJ (bE 20) 3
noncomputable abbrev HI:Stmt:=jJ (bE 20) 4
noncomputable abbrev HJ:Stmt:=bE 21
noncomputable abbrev HK:Stmt:=bE 23
noncomputable abbrev HL:Stmt:=bE 24
noncomputable abbrev HM:Stmt:=bE 25
noncomputable abbrev HN:Stmt:=bE 27
noncomputable abbrev HP:Stmt:=bE 28
noncomputable abbrev HQ:Stmt:=bE 30
noncomputable abbrev HR:Stmt:=bE 31
noncomputable abbrev HS:Stmt:=bE 32
noncomputable abbrev HU:Stmt:=bE 33
noncomputable abbrev HV:Stmt:=bE 34
noncomputable abbrev HW:Stmt:=bE 35
noncomputable abbrev HX:Stmt:=bE 36
noncomputable abbrev HY:Stmt:=bE 37
noncomputable abbrev HZ:Stmt:=bE 38
structure Tx(mg:Str->Option Ac):Prop where
 c_FIGURES:∃ t,mg "FIGURES" = some (.str "0123456789" t)
 c_GREAT_LETTERS:∃ t,mg "GREAT_LETTERS" = some (.str "ABCDEFGHIJKLMNOPQRSTUVWXYZ" t)
 all_:mg "all" = none
 bool_:mg "bool" = none
 dict_:mg "dict" = none
 enumerate_:mg "enumerate" = none
 int_:mg "int" = none
 isinstance_:mg "isinstance" = none
 len_:mg "len" = none
 list_:mg "list" = none
 range_:mg "range" = none
 set_:mg "set" = none
 sorted_:mg "sorted" = none
 tuple_:mg "tuple" = none
 zip_:mg "zip" = none
structure Kc(K:Ae)(mg:Str->Option Ac)(C:Cc):Prop where
 cls_Queue:fX K C.q
 at__Queue:mg "Queue" = some (.ref C.q)
 cls_Search:fX K C.s
 at__Search:mg "Search" = some (.ref C.s)
 na_costs:fJ K C.q "costs"
 na_waiting:fJ K C.q "waiting"
 na_grammar:fJ K C.s "grammar"
 na_own:fJ K C.s "own"
 na_steps:fJ K C.s "steps"
 na_queue:fJ K C.s "queue"
 na_reached:fJ K C.s "reached"
 na_best:fJ K C.s "best"
 na_ends:fJ K C.s "ends"
 na_begun:fJ K C.s "begun"
structure Al(K:Ae)(mg:Str->Option Ac)(C:Cc)(fa:Nat->Addr)(fb:Nat->Br):Prop extends Tx mg,Kc K mg C where
 x0:Df K mg "made_of" GZ ["text","signs"] (fa 0) (fb 0)
 x1:Df K mg "is_name" G0 ["part"] (fa 1) (fb 1)
 x2:Df K mg "names" G1 ["grammar"] (fa 2) (fb 2)
 x3:Df K mg "first_name" G2 ["grammar"] (fa 3) (fb 3)
 x4:Df K mg "check_rule" G3 ["rule","known"] (fa 4) (fb 4)
 x5:Df K mg "grammar_of" G4 ["rules"] (fa 5) (fb 5)
 x6:Df K mg "marks" G5 ["things"] (fa 6) (fb 6)
 x7:Df K mg "places_of" G6 ["row"] (fa 7) (fb 7)
 x8:Df K mg "row_steps" G7 ["row"] (fa 8) (fb 8)
 x9:Di K C.q "__init__" "Queue.__init__" G8 ["self"] (fa 9) (fb 9)
 x10:Dm K C.q "is_done" "Queue.is_done" G9 ["self"] (fa 10) (fb 10)
 x11:Dm K C.q "place_of" "Queue.place_of" HB ["self","cost"] (fa 11) (fb 11)
 x12:Dm K C.q "put" "Queue.put" HA ["self","cost","thing"] (fa 12) (fb 12)
 x13:Dm K C.q "take" "Queue.take" HC ["self"] (fa 13) (fb 13)
 x14:Df K mg "added" HD ["cost","other"] (fa 14) (fb 14)
 x15:Di K C.s "__init__" "Search.__init__" HE ["self","grammar","steps"] (fa 15) (fb 15)
 x16:Dm K C.s "reach" "Search.reach" HF ["self","number","cut","cost"] (fa 16) (fb 16)
 x17:Dm K C.s "settle" "Search.settle" HI ["self","number","cut","cost"] (fa 17) (fb 17)
 x18:Dm K C.s "step_by_name" "Search.step_by_name" HH ["self","number","cut","cost","key"] (fa 18) (fb 18)
 x19:Dm K C.s "take_next" "Search.take_next" HG ["self"] (fa 19) (fb 19)
 x20:Df K mg "least_trees" HJ ["grammar","places","steps","weights"] (fa 20) (fb 20)
 x21:Df K mg "row_trees" HK ["grammar","row","weights"] (fa 21) (fb 21)
 x22:Df K mg "no_weights" HL ["grammar"] (fa 22) (fb 22)
 x23:Df K mg "facts" HM ["grammar","row"] (fa 23) (fb 23)
 x24:Df K mg "whole_fact" HN ["grammar","row"] (fa 24) (fb 24)
 x25:Df K mg "paper_against" HP ["grammar","row"] (fa 25) (fb 25)
 x26:Df K mg "_law_cell" HQ ["script","k"] (fa 26) (fb 26)
 x27:Df K mg "_law_stir" HR ["cell","k"] (fa 27) (fb 27)
 x28:Df K mg "_law_drawn" HS ["cell","sizes"] (fa 28) (fb 28)
 x29:Df K mg "_law_grammar" HU ["script"] (fa 29) (fb 29)
 x30:Df K mg "_law_is_name" HV ["part"] (fa 30) (fb 30)
 x31:Df K mg "_law_row" HW ["script","rules","most"] (fa 31) (fb 31)
 x32:Df K mg "_law_covers" HX ["parts","row","known","begin","end"] (fa 32) (fb 32)
 x33:Df K mg "_law_facts" HY ["rules","row"] (fa 33) (fb 33)
 x34:Df K mg "law" HZ ["script"] (fa 34) (fb 34)
section
variable {P:Bl}{w:Cd}{K:Ae}{mg:Str->Option Ac}{base:Heap}{C:Cc}{fa:Nat->Addr}{fb:Nat->Br}(Y:Al K mg C fa fb)
seal L2.PE L2.PA L2.PS L2.fI L2.PT L2.PG L2.PI L2.PO
def IA:=cI P w mg base 0 Y.x0.fn Y.x0.bi cH X2 YA fun a b nd=>(aW (cQ (v_and (j8 (pG a.units) (v 0) gJ) (rO (cR (TB rfl) (by rfl) Y.all_ UJ (aC (eE (kR ["sign","signs"] [none,some 1] (gM (v 0)) (fun B=>(h9 (i:=0))) (fun B=>mQ) (fun B=>(j8 (mH b) (v 0) (v 1))))) aJ))))))
def zds:=cI P w mg base 1 Y.x1.fn Y.x1.bi cH X3 YD fun e f nd=>Y.c_GREAT_LETTERS.elim fun c a=>Y.c_FIGURES.elim fun d b=>(aT (bL (i:=1) nd (f6 F.plainAttrs_str F.slot_str_partition F.type_str_partition m_partition (v 0) (aC gJ aJ)))
   (aT (bL (i:=2) nd (v_or (j8 (lI e.units) (a9 f (v 1) aM) gJ) (rO (cE (IA Y) Y.x0 e (aC (a9 f (v 1) aM) (aC (B4 (y:=V.str "0123456789") (by rfl) b ⟨_,rfl⟩ (fun _ _=>.str _)) aJ))))))
   (aW (cQ (v_and (v 2) (rO (cE (IA Y) Y.x0 e (aC (a9 f (v 1) aM) (aC (B4 (y:=V.str "ABCDEFGHIJKLMNOPQRSTUVWXYZ") (by rfl) a ⟨_,rfl⟩ (fun _ _=>.str _)) aJ)))))))))
def IC:=cI P w mg base 0 Y.x2.fn Y.x2.bi cH X4 YE fun b a nd=>(aT (bL (i:=1) nd TC)
   (aT (fS Ck rfl (gM (v 0)) (eD (i:=2) nd)
    (aW (pJ kH (w_sub a (v 1) (a9 a (v 2) aM)))))
   (aW (cQ (kJ (wB rfl) (by rfl) Y.list_ nU (aC (v 1) aJ))))))
def zdt:=cI P w mg base 0 Y.x3.fn Y.x3.bi cH X5 YF fun b a nd=>(aW (cQ (a9 a (a9 a (v 0) aM) aM)))
def zdu:=cI P w mg base 2 Y.x4.fn Y.x4.bi cH X6 YG fun b a nd=>(aT (eS (dY nN (a9 a (v 0) aM) aM)
    (aW wF)
    gA)
   (aW (fS Ck rfl (gM (a9 a (v 0) aM)) (eD (i:=2) nd)
    (aW (eS (PW.pt (vT (jQ (cE (zds Y) Y.x1 b (aC (v 2) aJ))) (vR (dY (pI a) (v 2) (v 1)))))
    (aW wF)
    gA)))))
def zdv:=cI P w mg base 3 Y.x5.fn Y.x5.bi cH X7 YH fun a b nd=>(aT (eS (dY (lI a.units) (cR d8 (by rfl) Y.len_ d9 (aC (v 0) aJ)) aM)
    (aW wF)
    gA)
   (aT (bL (i:=1) nd (eE (cE (IC Y) Y.x2 a (aC (v 0) aJ))))
   (aT (fS Ck rfl (gM (v 0)) (eD (i:=2) nd)
    (aW (eZ (cE (zdu Y) Y.x4 a (aC (v 2) (aC (v 1) aJ))))))
   (aW (cQ (kJ (wB rfl) (by rfl) Y.list_ nU (aC (v 0) aJ)))))))
def zdw:=cI P w mg base 0 Y.x6.fn Y.x6.bi cH ZW Z4 fun a b nd=>(aW (cQ (kJ (UU rfl) (by rfl) Y.dict_ DN (aC (eE (kR ["thing"] [none] (gM (v 0)) (fun B=>(h9 (i:=0))) (fun B=>mQ) (fun B=>(dO (aC (v 0) (aC kH aJ)))))) aJ))))
def zdx:=cI P w mg base 0 Y.x7.fn Y.x7.bi cH zci zcv fun a b nd=>(aW (cQ (zbj (by rfl) Y.list_ (by rfl) Y.range_ (bG dC (cR d8 (by rfl) Y.len_ d9 (aC (v 0) aJ)) aM))))
def zdy:=cI P w mg base 0 Y.x8.fn Y.x8.bi cH zcj zcz fun a b nd=>(aW (cQ (kJ (zaj rfl (U7 a)) (by rfl) Y.dict_ DN (aC (eE (kR ["place","word"] [none,none] (DP (by rfl) Y.enumerate_ (aC (v 0) aJ)) (fun B=>(mK rfl (f9 (h9 (i:=0)) (f9 (h9 (i:=1)) mJ)))) (fun B=>mQ) (fun B=>(dO (aC (dO (aC (v 1) (aC (v 0) aJ))) (aC (e9 (aC (dO (aC (bG dC (v 0) aM) (aC aM aJ))) aJ)) aJ)))))) aJ))))
def zdz:=cI P w mg base 0 Y.x9.fn Y.x9.bi cH WX W7 fun a b nd=>(aT (jV Y.cls_Queue Y.na_costs (v 0) (mE aJ))
   (aW (jV Y.cls_Queue Y.na_waiting (v 0) nO)))
def zdA:=cI P w mg base 0 Y.x10.fn Y.x10.bi cH WY W6 fun a b nd=>(aW (cQ (j8 (lI a.units) (cR d8 (by rfl) Y.len_ d9 (aC (dN Y.cls_Queue Y.na_costs (v 0)) aJ)) aM)))
def zdB:=cI P w mg base 0 Y.x11.fn Y.x11.bi cH WZ W8 fun b a nd=>(aT (bL (i:=2) nd aM)
   (aT (bL (i:=3) nd (cR d8 (by rfl) Y.len_ d9 (aC (dN Y.cls_Queue Y.na_costs (v 0)) aJ)))
   (aT (wH Ck (dY nN (v 2) (v 3))
    (aT (bL (i:=4) nd (bG pE (bG dC (v 2) (v 3)) aM))
   (aW (eS (dY (VB a) (a9 a (dN Y.cls_Queue Y.na_costs (v 0)) (v 4)) (v 1))
    (aW (bL (i:=2) nd (bG dC (v 4) aM)))
    (aW (bL (i:=3) nd (v 4)))))))
   (aW (cQ (v 2))))))
def zdC:=cI P w mg base 1 Y.x12.fn Y.x12.bi cH W0 W9 fun b a nd=>(aT (eS (dY (pI a) (v 1) (dN Y.cls_Queue Y.na_waiting (v 0)))
    (aT (pJ (mE aJ) (w_sub a (dN Y.cls_Queue Y.na_waiting (v 0)) (v 1)))
   (aW (eZ (f6 Ef F.slot_list_insert F.type_list_insert VC (dN Y.cls_Queue Y.na_costs (v 0)) (aC (lR Y.cls_Queue Y.x11.me (zdB Y) (b.mono (by decide)) Y.x11.bi (v 0) (aC (v 1) aJ)) (aC (v 1) aJ))))))
    gA)
   (aW (eZ (f6 Ef Fg Fx lM (a9 a (dN Y.cls_Queue Y.na_waiting (v 0)) (v 1)) (aC (v 2) aJ)))))
def zdD:=cI P w mg base 0 Y.x13.fn Y.x13.bi cH W5 XA fun b a nd=>(aT (bL (i:=1) nd (a9 a (dN Y.cls_Queue Y.na_costs (v 0)) (lG lH aM)))
   (aT (bL (i:=2) nd (a9 a (dN Y.cls_Queue Y.na_waiting (v 0)) (v 1)))
   (aT (bL (i:=3) nd (vV Ef F.slot_list_pop F.type_list_pop CS (v 2)))
   (aT (eS (dY (lI b.units) (cR d8 (by rfl) Y.len_ d9 (aC (v 2) aJ)) aM)
    (aT (eZ (vV Ef F.slot_list_pop F.type_list_pop CS (dN Y.cls_Queue Y.na_costs (v 0))))
   (aW (eZ (f6 Jc F.slot_dict_pop F.type_dict_pop (U4 a) (dN Y.cls_Queue Y.na_waiting (v 0)) (aC (v 1) aJ)))))
    gA)
   (aW (cQ (dO (aC (v 1) (aC (v 3) aJ)))))))))
def ID:=cI P w mg base 0 Y.x14.fn Y.x14.bi cH ZX Z5 fun b a nd=>(aW (cQ (dO (aC (bG dC (a9 a (v 0) aM) (a9 a (v 1) aM)) (aC (bG dC (a9 a (v 0) aM) (a9 a (v 1) aM)) aJ)))))
def zdE:=cI P w mg base 2 Y.x15.fn Y.x15.bi cH Z2 zad fun a b nd=>(aT (jV Y.cls_Search Y.na_grammar (v 0) (v 1))
   (aT (jV Y.cls_Search Y.na_own (v 0) (cE (zdw Y) Y.x6 a (aC (eE (cE (IC Y) Y.x2 a (aC (v 1) aJ))) aJ)))
   (aT (jV Y.cls_Search Y.na_steps (v 0) (v 2))
   (aT (jV Y.cls_Search Y.na_queue (v 0) (UY Y.x9.mak (zdz Y) (a.mono (by decide)) (by rfl) Y.at__Queue Y.x9.bi))
   (aT (jV Y.cls_Search Y.na_reached (v 0) nO)
   (aT (jV Y.cls_Search Y.na_best (v 0) nO)
   (aT (jV Y.cls_Search Y.na_ends (v 0) nO)
   (aW (jV Y.cls_Search Y.na_begun (v 0) nO)))))))))
def uM:=cI P w mg base 2 Y.x16.fn Y.x16.bi cH ZY Z7 fun b a nd=>(aT (bL (i:=4) nd (dO (aC (v 1) (aC (cR d8 (by rfl) Y.len_ d9 (aC (v 2) aJ)) (aC (a9 a (v 2) aM) (aC (a9 a (v 2) (lG lH aM)) aJ))))))
   (aW (eS (PW.pt (vU (dY (pI a) (v 4) (dN Y.cls_Search Y.na_reached (v 0))) (vS (dY (D2 a) (v 3) (a9 a (dN Y.cls_Search Y.na_reached (v 0)) (v 4))))))
    (aT (pJ (v 3) (w_sub a (dN Y.cls_Search Y.na_reached (v 0)) (v 4)))
   (aW (eZ (lR Y.cls_Queue Y.x12.me (zdC Y) (b.mono (by decide)) Y.x12.bi (dN Y.cls_Search Y.na_queue (v 0)) (aC (v 3) (aC (dO (aC (v 1) (aC (v 2) aJ))) aJ))))))
    gA)))
def zdF:=cI P w mg base 3 Y.x17.fn Y.x17.bi cH Z0 zaa fun b a nd=>(aT (bL (i:=4) nd (dO (aC (a9 a (a9 a (dN Y.cls_Search Y.na_grammar (v 0)) (v 1)) aM) (aC (a9 a (v 2) aM) aJ))))
   (aT (bL (i:=5) nd (bG dC (v 4) (dO (aC (a9 a (v 2) (lG lH aM)) aJ))))
   (aT (eS (dY (mH a) (v 5) (dN Y.cls_Search Y.na_best (v 0)))
    (aW CW)
    gA)
   (aT (pJ (dO (aC (v 3) (aC (v 1) (aC (v 2) aJ)))) (w_sub a (dN Y.cls_Search Y.na_best (v 0)) (v 5)))
   (aT (eZ (f6 Ef Fg Fx lM (f6 Jc F.slot_dict_setdefault F.type_dict_setdefault (DW a) (dN Y.cls_Search Y.na_ends (v 0)) (aC (v 4) (aC (mE aJ) aJ))) (aC (dO (aC (a9 a (v 2) (lG lH aM)) (aC (v 3) aJ))) aJ)))
   (aW (fS Ck rfl (sE (f6 Jc F.slot_dict_get F.type_dict_get (xB a) (dN Y.cls_Search Y.na_begun (v 0)) (aC (v 4) (aC (e9 aJ) aJ)))) (mK rfl (f9 (eD (i:=6) nd) (f9 (eD (i:=7) nd) (f9 (eD (i:=8) nd) mJ))))
    (aW (eZ (lR Y.cls_Search Y.x16.me (uM Y) (b.mono (by decide)) Y.x16.bi (v 0) (aC (v 6) (aC (bG dC (v 7) (dO (aC (a9 a (v 2) (lG lH aM)) aJ))) (aC (cE (ID Y) Y.x14 b (aC (v 8) (aC (v 3) aJ))) aJ)))))))))))))
def zdG:=cI P w mg base 3 Y.x18.fn Y.x18.bi cH ZZ Z8 fun a b nd=>(aT (eZ (f6 Ef Fg Fx lM (f6 Jc F.slot_dict_setdefault F.type_dict_setdefault (DW b) (dN Y.cls_Search Y.na_begun (v 0)) (aC (v 4) (aC (mE aJ) aJ))) (aC (dO (aC (v 1) (aC (v 2) (aC (v 3) aJ)))) aJ)))
   (aW (fS Ck rfl (sE (f6 Jc F.slot_dict_get F.type_dict_get (xB b) (dN Y.cls_Search Y.na_ends (v 0)) (aC (v 4) (aC (e9 aJ) aJ)))) (mK rfl (f9 (eD (i:=5) nd) (f9 (eD (i:=6) nd) mJ)))
    (aW (eZ (lR Y.cls_Search Y.x16.me (uM Y) (a.mono (by decide)) Y.x16.bi (v 0) (aC (v 1) (aC (bG dC (v 2) (dO (aC (v 5) aJ))) (aC (cE (ID Y) Y.x14 a (aC (v 3) (aC (v 6) aJ))) aJ)))))))))
def zdH:=cI P w mg base 4 Y.x19.fn Y.x19.bi cH Z1 zab fun b a nd=>(aT (bL (i:=1) nd (xA Y.cls_Queue Y.x13.me (zdD Y) (b.mono (by decide)) Y.x13.bi (dN Y.cls_Search Y.na_queue (v 0))))
   (aT (bL (i:=2) nd (a9 a (v 1) aM))
   (aT (bL (i:=3) nd (a9 a (a9 a (v 1) aM) aM))
   (aT (bL (i:=4) nd (a9 a (a9 a (v 1) aM) aM))
   (aT (eS (dY (D2 a) (a9 a (dN Y.cls_Search Y.na_reached (v 0)) (dO (aC (v 3) (aC (cR d8 (by rfl) Y.len_ d9 (aC (v 4) aJ)) (aC (a9 a (v 4) aM) (aC (a9 a (v 4) (lG lH aM)) aJ)))))) (v 2))
    (aW CW)
    gA)
   (aT (bL (i:=5) nd (a9 a (a9 a (dN Y.cls_Search Y.na_grammar (v 0)) (v 3)) aM))
   (aW (eS (dY SD (cR d8 (by rfl) Y.len_ d9 (aC (v 4) aJ)) (cR d8 (by rfl) Y.len_ d9 (aC (v 5) aJ)))
    (aW (eZ (lR Y.cls_Search Y.x17.me (zdF Y) (b.mono (by decide)) Y.x17.bi (v 0) (aC (v 3) (aC (v 4) (aC (v 2) aJ))))))
    (aW (eS (dY (mH a) (a9 a (v 5) (bG pD (cR d8 (by rfl) Y.len_ d9 (aC (v 4) aJ)) aM)) (dN Y.cls_Search Y.na_own (v 0)))
    (aW (eZ (lR Y.cls_Search Y.x18.me (zdG Y) (b.mono (by decide)) Y.x18.bi (v 0) (aC (v 3) (aC (v 4) (aC (v 2) (aC (dO (aC (a9 a (v 5) (bG pD (cR d8 (by rfl) Y.len_ d9 (aC (v 4) aJ)) aM)) (aC (a9 a (v 4) (lG lH aM)) aJ))) aJ)))))))
    (aW (fS Ck rfl (sE (f6 Jc F.slot_dict_get F.type_dict_get (xB a) (dN Y.cls_Search Y.na_steps (v 0)) (aC (dO (aC (a9 a (v 5) (bG pD (cR d8 (by rfl) Y.len_ d9 (aC (v 4) aJ)) aM)) (aC (a9 a (v 4) (lG lH aM)) aJ))) (aC (e9 aJ) aJ)))) (mK rfl (f9 (eD (i:=6) nd) (f9 (eD (i:=7) nd) mJ)))
    (aW (eZ (lR Y.cls_Search Y.x16.me (uM Y) (b.mono (by decide)) Y.x16.bi (v 0) (aC (v 3) (aC (bG dC (v 4) (dO (aC (v 6) aJ))) (aC (dO (aC (bG dC (a9 a (v 2) aM) (v 7)) (aC (a9 a (v 2) aM) aJ))) aJ))))))))))))))))))
def zdI:=cI P w mg base 5 Y.x20.fn Y.x20.bi cH Z3 zai fun a b nd=>(aT (bL (i:=4) nd (UX Y.x15.mak (zdE Y) (a.mono (by decide)) (by rfl) Y.at__Search Y.x15.bi (aC (v 0) (aC (v 2) aJ))))
   (aT (fS Ck rfl (nQ (by rfl) Y.range_ (aC (cR d8 (by rfl) Y.len_ d9 (aC (v 0) aJ)) aJ)) (eD (i:=5) nd)
    (aW (fS Ck rfl (gM (v 1)) (eD (i:=6) nd)
    (aW (eZ (lR Y.cls_Search Y.x16.me (uM Y) (a.mono (by decide)) Y.x16.bi (v 4) (aC (v 5) (aC (dO (aC (v 6) aJ)) (aC (dO (aC (a9 b (v 3) (v 5)) (aC aM aJ))) aJ)))))))))
   (aT (wH Ck (pA (jQ (xA Y.cls_Queue Y.x10.me (zdA Y) (a.mono (by decide)) Y.x10.bi (dN Y.cls_Search Y.na_queue (v 4)))))
    (aW (eZ (xA Y.cls_Search Y.x19.me (zdH Y) (a.mono (by decide)) Y.x19.bi (v 4)))))
   (aW (cQ (dN Y.cls_Search Y.na_best (v 4)))))))
def zdJ:=cI P w mg base 6 Y.x21.fn Y.x21.bi cH zck zcC fun a b nd=>(aW (cQ (cE (zdI Y) Y.x20 a (aC (v 0) (aC (eE (cE (zdx Y) Y.x7 a (aC (v 1) aJ))) (aC (eE (cE (zdy Y) Y.x8 a (aC (v 1) aJ))) (aC (v 2) aJ)))))))
def zdK:=cI P w mg base 0 Y.x22.fn Y.x22.bi cH zcl zcw fun a b nd=>(aW (cQ (kR ["rule"] [none] (gM (v 0)) (fun B=>(h9 (i:=0))) (fun B=>mQ) (fun B=>aM))))
def zdL:=cI P w mg base 7 Y.x23.fn Y.x23.bi cH zcm zcF fun a b nd=>(aW (cQ (cR (yY rfl) (by rfl) Y.sorted_ w5 (aC (eE (cE (zdJ Y) Y.x21 a (aC (v 0) (aC (v 1) (aC (eE (cE (zdK Y) Y.x22 a (aC (v 0) aJ))) aJ))))) aJ))))
def zdM:=cI P w mg base 1 Y.x24.fn Y.x24.bi cH zdk zdn fun a b nd=>(aW (cQ (dO (aC (cE (zdt Y) Y.x3 a (aC (v 0) aJ)) (aC aM (aC (cR d8 (by rfl) Y.len_ d9 (aC (v 1) aJ)) aJ))))))
def IE:=cI P w mg base 8 Y.x25.fn Y.x25.bi cH zdl zdp fun a b nd=>(aT (bL (i:=2) nd (cE (zdL Y) Y.x23 a (aC (v 0) (aC (v 1) aJ))))
   (aW (cQ (RY (dY (zc0 a.units) (cE (zdM Y) Y.x24 a (aC (v 0) (aC (v 1) aJ))) (v 2)) B3 (v 2)))))
def uN:=cI P w mg base 0 Y.x26.fn Y.x26.bi cH zcn zcH fun b a nd=>(aT (eS (UN SA nN aM (v 1) (cR d8 (by rfl) Y.len_ d9 (aC (v 0) aJ)))
    (aW (cQ (a9 a (v 0) (v 1))))
    gA)
   (aW (cQ (v 1))))
def zdN:=cI P w mg base 0 Y.x27.fn Y.x27.bi cH zco zcI fun a b nd=>(aT (bL (i:=2) nd (bG lP (bG dC (bG dC (bG iY (v 0) (bG vY aM aM)) (bG lP aM (v 1))) aM) aM))
   (aT (bL (i:=2) nd (bG iY (v 2) aM))
   (aT (bL (i:=2) nd (bG iY (bG dC (bG dC (bG lP (v 2) (v 2)) (bG lP aM (v 1))) aM) aM))
   (aW (cQ (bG pE (bG iY (bG lP (v 2) (v 2)) aM) aM))))))
def uO:=cI P w mg base 1 Y.x28.fn Y.x28.bi cH zcp zcJ fun a b nd=>(aT (bL (i:=2) nd (mE aJ))
   (aT (bL (i:=3) nd (bG pD (v 0) (bG vY aM aM)))
   (aT (fS Ck rfl (DP (by rfl) Y.enumerate_ (aC (v 1) aJ)) (mK rfl (f9 (eD (i:=4) nd) (f9 (eD (i:=5) nd) mJ)))
    (aW (eS (dY SE (v 3) aM)
    (aT (eZ (f6 Ef Fg Fx lM (v 2) (aC (bG iY (v 3) (v 5)) aJ)))
   (aW (bL (i:=3) nd (bG pE (v 3) (v 5)))))
    (aW (eZ (f6 Ef Fg Fx lM (v 2) (aC (bG iY (cE (zdN Y) Y.x27 a (aC (v 0) (aC (v 4) aJ))) (v 5)) aJ)))))))
   (aW (cQ (v 2))))))
def zdO:=cI P w mg base 2 Y.x29.fn Y.x29.bi cH zcq zcS fun b a nd=>(aT (uH (i:=1) nd ["k","script"] [none,some 0] (nQ (by rfl) Y.range_ (aC (bG dC aM (bG iY (cE (uN Y) Y.x26 b (aC (v 0) (aC aM aJ))) aM)) aJ)) (fun B=>(h9 (i:=0))) (fun B=>mQ) (fun B=>(cE (uN Y) Y.x26 b (aC (v 1) (aC (bG dC aM (v 0)) aJ)))))
   (aT (bL (i:=2) nd (eE (kR ["cell"] [none] (gM (v 1)) (fun B=>(h9 (i:=0))) (fun B=>mQ) (fun B=>(a9 a (e9 (aC gJ (aC gJ (aC gJ (aC gJ aJ))))) (a9 a (eE (cE (uO Y) Y.x28 b (aC (v 0) (aC (e9 (aC aM aJ)) aJ)))) aM))))))
   (aT (uH (i:=3) nd ["k","heads"] [none,some 2] (nQ (by rfl) Y.range_ (aC (cR d8 (by rfl) Y.len_ d9 (aC (v 2) aJ)) aJ)) (fun B=>(h9 (i:=0))) (fun B=>(nR (dY (pI a) (a9 a (v 1) (v 0)) (pL (v 1) rY (lL (v 0)))))) (fun B=>(a9 a (v 1) (v 0))))
   (aT (bL (i:=4) nd (mE aJ))
   (aT (fS Ck rfl (UR (by rfl) Y.zip_ (aC (v 2) (aC (v 1) aJ))) (mK rfl (f9 (eD (i:=5) nd) (f9 (eD (i:=6) nd) mJ)))
    (aT (bL (i:=7) nd (eE (cE (uO Y) Y.x28 b (aC (v 6) (aC (e9 (aC aM (aC aM (aC aM (aC aM (aC aM (aC aM (aC aM (aC (bG vY aM aM) aJ))))))))) aJ)))))
   (aT (bL (i:=8) nd (mE aJ))
   (aT (fS Ck rfl (gM (pL (v 7) (lL aM) (lL (bG dC aM (a9 a (v 7) aM))))) (eD (i:=9) nd)
    (aW (eS (dY nN (v 9) aM)
    (aW (eZ (f6 Ef Fg Fx lM (v 8) (aC (a9 a (e9 (aC gJ (aC gJ (aC gJ aJ)))) (v 9)) aJ))))
    (aW (eZ (f6 Ef Fg Fx lM (v 8) (aC (a9 a (v 3) (bG iY (bG pD (v 9) aM) (cR d8 (by rfl) Y.len_ d9 (aC (v 3) aJ)))) aJ)))))))
   (aW (eZ (f6 Ef Fg Fx lM (v 4) (aC (dO (aC (v 5) (aC (kJ S9 (by rfl) Y.tuple_ DM (aC (v 8) aJ)) (aC (a9 a (e9 (aC aM (aC aM (aC (bG iY (a9 a (v 7) aM) aM) (aC (a9 a (v 7) aM) aJ))))) (a9 a (v 7) aM)) aJ)))) aJ))))))))
   (aW (cQ (v 4))))))))
def zV:=cI P w mg base 0 Y.x30.fn Y.x30.bi cH zcr zcK fun b a nd=>(aW (cQ (j8 (mH a) (a9 a (v 0) aM) gJ)))
def zdP:=cI P w mg base 2 Y.x31.fn Y.x31.bi cH zcs zcW fun b a nd=>(aT (bL (i:=3) nd (pL (v 0) (lL aM) (lL (bG dC aM (v 2)))))
   (aT (eS (dY (lI b.units) (bG iY (bG pE (cE (uN Y) Y.x26 b (aC (v 0) (aC aM aJ))) aM) aM) aM)
    (aW (cQ (kR ["cell"] [none] (gM (v 3)) (fun B=>(h9 (i:=0))) (fun B=>mQ) (fun B=>(a9 a (e9 (aC gJ (aC gJ (aC gJ (aC gJ aJ))))) (a9 a (eE (cE (uO Y) Y.x28 b (aC (v 0) (aC (e9 (aC aM aJ)) aJ)))) aM))))))
    gA)
   (aT (bL (i:=4) nd (e9 (aC (a9 a (a9 a (v 1) aM) aM) aJ)))
   (aT (fS Ck rfl (nQ (by rfl) Y.range_ (aC aM aJ)) (eD (i:=5) nd)
    (aT (uH (i:=6) nd ["at","row"] [none,some 4] (nQ (by rfl) Y.range_ (aC (cR d8 (by rfl) Y.len_ d9 (aC (v 4) aJ)) aJ)) (fun B=>(h9 (i:=0))) (fun B=>(nR (jQ (cE (zV Y) Y.x30 b (aC (a9 a (v 1) (v 0)) aJ))))) (fun B=>(v 0)))
   (aW (eS (PW.pt (vT (dY (pG b.units) (v 6) (e9 aJ)) (vR (dY nN (cR d8 (by rfl) Y.len_ d9 (aC (v 4) aJ)) (bG lP aM (v 2))))))
    (aT (bL (i:=7) nd (a9 a (v 6) aM))
   (aT (uH (i:=8) nd ["rule","row","at"] [none,some 4,some 7] (gM (v 1)) (fun B=>(h9 (i:=0))) (fun B=>(nR (dY (lI b.units) (a9 a (v 0) aM) (a9 a (v 1) (v 2))))) (fun B=>(v 0)))
   (aT (bL (i:=9) nd (a9 a (v 8) (a9 a (eE (cE (uO Y) Y.x28 b (aC (bG dC (cE (uN Y) Y.x26 b (aC (v 0) (aC (bG dC aM (bG iY (v 5) aM)) aJ))) (bG lP (bG pE (v 5) aM) aM)) (aC (e9 (aC (cR d8 (by rfl) Y.len_ d9 (aC (v 8) aJ)) aJ)) aJ)))) aM)))
   (aW (bL (i:=4) nd (bG dC (bG dC (pL (v 4) rY (lL (v 7))) (kJ (wR rfl) (by rfl) Y.list_ nU (aC (a9 a (v 9) aM) aJ))) (pL (v 4) (lL (bG dC (v 7) aM)) rY)))))))
    gA))))
   (aW (cQ (SX (eE (kR ["word"] [none] (gM (v 4)) (fun B=>(h9 (i:=0))) (fun B=>(nR (pA (jQ (cE (zV Y) Y.x30 b (aC (v 0) aJ)))))) (fun B=>(v 0)))) rY (lL (v 2)))))))))
def zdQ:=cI P w mg base 1 Y.x32.fn Y.x32.bi cH zct zcL fun b a nd=>(aT (bL (i:=5) nd (e9 (aC (v 3) aJ)))
   (aT (fS Ck rfl (gM (v 0)) (eD (i:=6) nd)
    (aT (bL (i:=7) nd (e9 aJ))
   (aT (fS Ck rfl (gM (v 5)) (eD (i:=8) nd)
    (aW (eS (pA (jQ (cE (zV Y) Y.x30 b (aC (v 6) aJ))))
    (aW (bL (i:=7) nd (bG dC (v 7) (bG lP (e9 (aC (bG dC (v 8) aM) aJ)) (kJ zbn (by rfl) Y.int_ UH (aC (v_and (j8 nN (v 8) (cR d8 (by rfl) Y.len_ d9 (aC (v 1) aJ))) (rO (j8 (lI b.units) (a9 a (v 1) (v 8)) (v 6)))) aJ))))))
    (aW (bL (i:=7) nd (bG dC (v 7) (eE (kR ["to","known","part","place"] [none,some 2,some 6,some 8] (C6 (by rfl) Y.range_ (aC (v 8) (aC (bG dC (cR d8 (by rfl) Y.len_ d9 (aC (v 1) aJ)) aM) aJ))) (fun B=>(h9 (i:=0))) (fun B=>(nR (dY (mH a) (dO (aC (v 2) (aC (v 3) (aC (v 0) aJ)))) (v 1)))) (fun B=>(v 0))))))))))
   (aW (bL (i:=5) nd (zaQ (by rfl) Y.sorted_ (by rfl) Y.set_ (v 7)))))))
   (aW (cQ (j8 (mH a) (v 4) (v 5))))))
def zdR:=cI P w mg base 2 Y.x33.fn Y.x33.bi cH zcu zcN fun b a nd=>(aT (bL (i:=2) nd nO)
   (aT (bL (i:=3) nd kH)
   (aT (wH Ck (jQ (v 3))
    (aT (bL (i:=3) nd kH)
   (aW (fS Ck rfl (sE (v 0)) (mK rfl (f9 (eD (i:=4) nd) (f9 (eD (i:=5) nd) (f9 (eD (i:=6) nd) mJ))))
    (aW (fS Ck rfl (nQ (by rfl) Y.range_ (aC (bG dC (cR d8 (by rfl) Y.len_ d9 (aC (v 1) aJ)) aM) aJ)) (eD (i:=7) nd)
    (aW (fS Ck rfl (C6 (by rfl) Y.range_ (aC (v 7) (aC (bG dC (cR d8 (by rfl) Y.len_ d9 (aC (v 1) aJ)) aM) aJ))) (eD (i:=8) nd)
    (aW (eS (PW.pt (vT (dY (pI a) (dO (aC (v 4) (aC (v 7) (aC (v 8) aJ)))) (v 2)) (vR (jQ (cE (zdQ Y) Y.x32 b (aC (v 5) (aC (v 1) (aC (v 2) (aC (v 7) (aC (v 8) aJ))))))))))
    (aT (pJ kH (w_sub a (v 2) (dO (aC (v 4) (aC (v 7) (aC (v 8) aJ))))))
   (aW (bL (i:=3) nd kH)))
    gA))))))))))
   (aW (cQ (v 2))))))
def zdS:=cI P w mg base 9 Y.x34.fn Y.x34.bi cH zdm zdq fun a b nd=>(aT (bL (i:=1) nd (eE (cE (zdO Y) Y.x29 a (aC (v 0) aJ))))
   (aT (bL (i:=2) nd (eE (cE (zdP Y) Y.x31 a (aC (v 0) (aC (v 1) (aC aM aJ))))))
   (aT (bL (i:=3) nd (eE (cE (zdv Y) Y.x5 a (aC (v 1) aJ))))
   (aT (bL (i:=4) nd (eE (cE (zdR Y) Y.x33 a (aC (v 1) (aC (v 2) aJ)))))
   (aT (bL (i:=5) nd (e9 (aC (kJ (wR rfl) (by rfl) Y.list_ nU (aC (v 3) aJ)) (aC (kJ (wR rfl) (by rfl) Y.list_ nU (aC (v 2) aJ)) aJ))))
   (aT (bL (i:=6) nd (cE (IE Y) Y.x25 a (aC (a9 b (v 5) aM) (aC (a9 b (v 5) aM) aJ))))
   (aT (eS (dY (pG a.units) (v 5) (e9 (aC (v 3) (aC (v 2) aJ))))
    (aW (cQ kH))
    gA)
   (aT (eS (dY (mH b) (dO (aC (a9 b (a9 b (v 1) aM) aM) (aC aM (aC (cR d8 (by rfl) Y.len_ d9 (aC (v 2) aJ)) aJ)))) (v 4))
    (aW (cQ (j8 SG (v 6) B3)))
    gA)
   (aT (eS (PW.pt (vU (pA (jQ (cR wQ (by rfl) Y.isinstance_ wZ (aC (v 6) (aC (vQ (by rfl) Y.list_ nU (y:=.ty "list") rfl (fun _ _=>.ty _)) aJ))))) (vS (dY (pG a.units) (v 6) (eE (cR (yY rfl) (by rfl) Y.sorted_ w5 (aC (v 4) aJ)))))))
    (aW (cQ kH))
    gA)
   (aT (eS (dY (pG a.units) (eE (kR ["fact"] [none] (gM (v 6)) (fun B=>(h9 (i:=0))) (fun B=>(nR (PW.pt (vU (pA (jQ (cR wQ (by rfl) Y.isinstance_ wZ (aC (v 0) (aC (vQ (by rfl) Y.tuple_ DM (y:=.ty "tuple") rfl (fun _ _=>.ty _)) aJ))))) (vS (jQ (cR wQ (by rfl) Y.isinstance_ wZ (aC (a9 b (v 0) aM) (aC (vQ (by rfl) Y.bool_ UI (y:=.ty "bool") rfl (fun _ _=>.ty _)) aJ))))))))) (fun B=>(v 0)))) (e9 aJ))
    (aW (cQ kH))
    gA)
   (aT (eZ (vV Ef F.slot_list_clear F.type_list_clear zc1 (v 6)))
   (aW (cQ (j8 (lI a.units) (eE (cE (IE Y) Y.x25 a (aC (a9 b (v 5) aM) (aC (a9 b (v 5) aM) aJ)))) (eE (cR (yY rfl) (by rfl) Y.sorted_ w5 (aC (v 4) aJ)))))))))))))))))
end
noncomputable def en(P:Params)(x:String)(t:Tok)(v:Ac):Ig:=⟨PyData.keyHash P (Cz x),.str (Cz x) t,v⟩
abbrev sT(x:String)(t:Tok):Ac:=.str (Cz x) t
abbrev cO(x:String)(a:Tok)(q:String)(b c:Tok)(l n:Int)(r:Addr)(u v w y z:Ac)(k:Int)(d:Tok):Obj:=⟨.type "code",none,.fields #[sT x a,sT q b,sT "/claim/cut.py" c,.int l 0,.int n 0,.int 0 0,.int 0 0,.int 3 0,.ref r,.bool true,.int 181 0,u,v,w,y,z,.int k 0,.int l 0,sT "/claim/cut.py" d],#[]⟩
abbrev fO(x q:Str)(s:Stmt)(m c:Ac):Br:=Fb x q (iL s) (gH s) (eP s) .none .none .none m none c .none
noncomputable abbrev IF:Br:=fO "made_of" "made_of" GZ (sT "readgrove.grammars" 223) (.ref 43)
noncomputable abbrev IG:Br:=fO "is_name" "is_name" G0 (sT "readgrove.grammars" 223) (.ref 50)
noncomputable abbrev II:Br:=fO "names" "names" G1 (sT "readgrove.grammars" 223) (.ref 57)
noncomputable abbrev IJ:Br:=fO "first_name" "first_name" G2 (sT "readgrove.grammars" 223) (.ref 64)
noncomputable abbrev IK:Br:=fO "check_rule" "check_rule" G3 (sT "readgrove.grammars" 223) (.ref 71)
noncomputable abbrev IL:Br:=fO "grammar_of" "grammar_of" G4 (sT "readgrove.grammars" 223) (.ref 78)
noncomputable abbrev IM:Br:=fO "marks" "marks" G5 (sT "readgrove.covers" 278) (.ref 83)
noncomputable abbrev IP:Br:=fO "places_of" "places_of" G6 (sT "readgrove.covers" 278) (.ref 90)
noncomputable abbrev IQ:Br:=fO "row_steps" "row_steps" G7 (sT "readgrove.covers" 278) (.ref 95)
noncomputable abbrev IS:Br:=fO "__init__" "Queue.__init__" G8 (sT "readgrove.queues" 299) (.ref 109)
noncomputable abbrev IT:Br:=fO "is_done" "Queue.is_done" G9 (sT "readgrove.queues" 299) (.ref 116)
noncomputable abbrev IU:Br:=fO "put" "Queue.put" HA (sT "readgrove.queues" 299) (.ref 123)
noncomputable abbrev IV:Br:=fO "place_of" "Queue.place_of" HB (sT "readgrove.queues" 299) (.ref 130)
noncomputable abbrev IW:Br:=fO "take" "Queue.take" HC (sT "readgrove.queues" 299) (.ref 137)
noncomputable abbrev IX:Br:=fO "added" "added" HD (sT "readgrove.leasts" 367) (.ref 151)
noncomputable abbrev IY:Br:=fO "__init__" "Search.__init__" HE (sT "readgrove.leasts" 367) (.ref 165)
noncomputable abbrev IZ:Br:=fO "reach" "Search.reach" HF (sT "readgrove.leasts" 367) (.ref 172)
noncomputable abbrev JA:Br:=fO "take_next" "Search.take_next" HG (sT "readgrove.leasts" 367) (.ref 179)
noncomputable abbrev JB:Br:=fO "step_by_name" "Search.step_by_name" HH (sT "readgrove.leasts" 367) (.ref 186)
noncomputable abbrev JC:Br:=fO "settle" "Search.settle" HI (sT "readgrove.leasts" 367) (.ref 193)
noncomputable abbrev JD:Br:=fO "least_trees" "least_trees" HJ (sT "readgrove.leasts" 367) (.ref 207)
noncomputable abbrev JE:Br:=fO "row_trees" "row_trees" HK (sT "readgrove.spans" 480) (.ref 214)
noncomputable abbrev JF:Br:=fO "no_weights" "no_weights" HL (sT "readgrove.spans" 480) (.ref 219)
noncomputable abbrev JG:Br:=fO "facts" "facts" HM (sT "readgrove.spans" 480) (.ref 226)
noncomputable abbrev JH:Br:=fO "whole_fact" "whole_fact" HN (sT "readgrove.readings" 505) (.ref 233)
noncomputable abbrev JI:Br:=fO "paper_against" "paper_against" HP (sT "readgrove.readings" 505) (.ref 240)
noncomputable abbrev JJ:Br:=fO "_law_cell" "_law_cell" HQ (sT "law_readgrove_k21_papers_told" 524) (.ref 247)
noncomputable abbrev JK:Br:=fO "_law_stir" "_law_stir" HR (sT "law_readgrove_k21_papers_told" 524) (.ref 254)
noncomputable abbrev JL:Br:=fO "_law_drawn" "_law_drawn" HS (sT "law_readgrove_k21_papers_told" 524) (.ref 261)
noncomputable abbrev JM:Br:=fO "_law_grammar" "_law_grammar" HU (sT "law_readgrove_k21_papers_told" 524) (.ref 266)
noncomputable abbrev JN:Br:=fO "_law_is_name" "_law_is_name" HV (sT "law_readgrove_k21_papers_told" 524) (.ref 273)
noncomputable abbrev JO:Br:=fO "_law_row" "_law_row" HW (sT "law_readgrove_k21_papers_told" 524) (.ref 278)
noncomputable abbrev JP:Br:=fO "_law_covers" "_law_covers" HX (sT "law_readgrove_k21_papers_told" 524) (.ref 283)
noncomputable abbrev JQ:Br:=fO "_law_facts" "_law_facts" HY (sT "law_readgrove_k21_papers_told" 524) (.ref 290)
noncomputable abbrev uP:Br:=fO "law" "law" HZ (sT "law_readgrove_k21_papers_told" 524) (.ref 295)
noncomputable def hpK:Params->Ae:=fun P=>[(nat_lit 3,⟨(.type "dict"),none,.dict [en P "__name__" 165 (sT "law_readgrove_k21_papers_told" 524),en P "__doc__" 166 .none,en P "__package__" 167 .none,en P "__loader__" 168 (.builtin "__main__.__loader__#opaque"),en P "__spec__" 169 .none,en P "__annotations__" 170 (.ref 6),en P "__builtins__" 171 (.ref 4),en P "__file__" 173 (sT "/claim/cut.py" 172),en P "__cached__" 174 .none,en P "GroveError" 206 (.ref 24),en P "NoGrammar" 222 (.ref 37),en P "GREAT_LETTERS" 226 (sT "ABCDEFGHIJKLMNOPQRSTUVWXYZ" 225),en P "FIGURES" 228 (sT "0123456789" 227),en P "made_of" 234 (.ref 44),en P "is_name" 243 (.ref 51),en P "names" 252 (.ref 58),en P "first_name" 259 (.ref 65),en P "check_rule" 268 (.ref 72),en P "grammar_of" 277 (.ref 79),en P "marks" 285 (.ref 84),en P "places_of" 292 (.ref 91),en P "row_steps" 298 (.ref 96),en P "Queue" 366 (.ref 141),en P "added" 376 (.ref 152),en P "Search" 466 (.ref 197),en P "least_trees" 479 (.ref 208),en P "row_trees" 490 (.ref 215),en P "no_weights" 496 (.ref 220),en P "facts" 504 (.ref 227),en P "whole_fact" 514 (.ref 234),en P "paper_against" 523 (.ref 241),en P "_law_cell" 533 (.ref 248),en P "_law_stir" 542 (.ref 255),en P "_law_drawn" 554 (.ref 262),en P "_law_grammar" 560 (.ref 267),en P "_law_is_name" 567 (.ref 274),en P "_law_row" 573 (.ref 279),en P "_law_covers" 579 (.ref 284),en P "_law_facts" 594 (.ref 291),en P "law" 600 (.ref 296)].toArray 40,#[]⟩),
 (nat_lit 23,⟨(.type "dict"),none,.dict [en P "__module__" 196 (sT "readgrove.errors" 187),en P "__firstlineno__" 200 (.int 2 199),en P "__static_attributes__" 201 (.ref 22),en P "__weakref__" 203 (.ref 25),en P "__doc__" 204 .none].toArray 3,#[]⟩),
 (nat_lit 24,⟨(.type "type"),none,.cls ⟨(Cz "GroveError"),[(.type "ValueError")],[(.ref 24),(.type "ValueError"),(.type "Exception"),(.type "BaseException"),(.type "object")],23,(Cz "GroveError"),true,[],[(.ref 37)],false,none,false⟩,#[some (.ref 15),none,some (sT "GroveError" 189),some (sT "GroveError" 197),some (.builtin "ValueError.__new__"),some (.bool true)]⟩),
 (nat_lit 36,⟨(.type "dict"),none,.dict [en P "__module__" 214 (sT "readgrove.errors" 187),en P "__firstlineno__" 218 (.int 4 217),en P "__static_attributes__" 219 (.ref 35),en P "__doc__" 220 .none].toArray 2,#[]⟩),
 (nat_lit 37,⟨(.type "type"),none,.cls ⟨(Cz "NoGrammar"),[(.ref 24)],[(.ref 37),(.ref 24),(.type "ValueError"),(.type "Exception"),(.type "BaseException"),(.type "object")],36,(Cz "NoGrammar"),true,[],[],false,none,false⟩,#[some (.ref 28),none,some (sT "NoGrammar" 207),some (sT "NoGrammar" 215),some (.builtin "ValueError.__new__"),some (.bool true)]⟩),
 (nat_lit 43,cO "made_of" 229 "made_of" 230 231 9 2 40 (.ref 41) .none .none .none (.ref 42) 232 233),
 (nat_lit 44,⟨(.type "function"),none,.func IF,#[]⟩),
 (nat_lit 50,cO "is_name" 235 "is_name" 236 237 11 1 45 (.ref 46) .none (.ref 47) (.ref 48) (.ref 49) 241 242),
 (nat_lit 51,⟨(.type "function"),none,.func IG,#[]⟩),
 (nat_lit 57,cO "names" 244 "names" 245 246 15 1 52 (.ref 53) .none (.ref 54) (.ref 55) (.ref 56) 250 251),
 (nat_lit 58,⟨(.type "function"),none,.func II,#[]⟩),
 (nat_lit 64,cO "first_name" 253 "first_name" 254 255 20 1 59 (.ref 60) .none (.ref 61) (.ref 62) (.ref 63) 257 258),
 (nat_lit 65,⟨(.type "function"),none,.func IJ,#[]⟩),
 (nat_lit 71,cO "check_rule" 260 "check_rule" 261 262 22 2 66 (.ref 67) .none (.ref 68) (.ref 69) (.ref 70) 266 267),
 (nat_lit 72,⟨(.type "function"),none,.func IK,#[]⟩),
 (nat_lit 78,cO "grammar_of" 269 "grammar_of" 270 271 28 1 73 (.ref 74) .none (.ref 75) (.ref 76) (.ref 77) 275 276),
 (nat_lit 79,⟨(.type "function"),none,.func IL,#[]⟩),
 (nat_lit 83,cO "marks" 280 "marks" 281 282 36 1 80 (.ref 81) .none .none .none (.ref 82) 283 284),
 (nat_lit 84,⟨(.type "function"),none,.func IM,#[]⟩),
 (nat_lit 90,cO "places_of" 286 "places_of" 287 288 38 1 85 (.ref 86) .none (.ref 87) (.ref 88) (.ref 89) 290 291),
 (nat_lit 91,⟨(.type "function"),none,.func IP,#[]⟩),
 (nat_lit 95,cO "row_steps" 293 "row_steps" 294 295 40 1 92 (.ref 93) .none .none .none (.ref 94) 296 297),
 (nat_lit 96,⟨(.type "function"),none,.func IQ,#[]⟩),
 (nat_lit 109,cO "__init__" 313 "Queue.__init__" 314 315 45 1 104 (.ref 105) .none (.ref 106) (.ref 107) (.ref 108) 317 318),
 (nat_lit 110,⟨(.type "function"),none,.func IS,#[]⟩),
 (nat_lit 116,cO "is_done" 320 "Queue.is_done" 321 322 49 1 111 (.ref 112) .none (.ref 113) (.ref 114) (.ref 115) 324 325),
 (nat_lit 117,⟨(.type "function"),none,.func IT,#[]⟩),
 (nat_lit 123,cO "put" 327 "Queue.put" 328 329 52 3 118 (.ref 119) .none (.ref 120) (.ref 121) (.ref 122) 333 334),
 (nat_lit 124,⟨(.type "function"),none,.func IU,#[]⟩),
 (nat_lit 130,cO "place_of" 336 "Queue.place_of" 337 338 58 2 125 (.ref 126) .none (.ref 127) (.ref 128) (.ref 129) 344 345),
 (nat_lit 131,⟨(.type "function"),none,.func IV,#[]⟩),
 (nat_lit 137,cO "take" 347 "Queue.take" 348 349 69 1 132 (.ref 133) .none (.ref 134) (.ref 135) (.ref 136) 354 355),
 (nat_lit 138,⟨(.type "function"),none,.func IW,#[]⟩),
 (nat_lit 140,⟨(.type "dict"),none,.dict [en P "__module__" 308 (sT "readgrove.queues" 299),en P "__firstlineno__" 312 (.int 43 311),en P "__init__" 319 (.ref 110),en P "is_done" 326 (.ref 117),en P "put" 335 (.ref 124),en P "place_of" 346 (.ref 131),en P "take" 356 (.ref 138),en P "__static_attributes__" 359 (.ref 139),en P "__dict__" 361 (.ref 142),en P "__weakref__" 363 (.ref 143),en P "__doc__" 364 .none].toArray 4,#[]⟩),
 (nat_lit 141,⟨(.type "type"),none,.cls ⟨(Cz "Queue"),[(.type "object")],[(.ref 141),(.type "object")],140,(Cz "Queue"),true,[],[],false,none,false⟩,#[none,none,some (sT "Queue" 301),some (sT "Queue" 309),some (.builtin "object.__new__"),some (.bool true)]⟩),
 (nat_lit 151,cO "added" 369 "added" 370 371 78 2 146 (.ref 147) .none (.ref 148) (.ref 149) (.ref 150) 374 375),
 (nat_lit 152,⟨(.type "function"),none,.func IX,#[]⟩),
 (nat_lit 165,cO "__init__" 389 "Search.__init__" 390 391 82 3 160 (.ref 161) .none (.ref 162) (.ref 163) (.ref 164) 395 396),
 (nat_lit 166,⟨(.type "function"),none,.func IY,#[]⟩),
 (nat_lit 172,cO "reach" 398 "Search.reach" 399 400 92 4 167 (.ref 168) .none (.ref 169) (.ref 170) (.ref 171) 406 407),
 (nat_lit 173,⟨(.type "function"),none,.func IZ,#[]⟩),
 (nat_lit 179,cO "take_next" 409 "Search.take_next" 410 411 98 1 174 (.ref 175) .none (.ref 176) (.ref 177) (.ref 178) 420 421),
 (nat_lit 180,⟨(.type "function"),none,.func JA,#[]⟩),
 (nat_lit 186,cO "step_by_name" 423 "Search.step_by_name" 424 425 114 5 181 (.ref 182) .none (.ref 183) (.ref 184) (.ref 185) 433 434),
 (nat_lit 187,⟨(.type "function"),none,.func JB,#[]⟩),
 (nat_lit 193,cO "settle" 436 "Search.settle" 437 438 119 4 188 (.ref 189) .none (.ref 190) (.ref 191) (.ref 192) 448 449),
 (nat_lit 194,⟨(.type "function"),none,.func JC,#[]⟩),
 (nat_lit 196,⟨(.type "dict"),none,.dict [en P "__module__" 384 (sT "readgrove.leasts" 367),en P "__firstlineno__" 388 (.int 80 387),en P "__init__" 397 (.ref 166),en P "reach" 408 (.ref 173),en P "take_next" 422 (.ref 180),en P "step_by_name" 435 (.ref 187),en P "settle" 450 (.ref 194),en P "__static_attributes__" 459 (.ref 195),en P "__dict__" 461 (.ref 198),en P "__weakref__" 463 (.ref 199),en P "__doc__" 464 .none].toArray 4,#[]⟩),
 (nat_lit 197,⟨(.type "type"),none,.cls ⟨(Cz "Search"),[(.type "object")],[(.ref 197),(.type "object")],196,(Cz "Search"),true,[],[],false,none,false⟩,#[none,none,some (sT "Search" 377),some (sT "Search" 385),some (.builtin "object.__new__"),some (.bool true)]⟩),
 (nat_lit 207,cO "least_trees" 467 "least_trees" 468 469 128 4 202 (.ref 203) .none (.ref 204) (.ref 205) (.ref 206) 477 478),
 (nat_lit 208,⟨(.type "function"),none,.func JD,#[]⟩),
 (nat_lit 214,cO "row_trees" 482 "row_trees" 483 484 137 3 209 (.ref 210) .none (.ref 211) (.ref 212) (.ref 213) 488 489),
 (nat_lit 215,⟨(.type "function"),none,.func JE,#[]⟩),
 (nat_lit 219,cO "no_weights" 491 "no_weights" 492 493 139 1 216 (.ref 217) .none .none .none (.ref 218) 494 495),
 (nat_lit 220,⟨(.type "function"),none,.func JF,#[]⟩),
 (nat_lit 226,cO "facts" 497 "facts" 498 499 141 2 221 (.ref 222) .none (.ref 223) (.ref 224) (.ref 225) 502 503),
 (nat_lit 227,⟨(.type "function"),none,.func JG,#[]⟩),
 (nat_lit 233,cO "whole_fact" 507 "whole_fact" 508 509 144 2 228 (.ref 229) .none (.ref 230) (.ref 231) (.ref 232) 512 513),
 (nat_lit 234,⟨(.type "function"),none,.func JH,#[]⟩),
 (nat_lit 240,cO "paper_against" 515 "paper_against" 516 517 146 2 235 (.ref 236) .none (.ref 237) (.ref 238) (.ref 239) 521 522),
 (nat_lit 241,⟨(.type "function"),none,.func JI,#[]⟩),
 (nat_lit 247,cO "_law_cell" 526 "_law_cell" 527 528 150 2 242 (.ref 243) .none (.ref 244) (.ref 245) (.ref 246) 531 532),
 (nat_lit 248,⟨(.type "function"),none,.func JJ,#[]⟩),
 (nat_lit 254,cO "_law_stir" 534 "_law_stir" 535 536 154 2 249 (.ref 250) .none (.ref 251) (.ref 252) (.ref 253) 540 541),
 (nat_lit 255,⟨(.type "function"),none,.func JK,#[]⟩),
 (nat_lit 261,cO "_law_drawn" 543 "_law_drawn" 544 545 159 2 256 (.ref 257) .none (.ref 258) (.ref 259) (.ref 260) 552 553),
 (nat_lit 262,⟨(.type "function"),none,.func JL,#[]⟩),
 (nat_lit 266,cO "_law_grammar" 555 "_law_grammar" 556 557 169 1 263 (.ref 264) .none .none .none (.ref 265) 558 559),
 (nat_lit 267,⟨(.type "function"),none,.func JM,#[]⟩),
 (nat_lit 273,cO "_law_is_name" 561 "_law_is_name" 562 563 184 1 268 (.ref 269) .none (.ref 270) (.ref 271) (.ref 272) 565 566),
 (nat_lit 274,⟨(.type "function"),none,.func JN,#[]⟩),
 (nat_lit 278,cO "_law_row" 568 "_law_row" 569 570 186 3 275 (.ref 276) .none .none .none (.ref 277) 571 572),
 (nat_lit 279,⟨(.type "function"),none,.func JO,#[]⟩),
 (nat_lit 283,cO "_law_covers" 574 "_law_covers" 575 576 199 5 280 (.ref 281) .none .none .none (.ref 282) 577 578),
 (nat_lit 284,⟨(.type "function"),none,.func JP,#[]⟩),
 (nat_lit 290,cO "_law_facts" 580 "_law_facts" 581 582 210 2 285 (.ref 286) .none (.ref 287) (.ref 288) (.ref 289) 592 593),
 (nat_lit 291,⟨(.type "function"),none,.func JQ,#[]⟩),
 (nat_lit 295,cO "law" 595 "law" 596 597 222 1 292 (.ref 293) .none .none .none (.ref 294) 598 599),
 (nat_lit 296,⟨(.type "function"),none,.func uP,#[]⟩)]
noncomputable def zdT:List Addr:=[nat_lit 3,nat_lit 23,nat_lit 24,nat_lit 36,nat_lit 37,nat_lit 43,nat_lit 44,nat_lit 50,nat_lit 51,nat_lit 57,nat_lit 58,nat_lit 64,nat_lit 65,nat_lit 71,nat_lit 72,nat_lit 78,nat_lit 79,nat_lit 83,nat_lit 84,nat_lit 90,nat_lit 91,nat_lit 95,nat_lit 96,nat_lit 109,nat_lit 110,nat_lit 116,nat_lit 117,nat_lit 123,nat_lit 124,nat_lit 130,nat_lit 131,nat_lit 137,nat_lit 138,nat_lit 140,nat_lit 141,nat_lit 151,nat_lit 152,nat_lit 165,nat_lit 166,nat_lit 172,nat_lit 173,nat_lit 179,nat_lit 180,nat_lit 186,nat_lit 187,nat_lit 193,nat_lit 194,nat_lit 196,nat_lit 197,nat_lit 207,nat_lit 208,nat_lit 214,nat_lit 215,nat_lit 219,nat_lit 220,nat_lit 226,nat_lit 227,nat_lit 233,nat_lit 234,nat_lit 240,nat_lit 241,nat_lit 247,nat_lit 248,nat_lit 254,nat_lit 255,nat_lit 261,nat_lit 262,nat_lit 266,nat_lit 267,nat_lit 273,nat_lit 274,nat_lit 278,nat_lit 279,nat_lit 283,nat_lit 284,nat_lit 290,nat_lit 291,nat_lit 295,nat_lit 296]
noncomputable def qv:Bl:={PySem.Challenge.pw_readgrove_k21_papers_told with main:={PySem.Challenge.pw_readgrove_k21_papers_told.main with body:=[bE 1,bE 2,bE 4,bE 5,bE 6,bE 7,bE 8,bE 9,bE 10,bE 11,bE 13,bE 14,bE 15,bE 17,bE 19,bE 20,bE 21,bE 23,bE 24,bE 25,bE 27,bE 28,bE 30,bE 31,bE 32,bE 33,bE 34,bE 35,bE 36,bE 37,bE 38]}}
noncomputable def hk:PySem.W.Hook:=PySem.W.kHook hpK zdT (fun _=>by kernel_rfl)
section
variable {w:Cd}{h:Heap}{mg:Str->Option Ac}
theorem mn{x:Str}(X:(hpK w.params).In h)(G:h.Ns El mg)(e:PySem.W.nsIn (hpK w.params) El x=some none:=by kernel_rfl):mg x=none:=PySem.W.mg_none_of X G e
theorem zdU(X:(hpK w.params).In h)(G:h.Ns El mg):Tx mg:=⟨⟨227,Kk (v:=.str "0123456789" 227) X G (by kernel_rfl)⟩,⟨225,Kk (v:=.str "ABCDEFGHIJKLMNOPQRSTUVWXYZ" 225) X G (by kernel_rfl)⟩,mn X G,mn X G,mn X G,mn X G,mn X G,mn X G,mn X G,mn X G,mn X G,mn X G,mn X G,mn X G,mn X G⟩
theorem zdV(X:(hpK w.params).In h)(G:h.Ns El mg):Kc (hpK w.params) mg ⟨141,197⟩:=⟨⟨by kernel_rfl,by kernel_rfl,by kernel_rfl,by kernel_rfl⟩,Kk (v:=.ref 141) X G (by kernel_rfl),⟨by kernel_rfl,by kernel_rfl,by kernel_rfl,by kernel_rfl⟩,Kk (v:=.ref 197) X G (by kernel_rfl),(show Ci (hpK w.params) (.ref 141) "costs" = some none by kernel_rfl),(show Ci (hpK w.params) (.ref 141) "waiting" = some none by kernel_rfl),(show Ci (hpK w.params) (.ref 197) "grammar" = some none by kernel_rfl),(show Ci (hpK w.params) (.ref 197) "own" = some none by kernel_rfl),(show Ci (hpK w.params) (.ref 197) "steps" = some none by kernel_rfl),(show Ci (hpK w.params) (.ref 197) "queue" = some none by kernel_rfl),(show Ci (hpK w.params) (.ref 197) "reached" = some none by kernel_rfl),(show Ci (hpK w.params) (.ref 197) "best" = some none by kernel_rfl),(show Ci (hpK w.params) (.ref 197) "ends" = some none by kernel_rfl),(show Ci (hpK w.params) (.ref 197) "begun" = some none by kernel_rfl)⟩
def zdW(i:Nat):Addr:=([44,51,58,65,72,79,84,91,96,110,117,131,124,138,152,166,173,194,187,180,208,215,220,227,234,241,248,255,262,267,274,279,284,291,296]:List Addr).getD i 0
noncomputable def zdX(i:Nat):Br:=[IF,IG,II,IJ,IK,IL,IM,IP,IQ,IS,IT,IV,IU,IW,IX,IY,IZ,JC,JB,JA,JD,JE,JF,JG,JH,JI,JJ,JK,JL,JM,JN,JO,JP,JQ,uP].getD i uP
theorem zdY(X:(hpK w.params).In h)(G:h.Ns El mg):Al (hpK w.params) mg ⟨141,197⟩ zdW zdX:=⟨zdU X G,zdV X G,dF X G,dF X G,dF X G,dF X G,dF X G,dF X G,dF X G,dF X G,dF X G,dI,dM,dM,dM,dM,dF X G,dI,dM,dM,dM,dM,dF X G,dF X G,dF X G,dF X G,dF X G,dF X G,dF X G,dF X G,dF X G,dF X G,dF X G,dF X G,dF X G,dF X G,dF X G⟩
end
theorem zdZ{l:PySem.W.OpenLaw}{w:Cd}{h:Heap}{mg:Str->Option Ac}{fa:Addr}(X:(hpK w.params).In h)(G:h.Ns El mg)(hfa:mg "law" = some (.ref fa)) :
  ∃ fd:Br,(∀ (s:Ah) (v:Ac),BindsTo s fd ⟨[v],[]⟩ [("script",v)])/\∀ base:Heap,(hpK w.params).In base->base.Ns El mg->eW l.prog w (hpK w.params) mg base fY 10 fa fd ["script"] (gK (hpK w.params) pK):=by
 have e:=hfa.symm.trans (Kk (v:=.ref 296) X G (by kernel_rfl))
 cases e
 exact⟨uP,fun s v=>.of_eq rfl,fun base _ _=>zdS (zdY X G)⟩
theorem zd0{l:PySem.W.OpenLaw}{q:Bl}{loose:List Str}{XP:(Str->Option Ac)->Heap->Prop}{YP:Cd->Heap->Prop}{d:DefRec}{K:Params->Ae}(hn:l.most=some 63)(hdf:d.params.defaults=[])
  (hY:∀ (w:Cd) (h:Heap),YP w h->(K w.params).In h)
  (F:∀ (w:Cd) (mg:Str->Option Ac) (fa:Addr) (h:Heap),(K w.params).In h->h.Ns El mg->mg d.name=some (.ref fa)->
   ∃ fd:Br,(∀ (s:Ah) (u:Ac),BindsTo s fd ⟨[u],[]⟩ [("script",u)])/\∀ base:Heap,(K w.params).In base->base.Ns El mg->eW l.prog w (K w.params) mg base fY 10 fa fd ["script"] (gK (K w.params) pK)) :
  PySem.W.WalkO q loose XP YP l.row.toRowW d [] (fun f vs=>PySem.call f vs):=
 L2.QE (n:=63) (k:=10) (x:="script") (CX:=fun _=>fY) (sp:=fun w=>gK (K w.params) pK) hn (by decide) hdf ⟨rfl,by decide,by decide⟩ hY F (fun _ _ a ns hl ho hS=>T4 hl ho hS) fun _ _ _ _ _ z=>z
end Rg
open PySem PySem.W PyProof.Rows
set_option maxRecDepth 100000 in
set_option maxHeartbeats 0 in
theorem PySem.Challenge.cw_readgrove_k21_papers_told_holds : PySem.Challenge.rw_readgrove_k21_papers_told.Holds := by
 w_on; o_law
 refine PySem.W.holds_open (r := PySem.Challenge.rw_readgrove_k21_papers_told.row) (q := Rg.qv) (loose := []) (N := 4048)
  (Xt := fun s => xlAt Rg.qv [] s && recOk (RowW.records (OpenRow.toRowW PySem.Challenge.rw_readgrove_k21_papers_told.row)) s)
  (XP := XL Rg.qv []) (Yf := Rg.hk.obs) (Ya := Rg.hk.val) (YP := Rg.hk.says) ?hl Rg.hk.of Rg.hk.keeps
  (fun s e => xl_of s (Kz.mp e).1) XL.keeps (by rfl) (by rfl) (by rfl) (fun s e => recFacts_of (Kz.mp e).2)
  (by rfl) (by assumption) (by decide +kernel) ⟨rfl, rfl, rfl, rfl, rfl, by decide +kernel⟩ ?hw ?hc
 case hw => w_witness2
 case hc => exact Rg.zd0 (l := PySem.Challenge.rw_readgrove_k21_papers_told) rfl rfl (fun w h Y => PySem.W.kIn_of Y) (fun w mg fa h KX G hmg => Rg.zdZ KX G hmg)
 case hl => intro w; kernel_rfl
