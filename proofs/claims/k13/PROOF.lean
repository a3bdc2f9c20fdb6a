import PyProof.Rows.All
import Wide.All
import OpenK.AllK
import Wide.FinOn
import Lean
import PyProof.EqAt
import PyProof.EqKinds
import PyProof.TupleCall
import PySem.Challenge.RW_readgrove_k13_facts_of_rows
open PySem renaming wpAny_bind→Aa,Value→Ac,wpAny_pure→Ag,Shared→Ah,sizeLine→Aj,wpAny→Ax,starEach→Bj,model→Bk,Program→Bl,Around→Bv,FuncData→Bw,World→Cb,compareOp→Ck,wpAny_holding→Ct,bootBuiltins→Cv,wpAny_newObj_type→Dd,wpAny_call_entry→De,wpAny_ite_split→Dk,wpAny_callSpecial?_slot→Ee,wpAny_rule→Ej,mainGlobals→El,intKind→En,wpAny_setField→Ey,wpAny_Call_Name_kw→Fh,tupleKind_room_in1→Fi,wpAny_field→Fl,wpAny_askSetting→Fm,wpAny_setState_of→Fs,binaryOp→Ft,codeAny_builtin→Fw,wpAny_seqItems→Gg,cLine→Gh,tupleKind→Gn,sysModules→Gp,rawInt→Gv,assignEach→He,Builtin→Hh,backTo→Hl,mem_of_lookup→Hm,sizeLine_eq→Hn,foldedSetIterable→Ho,SetTable→Hr,wpAny_mono→Hw,plainId_quiet→Hx,IsPair→Hz,pyNext→Ia,DictEntry→Ie,wpAny_typeNameOfWhole_keyiter→Ii,wpAny_setField_rec→Im,holding→Ip,Paired→Iq,wpAny_passesOwn→Iw,behindInMarks→Iz,attributeBase→Ja,wpAny_notOrdered_dict→Jd,builtinLookup_eq_fast→Je,wpAny_truthy_bool→Jg,wpAny_pyIter_list→Jh,wpAny_dictEntries→Ji,NameKind→Jo,wpAny_isInstance→Jt,wpAny_eqBool_int→Ju,codeAny→Jv,wpAny_typeNameOf_keyiter→Kb,wpAny_attempt→Kd,Scope→Ke,swapsWith→Ki,wpAny_typeOf→Kn,firstArgMember→Ko,codeAny_mono→Kq,sliceBounds→Lh,keywordEach→Li,typeLookup_type→Lo,call_meetsIn→Lw,pickOrder→Lz,wpAny_tupleItemsOf→Mb,setsByText→Mc,isSubtype_type→Md,call_meets→Me,PyData→Mh,Expr→Mu,Model→Mx,assign→Na,wpAny_pyIter_zip→Nh,atKey→Ni,storedH→Nq,wpAny_execs_nil→Nw,size_of_entries→Nx,letOwnedTupleGo→Ny,wpAny_updateSeq_pair→Oe,wpAny_fieldsOf→Of,pyIter→Og,backToKw→Oh,IsZip→Oi,standAt→Oj,scanBound→Ol,getMethod→Om,wpAny_setEntries_of→Oo,wpAny_standAt→Oq,wpAny_onRaise→Ot
open List renaming length_map→Ab,getElem?_eq_getElem→An,getElem?_eq_some_iff→Ao,map_cons→Ar,length_append→Av,mem_map→Aw,mem_cons→Az,mem_singleton→Ba,length→Bb,size_toArray→Bc,mem_cons_of_mem→Bd,mem_of_getElem?→Be,getElem?_map→Bh,mem_cons_self→Bi,mem_append→Bo,map_append→Bs,length_cons→Bt,replicate→Bu,append_assoc→Cd,range→Ce,length_take→Cf,lookup→Ci,pairwise_append→Cu,mem_append_right→Dc,nodup_cons→Dr,take_of_length_le→Dw,length_singleton→Eb,map_map→Ed,mem_range→Eh,mem_nil_iff→Ek,mem_append_left→Ep,take_length→Ew,not_mem_nil→Ex,length_range→Ez,filter_cons→Ff,mem_filter→Fp,find?_cons→Fq,pairwise_iff_getElem→Fu,nodup_nil→Fz,take_add_one→Ga,pairwise_map→Gb,nodup_append→Gd,foldl_cons→Ge,append_nil→Gf,replicate_succ→Gi,mem_map_of_mem→Gj,map→Gk,filterMap_cons→Gm,any_cons→Gq,length_drop→Gs,perm_append_comm→Gx,eq_nil_or_concat→Gy,concat_eq_append→Gz,drop_eq_getElem_cons→Hc,mem_iff_getElem→Hg,mem_flatMap→Ht,lookup_cons→Hu,length_filter_le→Ik,getElem?_eq_none→Il,flatten_cons→Ir,zipIdx_cons→Jj,getLastD_eq_getLast?→Jl,length_pos_iff→Jn,all_cons→Js,map_nil→Kg,drop_of_length_le→Kh,all_eq_true→Kl,mem_of_mem_take→Kw,nil_append→Lb,drop_zero→Lk,map_take→Ma,perm_middle→Mj,pairwise_singleton→Ml,length_eq_zero_iff→Mo,getElem?_cons_succ→Mp,append_inj'→Mq,any_eq_true→Mr,length_pos_of_mem→My,take_append_drop→Nf,take_zero→Nl,mem_of_mem_drop→Nm,map_congr_left→Oa,map_drop→Od
open PySem.W renaming Frag→Ae,findIn→Cj,kia_one→Fb,fnOf→Fc,emptyDict→Fj,keepIn→Fx,instObj→Hb,kitOne→Jx,codeIn→Jy,mg_of→Kj,plainGet→Lx,isFn→Mf,lookIn→Nb,plainGet_of→Nj
open PySem.Heap renaming get?_push_of_some→Af,lt_size→Ak,get?_push_size→Ap,size_push→Ds,SameBut→Dx,get?_update_self→Fd,get?_update_other→Fn
open Nat renaming le_refl→Ai,ne_of_lt→Bf,le_trans→Bp,lt_of_lt_of_le→Br,zero_le→Co,ne_of_gt→Dy,le_of_eq→Fo,zero_add→Fy,lt_irrefl→Gr,lt_trans→Hi,lt_succ_of_lt→Hj,lt_of_succ_lt→Hk,lt_succ_self→Hy,le_of_lt→Ic,min_le_left→Jw,le_succ→Kz,add_le_add_left→Lg,lt_of_lt_of_eq→Lr,lt_of_le_of_lt→Ls,eq_or_lt_of_le→Lu,le_add_right→Mv,min_eq_left→Nd,mul_le_mul→Nt,add_lt_add_left→Oc
open Bool renaming false_ne_true→Am,false_eq_true→Cq,and_eq_true→Cs,eq_iff_iff→Es,not_true→Ks,and_eq_true_iff→Kx,not_eq_true'→Ly,not_false→Np
open PyProof.Rows renaming wpS_bind→Au,Keyed→Ay,wpS_pure→Bg,SortSt→Cr,arrOf→Dg,callWith_type1→Dv,pendingOf→Ec,wpS_forRange→Ei,wpS_mono→Hd,SortKind→Hf,failedOf→Hq,wpS_modify→Hv,IntsAre→Iu,slot_tuple_getitem→Jq,wpS_get→Km,seqObj→Ld,lt_int→Mi,envOfC→Mz,wpS_lift→Ng,AllBare→Nv
open Option renaming map_eq_some_iff→Bn,map_some→Kv
open Ne renaming symm→Bq
open Array renaming length_toList→Bx,toList_append→Bz,getElem?_eq_some_iff→Cp,getElem?_toList→Du,perm_iff_toList_perm→Iy,toList_reverse→Kt,toArray_toList→Ku,getElem?_eq_getElem→Lv
open PySem.Heap.SameBut renaming update→Ca
open PySem.PassesOwn renaming never→Cg
open Int renaming toNat_natCast→Cm,emod_lt_of_pos→Ha,emod_nonneg→Ih,toNat→Ka,zero_add→Lj,le_refl→Nu
open List.Perm renaming append_left→Cw,append_right→Hs
open List.cons renaming injEq→Cy
open PySem.Str renaming ofString→Cz,length→Lq
open Prod renaming fst→Dh,snd→Jr
open Prod.mk renaming injEq→Dl
open PySem.Txt renaming partition→Dq
open Option.some renaming inj→Dz,injEq→Eg
open PySem.Builtin.SmallTypes renaming nextOf→Ea,ownedTupleIsFree→Fv
open PySem.F renaming plainAttrs_list→Ef,slot_list_append→Eu,slot_dict_keyiterator_next→Fe,type_list_append→Fg,plainAttrs_dict→Jc,slot_tuple_iterator_next→Jm,called_set→Jp,entry_dict_get→Jz,slot_dict_get→Kf,slot_list_getattribute→Mw,slot_zip_next→Nn
open PySem.Around renaming under_plainId→Em
open PySem.Paired renaming length→Eo
open Iff renaming rfl→Er
open PySem.Obj renaming mapFields→Et,mapSeq→Gw,data_mapFields→Ib,data_mapDictKeys→Ky,isFreed_of_fields→Nk
open False renaming elim→Gu
open PySem.Builtin.Slice renaming slicePlaces→Ig,sliceAdjust→Kr
open PySem.SetTable renaming grown→Ij
open PySem.Builtin.Tuple renaming tupleExact→Iv
open PySem.PyData renaming depth→Jb,eqv→Lf,eqvAll→Nr
open PySem.Builtin.Dict renaming updateFrom→Jf
open PySem.Builtin.Str renaming occurrences→Jk
open PySem.Builtin.List renaming listExtendWith→Kk,listTooLong→Lc
open List.Pairwise renaming imp_of_mem→La
open Function renaming comp→Lm
open Sum.inl renaming injEq→Lp
open PySem.Walks renaming list→Ms
open PyProof.Rows.F renaming plain_set_update_loop→Nc
set_option Elab.async false
set_option compiler.extract_closed false
set_option bootstrap.genMatcherCode false
set_option linter.all false
set_option maxRecDepth 100000
namespace L2
open PySem PySem.Spec PyProof.Rows
abbrev aD:=Sum Int Str
def mI:aD->Ac->Bool
 | .inl k,v=>Value.isInt k v
 | .inr x,v=>Value.isStrOf x v
def LN(w:Cb):aD->Int
 | .inl k=>hashInt k
 | .inr x=>hashStr w x
theorem jN:∀ {k:aD} {v:Ac},mI k v=true->(∃ i t,k=Sum.inl i/\v=Value.int i t)\/(∃ x t,k=Sum.inr x/\v=Value.str x t)
 | .inl i,v,h=>by
  obtain⟨t,e⟩:=Value.isInt_shape (k:=i) (v:=v) h
  exact .inl ⟨i,t,rfl,e⟩
 | .inr x,v,h=>by
  obtain⟨t,e⟩:=Value.isStrOf_shape (x:=x) (v:=v) h
  exact .inr ⟨x,t,rfl,e⟩
theorem LO(i:Int)(t:Tok):mI (.inl i) (.int i t)=true:=by simp[mI,Value.isInt]
theorem LP(x:Str)(t:Tok):mI (.inr x) (.str x t)=true:=by simp[mI,Value.isStrOf]
theorem LQ(a b:Int):decide ((Sum.inl a:aD)=Sum.inl b)=(a == b):=by
 by_cases e:a=b
 ·subst e;simp
 ·have h:¬ (Sum.inl a:aD)=Sum.inl b:=fun q=>e (Sum.inl.inj q)
  rw[decide_eq_false h]
  exact(beq_eq_false_iff_ne.mpr e).symm
theorem LR(a b:Str):decide ((Sum.inr a:aD)=Sum.inr b)=decide (a=b):=by
 by_cases e:a=b
 ·subst e;simp
 ·have h:¬ (Sum.inr a:aD)=Sum.inr b:=fun q=>e (Sum.inr.inj q)
  rw[decide_eq_false h,decide_eq_false e]
theorem LS(a:Int)(b:Str):decide ((Sum.inl a:aD)=Sum.inr b)=false:=decide_eq_false (fun q=>nomatch q)
theorem LU(a:Str)(b:Int):decide ((Sum.inr a:aD)=Sum.inl b)=false:=decide_eq_false (fun q=>nomatch q)
def dB(prog:Bl)(w:Cb):PySem.KeyKind prog w aD where
 is:=mI
 hash:=LN w
 inj:=fun v a b ha hb=>by
  rcases jN ha with⟨i,t,rfl,rfl⟩ | ⟨x,t,rfl,rfl⟩
  ·rcases jN hb with⟨j,u,rfl,e⟩ | ⟨y,u,rfl,e⟩
   ·injection e with e1 _;rw[e1]
   ·exact nomatch e
  ·rcases jN hb with⟨j,u,rfl,e⟩ | ⟨y,u,rfl,e⟩
   ·exact nomatch e
   ·injection e with e1 _;rw[e1]
 byValue:=fun k v h=>by
  rcases jN h with⟨i,t,rfl,rfl⟩ | ⟨x,t,rfl,rfl⟩ <;> rfl
 pyHash:=fun c h=>by
  rcases jN c with⟨i,t,rfl,rfl⟩ | ⟨x,t,rfl,rfl⟩
  ·exact wpAny_pyHash_int h
  ·exact wpAny_pyHash_str h
 eqBool:=fun d c h=>by
  rcases jN d with⟨i,t,rfl,rfl⟩ | ⟨x,t,rfl,rfl⟩
  ·rcases jN c with⟨j,u,rfl,rfl⟩ | ⟨y,u,rfl,rfl⟩
   ·rw[LQ] at h;exact Ju h
   ·rw[LS] at h;exact SeqAt.EqAt.int_str i t y u _ _ _ _ h
  ·rcases jN c with⟨j,u,rfl,rfl⟩ | ⟨y,u,rfl,rfl⟩
   ·rw[LU] at h;exact SeqAt.EqAt.str_int x t j u _ _ _ _ h
   ·rw[LR] at h;exact wpAny_eqBool_str h
 «strs»:=fun k x t v h=>by
  rcases jN h with⟨i,u,rfl,e⟩ | ⟨y,u,rfl,e⟩
  ·exact nomatch e
  ·injection e with e1 _
   subst e1
   cases v <;> rfl
theorem LV(prog:Bl)(w:Cb)(i:Int)(t:Tok):(dB prog w).is (.inl i) (.int i t)=true:=LO i t
theorem LW(prog:Bl)(w:Cb)(x:Str)(t:Tok):(dB prog w).is (.inr x) (.str x t)=true:=LP x t
inductive V where
 | non | bl (b:Bool) | int (i:Int) | str (x:Str) | byt (b:Array UInt8) | flt (b:UInt64) | ref (a:Addr) | ty (n:String)
 deriving DecidableEq
def RelV:V->Ac->Prop
 | .non,u=>u=Value.none
 | .bl b,u=>u=Value.bool b
 | .int i,u=>∃ t,u=Value.int i t
 | .str x,u=>∃ t,u=Value.str x t
 | .byt b,u=>∃ t,u=Value.bytes b t
 | .flt b,u=>∃ t,u=Value.float b t
 | .ref a,u=>u=Value.ref a
 | .ty n,u=>u=Value.type n
abbrev aR:List V->List Ac->Prop:=Iq RelV
theorem aR.length{xs:List V}{us:List Ac}(r:aR xs us):xs.length=us.length:=Eo r
theorem aR.get:∀ {xs:List V} {us:List Ac} {i:Nat} {x:V},aR xs us->xs[i]? = some x->∃ u,us[i]? = some u/\RelV x u
 | _,_,_,_,.nil,e=>by simp at e
 | _,_,0,_,.cons r _,e=>by simp at e;subst e;exact⟨_,rfl,r⟩
 | _,_,i + 1,x,.cons _ t,e=>by
  obtain⟨u,h1,h2⟩:=aR.get (i:=i) (x:=x) t (by simpa using e)
  exact⟨u,by simpa using h1,h2⟩
theorem aR.set{x:V}{u:Ac}(r:RelV x u):∀ {xs:List V} {us:List Ac} (i:Nat),aR xs us->aR (xs.set i x) (us.set i u)
 | _,_,_,.nil=>.nil
 | _,_,0,.cons _ t=>.cons r t
 | _,_,i + 1,.cons q t=>.cons q (aR.set r i t)
theorem aR.append:∀ {xs ys:List V} {us ws:List Ac},aR xs us->aR ys ws->aR (xs ++ ys) (us ++ ws)
 | _,_,_,_,.nil,s=>s
 | _,_,_,_,.cons r t,s=>.cons r (aR.append t s)
theorem aR.take:∀ {xs:List V} {us:List Ac} (n:Nat),aR xs us->aR (xs.take n) (us.take n)
 | _,_,0,_=>.nil
 | _,_,_ + 1,.nil=>.nil
 | _,_,n + 1,.cons r t=>.cons r (aR.take n t)
theorem aR.drop:∀ {xs:List V} {us:List Ac} (n:Nat),aR xs us->aR (xs.drop n) (us.drop n)
 | _,_,0,r=>r
 | _,_,_ + 1,.nil=>.nil
 | _,_,n + 1,.cons _ t=>aR.drop n t
def fM:Option V->Option Ac->Prop
 | some v,some u=>RelV v u
 | none,none=>True
 | _,_=>False
def KV{κ:Type}:List (κ×V)->List (κ×Ac)->Prop:=Iq fun(p:κ×V) (q:κ×Ac)=>p.1=q.1/\RelV p.2 q.2
def kV:aD->V
 | .inl i=>.int i
 | .inr x=>.str x
inductive HO where
 | lst (xs:List V)
 | tup (xs:List V)
 | dK (kvs:List (aD×V)) | dT (kvs:List (List aD×V))
 | set (S:Int->Bool) (n:Nat)
 | ins (C dx:Addr) (fs:List (Str×V))
 | own (x:Addr)
 | xd (fs:List (Str×V))
 | met (f x:Addr)
 | rng (lo hi:Int)
 | frz (o:Obj) (u:HO)
 | tbl (ps:Array Ac)
 | ext (φ:Heap->Prop)
abbrev Hp:=Addr->Option HO
def aN(H:Hp)(a:Addr)(o:HO):Hp:=fun b=>if b=a then some o else H b
theorem dY{H:Hp}{a:Addr}{o:HO}:aN H a o a=some o:=by unfold aN;rw[if_pos rfl]
theorem bL{H:Hp}{a b:Addr}{o:HO}(h:b≠a):aN H a o b=H b:=by unfold aN;rw[if_neg h]
theorem u7{H:Hp}{a b:Addr}{o u:HO}(h:H a=some o)(h':H b=some u)(d:o≠u):a≠b:=by
 intro e;subst e;rw[h] at h';exact d (Dz h')
theorem dZ{H:Hp}{a b:Addr}{o:HO}(h:H a=some o)(h':H b=none):a≠b:=by
 intro e;subst e;rw[h] at h';cases h'
section
variable (P:Bl)(w:Cb)
def cN(H:Hp)(h:Heap)(a:Addr):HO->Prop
 | .lst xs=>xs.length<=Aj/\∃ (its:List Ac) (n:Nat),aR xs its/\h.get? a=some {cls:=.type "list",data:=.seq its.toArray n}
 | .tup xs=>xs.length<=Aj/\∃ its:List Ac,aR xs its/\IsTup h a its.toArray
 | .dK kvs=>kvs.length<=Aj/\(a == Gp)=false/\∃ vs,KV kvs vs/\h.DictOf (dB P w) a vs
 | .dT kvs=>kvs.length<=Aj/\(a == Gp)=false/\∃ xs:List (List aD×Addr×Ac),
   Iq (fun(p:List aD×V) (q:List aD×Addr×Ac)=>p.1=q.1/\H q.2.1=some (.tup (p.1.map kV))/\RelV p.2 q.2.2) kvs xs/\
   ∃ o es ep,h.get? a=some o/\o.ExactDict/\o.data=.dict es ep/\es.toList=xs.map (entryOfKey (Gn (dB P w)))/\(xs.map (·.1)).Nodup
 | .set S n=>h.SetOf (En P w) a S n
 | .ins C c fs=>H c=some (.own a)/\fs.length<=1000/\c≠a/\h.get? a=some (Hb C c)/\
   ∃ b,h.Ns1 c b/\(∀ f,fM (fs.lookup f) (b f))/\PySem.Within b (fs.map (·.1))
 | .own _=>∃ o,h.get? a=some o
 | .xd fs=>∃ b,h.Ns1 a b/\∀ f,fM (fs.lookup f) (b f)
 | .rng lo hi=>∃ t u v,h.get? a=some {cls:=.type "range",data:=.fields #[.int lo t,.int hi u,.int 1 v]}
 | .frz o u=>h.get? a=some o/\cN H h a u
 | .tbl ps=>h.get? a=some {cls:=.none,data:=.fields ps}
 | .met f x=>h.get? a=some (PySem.W.methodObj (.ref f) (.ref x))
 | .ext d=>d h/\(∃ o,h.get? a=some o)/\∀ h1 h2:Heap,d h1->(∀ o,h1.get? a=some o->h2.get? a=some o)->d h2
def cM(H:Hp)(h:Heap):Prop:=∀ a o,H a=some o->cN P w H h a o
end
section
variable {P:Bl}{w:Cb}{H H':Hp}{h h':Heap}{a:Addr}{o:HO}
theorem cN.lt(x:cN P w H h a o):a < h.objs.size:=by
 cases o with
 | lst xs=>obtain⟨_,_,_,_,e⟩:=x;exact Ak e
 | tup xs=>obtain⟨_,_,_,p⟩:=x;exact p.lt
 | dK kvs=>obtain⟨_,_,_,_,o,_,_,e,_⟩:=x;exact Ak e
 | dT kvs=>obtain⟨_,_,_,_,o,_,_,e,_⟩:=x;exact Ak e
 | set S n=>obtain⟨o,_,_,_,e,_⟩:=x;exact Ak e
 | ins C b fs=>obtain⟨_,_,_,e,_⟩:=x;exact Ak e
 | own y=>obtain⟨_,e⟩:=x;exact Ak e
 | xd fs=>obtain⟨_,⟨_,_,_,e,_⟩,_⟩:=x;exact Ak e
 | rng lo hi=>obtain⟨_,_,_,e⟩:=x;exact Ak e
 | frz ob u=>obtain⟨e,_⟩:=x;exact Ak e
 | tbl ps=>exact Ak (show h.get? a=some _ from x)
 | met f y=>exact Ak (show h.get? a=some _ from x)
 | ext c=>obtain⟨_,⟨_,e⟩,_⟩:=x;exact Ak e
theorem Paired.mapP{e g:Type}{F G:e->g->Prop}:∀ {d:List e} {c:List g},Iq F d c->(∀ a b,F a b->G a b)->Iq G d c
 | _,_,.nil,_=>.nil
 | _,_,.cons r t,f=>.cons (f _ _ r) (Paired.mapP t f)
theorem cN.stay(x:cN P w H h a o)(k:∀ b u,(b=a\/H b=some (.own a))->h.get? b=some u->h'.get? b=some u)
  (m:∀ b,H b=some (.own a)->H' b=some (.own a)) (ht:∀ b xs,H b=some (.tup xs)->H' b=some (.tup xs)):cN P w H' h' a o:=by
 induction o with
 | lst xs=>obtain⟨z,its,n,r,e⟩:=x;exact⟨z,its,n,r,k _ _ (.inl rfl) e⟩
 | tup xs=>obtain⟨z,its,r,ob,e,c⟩:=x;exact⟨z,its,r,ob,k _ _ (.inl rfl) e,c⟩
 | dK kvs=>obtain⟨z,y,vs,r,ob,es,ep,e,c⟩:=x;exact⟨z,y,vs,r,ob,es,ep,k _ _ (.inl rfl) e,c⟩
 | dT kvs=>
  obtain⟨z,y,xs,r,ob,es,ep,e,c⟩:=x
  exact⟨z,y,xs,Paired.mapP r fun p q z=>⟨z.1,ht _ _ z.2.1,z.2.2⟩,ob,es,ep,k _ _ (.inl rfl) e,c⟩
 | set S n=>obtain⟨ob,es,ep,t,e,c⟩:=x;exact⟨ob,es,ep,t,k _ _ (.inl rfl) e,c⟩
 | ins C s fs=>
  obtain⟨d,z,ne,e,i,⟨g,es,ep,l,c⟩,r⟩:=x
  exact⟨m _ d,z,ne,k _ _ (.inl rfl) e,i,⟨g,es,ep,k _ _ (.inr d) l,c⟩,r⟩
 | own y=>obtain⟨ob,e⟩:=x;exact⟨ob,k _ _ (.inl rfl) e⟩
 | xd fs=>obtain⟨i,⟨g,es,ep,e,c⟩,r⟩:=x;exact⟨i,⟨g,es,ep,k _ _ (.inl rfl) e,c⟩,r⟩
 | rng lo hi=>obtain⟨t,u,v,e⟩:=x;exact⟨t,u,v,k _ _ (.inl rfl) e⟩
 | frz ob u j=>obtain⟨e,q⟩:=x;exact⟨k _ _ (.inl rfl) e,j q⟩
 | tbl ps=>
  have e:h.get? a=some {cls:=.none,data:=.fields ps}:=x
  show h'.get? a=some {cls:=.none,data:=.fields ps}
  exact k a _ (.inl rfl) e
 | met f y=>
  have e:h.get? a=some (PySem.W.methodObj (.ref f) (.ref y)):=x
  show h'.get? a=some (PySem.W.methodObj (.ref f) (.ref y))
  exact k a _ (.inl rfl) e
 | ext A=>obtain⟨p,⟨o,e⟩,st⟩:=x;exact⟨st _ _ p fun o q=>k _ _ (.inl rfl) q,⟨o,k _ _ (.inl rfl) e⟩,st⟩
theorem cM.lt(x:cM P w H h)(e:H a=some o):a < h.objs.size:=(x a o e).lt
theorem cM.fresh(x:cM P w H h)(e:h.objs.size<=a):H a=none:=by
 cases q:H a with
 | none=>rfl
 | some u=>exact absurd (Br (x.lt q) e) (Gr _)
theorem cM.kept(x:cM P w H h)(k:∀ b u,h.get? b=some u->h'.get? b=some u):cM P w H h':=fun a o e=>
 (x a o e).stay (fun b u _ q=>k b u q) (fun _ q=>q) fun _ _ q=>q
theorem cM.laid(x:cM P w H h)(k:∀ b u,h.get? b=some u->h'.get? b=some u)(f:h.objs.size<=a)(new:cN P w (aN H a o) h' a o):cM P w (aN H a o) h':=fun b u e=>by
 have d:=x.fresh f
 by_cases hb:b=a
 ·subst hb;rw[dY] at e;cases e;exact new
 ·rw[bL hb] at e
  exact(x b u e).stay (fun c v _ q=>k c v q) (fun c q=>by rw[bL (dZ q d)];exact q) fun c xs q=>by rw[bL (dZ q d)];exact q
end
def Rd(H:Hp)(a:Addr)(u:HO):Prop:=H a=some u\/∃ o,H a=some (.frz o u)
theorem Rd.ok{P:Bl}{w:Cb}{H:Hp}{h:Heap}{a:Addr}{u:HO}(r:Rd H a u)(x:cM P w H h):cN P w H h a u:=by
 rcases r with r | ⟨o,r⟩
 ·exact x a u r
 ·obtain⟨_,q⟩:=x a _ r
  exact q
def pA:Option HO->Prop
 | some (.lst _)=>True
 | some (.dK _)=>True
 | some (.dT _)=>True
 | some (.set _ _)=>True
 | some (.ins _ _ _)=>True
 | some (.ext _)=>True
 | _=>False
section
variable {P:Bl}{w:Cb}{H:Hp}{h h':Heap}{x e:Addr}{o':HO}
theorem cM.write(ok:cM P w H h)(g:pA (H x))(l:e=x\/H e=some (.own x))(k:∀ b u,b≠e->h.get? b=some u->h'.get? b=some u)(i:∃ u,h'.get? e=some u)
  (new:cN P w (aN H x o') h' x o'):cM P w (aN H x o') h':=fun b u q=>by
 have d:∀ c y,H c=some (.own y)->c≠x:=fun c y r z=>by subst z;rw[r] at g;exact g
 have f:∀ c xs,H c=some (.tup xs)->c≠x:=fun c xs r z=>by subst z;rw[r] at g;exact g
 by_cases hb:b=x
 ·subst hb;rw[dY] at q;cases q;exact new
 ·rw[bL hb] at q
  by_cases a:b=e
  ·have j:H b=some (.own x):=by
    rcases l with z | z
    ·exact absurd (a.trans z) hb
    ·rw[a];exact z
   rw[q] at j;cases j
   obtain⟨v,m⟩:=i
   exact⟨v,by rw[a];exact m⟩
  ·refine(ok b u q).stay (fun c v hc r=>k c v ?_ r) (fun c r=>by rw[bL (d c b r)];exact r) fun c xs r=>by rw[bL (f c xs r)];exact r
   rcases hc with rfl | hc
   ·exact a
   ·rintro rfl
    rcases l with z | z
    ·exact d c b hc z
    ·rw[hc] at z;cases z;exact hb rfl
end
structure Un(fs ex:List Addr)(H H':Hp)(h h':Heap):Prop where
 keep:∀ b o,h.get? b=some o->H b=none->b∉fs->b∉ex->h'.get? b=some o
 slot:∀ b o,h.get? b=some o->H b=none->b∈fs->b∉ex->∃ sl,h'.get? b=some {o with slots:=sl}
 free:∀ b o,h.get? b=some o->H b=none->b∉ex->H' b=none
 there:∀ b o,h.get? b=some o->b∉ex->∃ o',h'.get? b=some o'
 tups:∀ b xs,H b=some (.tup xs)->H' b=some (.tup xs)
 frzs:∀ b o u,H b=some (.frz o u)->H' b=some (.frz o u)
 tbls:∀ b ps,H b=some (.tbl ps)->∃ more,H' b=some (.tbl (ps ++ more))
section
variable {fs fs' ex ex':List Addr}{H H1 H2:Hp}{h h1 h2 h':Heap}{a x e:Addr}{o:HO}
theorem Un.any(u:Un fs ex H H1 h h1){b:Addr}{ob:Obj}(q:h.get? b=some ob)(n:H b=none)(a:b∉ex):∃ sl,h1.get? b=some {ob with slots:=sl}:=by
 by_cases hb:b∈fs
 ·exact u.slot b ob q n hb a
 ·exact⟨ob.slots,u.keep b ob q n hb a⟩
theorem Un.kept(k:∀ b u,h.get? b=some u->h'.get? b=some u):Un fs ex H H h h':=
 ⟨fun b ob q _ _ _=>k b ob q,fun b ob q _ _ _=>⟨ob.slots,k b ob q⟩,fun _ _ _ n _=>n,fun b ob q _=>⟨ob,k b ob q⟩,fun _ _ q=>q,fun _ _ _ q=>q,fun _ ps q=>⟨#[],by rw[q];simp⟩⟩
theorem Un.refl:Un fs ex H H h h:=Un.kept fun _ _ q=>q
theorem Un.laid(k:∀ b u,h.get? b=some u->h'.get? b=some u)(d:h.objs.size<=a)(c:H a=none):Un fs ex H (aN H a o) h h' where
 keep:=fun b u q _ _ _=>k b u q
 slot:=fun b u q _ _ _=>⟨u.slots,k b u q⟩
 free:=fun b u q n _=>by rw[bL (Bf (Br (Ak q) d))];exact n
 there:=fun b u q _=>⟨u,k b u q⟩
 tups:=fun b xs q=>by rw[bL (dZ q c)];exact q
 frzs:=fun b u xs q=>by rw[bL (dZ q c)];exact q
 tbls:=fun b ps q=>⟨#[],by rw[bL (dZ q c),q];simp⟩
theorem Un.write(c:pA (H x))(i:e=x\/H e=some (.own x))(k:∀ b u,b≠e->h.get? b=some u->h'.get? b=some u)(d:∃ u,h'.get? e=some u):Un fs ex H (aN H x o) h h':=by
 have g:∀ b,H b=none->b≠x:=fun b n z=>by subst z;rw[n] at c;exact c
 have hb:∀ b,H b=none->b≠e:=fun b n z=>by
  subst z
  rcases i with r | r
  ·exact g b n r
  ·rw[n] at r;cases r
 have f:∀ b u,H b=some u->¬ pA (some u)->b≠x:=fun b u q nm z=>by subst z;rw[q] at c;exact nm c
 refine⟨fun b u q n _ _=>k b u (hb b n) q,fun b u q n _ _=>⟨u.slots,k b u (hb b n) q⟩,fun b u q n _=>by rw[bL (g b n)];exact n,fun b u q _=>?_,
  fun b xs q=>by rw[bL (f b _ q fun z=>z)];exact q,fun b u xs q=>by rw[bL (f b _ q fun z=>z)];exact q,fun b ps q=>⟨#[],by rw[bL (f b _ q fun z=>z),q];simp⟩⟩
 by_cases a:b=e
 ·subst a;exact d
 ·exact⟨u,k b u a q⟩
end
def rB(h:Heap)(H:Hp):List Addr:=(Ce h.objs.size).filter fun a=>(H a).isSome
def kI(h:Heap)(H:Hp):Heap:=PySem.W.hideAll h (rB h H)
theorem LX(h:Heap)(H:Hp):(kI h H).objs.size=h.objs.size:=PySem.W.hideAll_size _ _
theorem LY{h:Heap}{H:Hp}{b:Addr}{o:Obj}(e:h.get? b=some o)(n:H b=none):(kI h H).get? b=some o:=
 PySem.W.hideAll_get _ e fun a=>by
  have q:(H b).isSome=true:=(Fp.mp a).2
  rw[n] at q;simp at q
theorem LZ{h:Heap}{H:Hp}{b:Addr}{o:Obj}(e:(kI h H).get? b=some o):h.get? b=some o/\H b=none:=by
 have a:h.get? b=some o:=PySem.W.of_hideAll (rB h H) e
 refine⟨a,?_⟩
 cases q:H b with
 | none=>rfl
 | some x=>
  have c:b∈rB h H:=Fp.mpr ⟨Eh.mpr (Ak a),by simp[q]⟩
  have z:(kI h H).get? b=none:=PySem.W.hideAll_none (rB h H) c
  rw[z] at e;cases e
structure Mod(K:Ae)(mg:Str->Option Ac)(base:Heap):Prop where
 kin:K.In base
 glob:base.Ns El mg
 blt:∃ mb,base.Ns builtinsNs mb/\∀ x:Str,x≠"__name__"->mb x=Cv x
 nolimit:base.NoLimit
structure Cx where
 prog:Bl
 w:Cb
 K:Ae
 mg:Str->Option Ac
 base:Heap
 A:Bv
 N:List Str
 s₀:Ah
 H₀:Hp
 env:Env
 outer:List Env
 stack:List Env
 ex:List Addr
 fn:Str->Bool
 calm:Bool
 pn:List (Addr×Obj)
 xe:Ac->Ah->Prop
def gU(l:List Env):List Addr:=l.filterMap (·.frame)
abbrev Cx.fs(X:Cx):List Addr:=gU X.outer
def u9(sc:Ke)(x:Str):Prop:=sc.names.lookup x=some .local\/sc.names.lookup x=some .cell\/sc.names.lookup x=some .free
def Loc(sc:Ke)(x:Str):Prop:=sc.names.lookup x=some .local\/sc.names.lookup x=some .cell
def Look(env:Env)(h:Heap)(m:Str->Option Ac)(x:Str)(u:Ac):Prop:=
 (env.kindOf x=some .local/\m x=some u)\/((env.kindOf x=some .cell\/env.kindOf x=some .free)/\∃ c,env.cells.lookup x=some c/\h.IsCell c (some u))
structure Cx.Ok(X:Cx):Prop where
 mod:Mod X.K X.mg X.base
 kind:X.env.scope.kind=.function
 glob:X.env.globals=El
 blt:X.env.builtins=builtinsNs
 above:X.s₀.heap.objs.size<=X.env.locals
 inj:∀ x y c,X.env.cells.lookup x=some c->X.env.cells.lookup y=some c->x=y
 has:∀ x,(X.env.kindOf x=some .cell\/X.env.kindOf x=some .free)->∃ c,X.env.cells.lookup x=some c
 cab:∀ x c,X.fn x=true->X.env.cells.lookup x=some c->X.s₀.heap.objs.size<=c
 hd:X.calm=true->X.A.handled=none
 frames:X.A.frames=some X.stack
 stk:X.stack=X.outer\/(X.stack=X.env :: X.outer/\X.env.frame=some X.env.locals)
 exf:∀ b∈X.ex,b≠X.env.locals/\∀ x c,X.env.cells.lookup x=some c->c≠b
 bs:∀ b o,X.base.get? b=some o->X.s₀.heap.get? b=some o/\X.H₀ b=none
 bsz:X.base.objs.size<=X.s₀.heap.objs.size
 noex:∀ b o,X.base.get? b=some o->b∉X.ex
 exfs:∀ b∈X.ex,b∉X.fs
 funs:X.s₀.heap.FunFrames X.base X.outer
 frf:∀ b∈X.fs,X.H₀ b=none
structure Inv(X:Cx)(pins:List (Addr×Obj))(σ:List (Option V))(H:Hp)(s:Ah):Prop where
 ok:X.Ok
 os:s.os=X.s₀.os
 bare:Nv s.gens
 base:Un X.fs X.ex X.H₀ H X.s₀.heap s.heap
 loc:∃ m,s.heap.Ns X.env.locals m/\∀ (i:Nat) (x:Str) (v:V),X.N[i]? = some x->σ[i]? = some (some v)->u9 X.env.scope x->∃ u,RelV v u/\Look X.env s.heap m x u
 cell:∀ x c,X.env.cells.lookup x=some c->∃ v,s.heap.IsCell c v
 free:H X.env.locals=none
 freeC:∀ x c,X.env.cells.lookup x=some c->H c=none
 pin:∀ p∈X.pn ++ pins,s.heap.get? p.1=some p.2/\H p.1=none/\p.1≠X.env.locals/\p.1∉X.fs/\∀ v,p.2.data≠.cell v
 hok:cM X.prog X.w H s.heap
 len:σ.length=X.N.length
section
variable {X:Cx}{pins:List (Addr×Obj)}{σ:List (Option V)}{H H':Hp}{s:Ah}{h':Heap}
theorem Cx.Ok.nofr(ok:X.Ok){b:Addr}{o:Obj}(e:X.base.get? b=some o):b∉X.fs:=fun hb=>by
 have:=(ok.funs.mem hb).1
 rw[e] at this;cases this
theorem Inv.bs(I:Inv X pins σ H s):∀ b o,X.base.get? b=some o->s.heap.get? b=some o/\H b=none:=fun b o e=>
 ⟨I.base.keep b o (I.ok.bs b o e).1 (I.ok.bs b o e).2 (I.ok.nofr e) (I.ok.noex b o e),I.base.free b o (I.ok.bs b o e).1 (I.ok.bs b o e).2 (I.ok.noex b o e)⟩
theorem Inv.bk(I:Inv X pins σ H s):∀ b o,X.base.get? b=some o->s.heap.get? b=some o:=fun b o e=>(I.bs b o e).1
theorem Inv.mod(I:Inv X pins σ H s):Mod X.K X.mg X.base:=I.ok.mod
theorem Inv.kIn(I:Inv X pins σ H s):X.K.In s.heap:=I.ok.mod.kin.keeps I.bk
theorem Inv.lt(I:Inv X pins σ H s):X.env.locals < s.heap.objs.size:=let ⟨_,hn,_⟩:=I.loc;hn.lt
theorem Inv.sz(I:Inv X pins σ H s):X.s₀.heap.objs.size<=s.heap.objs.size:=Bp I.ok.above (Ic I.lt)
theorem Inv.nofs(I:Inv X pins σ H s){a:Addr}(h:s.heap.objs.size<=a):a∉X.fs:=fun hb=>by
 obtain⟨_,o,b,_⟩:=I.ok.funs.mem hb
 exact absurd (Br (Ak b) (Bp I.sz h)) (Gr _)
theorem Inv.cne(I:Inv X pins σ H s):∀ x c,X.env.cells.lookup x=some c->c≠X.env.locals:=fun x c e z=>by
 obtain⟨v,o,d,hd⟩:=I.cell x c e
 obtain⟨m,⟨o',es,ep,a,b,_⟩,_⟩:=I.loc
 rw[z,a] at d;cases d;rw[b] at hd;cases hd
theorem Inv.funs(I:Inv X pins σ H s):s.heap.FunFrames X.base X.outer:=by
 have all:∀ (l:List Env),(∀ b∈gU l,b∈X.fs)->X.s₀.heap.FunFrames X.base l->s.heap.FunFrames X.base l:=by
  intro l
  induction l with
  | nil=>intro _ _;trivial
  | cons env r d=>
   intro hs hl
   obtain⟨hk,⟨L,o,hf,c,f,hd⟩,g⟩:=hl
   have a:L∈X.fs:=hs L (by unfold gU;rw[Gm,hf];exact Bi)
   obtain⟨sl,e⟩:=I.base.slot L o f (I.ok.frf L a) a fun z=>I.ok.exfs L z a
   exact⟨hk,⟨L,_,hf,c,e,hd⟩,d (fun b hb=>hs b (by unfold gU;rw[Gm,hf];exact Bd _ hb)) g⟩
 exact all X.outer (fun _ hb=>hb) I.ok.funs
theorem Inv.stack(I:Inv X pins σ H s):s.heap.FunFrames X.base X.stack:=by
 rcases I.ok.stk with e | ⟨e,hf⟩
 ·rw[e];exact I.funs
 ·rw[e]
  obtain⟨m,a,_⟩:=I.loc
  refine .cons (by rw[I.ok.kind];decide) hf a ?_ I.funs
  exact Heap.get?_none_of_le (Bp I.ok.bsz I.ok.above)
theorem Inv.stkSub(I:Inv X pins σ H s):∀ b∈gU X.stack,b∈X.env.locals :: X.fs:=fun b hb=>by
 rcases I.ok.stk with e | ⟨e,hf⟩
 ·rw[e] at hb;exact Bd _ hb
 ·rw[e] at hb
  unfold gU at hb
  rw[Gm,hf] at hb
  exact hb
theorem Inv.stkFree(I:Inv X pins σ H s):∀ b∈gU X.stack,H b=none:=fun b hb=>by
 rcases Az.mp (I.stkSub b hb) with e | hb
 ·rw[e];exact I.free
 ·obtain⟨_,o,a,_⟩:=I.ok.funs.mem hb
  exact I.base.free b o a (I.ok.frf b hb) fun z=>I.ok.exfs b z hb
theorem Inv.step{g':Array GenState}{t':Nat}{d':Drawn}{ch:List Addr}(I:Inv X pins σ H s)
  (f:∀ b∈ch,(b∈X.ex\/X.s₀.heap.objs.size<=b)/\b≠X.env.locals/\(∀ x c,X.env.cells.lookup x=some c->c≠b)/\∀ p∈X.pn ++ pins,p.1≠b)
  (keep:∀ b o,b≠X.env.locals->b∉X.fs->b∉ch->s.heap.get? b=some o->H b=none->h'.get? b=some o)
  (slot:∀ b o,b≠X.env.locals->b∈X.fs->b∉ch->s.heap.get? b=some o->H b=none->∃ sl,h'.get? b=some {o with slots:=sl}) (free:∀ b o,b∉ch->s.heap.get? b=some o->H b=none->H' b=none)
  (there:∀ b o,b∉ch->s.heap.get? b=some o->∃ o',h'.get? b=some o')
  (tups:∀ b xs,H b=some (.tup xs)->H' b=some (.tup xs)) (frzs:∀ b o u,H b=some (.frz o u)->H' b=some (.frz o u)) (tbls:∀ b ps,H b=some (.tbl ps)->∃ more,H' b=some (.tbl (ps ++ more)))
  (ns:∀ m,s.heap.Ns X.env.locals m->h'.Ns X.env.locals m) (hok:cM X.prog X.w H' h') (L:Nv g') :
  Inv X pins σ H' {s with heap:=h',gens:=g',drawn:=d',toks:=t'}:=by
 have B:∀ b o,X.s₀.heap.get? b=some o->b≠X.env.locals:=fun b o e=>Bf (Br (Ak e) I.ok.above)
 have t:∀ b o,X.s₀.heap.get? b=some o->b∉X.ex->b∉ch:=fun b o e a hb=>by
  rcases(f b hb).1 with z | z
  ·exact a z
  ·exact absurd (Br (Ak e) z) (Gr _)
 have h:∀ x c,X.env.cells.lookup x=some c->∀ v,s.heap.IsCell c v->h'.IsCell c v:=fun x c e v ⟨o,y,hd⟩=>by
  have g:c∉ch:=fun z=>(f c z).2.2.1 x c e rfl
  by_cases hc:c∈X.fs
  ·obtain⟨sl,q⟩:=slot c o (I.cne x c e) hc g y (I.freeC x c e)
   exact⟨_,q,hd⟩
  ·exact⟨o,keep c o (I.cne x c e) hc g y (I.freeC x c e),hd⟩
 refine⟨I.ok,I.os,L,⟨fun b o e n hb a=>?_,fun b o e n hb a=>?_,fun b o e n a=>?_,fun b o e a=>?_,fun b xs e=>tups b xs (I.base.tups b xs e),fun b o xs e=>frzs b o xs (I.base.frzs b o xs e),fun b ps e=>?_⟩,?_,fun x c e=>?_,?_,fun x c e=>?_,fun p E=>?_,hok,I.len⟩
 ·exact keep b o (B b o e) hb (t b o e a) (I.base.keep b o e n hb a) (I.base.free b o e n a)
 ·obtain⟨sl,j⟩:=I.base.slot b o e n hb a
  obtain⟨C,A⟩:=slot b _ (B b o e) hb (t b o e a) j (I.base.free b o e n a)
  exact⟨C,A⟩
 ·obtain⟨o',j⟩:=I.base.there b o e a
  exact free b o' (t b o e a) j (I.base.free b o e n a)
 ·obtain⟨o',j⟩:=I.base.there b o e a
  exact there b o' (t b o e a) j
 ·obtain⟨J,j⟩:=I.base.tbls b ps e
  obtain⟨G,A⟩:=tbls b _ j
  exact⟨J ++ G,by rw[A,Array.append_assoc]⟩
 ·obtain⟨m,F,hl⟩:=I.loc
  refine⟨m,ns m F,fun i x v j A K=>?_⟩
  obtain⟨u,r,l⟩:=hl i x v j A K
  refine⟨u,r,?_⟩
  rcases l with l | ⟨k,c,e,z⟩
  ·exact .inl l
  ·exact .inr ⟨k,c,e,h x c e _ z⟩
 ·obtain⟨v,z⟩:=I.cell x c e
  exact⟨v,h x c e v z⟩
 ·obtain⟨m,⟨o,_,_,y,_⟩,_⟩:=I.loc
  exact free _ o (fun z=>(f _ z).2.1 rfl) y I.free
 ·obtain⟨v,o,y,hd⟩:=I.cell x c e
  exact free c o (fun z=>(f c z).2.2.1 x c e rfl) y (I.freeC x c e)
 ·obtain⟨e,n,ne,D,d⟩:=I.pin p E
  have g:p.1∉ch:=fun z=>(f p.1 z).2.2.2 p E rfl
  exact⟨keep p.1 p.2 ne D g e n,free p.1 p.2 g e n,ne,D,d⟩
theorem Inv.un{t':Nat}(I:Inv X pins σ H s)(u:Un X.fs [] H H' s.heap h')(hok:cM X.prog X.w H' h'):Inv X pins σ H' {s with heap:=h',toks:=t'}:=by
 obtain⟨m,⟨o,es,ep,f,r⟩,_⟩:=id I.loc
 obtain⟨sl,h⟩:=u.any f I.free (by simp)
 exact I.step (g':=s.gens) (d':=s.drawn) (ch:=[]) (fun _ z=>nomatch z) (fun b o _ hb _ e n=>u.keep b o e n hb (by simp)) (fun b o _ hb _ e n=>u.slot b o e n hb (by simp)) (fun b o _ e n=>u.free b o e n (by simp)) (fun b o _ e=>u.there b o e (by simp)) u.tups u.frzs u.tbls (fun j g=>by
  obtain⟨o',d,c,a,i⟩:=g
  rw[f] at a;cases a
  exact⟨_,d,c,h,i⟩) hok I.bare
theorem Inv.call{g':Array GenState}{t':Nat}{d':Drawn}{ch:List Addr}(I:Inv X pins σ H s)(u:Un (gU X.stack) ch H H' s.heap h')(hok:cM X.prog X.w H' h')(j:Nv g')
  (a:∀ b∈ch,(b∈X.ex\/X.s₀.heap.objs.size<=b)/\b≠X.env.locals/\(∀ x c,X.env.cells.lookup x=some c->c≠b)/\∀ p∈X.pn ++ pins,p.1≠b) :
  Inv X pins σ H' {s with heap:=h',gens:=g',drawn:=d',toks:=t'}:=by
 obtain⟨m,⟨o,es,ep,i,r⟩,_⟩:=id I.loc
 obtain⟨sl,g⟩:=u.any i I.free fun z=>(a _ z).2.1 rfl
 exact I.step (ch:=ch) a (fun b o g hb hc e n=>u.keep b o e n (fun z=>(Az.mp (I.stkSub b z)).elim g hb) hc) (fun b o _ _ hc e n=>u.any e n hc) (fun b o hc e n=>u.free b o e n hc) (fun b o hc e=>u.there b o e hc) u.tups u.frzs u.tbls (fun q l=>by
  obtain⟨o',h,f,d,k⟩:=l
  rw[i] at d;cases d
  exact⟨_,h,f,g,k⟩) hok j
theorem Inv.turned{t':Nat}{it:Addr}(I:Inv X pins σ H s)(k:∀ b o,b≠it->s.heap.get? b=some o->h'.get? b=some o)(f:H it=none)(d:it≠X.env.locals)
  (h1:it∈X.ex\/X.s₀.heap.objs.size<=it) (h2:∀ x c,X.env.cells.lookup x=some c->c≠it) (g:∀ p∈X.pn ++ pins,p.1≠it):Inv X pins σ H {s with heap:=h',toks:=t'}:=by
 have a:∀ b u,H b=some u->b≠it:=fun b u e z=>by rw[z,f] at e;cases e
 refine I.step (g':=s.gens) (d':=s.drawn) (ch:=[it]) (fun b hb=>?_) (fun b o _ _ hc e _=>k b o (fun z=>hc (by simp[z])) e) (fun b o _ _ hc e _=>⟨o.slots,k b o (fun z=>hc (by simp[z])) e⟩) (fun _ _ _ _ n=>n)
  (fun b o hc e=>⟨o,k b o (fun z=>hc (by simp[z])) e⟩) (fun _ _ e=>e) (fun _ _ _ e=>e) (fun b ps e=>⟨#[],by rw[e];simp⟩) (fun m i=>?_) (fun b u e=>?_) I.bare
 ·have e:b=it:=by simpa using hb
  subst e
  exact⟨h1,d,h2,g⟩
 ·obtain⟨o,es,ep,h,r⟩:=i
  exact⟨o,es,ep,k _ o (Bq d) h,r⟩
 ·refine(I.hok b u e).stay (fun c v hc q=>k c v ?_ q) (fun _ q=>q) fun _ _ q=>q
  rcases hc with z | z
  ·rw[z];exact a b u e
  ·exact a c _ z
theorem Inv.tok(I:Inv X pins σ H s)(t:Nat):Inv X pins σ H {s with toks:=t}:=I.un (h':=s.heap) (t':=t) Un.refl I.hok
theorem Inv.kept{t':Nat}(I:Inv X pins σ H s)(k:∀ b u,s.heap.get? b=some u->h'.get? b=some u):Inv X pins σ H {s with heap:=h',toks:=t'}:=I.un (Un.kept k) (I.hok.kept k)
theorem Inv.laid{a:Addr}{o:HO}{t':Nat}(I:Inv X pins σ H s)(k:∀ b u,s.heap.get? b=some u->h'.get? b=some u)(c:s.heap.objs.size<=a)(new:cN X.prog X.w (aN H a o) h' a o) :
  Inv X pins σ (aN H a o) {s with heap:=h',toks:=t'}:=I.un (Un.laid k c (I.hok.fresh c)) (I.hok.laid k c new)
theorem Inv.write{x e:Addr}{o:HO}{t':Nat}(I:Inv X pins σ H s)(c:pA (H x))(d:e=x\/H e=some (.own x))(k:∀ b u,b≠e->s.heap.get? b=some u->h'.get? b=some u)(a:∃ u,h'.get? e=some u)
  (new:cN X.prog X.w (aN H x o) h' x o):Inv X pins σ (aN H x o) {s with heap:=h',toks:=t'}:=I.un (Un.write c d k a) (I.hok.write c d k a new)
theorem Inv.pins_of{a:List (Addr×Obj)}(I:Inv X pins σ H s)(h:∀ p∈a,s.heap.get? p.1=some p.2/\H p.1=none/\p.1≠X.env.locals/\p.1∉X.fs/\∀ v,p.2.data≠.cell v):Inv X a σ H s:=
 ⟨I.ok,I.os,I.bare,I.base,I.loc,I.cell,I.free,I.freeC,fun p b=>(Bo.mp b).elim (fun z=>I.pin p (Ep _ z)) (h p),I.hok,I.len⟩
theorem A1{N:List Str}(c:N.Nodup){i j:Nat}{x:Str}(a:N[i]? = some x)(b:N[j]? = some x):i=j:=by
 obtain⟨h1,e⟩:=Ao.mp a
 obtain⟨h2,d⟩:=Ao.mp b
 exact(List.getElem_inj c).mp (e.trans d.symm)
theorem A2{M:Mx}{A:Bv}{E:Ac->Ah->Prop}{i:Nat}{x:Str}{v:V}{u:Ac}{Q:Unit->Ah->Prop}(I:Inv X pins σ H s)(hN:X.N.Nodup)(hi:X.N[i]? = some x)(l:Loc X.env.scope x)(r:RelV v u)
  (h:∀ T,Inv X pins (σ.set i (some v)) H T->(∃ a,Dx a s.heap T.heap/\(a=X.env.locals\/X.env.cells.lookup x=some a))->Q () T) (hf:X.fn x=true\/X.env.scope.names.lookup x=some .local:=by first | exact .inl rfl | exact .inr rfl | assumption):Ax M A (storeName X.env x u) Q E s:=by
 obtain⟨m,S,hl⟩:=id I.loc
 have G:(X.env.scope.kind == .class || (X.env.scope.kind == .module && X.env.locals != X.env.globals))=false:=by rw[I.ok.kind];rfl
 have C:i < σ.length:=by rw[I.len];exact(Ao.mp hi).1
 have cne:=I.cne
 have g:∀ {a:Addr} {h':Heap},(∃ o,s.heap.get? a=some o/\H a=none)->Dx a s.heap h'->cM X.prog X.w H h':=fun {a h'} ha hs b ob e=>by
  obtain⟨_,_,t⟩:=ha
  refine(I.hok b ob e).stay (fun c R hc q=>(hs.2 c ?_).trans q) (fun _ q=>q) fun _ _ q=>q
  rintro rfl
  rcases hc with rfl | hc
  ·rw[t] at e;cases e
  ·rw[t] at hc;cases hc
 rcases l with hk | hk
 ·refine wpAny_storeName_local hk S (fun h' Z hs=>?_) G
  obtain⟨oL,_,_,U,_⟩:=id S
  refine h _ ⟨I.ok,I.os,I.bare,⟨fun b o e n hb l=>?_,fun b o e n hb l=>?_,I.base.free,fun b o e l=>?_,I.base.tups,I.base.frzs,I.base.tbls⟩,⟨_,Z,fun j y v' f B Y=>?_⟩,fun y c e=>?_,I.free,I.freeC,fun p hp=>?_,g ⟨oL,U,I.free⟩ hs,by simpa using I.len⟩ ⟨_,hs,.inl rfl⟩
  ·exact(hs.2 b (Bf (Br (Ak e) I.ok.above))).trans (I.base.keep b o e n hb l)
  ·obtain⟨sl,f⟩:=I.base.slot b o e n hb l
   exact⟨sl,(hs.2 b (Bf (Br (Ak e) I.ok.above))).trans f⟩
  ·obtain⟨o',f⟩:=I.base.there b o e l
   exact⟨o',(hs.2 b (Bf (Br (Ak e) I.ok.above))).trans f⟩
  ·by_cases F:j=i
   ·subst F
    rw[hi] at f;cases f
    rw[List.getElem?_set_self C] at B
    cases B
    exact⟨u,r,.inl ⟨hk,by simp⟩⟩
   ·rw[List.getElem?_set_ne (Bq F)] at B
    obtain⟨u',r',q⟩:=hl j y v' f B Y
    refine⟨u',r',?_⟩
    rcases q with⟨k,e⟩ | ⟨k,c,e,z⟩
    ·refine .inl ⟨k,?_⟩
     have:y≠x:=fun e=>F (A1 hN f (e ▸ hi))
     simp[this,e]
    ·exact .inr ⟨k,c,e,z.sameBut hs (cne y c e)⟩
  ·obtain⟨R,z⟩:=I.cell y c e
   exact⟨R,z.sameBut hs (cne y c e)⟩
  ·obtain⟨e,n,ne,W,d⟩:=I.pin p hp
   exact⟨(hs.2 p.1 ne).trans e,n,ne,W,d⟩
 ·have D:X.fn x=true:=by
   rcases hf with z | z
   ·exact z
   ·rw[z] at hk;cases hk
  obtain⟨c,hc⟩:=I.ok.has x (.inl hk)
  obtain⟨R,z⟩:=I.cell x c hc
  refine wpAny_storeName_cell I.ok.kind hk hc z (fun h' L hs=>?_)
  obtain⟨oc,J,K⟩:=id z
  refine h {s with heap:=h'} ⟨I.ok,I.os,I.bare,⟨fun b o e n hb l=>?_,fun b o e n hb l=>?_,I.base.free,fun b o e l=>?_,I.base.tups,I.base.frzs,I.base.tbls⟩,⟨m,S.sameBut hs (Bq (cne x c hc)),fun j y v' f B Y=>?_⟩,fun y P e=>?_,I.free,I.freeC,fun p hp=>?_,g ⟨oc,J,I.freeC x c hc⟩ hs,by simpa using I.len⟩ ⟨c,hs,.inr hc⟩
  ·exact(hs.2 b (Bf (Br (Ak e) (I.ok.cab x c D hc)))).trans (I.base.keep b o e n hb l)
  ·obtain⟨sl,f⟩:=I.base.slot b o e n hb l
   exact⟨sl,(hs.2 b (Bf (Br (Ak e) (I.ok.cab x c D hc)))).trans f⟩
  ·obtain⟨o',f⟩:=I.base.there b o e l
   exact⟨o',(hs.2 b (Bf (Br (Ak e) (I.ok.cab x c D hc)))).trans f⟩
  ·by_cases F:j=i
   ·subst F
    rw[hi] at f;cases f
    rw[List.getElem?_set_self C] at B
    cases B
    exact⟨u,r,.inr ⟨.inl hk,c,hc,L⟩⟩
   ·rw[List.getElem?_set_ne (Bq F)] at B
    obtain⟨u',r',q⟩:=hl j y v' f B Y
    refine⟨u',r',?_⟩
    rcases q with q | ⟨k,P,e,z'⟩
    ·exact .inl q
    ·refine .inr ⟨k,P,e,z'.sameBut hs ?_⟩
     rintro rfl
     exact F (A1 hN f (I.ok.inj _ _ _ e hc ▸ hi))
  ·by_cases O:P=c
   ·subst O;exact⟨_,L⟩
   ·obtain⟨w2,z2⟩:=I.cell y P e
    exact⟨w2,z2.sameBut hs O⟩
  ·obtain⟨e,n,ne,W,d⟩:=I.pin p hp
   refine⟨(hs.2 p.1 ?_).trans e,n,ne,W,d⟩
   intro q
   rw[q,J] at e
   have q':oc=p.2:=Dz e
   exact d R (by rw[<-q'];exact K)
theorem A5{M:Mx}{A:Bv}{E:Ac->Ah->Prop}{i:Nat}{x:Str}{v:V}{u:Ac}{Q:Unit->Ah->Prop}(I:Inv X pins σ H s)(b:X.N.Nodup)(hi:X.N[i]? = some x)(d:Loc X.env.scope x)(r:RelV v u)
  (h:∀ a,Inv X pins (σ.set i (some v)) H a->Q () a) (hf:X.fn x=true\/X.env.scope.names.lookup x=some .local:=by first | exact .inl rfl | exact .inr rfl | assumption):Ax M A (storeName X.env x u) Q E s:=
 A2 I b hi d r (fun a c _=>h a c) hf
theorem Inv.call'{a:Ah}{ch:List Addr}(I:Inv X pins σ H s)(f:a.os=s.os)(u:Un (gU X.stack) ch H H' s.heap a.heap)(hok:cM X.prog X.w H' a.heap)(g:Nv a.gens)
  (d:∀ b∈ch,(b∈X.ex\/X.s₀.heap.objs.size<=b)/\b≠X.env.locals/\(∀ x c,X.env.cells.lookup x=some c->c≠b)/\∀ p∈X.pn ++ pins,p.1≠b):Inv X pins σ H' a:=by
 obtain⟨h',g',d',t',o'⟩:=a
 have e:o'=s.os:=f
 subst e
 exact I.call (g':=g') (t':=t') (d':=d') u hok g d
end
abbrev XK:=Ac->Option Addr->Hp->Prop
abbrev St:=List (Option V)
abbrev VK:=V->Hp->Prop
abbrev TE:=St->Hp->VK->Prop
abbrev TT:=St->Hp->(Bool->Hp->Prop)->Prop
abbrev TA:=St->Hp->(List V->Hp->Prop)->Prop
structure kJ where
 nx:St->Hp->Prop
 rt:VK
 bk:St->Hp->Prop:=fun _ _=>False
 ct:St->Hp->Prop:=fun _ _=>False
abbrev TS:=kJ->St->Hp->Prop
def EP(X:Cx)(pins:List (Addr×Obj))(σ:St)(Q:VK)(u:Ac)(a:Ah):Prop:=∃ v H',Inv X pins σ H' a/\RelV v u/\Q v H'
def TP(X:Cx)(pins:List (Addr×Obj))(σ:St)(Q:Bool->Hp->Prop)(b:Bool)(a:Ah):Prop:=∃ H',Inv X pins σ H' a/\Q b H'
def AP(X:Cx)(pins:List (Addr×Obj))(σ:St)(Q:List V->Hp->Prop)(us:List Ac)(a:Ah):Prop:=∃ vs H',Inv X pins σ H' a/\aR vs us/\Q vs H'
def SP(X:Cx)(pins:List (Addr×Obj))(D:kJ)(f:Flow)(b:Ah):Prop:=
 match f with
 | .next=>∃ a H',Inv X pins a H' b/\D.nx a H'
 | .brk=>∃ a H',Inv X pins a H' b/\D.bk a H'
 | .cont=>∃ a H',Inv X pins a H' b/\D.ct a H'
 | .ret u=>∃ v a H',Inv X pins a H' b/\RelV v u/\D.rt v H'
def PE(X:Cx)(e:Expr)(t:TE):Prop:=
 ∀ (pins:List (Addr×Obj)) (s:Ah) (σ:St) (H:Hp) (Q:VK),Inv X pins σ H s->t σ H Q->Ax (Bk X.prog X.w) X.A (eval e X.env) (EP X pins σ Q) X.xe s
def PT(X:Cx)(e:Expr)(t:TT):Prop:=
 ∀ (pins:List (Addr×Obj)) (s:Ah) (σ:St) (H:Hp) (Q:Bool->Hp->Prop),Inv X pins σ H s->t σ H Q->Ax (Bk X.prog X.w) X.A (isTrue e X.env (eval e X.env)) (TP X pins σ Q) X.xe s
def PW(X:Cx)(e:Expr)(t:TT):Prop:=
 ∀ (a:Sem Ac) (pins:List (Addr×Obj)) (s:Ah) (σ:St) (H:Hp) (Q:Bool->Hp->Prop),Inv X pins σ H s->t σ H Q->Ax (Bk X.prog X.w) X.A (isTrue e X.env a) (TP X pins σ Q) X.xe s
theorem PW.pt{X:Cx}{e:Expr}{t:TT}(h:PW X e t):PT X e t:=h _
def PA(X:Cx)(es:List Expr)(t:TA):Prop:=
 ∀ (pos:Pos) (pins:List (Addr×Obj)) (s:Ah) (σ:St) (H:Hp) (Q:List V->Hp->Prop),Inv X pins σ H s->t σ H Q->Ax (Bk X.prog X.w) X.A (spliced (Hl pos (Bj es X.env))) (AP X pins σ Q) X.xe s
def PS(X:Cx)(st:Stmt)(t:TS):Prop:=
 ∀ (pins:List (Addr×Obj)) (s:Ah) (σ:St) (H:Hp) (D:kJ),Inv X pins σ H s->t D σ H->Ax (Bk X.prog X.w) X.A (exec st X.env) (SP X pins D) X.xe s
def fR(X:Cx)(st:List Stmt)(t:TS):Prop:=
 ∀ (pins:List (Addr×Obj)) (s:Ah) (σ:St) (H:Hp) (D:kJ),Inv X pins σ H s->t D σ H->Ax (Bk X.prog X.w) X.A (execs st X.env) (SP X pins D) X.xe s
theorem aZ{b:Type}{t:Sem b}{Q c:b->Ah->Prop}{M:Mx}{A:Bv}{E:Ac->Ah->Prop}{s:Ah}(h:Ax M A t Q E s)(d:∀ a s,Q a s->c a s):Ax M A t c E s:=Hw h d fun _ _ x=>x
section
variable {X:Cx}
def L0(i:Nat):TE:=fun σ H Q=>∃ v,σ[i]? = some (some v)/\Q v H
def tC(v:V):TE:=fun _ H Q=>Q v H
theorem L4{i:Nat}{x:Str}{pos:Pos}(f:X.N[i]? = some x)(g:u9 X.env.scope x)(hd:(x == ("__debug__" : Str))=false:=by decide)(b:(x == ("__classdict__" : Str))=false:=by decide):PE X (.Name x pos) (L0 i):=by
 intro pins s σ H Q I h
 obtain⟨v,e,h⟩:=h
 obtain⟨m,d,hl⟩:=I.loc
 obtain⟨u,r,l⟩:=hl i x v f e g
 have fin:EP X pins σ Q u s:=⟨v,H,I,r,h⟩
 rcases l with⟨hk,j⟩ | ⟨hk,c,hc,a⟩
 ·exact wpAny_Name (wpAny_loadName_local I.ok.kind hk d j fin) hd
 ·rcases hk with hk | hk
  ·exact wpAny_Name (wpAny_loadName_cell I.ok.kind hk hc a fin) hd
  ·exact wpAny_Name (wpAny_loadName_free I.ok.kind hk hc a fin b) hd
theorem L5{i j pos}:PE X (.Constant (.int i) j pos) (tC (.int i)):=fun _ _ _ H _ I h=>wpAny_Constant_int ⟨.int i,H,I.tok _,⟨_,rfl⟩,h⟩
theorem L6{b j pos}:PE X (.Constant (.bool b) j pos) (tC (.bl b)):=fun _ _ _ H _ I h=>Constant_bool ⟨.bl b,H,I,rfl,h⟩
theorem L7{x j pos}:PE X (.Constant (.str x) j pos) (tC (.str x)):=fun _ _ _ H _ I h=>Calls.Constant_str ⟨.str x,H,I.tok _,⟨_,rfl⟩,h⟩
def Gl(X:Cx)(x:Str):Prop:=X.env.kindOf x=some .globalImplicit
theorem rC{E:Ac->Ah->Prop}{pins:List (Addr×Obj)}{s:Ah}{σ:St}{H:Hp}{x:Str}{u:Ac}{pos:Pos}{Q:Ac->Ah->Prop}(I:Inv X pins σ H s)(a:Gl X x)(b:X.mg x=some u)(h:Q u s)
  (hd:(x == ("__debug__" : Str))=false:=by decide):Ax (Bk X.prog X.w) X.A (eval (.Name x pos) X.env) Q E s:=
 Calls.Name_function_global I.ok.kind a (Calls.loadGlobal_global (by rw[I.ok.glob];exact I.mod.glob.keeps I.bk) b h) hd
theorem i9{E:Ac->Ah->Prop}{pins:List (Addr×Obj)}{s:Ah}{σ:St}{H:Hp}{x:Str}{u:Ac}{pos:Pos}{Q:Ac->Ah->Prop}(I:Inv X pins σ H s)(b:Gl X x)(c:X.mg x=none)(d:Cv x=some u)(h:Q u s)
  (a:x≠"__name__":=by decide) (hd:(x == ("__debug__" : Str))=false:=by decide):Ax (Bk X.prog X.w) X.A (eval (.Name x pos) X.env) Q E s:=by
 obtain⟨mb,h1,h2⟩:=I.mod.blt
 exact Calls.Name_function_global I.ok.kind b (Calls.loadGlobal_builtin (by rw[I.ok.glob];exact I.mod.glob.keeps I.bk) c (by rw[I.ok.blt];exact h1.keeps I.bk) ((h2 x a).trans d) h) hd
theorem L8{x:Str}{v:V}{u:Ac}{pos:Pos}(a:Gl X x)(b:X.mg x=some u)(r:RelV v u)(hd:(x == ("__debug__" : Str))=false:=by decide):PE X (.Name x pos) (tC v):=
 fun _ _ _ H _ I h=>rC I a b ⟨v,H,I,r,h⟩ hd
theorem L9{x:Str}{v:V}{u:Ac}{pos:Pos}(b:Gl X x)(c:X.mg x=none)(d:Cv x=some u)(r:RelV v u)(a:x≠"__name__":=by decide)(hd:(x == ("__debug__" : Str))=false:=by decide):PE X (.Name x pos) (tC v):=
 fun _ _ _ H _ I h=>i9 I b c d ⟨v,H,I,r,h⟩ a hd
variable {a b:Expr}{ta tb:TE}{pos:Pos}
variable {tA tB':TT}{rest:List Expr}
def MA(t u:TT):TT:=fun σ H Q=>t σ H fun c H1=>if c=true then u σ H1 Q else Q false H1
def MB(t u:TT):TT:=fun σ H Q=>t σ H fun c H1=>if c=true then Q true H1 else u σ H1 Q
def MD(t:TT):TT:=fun σ H Q=>t σ H fun c H1=>Q (!c) H1
theorem ME(ha:PT X a tA):PW X (.BoolOp .And [a] pos) tA:=by
 intro d pins s σ H Q I h
 refine isTrue_and (aZ (ha pins s σ H Q I h) fun c b e=>?_)
 cases c with
 | true=>exact isTrue_and_nil e
 | false=>exact e
theorem MF(ha:PT X a tA):PW X (.BoolOp .Or [a] pos) tA:=by
 intro d pins s σ H Q I h
 refine isTrue_or (aZ (ha pins s σ H Q I h) fun c b e=>?_)
 cases c with
 | false=>exact isTrue_or_nil e
 | true=>exact e
theorem MG(ha:PT X a tA)(hb:PW X (.BoolOp .And (b :: rest) pos) tB'):PW X (.BoolOp .And (a :: b :: rest) pos) (MA tA tB'):=by
 intro g pins s σ H Q I h
 refine isTrue_and (aZ (ha pins s σ H _ I h) fun c f ⟨H1,e,d⟩=>?_)
 cases c with
 | true=>exact hb g pins f σ H1 Q e d
 | false=>exact⟨H1,e,d⟩
theorem MH(ha:PT X a tA)(hb:PW X (.BoolOp .Or (b :: rest) pos) tB'):PW X (.BoolOp .Or (a :: b :: rest) pos) (MB tA tB'):=by
 intro g pins s σ H Q I h
 refine isTrue_or (aZ (ha pins s σ H _ I h) fun c f ⟨H1,e,d⟩=>?_)
 cases c with
 | true=>exact⟨H1,e,d⟩
 | false=>exact hb g pins f σ H1 Q e d
theorem MI(ha:PT X a tA):PT X (.UnaryOp .Not a pos) (MD tA):=by
 intro pins s σ H Q I h
 exact isTrue_not (ha pins s σ H (fun c H1=>Q (!c) H1) I h)
def MJ(ta tb:TE):TE:=fun σ H Q=>ta σ H fun x H1=>∃ c,x=.bl c/\if c=true then tb σ H1 Q else Q (.bl false) H1
def MK(ta tb:TE):TE:=fun σ H Q=>ta σ H fun x H1=>∃ c,x=.bl c/\if c=true then Q (.bl true) H1 else tb σ H1 Q
theorem ML{op}{t:TE}(h:PE X a t):PE X (.BoolOp op [a] pos) t:=fun pins s σ H Q I hw=>BoolOp_one (h pins s σ H Q I hw)
theorem MM(ha:PE X a ta)(hb:PE X (.BoolOp .And (b :: rest) pos) tb):PE X (.BoolOp .And (a :: b :: rest) pos) (MJ ta tb):=by
 intro pins s σ H Q I h
 refine BoolOp_and (aZ (ha pins s σ H _ I h) fun v g ⟨x,H1,e,f,d⟩=>?_)
 obtain⟨c,rfl,d⟩:=d
 cases f
 refine Jg ?_
 cases c with
 | true=>exact hb pins g σ H1 Q e d
 | false=>exact⟨.bl false,H1,e,rfl,d⟩
theorem MN(ha:PE X a ta)(hb:PE X (.BoolOp .Or (b :: rest) pos) tb):PE X (.BoolOp .Or (a :: b :: rest) pos) (MK ta tb):=by
 intro pins s σ H Q I h
 refine BoolOp_or (aZ (ha pins s σ H _ I h) fun v g ⟨x,H1,e,f,d⟩=>?_)
 obtain⟨c,rfl,d⟩:=d
 cases f
 refine Jg ?_
 cases c with
 | false=>exact hb pins g σ H1 Q e d
 | true=>exact⟨.bl true,H1,e,rfl,d⟩
end
def a9(K:Ae)(H:Hp)(a:Addr)(xs:List V):Prop:=
 Rd H a (.lst xs)\/
  ∃ (o:Obj) (its:Array Ac) (n:Nat),K.lookup a=some o/\o.cls=.type "list"/\o.dict=none/\o.data=.seq its n/\its.size<=Aj/\aR xs its.toList
def bM(K:Ae)(H:Hp)(a:Addr)(xs:List V):Prop:=
 Rd H a (.tup xs)\/
  ∃ (o:Obj) (its:Array Ac) (n:Nat),K.lookup a=some o/\o.cls=.type "tuple"/\o.data=.seq its n/\its.size<=Aj/\aR xs its.toList
def MP:Ac->Option V
 | .none=>some .non
 | .bool b=>some (.bl b)
 | .int i _=>some (.int i)
 | .str x _=>some (.str x)
 | .bytes b _=>some (.byt b)
 | .float b _=>some (.flt b)
 | .ref a=>some (.ref a)
 | .type n=>some (.ty n)
 | _=>none
theorem RelV.abs{x:V}{u:Ac}(r:RelV x u):MP u=some x:=by
 cases x with
 | non=>cases r;rfl
 | bl _=>cases r;rfl
 | int _=>obtain⟨t,rfl⟩:=r;rfl
 | str _=>obtain⟨t,rfl⟩:=r;rfl
 | byt _=>obtain⟨t,rfl⟩:=r;rfl
 | flt _=>obtain⟨t,rfl⟩:=r;rfl
 | ref _=>cases r;rfl
 | ty _=>cases r;rfl
theorem RelV.inj{x y:V}{u:Ac}(r:RelV x u)(q:RelV y u):x=y:=Dz (r.abs.symm.trans q.abs)
theorem aR.inj:∀ {xs ys:List V} {us:List Ac},aR xs us->aR ys us->xs=ys
 | _,_,_,.nil,.nil=>rfl
 | _,_,_,.cons r t,.cons a t'=>by rw[r.inj a,aR.inj t t']
section
variable {X:Cx}{pins:List (Addr×Obj)}{σ:St}{H:Hp}{s:Ah}{a:Addr}{xs ys:List V}
theorem a9.of{K:Ae}(h:H a=some (.lst xs)):a9 K H a xs:=.inl (.inl h)
theorem bM.of{K:Ae}(h:H a=some (.tup xs)):bM K H a xs:=.inl (.inl h)
theorem Inv.list(I:Inv X pins σ H s)(h:a9 X.K H a xs):∃ its:List Ac,aR xs its/\PlainL s.heap a its.toArray/\xs.length<=Aj:=by
 rcases h with h | ⟨o,its,n,hk,hc,hd,hs,hz,r⟩
 ·obtain⟨z,its,n,r,e⟩:=h.ok I.hok
  exact⟨its,r,⟨_,n,e,rfl,rfl,rfl⟩,z⟩
 ·refine⟨its.toList,r,⟨o,n,I.kIn a o hk,hc,hd,by simpa using hs⟩,?_⟩
  have e:=r.length
  simp only[Bx] at e
  lia
theorem Inv.tuple(I:Inv X pins σ H s)(h:bM X.K H a xs):∃ its:List Ac,aR xs its/\IsTup s.heap a its.toArray/\xs.length<=Aj:=by
 rcases h with h | ⟨o,its,n,hk,hc,hs,hz,r⟩
 ·obtain⟨z,its,r,p⟩:=h.ok I.hok
  exact⟨its,r,p,z⟩
 ·refine⟨its.toList,r,⟨o,I.kIn a o hk,hc,n,by simpa using hs⟩,?_⟩
  have e:=r.length
  simp only[Bx] at e
  lia
theorem Inv.list_inj(I:Inv X pins σ H s)(h:a9 X.K H a xs)(h':a9 X.K H a ys):xs=ys:=by
 obtain⟨its,r,⟨o,n,e,_,_,d⟩,_⟩:=I.list h
 obtain⟨its',c,⟨g,f,b,_,_,d'⟩,_⟩:=I.list h'
 rw[e] at b;cases b
 rw[d] at d'
 injection d' with d1 _
 have:its=its':=by simpa using congrArg Array.toList d1
 subst this
 exact r.inj c
theorem Inv.tuple_inj(I:Inv X pins σ H s)(h:bM X.K H a xs)(h':bM X.K H a ys):xs=ys:=by
 obtain⟨its,r,⟨o,e,_,n,d⟩,_⟩:=I.tuple h
 obtain⟨its',c,⟨g,b,_,f,d'⟩,_⟩:=I.tuple h'
 rw[e] at b;cases b
 rw[d] at d'
 injection d' with d1 _
 have:its=its':=by simpa using congrArg Array.toList d1
 subst this
 exact r.inj c
end
abbrev Cx.wish(X:Cx)(E:Ac->Ah->Prop):Cx:={X with xe:=E}
abbrev Cx.nox(X:Cx):Cx:=X.wish fun _ _=>False
theorem Cx.Ok.wish{X:Cx}(ok:X.Ok)(E:Ac->Ah->Prop):(X.wish E).Ok:=
 ⟨ok.mod,ok.kind,ok.glob,ok.blt,ok.above,ok.inj,ok.has,ok.cab,ok.hd,ok.frames,ok.stk,ok.exf,ok.bs,ok.bsz,ok.noex,ok.exfs,ok.funs,ok.frf⟩
theorem Cx.Ok.unwish{X:Cx}{E:Ac->Ah->Prop}(ok:(X.wish E).Ok):X.Ok:=
 ⟨ok.mod,ok.kind,ok.glob,ok.blt,ok.above,ok.inj,ok.has,ok.cab,ok.hd,ok.frames,ok.stk,ok.exf,ok.bs,ok.bsz,ok.noex,ok.exfs,ok.funs,ok.frf⟩
section
variable {X:Cx}{pins:List (Addr×Obj)}{σ:St}{H:Hp}{s:Ah}{E:Ac->Ah->Prop}
theorem Inv.wish(I:Inv X pins σ H s)(E:Ac->Ah->Prop):Inv (X.wish E) pins σ H s:=⟨I.ok.wish E,I.os,I.bare,I.base,I.loc,I.cell,I.free,I.freeC,I.pin,I.hok,I.len⟩
theorem Inv.unwish(I:Inv (X.wish E) pins σ H s):Inv X pins σ H s:=⟨I.ok.unwish,I.os,I.bare,I.base,I.loc,I.cell,I.free,I.freeC,I.pin,I.hok,I.len⟩
theorem SP.unwish{D:kJ}{f:Flow}{s':Ah}(h:SP (X.wish E) pins D f s'):SP X pins D f s':=by
 cases f with
 | next=>obtain⟨σ',H',I,q⟩:=h;exact⟨σ',H',I.unwish,q⟩
 | brk=>obtain⟨σ',H',I,q⟩:=h;exact⟨σ',H',I.unwish,q⟩
 | cont=>obtain⟨σ',H',I,q⟩:=h;exact⟨σ',H',I.unwish,q⟩
 | ret u=>obtain⟨v,σ',H',I,r,q⟩:=h;exact⟨v,σ',H',I.unwish,r,q⟩
theorem fR.nox{st:List Stmt}{t:TS}(h:fR X.nox st t):fR X st t:=fun pins s σ H D I hw=>
 Hw (h pins s σ H D (I.wish _) hw) (fun _ _ q=>q.unwish) fun _ _ z=>Gu z
end
section
variable {X:Cx}{st:Stmt}{rest:List Stmt}{t u:TS}{e:Expr}{te:TE}{pos:Pos}
def MQ:TS:=fun D σ H=>D.nx σ H
def MR(t u:TS):TS:=fun D σ H=>t {D with nx:=u D} σ H
theorem MS:fR X [] MQ:=fun _ _ σ H _ I h=>Nw ⟨σ,H,I,h⟩
theorem MT(h1:PS X st t)(h2:fR X rest u):fR X (st :: rest) (MR t u):=by
 intro pins s σ H D I h
 refine wpAny_execs_cons (aZ (h1 pins s σ H {D with nx:=u D} I h) fun f s1 q=>?_)
 cases f with
 | next=>
  obtain⟨σ',H',I',q⟩:=q
  exact h2 pins s1 σ' H' D I' q
 | ret v=>exact q
 | brk=>exact q
 | cont=>exact q
theorem MU(h1:PS X st t):fR X [st] t:=by
 intro pins s σ H D I h
 refine wpAny_execs_cons (aZ (h1 pins s σ H D I h) fun f s1 q=>?_)
 cases f with
 | next=>exact Nw q
 | ret v=>exact q
 | brk=>exact q
 | cont=>exact q
theorem Inv.quiet{pins:List (Addr×Obj)}{σ:St}{H:Hp}{s:Ah}(I:Inv X pins σ H s):interactive X.env=false:=by simp[interactive,I.ok.kind]
def MV(te:TE):TS:=fun D σ H=>te σ H fun _ a=>D.nx σ a
theorem MW(b:PE X e te)(hs:Ki e none pos.line X.env=pure false:=by rfl):PS X (.Expr e pos) (MV te):=by
 intro pins s σ H D I h
 exact wpAny_Expr_any (aZ (b pins s σ H _ I h) fun v f ⟨x,c,d,g,a⟩=>⟨σ,c,d,a⟩) I.quiet hs
def MX(te:TE):TS:=fun D σ H=>te σ H D.rt
theorem MY(c:PE X e te):PS X (.Return (some e) pos) (MX te):=by
 intro pins s σ H D I h
 exact wpAny_Return_some (aZ (c pins s σ H _ I h) fun v g ⟨x,d,f,b,a⟩=>⟨x,σ,d,f,b,a⟩)
def MZ:TS:=fun D _ H=>D.rt .non H
theorem M8:PS X (.Return none pos) MZ:=fun _ _ σ H _ I h=>wpAny_Return_none ⟨.non,σ,H,I,rfl,h⟩
def M9(c:TT)(t u:TS):TS:=fun D σ H=>c σ H fun b a=>if b=true then t D σ a else u D σ a
theorem NA{c:Expr}{a b:List Stmt}{tc:TT}(hc:PT X c tc)(ha:fR X a t)(hb:fR X b u):PS X (.If c a b pos) (M9 tc t u):=by
 intro pins s σ H D I h
 refine wpAny_If (aZ (hc pins s σ H _ I h) fun d e ⟨i,g,f⟩=>?_)
 cases d with
 | true=>exact ha pins e σ i D g f
 | false=>exact hb pins e σ i D g f
def NB:TS:=fun _ _ _=>False
theorem NC:PS X st NB:=fun _ _ _ _ _ _ h=>h.elim
end
abbrev TG:=V->St->Hp->(St->Hp->Prop)->Prop
abbrev jA:=List V->St->Hp->(St->Hp->Prop)->Prop
def PG(X:Cx)(a:Expr)(t:TG):Prop:=
 ∀ (pins:List (Addr×Obj)) (s:Ah) (σ:St) (H:Hp) (v:V) (u:Ac) (Q:St->Hp->Prop),Inv X pins σ H s->RelV v u->t v σ H Q->
  Ax (Bk X.prog X.w) X.A (Na a X.env u) (fun _ d=>∃ b c,Inv X pins b c d/\Q b c) X.xe s
def iQ(X:Cx)(ts:List Expr)(t:jA):Prop:=
 ∀ (pins:List (Addr×Obj)) (s:Ah) (σ:St) (H:Hp) (vs:List V) (us:List Ac) (Q:St->Hp->Prop),Inv X pins σ H s->aR vs us->t vs σ H Q->
  Ax (Bk X.prog X.w) X.A (assignInOrder ((He ts X.env).map (·.2)) us) (fun _ c=>∃ a b,Inv X pins a b c/\Q a b) X.xe s
abbrev rD:=V->V->V->Hp->(Hp->Prop)->Prop
def rE(X:Cx)(t:rD):Prop:=
 ∀ (pins:List (Addr×Obj)) (s:Ah) (σ:St) (H:Hp) (o i v:V) (c a u:Ac) (Q:Hp->Prop),Inv X pins σ H s->RelV o c->RelV i a->RelV v u->t o i v H Q->
  Ax (Bk X.prog X.w) X.A (setItem c a u) (fun _ d=>∃ b,Inv X pins σ b d/\Q b) X.xe s
section
variable {X:Cx}{pos:Pos}
def vA(i:Nat):TG:=fun v σ H Q=>Q (σ.set i (some v)) H
theorem ND{i:Nat}{x:Str}(b:X.N.Nodup)(hi:X.N[i]? = some x)(c:Loc X.env.scope x)(hf:X.fn x=true\/X.env.scope.names.lookup x=some .local:=by first | exact .inl rfl | exact .inr rfl | assumption):PG X (.Name x pos) (vA i):=by
 intro pins s σ H v u Q I r h
 exact wpAny_assign_Name (A5 I b hi c r (fun d a=>⟨_,H,a,h⟩) hf)
def NF:jA:=fun vs σ H Q=>vs=[]/\Q σ H
def NG(t:TG)(u:jA):jA:=fun vs σ H Q=>∃ v r,vs=v :: r/\t v σ H fun a b=>u r a b Q
theorem NH:iQ X [] NF:=by
 intro pins s σ H vs us Q I r h
 obtain⟨e,h⟩:=h
 subst e
 cases r
 exact assignInOrder_nil ⟨σ,H,I,h⟩
theorem NI{e:Expr}{es:List Expr}{t:TG}{u:jA}(k:PG X e t)(d:iQ X es u)
  (hs:(He (e :: es) X.env).map (·.2)=Na e X.env :: (He es X.env).map (·.2):=by rfl):iQ X (e :: es) (NG t u):=by
 intro pins s σ H vs us Q I r h
 obtain⟨v,l,f,h⟩:=h
 subst f
 cases r with
 | cons r g=>
  rw[hs]
  refine assignInOrder_cons (aZ (k pins s σ H _ _ _ I r h) fun _ b ⟨a,i,j,c⟩=>?_)
  exact d pins b a i _ _ Q j g c
def NJ(K:Ae)(n:Nat)(t:jA):TG:=fun v σ H Q=>∃ a xs,v=.ref a/\bM K H a xs/\xs.length=n/\t xs σ H Q
theorem NK{es:List Expr}{k:Nat}{t:jA}{n:Nat}(hc:X.calm=true)(h:iQ X es t)
  (f:(He es X.env).length=n:=by rfl) (c:(He es X.env).findIdx? (·.1)=none:=by rfl):PG X (.Tuple es k pos) (NJ X.K n t):=by
 intro pins s σ H v u Q I r hw
 obtain⟨a,xs,g,i,hl,hw⟩:=hw
 subst g
 cases r
 obtain⟨its,d,ht,hz⟩:=I.tuple i
 refine assign_Tuple_tuple (I.ok.hd hc) ht (by simp[f,<-hl,d.length]) c fun h' j=>?_
 have l:Inv X pins σ H {s with heap:=h'}:=I.kept (t':=s.toks) fun b o e=>j b o (Bf (Ak e)) e
 exact h pins _ σ H xs _ Q l (by simpa using d) hw
def NL(b a:TE)(t:rD):TG:=fun v σ H Q=>b σ H fun o d=>a σ d fun i c=>t o i v c fun e=>Q σ e
theorem NN{o i:Expr}{c d:TE}{t:rD}(n:PE X o c)(hi:PE X i d)(hs:rE X t)
  (ha:∀ v,Na (.Subscript o i pos) X.env v=(do
   let a <-Ip [v] (eval o X.env)
   let b <-Ip [v,a] (eval i X.env)
   Oj pos
   Ip [v,a,b] (setItem a b v)
   release [v,a,b] []):=by intro _;rfl):PG X (.Subscript o i pos) (NL c d t):=by
 intro pins s σ H v u Q I r h
 rw[ha]
 refine Aa (Ct (aZ (n pins s σ H _ I h) fun a g ⟨x,l,B,A,j⟩=>?_))
 refine Aa (Ct (aZ (hi pins g σ l _ B j) fun b q ⟨y,w,p,e,z⟩=>?_))
 refine Aa (Oq (Aa (Ct (aZ (hs pins q σ w x y v a b u _ p A e r z) fun _ C ⟨m,k,f⟩=>?_))))
 exact wpAny_release ⟨σ,m,k,f⟩
def rF(te:TE)(g:TG):TS:=fun D σ H=>te σ H fun x a=>g x σ a D.nx
theorem NO{tg e:Expr}{te:TE}{g:TG}(f:PE X e te)(i:PG X tg g)(hs:swapsWithSole [tg] e pos.line X.env=pure false:=by rfl)(hw:swappedStores [tg] e X.env=pure none:=by rfl)
  (k:(He [tg] X.env).map (·.2)=[Na tg X.env]:=by rfl):PS X (.Assign [tg] e pos) (rF te g):=by
 intro pins s σ H D I h
 refine wpAny_Assign_stores (aZ (f pins s σ H _ I h) fun v a ⟨x,j,d,c,b⟩=>?_) hs hw
 rw[k]
 exact aZ (i pins a σ j x v _ d c b) fun _ l q=>q
theorem NP{i:Nat}{x:Str}{e:Expr}{te:TE}{a:Pos}(d:X.N.Nodup)(hi:X.N[i]? = some x)(j:Loc X.env.scope x)(g:PE X e te)(hs:Ki e (some (.Name x a)) pos.line X.env=pure false:=by rfl)(hf:X.fn x=true\/X.env.scope.names.lookup x=some .local:=by first | exact .inl rfl | exact .inr rfl | assumption) :
  PS X (.Assign [.Name x a] e pos) (rF te (vA i)):=by
 intro pins s σ H D I h
 refine wpAny_Assign_Name (aZ (g pins s σ H _ I h) fun v m ⟨y,k,l,f,b⟩=>?_) hs
 exact A5 l d hi j f (fun n c=>⟨_,k,c,b⟩) hf
end
section
variable {X:Cx}{pos:Pos}
def NQ(c:TT)(tb:TS):TS:=fun D σ H=>∃ W:Nat->St->Hp->Prop,(∃ m,W m σ H)/\∀ m σ H,W m σ H->
 c σ H fun b f=>if b=true then ∃ N:St->Hp->Prop,(∀ a d,N a d->∃ e,e < m/\W e a d)/\tb {D with nx:=N,ct:=N,bk:=D.nx} σ f else D.nx σ f
theorem NR{c:Expr}{body:List Stmt}{tc:TT}{tb:TS}(hp:PassesOwn (Bk X.prog X.w) X.A X.env X.xe)(hc:PT X c tc)(hb:fR X body tb):PS X (.While c body [] pos) (NQ tc tb):=by
 intro pins s σ H D I h
 obtain⟨W,⟨m0,w0⟩,turn⟩:=h
 refine wpAny_While (codeAny_whileLoop (fun n s'=>∃ σ' H',Inv X pins σ' H' s'/\W n σ' H') ?_ m0 ⟨σ,H,I,w0⟩)
 rintro n s1 ⟨σ1,H1,I1,w1⟩
 refine Iw hp (aZ (hc pins s1 σ1 H1 _ I1 (turn n σ1 H1 w1)) fun b s2 ⟨H2,I2,q2⟩=>?_)
 cases b with
 | true=>
  obtain⟨N,hN,q2⟩:=q2
  rw[if_pos rfl]
  refine Iw hp (aZ (hb pins s2 σ1 H2 _ I2 q2) fun f s3 q3=>?_)
  cases f with
  | next=>
   obtain⟨σ3,H3,I3,n3⟩:=q3
   obtain⟨m',hm,w3⟩:=hN σ3 H3 n3
   exact⟨m',hm,σ3,H3,I3,w3⟩
  | cont=>
   obtain⟨σ3,H3,I3,n3⟩:=q3
   obtain⟨m',hm,w3⟩:=hN σ3 H3 n3
   exact⟨m',hm,σ3,H3,I3,w3⟩
  | brk=>exact q3
  | ret v=>exact q3
 | false=>
  rw[if_neg Am]
  exact Nw ⟨σ1,H2,I2,q2⟩
end
structure It where
 go:Nat->Hp->Prop
 yld:Nat->Hp->V->Hp->Prop
 stop:Nat->Hp->Prop
def iD(X:Cx)(pins:List (Addr×Obj))(H:Hp)(b:Addr):Prop:=
 H b=none/\b≠X.env.locals/\b∉X.fs/\(b∈X.ex\/X.s₀.heap.objs.size<=b)/\(∀ x c,X.env.cells.lookup x=some c->c≠b)/\∀ p∈X.pn ++ pins,p.1≠b
theorem Inv.fpOk{X:Cx}{pins:List (Addr×Obj)}{σ:St}{H a:Hp}{s:Ah}{b:Addr}(I:Inv X pins σ H s)(hb:s.heap.objs.size<=b)(f:a b=none):iD X pins a b:=by
 refine⟨f,Dy (Br I.lt hb),I.nofs hb,.inr (Bp I.sz hb),fun x c e z=>?_,fun p d z=>?_⟩
 ·obtain⟨v,q⟩:=I.cell x c e
  exact absurd (Br q.lt (by rw[z];exact hb)) (Gr _)
 ·exact absurd (Br (Ak (I.pin p d).1) (by rw[z];exact hb)) (Gr _)
structure kK(P:Bl)(w:Cb)(K:Ae)(tg:Expr)(J:It)(fp:List Addr)(it:Addr)(tn:Nat->Heap->Prop):Prop where
 mem:it∈fp
 obj:∀ i h,tn i h->∀ b∈fp,∃ o,h.get? b=some o/\∀ v,o.data≠.cell v
 keep:∀ i h h',tn i h->(∀ b∈fp,∀ o,h.get? b=some o->h'.get? b=some o)->tn i h'
 item:∀ (X:Cx),X.prog=P->X.w=w->X.K=K->X.calm=true->∀ (i:Nat) (pins:List (Addr×Obj)) (s:Ah) (σ:St) (H:Hp) (E:Ac->Ah->Prop),Inv X pins σ H s->(∀ b∈fp,iD X pins H b)->tn i s.heap->J.go i H->
  Ax (Bk P w) X.A (Ia (.ref it)) (fun r s1=>∃ u,r=some u/\
   Ax (Bk P w) X.A (Ny tg (.ref it) u) (fun _ s2=>∃ x H',Inv X pins σ H' s2/\RelV x u/\J.yld i H x H'/\tn (i + 1) s2.heap/\∀ b∈fp,H' b=none) E s1) E s
 done:∀ (X:Cx),X.prog=P->X.w=w->X.K=K->X.calm=true->∀ (i:Nat) (pins:List (Addr×Obj)) (s:Ah) (σ:St) (H:Hp) (E:Ac->Ah->Prop),Inv X pins σ H s->(∀ b∈fp,iD X pins H b)->tn i s.heap->J.stop i H->
  Ax (Bk P w) X.A (Ia (.ref it)) (fun r s1=>r=none/\Inv X pins σ H s1) E s
 self:∀ (A:Bv) (i:Nat) (s:Ah) (Q:Ac->Ah->Prop) (E:Ac->Ah->Prop),tn i s.heap->Q (.ref it) s->Ax (Bk P w) A (Og (.ref it)) Q E s
abbrev TI:=St->Hp->(It->Hp->Prop)->Prop
def pB(X:Cx)(pins:List (Addr×Obj))(σ:St)(tg:Expr)(R:It->Hp->Prop)(a:Ac)(e:Ah):Prop:=
 ∃ (it:Addr) (fp:List Addr) (d:Nat->Heap->Prop) (J:It) (c:Hp),a=.ref it/\Inv X pins σ c e/\kK X.prog X.w X.K tg J fp it d/\d 0 e.heap/\(∀ b∈fp,iD X pins c b)/\R J c
def PI(X:Cx)(tg a:Expr)(c:TI):Prop:=
 ∀ (pins:List (Addr×Obj)) (s:Ah) (σ:St) (H:Hp) (R:It->Hp->Prop),Inv X pins σ H s->c σ H R->
  Ax (Bk X.prog X.w) X.A (eval a X.env) (fun v b=>Ax (Bk X.prog X.w) X.A (Og v) (pB X pins σ tg R) X.xe b) X.xe s
theorem vB{M:Mx}{A:Bv}{E:Ac->Ah->Prop}{s:Ah}{tg:Expr}{it:Addr}{u:Ac}{o:Obj}{n:String}{vs:Array Ac}{Q:Unit->Ah->Prop}(b:s.heap.get? it=some o)(hc:o.cls=.type n)(hd:o.data=.fields vs)
  (c : ["enumerate","zip","dict_itemiterator","dict_reverseitemiterator","odict_iterator","itertools.zip_longest","itertools.pairwise"].contains n=false) (a:Q () s):Ax M A (Ny tg (.ref it) u) Q E s:=by
 unfold Ny
 cases tg <;> first
  | exact Ag a
  | (cases u <;> first
    | exact Ag a
    | (refine Aa (wpAny_load b ?_)
       rw[hc,hd]
       show Ax M A (if (["enumerate","zip","dict_itemiterator","dict_reverseitemiterator","odict_iterator","itertools.zip_longest","itertools.pairwise"].contains n && vs[0]? == some (Gv _))=true then _ else _) Q E s
       rw[if_neg (by intro h;rw[c,Bool.false_and] at h;cases h)]
       exact Ag a))
def nL(K:Ae)(a:Addr):It:=
 ⟨fun i H=>∃ xs x,a9 K H a xs/\xs[i]? = some x,fun i H x b=>b=H/\∀ xs,a9 K H a xs->xs[i]? = some x,fun i H=>∃ xs,a9 K H a xs/\xs.length<=i⟩
def vD(K:Ae)(a:Addr):It:=
 ⟨fun i H=>∃ xs x,bM K H a xs/\xs[i]? = some x,fun i H x b=>b=H/\∀ xs,bM K H a xs->xs[i]? = some x,fun i H=>∃ xs,bM K H a xs/\xs.length<=i⟩
def pC(lo:Int)(n:Nat):It:=⟨fun i _=>i < n,fun i H x a=>a=H/\x=.int (lo + i),fun i _=>n<=i⟩
theorem NS{P:Bl}{w:Cb}{K:Ae}{tg:Expr}(a it:Addr):kK P w K tg (nL K a) [it] it (fun i h=>h.IsListIter it a i) where
 mem:=by simp
 obj:=fun i h st b hb=>by
  have e:b=it:=by simpa using hb
  subst e
  obtain⟨o,e,c,d⟩:=st
  exact⟨o,e,fun v z=>by rw[d] at z;cases z⟩
 keep:=fun i h h' st k=>st.at fun o e=>k it (by simp) o e
 item:=by
  intro X r hw l hc i pins s σ H E I hf st n
  subst r hw l
  obtain⟨xs,x,f,y⟩:=n
  obtain⟨its,q,p,hz⟩:=I.list f
  obtain⟨u,F,C⟩:=q.get y
  obtain⟨m,j,D,t,A,g⟩:=hf it (by simp)
  refine wpAny_pyNext_list_item st p.isList (x:=u) (by simpa using F) fun h' st' sb=>?_
  have G:Inv X pins σ H {s with heap:=h'}:=I.turned (t':=s.toks) (fun b o hb e=>(sb.2 b hb).trans e) m j t A g
  obtain⟨o,e,c,d⟩:=id st'
  exact⟨u,rfl,vB (s:={s with heap:=h'}) e c d (by decide) ⟨x,H,G,C,⟨rfl,fun ys B=>by rw[I.list_inj B f];exact y⟩,st',fun b hb=>(hf b hb).1⟩⟩
 done:=by
  intro X r hw l hc i pins s σ H E I hf st n
  subst r hw l
  obtain⟨xs,f,y⟩:=n
  obtain⟨its,q,p,hz⟩:=I.list f
  obtain⟨m,j,D,t,A,g⟩:=hf it (by simp)
  have hl:=q.length
  exact wpAny_pyNext_list_end (I.ok.hd hc) st p.isList (by simp;lia) fun h' eb=>⟨rfl,I.turned (t':=s.toks) (fun b o hb e=>eb b o hb e) m j t A g⟩
 self:=fun _ _ _ _ _ st h=>wpAny_pyIter_listiter st h
theorem NT{P:Bl}{w:Cb}{K:Ae}{tg:Expr}(a it:Addr):kK P w K tg (vD K a) [it] it (fun i h=>h.IsTupleIter it a i) where
 mem:=by simp
 obj:=fun i h st b hb=>by
  have e:b=it:=by simpa using hb
  subst e
  obtain⟨o,e,c,d⟩:=st
  exact⟨o,e,fun v z=>by rw[d] at z;cases z⟩
 keep:=fun i h h' st k=>st.at fun o e=>k it (by simp) o e
 item:=by
  intro X r hw l hc i pins s σ H E I hf st n
  subst r hw l
  obtain⟨xs,x,f,y⟩:=n
  obtain⟨its,q,p,hz⟩:=I.tuple f
  obtain⟨u,F,C⟩:=q.get y
  obtain⟨m,j,D,t,A,g⟩:=hf it (by simp)
  refine wpAny_pyNext_tuple_item st (show s.heap.IsTuple a its.toArray from p) (x:=u) (by simpa using F) fun h' st' sb=>?_
  have G:Inv X pins σ H {s with heap:=h'}:=I.turned (t':=s.toks) (fun b o hb e=>(sb.2 b hb).trans e) m j t A g
  obtain⟨o,e,c,d⟩:=id st'
  exact⟨u,rfl,vB (s:={s with heap:=h'}) e c d (by decide) ⟨x,H,G,C,⟨rfl,fun ys B=>by rw[I.tuple_inj B f];exact y⟩,st',fun b hb=>(hf b hb).1⟩⟩
 done:=by
  intro X r hw l hc i pins s σ H E I hf st n
  subst r hw l
  obtain⟨xs,f,y⟩:=n
  obtain⟨its,q,p,hz⟩:=I.tuple f
  obtain⟨m,j,D,t,A,g⟩:=hf it (by simp)
  have hl:=q.length
  exact wpAny_pyNext_tuple_end (I.ok.hd hc) st (show s.heap.IsTuple a its.toArray from p) (by simp;lia) fun h' eb=>⟨rfl,I.turned (t':=s.toks) (fun b o hb e=>eb b o hb e) m j t A g⟩
 self:=fun _ _ _ _ _ st h=>wpAny_pyIter_tupleiter st h
theorem NU{P:Bl}{w:Cb}{K:Ae}{tg:Expr}(it:Addr)(lo:Int)(n:Nat):kK P w K tg (pC lo n) [it] it (fun i h=>IsRangeIter h it (lo + (i:Nat) * 1) ((n:Int) - (i:Nat)) 1) where
 mem:=by simp
 obj:=fun i h st b hb=>by
  have e:b=it:=by simpa using hb
  subst e
  exact⟨_,st,fun v z=>by
   have p:Data.fields _=Data.cell v:=z
   cases p⟩
 keep:=fun i h h' st k=>k it (by simp) _ st
 item:=by
  intro X j hw d hc i pins s σ H E I hf st f
  subst j hw d
  obtain⟨g,c,q,l,m,a⟩:=hf it (by simp)
  have W:=Walks.range (prog:=X.prog) (w:=X.w) (I.ok.hd hc) it lo 1 n
  refine W.item i s _ _ f st fun v h' tk r st' u=>?_
  obtain⟨t,rfl⟩:=r
  have x:Inv X pins σ H {s with heap:=h',toks:=tk}:=I.turned (fun b o hb e=>u b o (by simpa using hb) e) g c l m a
  refine⟨_,rfl,vB (s:={s with heap:=h',toks:=tk}) (n:="range_iterator") st' rfl rfl (by decide) ⟨.int (lo + i),H,x,⟨t,?_⟩,⟨rfl,rfl⟩,st',fun b hb=>(hf b hb).1⟩⟩
  rw[Int.mul_one]
 done:=by
  intro X j hw d hc i pins s σ H E I hf st f
  subst j hw d
  obtain⟨g,c,q,l,m,a⟩:=hf it (by simp)
  exact wpAny_pyNext_range_end (I.ok.hd hc) st (by have:n<=i:=f;lia) fun h' eb=>⟨rfl,I.turned (t':=s.toks) (fun b o hb e=>eb b o hb e) g c l m a⟩
 self:=fun _ _ _ _ _ st h=>wpAny_pyIter_rangeiter st h
section
variable {X:Cx}{tg:Expr}
theorem A6{pins:List (Addr×Obj)}{σ:St}{H:Hp}{s:Ah}{R:It->Hp->Prop}{E:Ac->Ah->Prop}{lo hi:Int}{t u v:Tok}{tk:Nat}(I:Inv X pins σ H s)(i : -(2 ^ 62)<=lo)(c:lo < 2 ^ 62)(h : -(2 ^ 62)<=hi)(f:hi < 2 ^ 62)
  (q:R (pC lo (hi - lo).toNat) H):Ax (Bk X.prog X.w) X.A (Og (.ref s.heap.objs.size)) (pB X pins σ tg R) E {s with heap:=s.heap.push {cls:=.type "range",data:=.fields #[.int lo t,.int hi u,.int 1 v]},toks:=tk}:=by
 refine wpAny_pyIter_range (IsRange.new ..) (small_one i c h f) ?_
 have a:Inv X pins σ H {s with heap:=s.heap.push {cls:=.type "range",data:=.fields #[.int lo t,.int hi u,.int 1 v]},toks:=tk}:=I.kept fun b o e=>Af _ e
 refine⟨(s.heap.push {cls:=.type "range",data:=.fields #[.int lo t,.int hi u,.int 1 v]}).objs.size,[(s.heap.push {cls:=.type "range",data:=.fields #[.int lo t,.int hi u,.int 1 v]}).objs.size],_,_,H,rfl,
  a.kept (t':=tk) fun b o e=>Af _ e,NU _ lo (hi - lo).toNat,?_,fun b hb=>?_,q⟩
 ·have g:lo + ((0:Nat):Int) * 1=lo:=by simp
  have d:(((hi - lo).toNat:Nat):Int) - ((0:Nat):Int)=Builtin.Range.rangeSize lo hi 1:=by rw[rangeSize_one];split <;> lia
  show IsRangeIter _ _ (lo + ((0:Nat):Int) * 1) ((((hi - lo).toNat:Nat):Int) - ((0:Nat):Int)) 1
  rw[g,d]
  exact Ap _ rfl
 ·have e:b=(s.heap.push {cls:=.type "range",data:=.fields #[.int lo t,.int hi u,.int 1 v]}).objs.size:=by simpa using hb
  subst e
  exact a.fpOk (Ai _) (a.hok.fresh (Ai _))
def NV(ta:TA):TI:=fun σ H R=>ta σ H fun vs a=>∃ j:Int,vs=[.int j]/\-(2 ^ 62)<=j/\j < 2 ^ 62/\R (pC 0 j.toNat) a
def NW(ta:TA):TI:=fun σ H R=>ta σ H fun vs a=>∃ i j:Int,vs=[.int i,.int j]/\(-(2 ^ 62)<=i/\i < 2 ^ 62/\-(2 ^ 62)<=j/\j < 2 ^ 62)/\R (pC i (j - i).toNat) a
theorem NX{a:Expr}{ta:TA}{p pos:Pos}(g:Gl X "range")(k:X.mg "range" = none)(ha:PA X [a] ta)(hs:Bj [a] X.env=[(false,eval a X.env)]:=by rfl):PI X tg (.Call (.Name "range" p) [a] [] pos) (NV ta):=by
 intro pins s σ H R I h
 refine Call_ (i9 I g k boot_range (Dv (aZ (ha pos pins s σ H _ I h) fun us l ⟨vs,m,i,c,b⟩=>?_) hs rfl))
 obtain⟨j,e,b,d,q⟩:=b
 subst e
 cases c with
 | cons r f=>
  cases f
  obtain⟨t,rfl⟩:=r
  exact call_range_1 (A6 i (by lia) (by lia) b d (by simpa using q))
theorem NY{a b:Expr}{ta:TA}{p pos:Pos}(u:Gl X "range")(v:X.mg "range" = none)(ha:PA X [a,b] ta)(hs:Bj [a,b] X.env=[(false,eval a X.env),(false,eval b X.env)]:=by rfl)(c:Bj [b] X.env=[(false,eval b X.env)]:=by rfl) :
  PI X tg (.Call (.Name "range" p) [a,b] [] pos) (NW ta):=by
 intro pins s σ H R I h
 refine Call_ (i9 I u v boot_range (Dv (aZ (ha pos pins s σ H _ I h) fun us w ⟨vs,x,o,m,d⟩=>?_) (by rw[hs,c]) (by rw[c];rfl)))
 obtain⟨i,j,e,⟨d,n,g,k⟩,q⟩:=d
 subst e
 cases m with
 | cons r f=>
  cases f with
  | cons l f=>
   cases f
   obtain⟨t,rfl⟩:=r
   obtain⟨t',rfl⟩:=l
   exact call_range_2 (A6 o d n g k q)
def NZ(f:TI)(g:TG)(tb:TS):TS:=fun D σ H=>f σ H fun J h=>∃ W:Nat->Nat->St->Hp->Prop,(∃ m,W 0 m σ h)/\∀ i m σ H,W i m σ H->
 (J.stop i H/\D.nx σ H)\/(J.go i H/\∃ N:St->Hp->Prop,(∀ b a,N b a->∃ d,d < m/\W (i + 1) d b a)/\∀ x a,J.yld i H x a->g x σ a fun c e=>tb {D with nx:=N,ct:=N,bk:=D.nx} c e)
def pD(fp:List Addr)(h:Heap):List (Addr×Obj):=fp.filterMap fun b=>(h.get? b).map fun o=>(b,o)
theorem rG{fp:List Addr}{h:Heap}{b:Addr}{o:Obj}(hb:b∈fp)(e:h.get? b=some o):(b,o)∈pD fp h:=List.mem_filterMap.mpr ⟨b,hb,by rw[e];rfl⟩
theorem N0{fp:List Addr}{h:Heap}{p:Addr×Obj}(c:p∈pD fp h):p.1∈fp/\h.get? p.1=some p.2:=by
 obtain⟨b,hb,e⟩:=List.mem_filterMap.mp c
 cases q:h.get? b with
 | none=>rw[q] at e;cases e
 | some o=>
  rw[q] at e
  have a:(b,o)=p:=Dz e
  subst a
  exact⟨hb,q⟩
theorem Inv.pinned{pins:List (Addr×Obj)}{σ:St}{H:Hp}{s:Ah}{fp:List Addr}(I:Inv X pins σ H s)(hf:∀ b∈fp,iD X pins H b)(i:∀ b∈fp,∃ o,s.heap.get? b=some o/\∀ v,o.data≠.cell v):Inv X (pins ++ pD fp s.heap) σ H s:=
 I.pins_of fun p h=>(Bo.mp h).elim (fun z=>I.pin p (Dc _ z)) fun z=>by
  obtain⟨hb,e⟩:=N0 z
  obtain⟨g,c,f,_⟩:=hf p.1 hb
  obtain⟨o,a,d⟩:=i p.1 hb
  rw[e] at a;cases a
  exact⟨e,g,c,f,d⟩
theorem Inv.unpinned{pins pl:List (Addr×Obj)}{σ:St}{H:Hp}{s:Ah}(I:Inv X (pins ++ pl) σ H s):Inv X pins σ H s:=I.pins_of fun p a=>I.pin p (Dc _ (Ep _ a))
theorem N2{c:Expr}{z:List Stmt}{Z:TI}{g:TG}{tb:TS}{pos:Pos}(L:PassesOwn (Bk X.prog X.w) X.A X.env X.xe)(hc:X.calm=true)(hi:PI X tg c Z)(hg:PG X tg g)(hb:fR X z tb)
  (hs:∀ x,Ho c X.env x=pure x:=by intro _;rfl):PS X (.For tg c z [] pos) (NZ Z g tb):=by
 intro pins s σ H D I h
 refine wpAny_For (aZ (hi pins s σ H _ I h) fun v s1 h1=>aZ h1 fun itv s2 h2=>?_) hs
 obtain⟨it,fp,V,J,H2,e,I2,T,S,Y,W,⟨m0,w0⟩,F⟩:=h2
 subst e
 have k:∀ {y:Hp},(∀ b∈fp,y b=none)->∀ b∈fp,iD X pins y b:=fun hn b hb=>⟨hn b hb,(Y b hb).2⟩
 refine codeAny_forLoop_any (fun n s'=>∃ i l y,Inv X pins l y s'/\V i s'.heap/\(∀ b∈fp,y b=none)/\W i n l y) ?_ m0 ⟨0,σ,H2,I2,S,fun b hb=>(Y b hb).1,w0⟩
 rintro n s3 ⟨i,p,M,I3,K,E,w3⟩
 rcases F i n p M w3 with⟨stop,qn⟩ | ⟨go,N,hN,step⟩
 ·refine Iw L (aZ (T.done X rfl rfl rfl hc i pins s3 p M X.xe I3 (k E) K stop) fun r s4 ⟨Q,I4⟩=>?_)
  subst Q
  exact Nw ⟨p,M,I4,qn⟩
 ·refine Iw L (aZ (T.item X rfl rfl rfl hc i pins s3 p M X.xe I3 (k E) K go) fun r s4 ⟨u,Q,h4⟩=>?_)
  subst Q
  refine Iw L (aZ h4 fun _ s5 ⟨x,H5,I5,r5,y5,C,U⟩=>?_)
  have O:=I5.pinned (k U) (T.obj _ _ C)
  refine Iw L (aZ (hg _ s5 p H5 x u _ O r5 (step x H5 y5)) fun _ s6 ⟨R,H6,I6,q6⟩=>?_)
  refine Iw L (aZ (hb _ s6 R H6 _ I6 q6) fun f P B=>?_)
  have q:∀ {a:St} {t:Hp},Inv X (pins ++ pD fp s5.heap) a t P->N a t->∃ m,m < n/\∃ i l y,Inv X pins l y P/\V i P.heap/\(∀ b∈fp,y b=none)/\W i m l y:=fun {a t} j G=>by
   obtain⟨m',hm,w7⟩:=hN a t G
   refine⟨m',hm,i + 1,a,t,j.unpinned,T.keep _ _ _ C fun b hb o e=>(j.pin (b,o) (Dc _ (Dc _ (rG hb e)))).1,fun b hb=>?_,w7⟩
   obtain⟨o,e,d⟩:=T.obj _ _ C b hb
   exact(j.pin (b,o) (Dc _ (Dc _ (rG hb e)))).2.1
  cases f with
  | next=>obtain⟨a,t,j,G⟩:=B;exact q j G
  | cont=>obtain⟨a,t,j,G⟩:=B;exact q j G
  | brk=>obtain⟨a,t,j,B⟩:=B;exact⟨a,t,j.unpinned,B⟩
  | ret v=>obtain⟨x7,a,t,j,r7,B⟩:=B;exact⟨x7,a,t,j.unpinned,r7,B⟩
end
abbrev R2:=V->V->Hp->VK->Prop
def bB(X:Cx)(f:Ac->Ac->Sem Ac)(r:R2):Prop:=
 ∀ (pins:List (Addr×Obj)) (s:Ah) (σ:St) (H:Hp) (x y:V) (v u:Ac) (Q:VK),Inv X pins σ H s->RelV x v->RelV y u->r x y H Q->
  Ax (Bk X.prog X.w) X.A (f v u) (EP X pins σ Q) X.xe s
def pE(X:Cx)(f:Ac->Sem Ac)(r:V->Hp->VK->Prop):Prop:=
 ∀ (pins:List (Addr×Obj)) (s:Ah) (σ:St) (H:Hp) (x:V) (v:Ac) (Q:VK),Inv X pins σ H s->RelV x v->r x H Q->
  Ax (Bk X.prog X.w) X.A (f v) (EP X pins σ Q) X.xe s
def cU(X:Cx)(f:Ac)(r:List V->Hp->VK->Prop):Prop:=
 ∀ (pins:List (Addr×Obj)) (s:Ah) (σ:St) (H:Hp) (xs:List V) (us:List Ac) (Q:VK),Inv X pins σ H s->aR xs us->r xs H Q->
  Ax (Bk X.prog X.w) X.A (call f us) (EP X pins σ Q) X.xe s
def N3(X:Cx)(r:V->Hp->(Bool->Hp->Prop)->Prop):Prop:=
 ∀ (pins:List (Addr×Obj)) (s:Ah) (σ:St) (H:Hp) (x:V) (v:Ac) (Q:Bool->Hp->Prop),Inv X pins σ H s->RelV x v->r x H Q->
  Ax (Bk X.prog X.w) X.A (truthy v) (TP X pins σ Q) X.xe s
def pF(r:R2)(ta tb:TE):TE:=fun σ H Q=>ta σ H fun x a=>tb σ a fun y b=>r x y b Q
def N4(r:V->Hp->VK->Prop)(ta:TE):TE:=fun σ H Q=>ta σ H fun x a=>r x a Q
def rI(C:Int->Int->Prop)(g:Int->Int->V):R2:=fun x y H Q=>∃ i j,x=.int i/\y=.int j/\C i j/\Q (g i j) H
def kL(g:Int->Int->V):R2:=fun x y H Q=>∃ i j,x=.int i/\y=.int j/\Q (g i j) H
def rU(g:Int->V):V->Hp->VK->Prop:=fun x H Q=>∃ i,x=.int i/\Q (g i) H
section
variable {X:Cx}{a b c:Expr}{ta tb tc:TE}{pos:Pos}
theorem vE(ha:PE X a ta)(hb:PE X b tb){pins:List (Addr×Obj)}{s:Ah}{σ:St}{H:Hp}{R:V->V->Hp->Prop}(I:Inv X pins σ H s)
  (h:ta σ H fun x i=>tb σ i fun y c=>R x y c) {Q:Ac->Ah->Prop} {f:Ac->Ac->Sem Ac}
  (hf:∀ v u g x y c,Inv X pins σ c g->RelV x v->RelV y u->R x y c->Ax (Bk X.prog X.w) X.A (f v u) Q X.xe g) :
  Ax (Bk X.prog X.w) X.A (eval a X.env) (fun v e=>Ax (Bk X.prog X.w) X.A (eval b X.env) (fun u d=>Ax (Bk X.prog X.w) X.A (f v u) Q X.xe d) X.xe e) X.xe s:=by
 refine aZ (ha pins s σ H _ I h) fun v j ⟨x,i,p,o,l⟩=>?_
 refine aZ (hb pins j σ i _ p l) fun u g ⟨y,c,m,k,n⟩=>?_
 exact hf v u g x y c m o k n
theorem N5{op:Operator}{r:R2}(i:bB X (Ft op) r)(ha:PE X a ta)(hb:PE X b tb):PE X (.BinOp a op b pos) (pF r ta tb):=by
 intro pins s σ H Q I h
 exact wpAny_BinOp (vE ha hb I h fun v u f x y g e d c q=>i pins f σ g x y v u Q e d c q)
theorem N6{op:UnaryOp}{r:V->Hp->VK->Prop}(g:pE X (unaryOp op) r)(ha:PE X a ta):PE X (.UnaryOp op a pos) (N4 r ta):=by
 intro pins s σ H Q I h
 exact UnaryOp_ (aZ (ha pins s σ H _ I h) fun v b ⟨x,f,e,d,c⟩=>g pins b σ f x v Q e d c)
theorem pG{f:Ac->Ac->Sem Ac}{C:Int->Int->Prop}{g:Int->Int->Int}
  (rule:∀ (i j:Int) (t u:Tok) (s:Ah) (Q:Ac->Ah->Prop) (E:Ac->Ah->Prop),C i j->Q (.int (g i j) s.toks) {s with toks:=s.toks + 1}->Ax (Bk X.prog X.w) X.A (f (.int i t) (.int j u)) Q E s) :
  bB X f (rI C fun i j=>.int (g i j)):=by
 intro pins s σ H x y v u Q I b a h
 obtain⟨i,j,rfl,rfl,hc,q⟩:=h
 obtain⟨t,rfl⟩:=b
 obtain⟨t',rfl⟩:=a
 exact rule i j t t' s _ _ hc ⟨.int (g i j),H,I.tok _,⟨_,rfl⟩,q⟩
theorem A7{f:Ac->Ac->Sem Ac}{g:Int->Int->Int}
  (rule:∀ (i j:Int) (t u:Tok) (s:Ah) (Q:Ac->Ah->Prop) (E:Ac->Ah->Prop),Q (.int (g i j) s.toks) {s with toks:=s.toks + 1}->Ax (Bk X.prog X.w) X.A (f (.int i t) (.int j u)) Q E s) :
  bB X f (kL fun i j=>.int (g i j)):=by
 intro pins s σ H x y v u Q I b a h
 obtain⟨i,j,rfl,rfl,q⟩:=h
 obtain⟨t,rfl⟩:=b
 obtain⟨t',rfl⟩:=a
 exact rule i j t t' s _ _ ⟨.int (g i j),H,I.tok _,⟨_,rfl⟩,q⟩
theorem rH{f:Ac->Ac->Sem Ac}{g:Int->Int->Bool}
  (rule:∀ (i j:Int) (t u:Tok) (s:Ah) (Q:Ac->Ah->Prop) (E:Ac->Ah->Prop),Q (.bool (g i j)) s->Ax (Bk X.prog X.w) X.A (f (.int i t) (.int j u)) Q E s) :
  bB X f (kL fun i j=>.bl (g i j)):=by
 intro pins s σ H x y v u Q I b a h
 obtain⟨i,j,rfl,rfl,q⟩:=h
 obtain⟨t,rfl⟩:=b
 obtain⟨t',rfl⟩:=a
 exact rule i j t t' s _ _ ⟨.bl (g i j),H,I,rfl,q⟩
def A8(i j:Int):Prop:=0<=j/\j<=1000000/\i.natAbs < 2 ^ 64
def lH(i j:Int):Prop:=(-(2 ^ 64) < i/\i < 2 ^ 64)\/(-(2 ^ 64) < j/\j < 2 ^ 64)
theorem lH.ok{i j:Int}(h:lH i j):IntMulOk i j:=by
 rcases h with⟨a,b⟩ | ⟨a,b⟩
 ·exact .of_left (intBits_le_64 a b)
 ·exact .of_right (intBits_le_64 a b)
theorem N7:bB X (Ft .Add) (kL fun i j=>.int (i + j)):=A7 fun _ _ _ _ _ _ _ q=>add_int q
theorem N8:bB X (Ft .Sub) (kL fun i j=>.int (i - j)):=A7 fun _ _ _ _ _ _ _ q=>sub_int q
theorem N9:bB X (Ft .Mult) (rI lH fun i j=>.int (i * j)):=pG fun _ _ _ _ _ _ _ hc q=>mul_int q hc.ok
theorem OA:bB X (Ft .Mod) (rI (fun _ j=>0 < j) fun i j=>.int (i % j)):=pG fun i j _ _ _ _ _ hc q=>by
 have a:(0:Int) < j:=hc
 exact mod_int' (by lia) (by rw[Int.fmod_eq_emod_of_nonneg i (by lia)];exact q)
theorem OB:bB X (Ft .Pow) (rI A8 fun i j=>.int (i ^ j.toNat)):=pG fun _ _ _ _ _ _ _ hc q=>pow_int_small hc.1 hc.2.1 hc.2.2 q
theorem OC{f:Ac->Sem Ac}{g:Int->Int}
  (rule:∀ (i:Int) (t:Tok) (s:Ah) (Q:Ac->Ah->Prop) (E:Ac->Ah->Prop),Q (.int (g i) s.toks) {s with toks:=s.toks + 1}->Ax (Bk X.prog X.w) X.A (f (.int i t)) Q E s) :
  pE X f (rU fun i=>.int (g i)):=by
 intro pins s σ H x v Q I a h
 obtain⟨i,rfl,q⟩:=h
 obtain⟨t,rfl⟩:=a
 exact rule i t s _ _ ⟨.int (g i),H,I.tok _,⟨_,rfl⟩,q⟩
theorem OD:pE X (unaryOp .USub) (rU fun i=>.int (-i)):=OC fun _ _ _ _ _ q=>neg_int q
end
def rJ:V->V->Bool
 | .non,.non=>true | .non,.int _=>true | .int _,.non=>true | .non,.bl _=>true | .bl _,.non=>true | .non,.str _=>true | .str _,.non=>true
 | .int _,.int _=>true | .bl _,.bl _=>true | .str _,.str _=>true | .byt _,.byt _=>true
 | .int _,.str _=>true | .str _,.int _=>true | .bl _,.str _=>true | .str _,.bl _=>true
 | _,_=>false
def rEq:R2:=fun x y H Q=>rJ x y=true/\Q (.bl (decide (x=y))) H
def OE:R2:=fun x y H Q=>rJ x y=true/\Q (.bl (!decide (x=y))) H
theorem A9{i j:Int}:decide (V.int i=V.int j)=(i == j):=by
 rw[Es]
 simp
theorem BA{i j:Bool}:decide (V.bl i=V.bl j)=(i == j):=by
 rw[Es]
 simp
theorem BC{i j:Str}:decide (V.str i=V.str j)=(i == j):=by
 rw[Es]
 simp
theorem BD{i j:Array UInt8}:decide (V.byt i=V.byt j)=(i.toList == j.toList):=by
 rw[Es]
 cases i
 cases j
 simp
section
variable {X:Cx}{a b c:Expr}{ta tb tc:TE}{pos:Pos}
theorem cS{pins:List (Addr×Obj)}{σ:St}{H:Hp}{s:Ah}{Q:VK}{k a:Bool}(I:Inv X pins σ H s)(q:Q (.bl k) H)(e:k=a):EP X pins σ Q (.bool a) s:=by
 subst e
 exact⟨.bl k,H,I,rfl,q⟩
theorem OF:bB X (Ck .Eq) rEq:=by
 intro pins s σ H x y v u Q I rx ry h
 obtain⟨hs,q⟩:=h
 cases x with
 | non=>
  cases rx
  cases y with
  | non=>cases ry;exact PySem.EqNone.eq_none_none (cS I q (by simp))
  | bl j=>cases ry;exact PySem.EqNone.eq_none_bool (cS I q (by simp))
  | int j=>obtain⟨t',rfl⟩:=ry;exact PySem.EqNone.eq_none_int (cS I q (by simp))
  | str j=>obtain⟨t',rfl⟩:=ry;exact PySem.EqNone.eq_none_str (cS I q (by simp))
  | _=>exact absurd (show false=true from hs) Am
 | bl i=>
  cases rx
  cases y with
  | non=>cases ry;exact PySem.EqNone.eq_bool_none (cS I q (by simp))
  | bl j=>cases ry;exact eq_bool (cS I q BA)
  | str j=>obtain⟨t',rfl⟩:=ry;exact PySem.EqMixed.eq_bool_str (cS I q (by simp))
  | _=>exact absurd (show false=true from hs) Am
 | int i=>
  obtain⟨t,rfl⟩:=rx
  cases y with
  | non=>cases ry;exact PySem.EqNone.eq_int_none (cS I q (by simp))
  | int j=>obtain⟨t',rfl⟩:=ry;exact eq_int (cS I q A9)
  | str j=>obtain⟨t',rfl⟩:=ry;exact PySem.EqMixed.eq_int_str (cS I q (by simp))
  | _=>exact absurd (show false=true from hs) Am
 | str i=>
  obtain⟨t,rfl⟩:=rx
  cases y with
  | non=>cases ry;exact PySem.EqNone.eq_str_none (cS I q (by simp))
  | bl j=>cases ry;exact PySem.EqMixed.eq_str_bool (cS I q (by simp))
  | int j=>obtain⟨t',rfl⟩:=ry;exact PySem.EqMixed.eq_str_int (cS I q (by simp))
  | str j=>obtain⟨t',rfl⟩:=ry;exact eq_str (cS I q BC)
  | _=>exact absurd (show false=true from hs) Am
 | byt i=>
  obtain⟨t,rfl⟩:=rx
  cases y with
  | byt j=>obtain⟨t',rfl⟩:=ry;exact PySem.W.eq_bytes (cS I q BD)
  | _=>exact absurd (show false=true from hs) Am
 | _=>cases y <;> exact absurd (show false=true from hs) Am
theorem OG:bB X (Ck .NotEq) OE:=by
 intro pins s σ H x y v u Q I rx ry h
 obtain⟨hs,q⟩:=h
 cases x with
 | non=>
  cases rx
  cases y with
  | non=>cases ry;exact PySem.EqNone.ne_none_none (cS I q (by simp))
  | bl j=>cases ry;exact PySem.EqNone.ne_none_bool (cS I q (by simp))
  | int j=>obtain⟨t',rfl⟩:=ry;exact PySem.EqNone.ne_none_int (cS I q (by simp))
  | str j=>obtain⟨t',rfl⟩:=ry;exact PySem.EqNone.ne_none_str (cS I q (by simp))
  | _=>exact absurd (show false=true from hs) Am
 | bl i=>
  cases rx
  cases y with
  | non=>cases ry;exact PySem.EqNone.ne_bool_none (cS I q (by simp))
  | bl j=>cases ry;exact ne_bool (cS I q (congrArg not BA))
  | str j=>obtain⟨t',rfl⟩:=ry;exact PySem.EqMixed.ne_bool_str (cS I q (by simp))
  | _=>exact absurd (show false=true from hs) Am
 | int i=>
  obtain⟨t,rfl⟩:=rx
  cases y with
  | non=>cases ry;exact PySem.EqNone.ne_int_none (cS I q (by simp))
  | int j=>obtain⟨t',rfl⟩:=ry;exact ne_int (cS I q (congrArg not A9))
  | str j=>obtain⟨t',rfl⟩:=ry;exact PySem.EqMixed.ne_int_str (cS I q (by simp))
  | _=>exact absurd (show false=true from hs) Am
 | str i=>
  obtain⟨t,rfl⟩:=rx
  cases y with
  | non=>cases ry;exact PySem.EqNone.ne_str_none (cS I q (by simp))
  | bl j=>cases ry;exact PySem.EqMixed.ne_str_bool (cS I q (by simp))
  | int j=>obtain⟨t',rfl⟩:=ry;exact PySem.EqMixed.ne_str_int (cS I q (by simp))
  | str j=>obtain⟨t',rfl⟩:=ry;exact ne_str (cS I q (congrArg not BC))
  | _=>exact absurd (show false=true from hs) Am
 | byt i=>
  obtain⟨t,rfl⟩:=rx
  cases y with
  | byt j=>obtain⟨t',rfl⟩:=ry;exact PySem.W.ne_bytes (cS I q (congrArg not BD))
  | _=>exact absurd (show false=true from hs) Am
 | _=>cases y <;> exact absurd (show false=true from hs) Am
theorem OH:bB X (Ck .Lt) (kL fun i j=>.bl (decide (i < j))):=rH fun _ _ _ _ _ _ _ q=>lt_int q
theorem OI:bB X (Ck .LtE) (kL fun i j=>.bl (decide (i<=j))):=rH fun _ _ _ _ _ _ _ q=>le_int q
theorem OJ:bB X (Ck .Gt) (kL fun i j=>.bl (decide (j < i))):=rH fun _ _ _ _ _ _ _ q=>gt_int q
theorem OK:bB X (Ck .GtE) (kL fun i j=>.bl (decide (j<=i))):=rH fun _ _ _ _ _ _ _ q=>ge_int q
theorem OL:bB X (Ck .In) (fun x y H Q=>∃ i j,x=.str i/\y=.str j/\Q (.bl (!(Jk j i 0 j.length 1).isEmpty)) H):=by
 intro pins s σ H x y v u Q I b a h
 obtain⟨i,j,rfl,rfl,q⟩:=h
 obtain⟨t,rfl⟩:=b
 obtain⟨t',rfl⟩:=a
 exact in_str (cS I q rfl)
theorem OM:bB X (Ck .NotIn) (fun x y H Q=>∃ i j,x=.str i/\y=.str j/\Q (.bl (!(!(Jk j i 0 j.length 1).isEmpty))) H):=by
 intro pins s σ H x y v u Q I b a h
 obtain⟨i,j,rfl,rfl,q⟩:=h
 obtain⟨t,rfl⟩:=b
 obtain⟨t',rfl⟩:=a
 exact notIn_str (cS I q rfl)
theorem bB.or{f:Ac->Ac->Sem Ac}{r c:R2}(h:bB X f r)(h':bB X f c):bB X f (fun x y H Q=>r x y H Q\/c x y H Q):=by
 intro pins s σ H x y v u Q I a b q
 rcases q with q | q
 ·exact h pins s σ H x y v u Q I a b q
 ·exact h' pins s σ H x y v u Q I a b q
theorem BE(b:Expr){op:CmpOp}(h:op≠.In:=by decide)(d:op≠.NotIn:=by decide):Iz op b=false:=by
 have c:(op == CmpOp.In)=false:=by cases op <;> first | rfl | exact absurd rfl h
 have a:(op == CmpOp.NotIn)=false:=by cases op <;> first | rfl | exact absurd rfl d
 cases b <;> simp[Iz,c,a]
theorem ON{op:CmpOp}{r:R2}(j:bB X (Ck op) r)(ha:PE X a ta)(hb:PE X b tb)(f:Iz op b=false):PE X (.Compare a [op] [b] pos) (pF r ta tb):=by
 intro pins s σ H Q I h
 exact wpAny_Compare1 (vE ha hb I h fun v u g x y i e d c q=>j pins g σ i x y v u Q e d c q) f
def BF(t:TE):TT:=fun σ H Q=>t σ H fun x a=>∃ k,x=.bl k/\Q k a
theorem OO{op:CmpOp}{r:R2}(o:bB X (Ck op) r)(ha:PE X a ta)(hb:PE X b tb)(C:Iz op b=false):PT X (.Compare a [op] [b] pos) (BF (pF r ta tb)):=by
 intro pins s σ H Q I h
 refine wpAny_isTrue_Compare1 (aZ (ha pins s σ H _ I h) fun v d ⟨x,A,t,q,g⟩=>aZ (hb pins d σ A _ t g) fun u w ⟨y,j,n,f,p⟩=>
  aZ (o pins w σ j x y v u _ n q f p) fun c D ⟨z,B,l,m,k,e,i⟩=>?_) C
 subst e
 cases m
 exact Jg ⟨B,l,i⟩
def BG(r c:R2)(ta tb tc:TE):TE:=fun σ H Q=>ta σ H fun x d=>tb σ d fun y f=>r x y f fun z a=>∃ k,z=.bl k/\
 (if k=true then tc σ a fun b e=>c y b e Q else Q (.bl false) a)
theorem OP{op f:CmpOp}{r l:R2}(K:bB X (Ck op) r)(g:bB X (Ck f) l)(ha:PE X a ta)(hb:PE X b tb)(hc:PE X c tc)
  (w:lastMarks [op,f] [b,c]=false:=by with_unfolding_all rfl):PT X (.Compare a [op,f] [b,c] pos) (BF (BG r l ta tb tc)):=by
 intro pins s σ H Q I h
 refine isTrue_chain (aZ (ha pins s σ H _ I h) fun v A ⟨x,J,Z,D,B⟩=>test_link (aZ (hb pins A σ J _ Z B) fun u P ⟨y,R,O,i,W⟩=>
  aZ (K pins P σ R x y v u _ O D i W) fun d F ⟨z,n,m,N,k,e,j⟩=>?_)) w
 subst e
 cases N
 refine Jg ?_
 cases k with
 | false=>
  obtain⟨k',t,C⟩:=j
  cases t
  exact ite_ff ⟨n,m,C⟩
 | true=>
  refine ite_tt (test_last (aZ (hc pins F σ n _ m j) fun L Y ⟨S,G,p,U,M⟩=>aZ (g pins Y σ G y S u L _ p i U M) fun d' s5 ⟨z2,E,o,V,k2,T,q⟩=>?_))
  subst T
  cases V
  exact Jg ⟨E,o,q⟩
def BH(K:Ae)(x:V)(H:Hp)(k:Bool):Prop:=
 match x with
 | .non=>k=false
 | .bl b=>k=b
 | .int i=>k=(i != 0)
 | .str y=>y.length<=Aj/\k=((y.length:Int) != 0)
 | .byt y=>y.size<=Aj/\k=((y.size:Int) != 0)
 | .ref p=>(∃ xs,a9 K H p xs/\k = !xs.isEmpty)\/(∃ xs,bM K H p xs/\k = !xs.isEmpty)\/∃ kvs,H p=some (.dK kvs)/\k = !kvs.isEmpty
 | _=>False
theorem OQ{κ:Type}{kvs:List (κ×V)}{vs:List (κ×Ac)}(r:KV kvs vs):(!vs.isEmpty) = !kvs.isEmpty:=by
 cases r <;> rfl
theorem BI{xs:List V}{its:List Ac}(r:aR xs its):(!its.toArray.isEmpty) = !xs.isEmpty:=by
 cases r <;> simp
theorem mJ:(Aj:Nat) < 2 ^ 63:=by rw[Hn];decide
theorem OR:N3 X (fun x H Q=>∃ k,BH X.K x H k/\Q k H):=by
 intro pins s σ H x v Q I rx h
 obtain⟨k,e,q⟩:=h
 have hl:=mJ
 have hs:Aj=16777216:=Hn
 cases x with
 | non=>
  cases rx
  have e':k=false:=e
  subst e'
  exact truthy_none ⟨H,I,q⟩
 | bl b=>
  cases rx
  have e':k=b:=e
  subst e'
  exact Jg ⟨H,I,q⟩
 | int i=>
  obtain⟨t,rfl⟩:=rx
  have e':k=(i != 0):=e
  subst e'
  exact PySem.P.truthy_int ⟨H,I,q⟩
 | str y=>
  obtain⟨t,rfl⟩:=rx
  obtain⟨hy,e'⟩:y.length<=Aj/\k=((y.length:Int) != 0):=e
  subst e'
  exact PySem.P.truthy_str (by lia) ⟨H,I.tok _,q⟩
 | byt y=>
  obtain⟨t,rfl⟩:=rx
  obtain⟨hy,e'⟩:y.size<=Aj/\k=((y.size:Int) != 0):=e
  subst e'
  exact PySem.W.truthy_bytes (by lia) ⟨H,I.tok _,q⟩
 | ref p=>
  cases rx
  have e':(∃ xs,a9 X.K H p xs/\k = !xs.isEmpty)\/(∃ xs,bM X.K H p xs/\k = !xs.isEmpty)\/∃ kvs,H p=some (.dK kvs)/\k = !kvs.isEmpty:=e
  rcases e' with⟨xs,hx,e'⟩ | ⟨xs,hx,e'⟩ | ⟨kvs,hx,e'⟩
  ·subst e'
   obtain⟨its,r,pl,hz⟩:=I.list hx
   have hlen:=r.length
   exact wpAny_truthy_list pl.isList (by simp only[Bc];lia) ⟨H,I.tok _,by rw[BI r];exact q⟩
  ·subst e'
   obtain⟨its,r,pl,hz⟩:=I.tuple hx
   have hlen:=r.length
   exact truthy_tuple pl (by simp only[Bc];lia) ⟨H,I.tok _,by rw[BI r];exact q⟩
  ·subst e'
   obtain⟨hz,hS,vs,r,m⟩:kvs.length<=Aj/\(p == Gp)=false/\∃ vs,KV kvs vs/\s.heap.DictOf (dB X.prog X.w) p vs:=I.hok p _ hx
   have hlen:kvs.length=vs.length:=Eo r
   exact wpAny_truthy_dict hS m (by lia) ⟨H,I.tok _,by rw[OQ r];exact q⟩
 | _=>exact(show False from e).elim
theorem OS(ha:PE X a ta)(i:∀ b,isTrue a X.env b=(do let v <-b;Oj a.pos;Ip [v] (truthy v))) :
  PT X a (fun σ H Q=>ta σ H fun x c=>∃ k,BH X.K x c k/\Q k c):=by
 intro pins s σ H Q I h
 exact isTrue_plain (aZ (ha pins s σ H _ I h) fun v d ⟨x,j,g,f,e⟩=>OR pins d σ j x v Q g f e) (i _)
theorem vals1{x:V}{us:List Ac}(r:aR [x] us):∃ u,us=[u]/\RelV x u:=by
 cases r with
 | cons b a=>cases a;exact⟨_,rfl,b⟩
theorem vals2{x y:V}{us:List Ac}(r:aR [x,y] us):∃ u a,us=[u,a]/\RelV x u/\RelV y a:=by
 cases r with
 | cons e b=>
  cases b with
  | cons c d=>cases d;exact⟨_,_,rfl,e,c⟩
end
structure mK(h:Heap)(x dx C:Addr)(mA:Str->Option Ac):Prop where
 obj:h.get? x=some (Hb C dx)
 ns:h.Ns1 dx mA
 ne:dx≠x
theorem OT{h:Heap}{dx:Addr}{mA:Str->Option Ac}(n:h.Ns1 dx mA):∃ c,h.get? dx=some c/\∀ name,Nb name c=some (mA name):=by
 obtain⟨o,es,ep,g,hd,hk,_,i⟩:=n
 refine⟨o,g,fun name=>?_⟩
 have e:=i name
 unfold nsFind findBy at e
 rw[<-Array.find?_toList] at e
 unfold Nb
 rw[hd]
 dsimp only
 split
 ·rename_i y q
  rw[q] at e
  exact congrArg some e
 ·rename_i q
  rw[q] at e
  have a:es.toList.any (·.refKey)=false:=by
   rw[List.any_eq_false]
   intro y d
   obtain⟨z,t,b⟩:=hk y (Array.mem_toList_iff.mp d)
   simp[DictEntry.refKey,b]
  have f:¬ es.toList.any (·.refKey)=true:=by rw[a];exact Am
  rw[if_neg f]
  exact congrArg some e
theorem mK.look{h:Heap}{x dx C:Addr}{mA:Str->Option Ac}(I:mK h x dx C mA):∃ a,PySem.W.InstAt h x (Hb C dx) C (some a)/\∀ name,Nb name a=some (mA name):=
 let ⟨a,ho,hl⟩:=OT I.ns
 ⟨a,⟨I.obj,rfl,rfl,ho⟩,hl⟩
section
variable {prog:Bl}{w:Cb}{A:Bv}{E:Ac->Ah->Prop}{s:Ah}{K:Ae}{x dx C f:Addr}{mA:Str->Option Ac}{name:Str}{v:Ac}
theorem OU{a:Bool}{Q:Ac->Ah->Prop}(X:K.In s.heap)(I:mK s.heap x dx C mA)(d:Lx K C name=true)(e:PySem.W.hasDictIn K C=true)
  (ha:Cj K (.ref C) name=some none) (c:mA name=some v) (b:PySem.W.handedIn v=true) (h:Q v {s with toks:=s.toks + 1}) :
  Ax (Bk prog w) A (getAttr (.ref x) name a) Q E s:=by
 obtain⟨f,J,hl⟩:=I.look
 exact PySem.W.get_value X J (Nj d).1 (PySem.W.findObj_own e ha rfl (by rw[hl,c])) b h
theorem OV{pl:Sem Bool}{Q:Ac×List Ac->Ah->Prop}(X:K.In s.heap)(I:mK s.heap x dx C mA)(a:Lx K C name=true)
  (hf:Cj K (.ref C) name=some (some (.ref f))) (ht:Mf K (.ref f)=true) (c:mA name=none) (h:Q (.ref f,[.ref x]) s) :
  Ax (Bk prog w) A (Om (.ref x) name pl) Q E s:=by
 obtain⟨b,J,hl⟩:=I.look
 exact PySem.W.method_fn X J (Nj a).1 (Nj a).2 hf (beq_iff_eq.mp ht) (by show(Nb name b).map (·.isSome)=some false;rw[hl,c];rfl) h
theorem OW{ns:List Str}{Q:Unit->Ah->Prop}(X:K.In s.heap)(I:mK s.heap x dx C mA)
  (hs:Cj K (.ref C) "__setattr__" = some (some (.builtin "object.__setattr__"))) (j:PySem.W.plainOver K C=true) (ht:PySem.W.takerIn K C name=some none) (l:PySem.W.hasDictIn K C=true)
  (hw:PySem.Within mA ns) (hsz:ns.length<=Aj)
  (h:∀ h',mK h' x dx C (fun y=>if y=name then some v else mA y)->Dx dx s.heap h'->Q () {s with heap:=h',toks:=s.toks + 2}) :
  Ax (Bk prog w) A (setAttr (.ref x) name v) Q E s:=by
 obtain⟨p,J,hl⟩:=I.look
 refine PySem.W.set_plain X J hs (PySem.W.osa_open (s:={s with toks:=s.toks + 1}) (r:=none) X J j ht fun b=>?_)
 obtain⟨q,hc,g⟩:=PySem.W.any_some l
 have m:s.heap.get? x=some ⟨.ref C,some dx,.plain,#[]⟩:=I.obj
 refine Aa (Ag (Aa (Aa (wpAny_loadPart m (Aa (PySem.W.Looks.here (s:={s with toks:=s.toks + 1}) (PySem.W.looks_clsIn X hc) ?_))))))
 rw[g]
 refine Ag (a:=some dx) (Aa (Ag (Aa ?_)))
 refine wpAny_nsSet1 (s:={s with toks:=s.toks + 1}) I.ns fun h' d c=>?_
 obtain⟨o,k,n,e,i,f⟩:=d.count (PySem.Within.cons name v hw)
 refine Aa (wpAny_lookBehind e (by rw[i];exact pastItsLine_dict (Bp f (by rw[Bt];lia))) ?_)
 exact Ag (h _ ⟨(c.2 _ (Bq I.ne)).trans I.obj,d,I.ne⟩ c)
theorem OX{R:Result->Ah->Prop}{vs:List Ac}{a:List (Str×Ac)}(X:K.In s.heap)(b:PySem.W.makesIn K C=true)
  (hi:Cj K (.ref C) "__init__" = some (some (.ref f))) (hf:PySem.W.typeIn K (.ref f)=some (.type "function"))
  (h:Jv (Bk prog w) (A.under (.builtin "type.__call__" ⟨.ref C :: vs,a⟩)) (.call (.ref f) ⟨.ref (s.heap.objs.size + 1) :: vs,a⟩) (PySem.W.InitBack (s.heap.objs.size + 1) R)
   {s with heap:=(s.heap.push Fj).push (Hb C s.heap.objs.size)}) :
  Jv (Bk prog w) A (.call (.ref C) ⟨vs,a⟩) R s:=by
 obtain⟨c,g,d,t,os⟩:=s
 exact PySem.W.make_core (PySem.W.makes_of X b) (PySem.W.looks_findIn X hi) (fun self=>PySem.W.bind_fn X self hf) (.inl rfl) h
end
def putF(f:Str)(v:V):List (Str×V)->List (Str×V)
 | []=>[(f,v)]
 | (g,x) :: r=>if g=f then(g,v) :: r else(g,x) :: putF f v r
theorem BJ(f g:Str)(v:V):∀ fs:List (Str×V),(putF f v fs).lookup g=if g=f then some v else fs.lookup g
 | []=>by
  show Ci g [(f,v)]=_
  by_cases h:g=f
  ·have hb:(g == f)=true:=beq_iff_eq.mpr h
   simp only[Ci,hb,if_pos h]
  ·have hb:(g == f)=false:=beq_eq_false_iff_ne.mpr h
   simp only[Ci,hb,if_neg h]
 | (k,x) :: r=>by
  have a:=BJ f g v r
  rw[show putF f v ((k,x) :: r)=(if k=f then(k,v) :: r else(k,x) :: putF f v r) from rfl]
  by_cases hk:k=f
  ·rw[if_pos hk]
   by_cases h:g=k
   ·have hb:(g == k)=true:=beq_iff_eq.mpr h
    simp only[Ci,hb,if_pos (h.trans hk)]
   ·have hb:(g == k)=false:=beq_eq_false_iff_ne.mpr h
    simp only[Ci,hb,if_neg (fun e:g=f=>h (e.trans hk.symm))]
  ·rw[if_neg hk]
   by_cases h:g=k
   ·have hb:(g == k)=true:=beq_iff_eq.mpr h
    simp only[Ci,hb,if_neg (fun e:g=f=>hk (h.symm.trans e))]
   ·have hb:(g == k)=false:=beq_eq_false_iff_ne.mpr h
    simp only[Ci,hb]
    exact a
theorem vF(f:Str)(v:V):∀ fs:List (Str×V),f∈(putF f v fs).map (·.1)/\∀ g,g∈fs.map (·.1)->g∈(putF f v fs).map (·.1)
 | []=>⟨by simp[putF],fun g h=>by simp at h⟩
 | (k,x) :: r=>by
  obtain⟨a,b⟩:=vF f v r
  rw[show putF f v ((k,x) :: r)=(if k=f then(k,v) :: r else(k,x) :: putF f v r) from rfl]
  by_cases hk:k=f
  ·rw[if_pos hk]
   subst hk
   exact⟨by simp,fun g h=>by simpa using h⟩
  ·rw[if_neg hk]
   refine⟨?_,fun g h=>?_⟩
   ·rw[Ar]
    exact Bd _ a
   ·rw[Ar] at h ⊢
    rcases Az.mp h with e | e
    ·exact Az.mpr (.inl e)
    ·exact Bd _ (b g e)
theorem BK(f:Str)(v:V):∀ fs:List (Str×V),(putF f v fs).length<=fs.length + 1
 | []=>by simp[putF]
 | (k,x) :: r=>by
  have a:=BK f v r
  rw[show putF f v ((k,x) :: r)=(if k=f then(k,v) :: r else(k,x) :: putF f v r) from rfl]
  by_cases hk:k=f
  ·rw[if_pos hk,Bt,Bt];lia
  ·rw[if_neg hk,Bt,Bt];lia
theorem fM.some_of{v:V}{o:Option Ac}(r:fM (some v) o):∃ u,o=some u/\RelV v u:=by
 cases o with
 | none=>exact(show False from r).elim
 | some u=>exact⟨u,rfl,r⟩
theorem fM.none_of{o:Option Ac}(r:fM none o):o=none:=by
 cases o with
 | none=>rfl
 | some u=>exact(show False from r).elim
theorem OY{v:V}{u:Ac}(r:RelV v u):PySem.W.handedIn u=true:=by
 cases v with
 | non=>cases (show u=Value.none from r);rfl
 | bl b=>cases (show u=Value.bool b from r);rfl
 | int i=>obtain⟨t,e⟩:=(show ∃ t,u=Value.int i t from r);cases e;rfl
 | str x=>obtain⟨t,e⟩:=(show ∃ t,u=Value.str x t from r);cases e;rfl
 | byt b=>obtain⟨t,e⟩:=(show ∃ t,u=Value.bytes b t from r);cases e;rfl
 | flt b=>obtain⟨t,e⟩:=(show ∃ t,u=Value.float b t from r);cases e;rfl
 | ref a=>cases (show u=Value.ref a from r);rfl
 | ty n=>cases (show u=Value.type n from r);rfl
section
variable {P:Bl}{w:Cb}{H H':Hp}{h h':Heap}{a C dx:Addr}{fs fs':List (Str×V)}
theorem rK(hok:cM P w H h)(e:H a=some (.ins C dx fs)):∃ mA,mK h a dx C mA/\(∀ f,fM (fs.lookup f) (mA f))/\PySem.Within mA (fs.map (·.1))/\fs.length<=1000/\H dx=some (.own a):=by
 obtain⟨d,z,ne,ob,mA,n,r,q⟩:=(show cN P w H h a (.ins C dx fs) from hok a _ e)
 exact⟨mA,⟨ob,n,ne⟩,r,q,z,d⟩
end
structure gA(K:Ae)(C:Addr):Prop where
 pg:Lx K C Str.empty=true
 hd:PySem.W.hasDictIn K C=true
 po:PySem.W.plainOver K C=true
 sa:Cj K (.ref C) "__setattr__" = some (some (.builtin "object.__setattr__"))
theorem gA.get{K:Ae}{C:Addr}(c:gA K C)(f:Str):Lx K C f=true:=c.pg
def fS(K:Ae)(C:Addr)(f:Str):Prop:=Cj K (.ref C) f=some none
theorem fS.taker{K:Ae}{C:Addr}{f:Str}(n:fS K C f):PySem.W.takerIn K C f=some none:=by
 unfold PySem.W.takerIn
 rw[show Cj K (.ref C) f=some none from n]
 rfl
structure nM(K:Ae)(C:Addr)(m:Str)(f:Addr):Prop where
 at_:Cj K (.ref C) m=some (some (.ref f))
 fn:Mf K (.ref f)=true
 kp:Fx K (.ref f)=true
section
variable {X:Cx}{pins:List (Addr×Obj)}{σ:St}{H:Hp}{s:Ah}{a C dx:Addr}{fs:List (Str×V)}{f:Str}{v:V}{A:Bv}{E:Ac->Ah->Prop}
theorem OZ{b:Bool}{Q:Ac->Ah->Prop}(I:Inv X pins σ H s)(e:H a=some (.ins C dx fs))(c:gA X.K C)(n:fS X.K C f)(l:fs.lookup f=some v)
  (h:∀ u s',Inv X pins σ H s'->RelV v u->Q u s'):Ax (Bk X.prog X.w) A (getAttr (.ref a) f b) Q E s:=by
 obtain⟨mA,O,r,_,_,_⟩:=rK I.hok e
 obtain⟨u,g,d⟩:=fM.some_of (v:=v) (o:=mA f) (by rw[<-l];exact r f)
 exact OU I.kIn O (c.get f) c.hd n g (OY d) (h u _ (I.tok _) d)
theorem BL{m:Str}{g:Addr}{pl:Sem Bool}{Q:Ac×List Ac->Ah->Prop}(I:Inv X pins σ H s)(e:H a=some (.ins C dx fs))(c:gA X.K C)(k:nM X.K C m g)(l:fs.lookup m=none)
  (h:Q (.ref g,[.ref a]) s):Ax (Bk X.prog X.w) A (Om (.ref a) m pl) Q E s:=by
 obtain⟨mA,O,r,_,_,_⟩:=rK I.hok e
 have b:mA m=none:=fM.none_of (by rw[<-l];exact r m)
 exact OV I.kIn O (c.get m) k.at_ k.fn b h
theorem O0{y:V}{u:Ac}{Q:Unit->Ah->Prop}(I:Inv X pins σ H s)(e:H a=some (.ins C dx fs))(c:gA X.K C)(n:fS X.K C f)(hl:fs.length < 1000)(l:RelV y u)
  (h:∀ s',Inv X pins σ (aN H a (.ins C dx (putF f y fs))) s'->Q () s'):Ax (Bk X.prog X.w) A (setAttr (.ref a) f u) Q E s:=by
 obtain⟨mA,O,r,i,_,j⟩:=rK I.hok e
 have hz:(fs.map (·.1)).length<=Aj:=by rw[Ab,Hn];lia
 refine OW I.kIn O c.sa c.po n.taker c.hd i hz fun h' d sb=>h _ ?_
 have hd:∃ o,h'.get? dx=some o:=let ⟨o,_,_,e',_⟩:=d.ns;⟨o,e'⟩
 refine I.write (x:=a) (e:=dx) (by rw[e];exact True.intro) (.inr j) (fun b q hb z=>(sb.2 b hb).trans z) hd ?_
 refine⟨by rw[bL O.ne];exact j,?_,O.ne,d.obj,_,d.ns,fun g=>?_,fun g k=>?_⟩
 ·have:=BK f y fs;lia
 ·show fM ((putF f y fs).lookup g) (if g=f then some u else mA g)
  rw[BJ]
  by_cases q:g=f
  ·rw[if_pos q,if_pos q];exact l
  ·rw[if_neg q,if_neg q];exact r g
 ·by_cases q:g=f
  ·rw[q];exact(vF f y fs).1
  ·refine(vF f y fs).2 g (i g fun z=>k ?_)
   show(if g=f then some u else mA g)=none
   rw[if_neg q];exact z
theorem Inv.made(I:Inv X pins σ H s):Inv X pins σ (aN (aN H s.heap.objs.size (.own (s.heap.objs.size + 1))) (s.heap.objs.size + 1) (.ins C s.heap.objs.size []))
  {s with heap:=(s.heap.push Fj).push (Hb C s.heap.objs.size)}:=by
 have c:(s.heap.push Fj).get? s.heap.objs.size=some Fj:=Ap s.heap rfl
 have h:((s.heap.push Fj).push (Hb C s.heap.objs.size)).get? (s.heap.objs.size + 1)=some (Hb C s.heap.objs.size):=by
  have:=Ap (s.heap.push Fj) (o:=Hb C s.heap.objs.size) rfl
  rwa [Ds] at this
 have f:(s.heap.push Fj).Ns s.heap.objs.size (fun _=>none):=⟨Fj,#[],_,c,rfl,(fun e i=>absurd i (by simp)),fun _=>rfl⟩
 have g:=I.laid (a:=s.heap.objs.size) (o:=.own (s.heap.objs.size + 1)) (h':=s.heap.push Fj) (t':=s.toks) (fun b u q=>Af _ q) (Ai _) ⟨_,c⟩
 refine g.laid (a:=s.heap.objs.size + 1) (o:=.ins C s.heap.objs.size []) (t':=s.toks) (fun b u q=>Af _ q) (Fo (Ds _ _)) ?_
 have ne:s.heap.objs.size≠s.heap.objs.size + 1:=Bf (Hy _)
 refine⟨by rw[bL ne,dY],Co _,ne,h,fun _=>none,(Heap.Ns1.of_empty f).at fun o q=>Af _ q,fun _=>True.intro,fun y d=>absurd rfl d⟩
theorem O3{prog:Bl}{w:Cb}{env:Env}{e:Expr}{f:Str}{pos:Pos}{s:Ah}{Q:Ac->Ah->Prop}(hb:Ja e f env (eval e env)=eval e env)
  (h:Ax (Bk prog w) A (eval e env) (fun o a=>Ax (Bk prog w) A (getAttr o f true) Q E a) E s):Ax (Bk prog w) A (eval (.Attribute e f pos) env) Q E s:=
 Attribute_any_ h (by rw[arm_eval_Attribute,hb])
end
def O4(K:Ae)(ta:TE)(f:Str):TE:=fun σ H Q=>ta σ H fun x b=>∃ a C dx fs v,x=.ref a/\b a=some (.ins C dx fs)/\gA K C/\fS K C f/\fs.lookup f=some v/\Q v b
def O5(K:Ae)(ta tv:TE)(f:Str):TS:=fun D σ H=>tv σ H fun y c=>ta σ c fun x b=>∃ a C dx fs,x=.ref a/\b a=some (.ins C dx fs)/\gA K C/\fS K C f/\fs.length < 1000/\
 D.nx σ (aN b a (.ins C dx (putF f y fs)))
section
variable {X:Cx}{o e value:Expr}{f:Str}{pos pos' tpos:Pos}{ta tv:TE}
theorem O6(i:PE X e ta)(hb:Ja e f X.env (eval e X.env)=eval e X.env):PE X (.Attribute e f pos) (O4 X.K ta f):=by
 intro pins s σ H Q I h
 refine O3 hb (aZ (i pins s σ H _ I h) fun u o ⟨x,b,g,d,a,C,dx,fs,v,ex,ea,c,n,l,q⟩=>?_)
 subst ex
 obtain rfl:u=Value.ref a:=d
 exact OZ g ea c n l fun p m j k=>⟨v,b,j,k,q⟩
theorem O7(ha:PE X o ta)(g:PE X value tv)(hs:Ki value (some (.Attribute o f pos')) pos.line X.env=pure false):PS X (.Assign [.Attribute o f pos'] value pos) (O5 X.K ta tv f):=by
 intro pins s σ H D I h
 refine plainObj_wpAny_Assign_Attribute (aZ (g pins s σ H _ I h) fun u m ⟨y,b,k,p,q⟩=>aZ (ha pins m σ b _ k q) fun d v ⟨x,w,r,j,a,C,dx,fs,ex,ea,c,n,l,i⟩=>?_) hs
 subst ex
 obtain rfl:d=Value.ref a:=j
 exact O0 r ea c n l p fun t e=>⟨σ,_,e,i⟩
end
section
variable {X:Cx}{pins:List (Addr×Obj)}{σ:St}{H:Hp}{s:Ah}{A:Bv}{E:Ac->Ah->Prop}{Q:Ac->Ah->Prop}{c:Ac}{b:Bool}
inductive gW(K:Ae)(H:Hp):V->Ac->Prop where
 | non:gW K H .non (.type "NoneType")
 | bl (x:Bool):gW K H (.bl x) (.type "bool")
 | int (i:Int):gW K H (.int i) (.type "int")
 | str (x:Str):gW K H (.str x) (.type "str")
 | flt (x:UInt64):gW K H (.flt x) (.type "float")
 | lst {a:Addr} {xs:List V} (e:H a=some (.lst xs)):gW K H (.ref a) (.type "list")
 | frz {a:Addr} {o:Obj} {xs:List V} (e:H a=some (.frz o (.lst xs))):gW K H (.ref a) (.type "list")
 | tup {a:Addr} {xs:List V} (e:H a=some (.tup xs)):gW K H (.ref a) (.type "tuple")
 | dK {a:Addr} {kvs:List (aD×V)} (e:H a=some (.dK kvs)):gW K H (.ref a) (.type "dict")
 | dT {a:Addr} {kvs:List (List aD×V)} (e:H a=some (.dT kvs)):gW K H (.ref a) (.type "dict")
 | ins {a C dx:Addr} {fs:List (Str×V)} (e:H a=some (.ins C dx fs)) (cl:gA K C) (ha:Cj K (.ref C) "__class__" = some (some (.builtin "object.__class__")))
   (hn:PySem.W.specialIn K (.builtin "object.__class__") "__get__" = some (some (.builtin "getset_descriptor.__get__"))) (htk:PySem.W.takesIn K (.builtin "object.__class__")=some true)
   (hm:PySem.W.mroIn K C (.type "object")=some true):gW K H (.ref a) (.ref C)
theorem O8{x:V}{u t:Ac}(I:Inv X pins σ H s)(d:RelV x u)(ty:gW X.K H x t)(e:Jx X.K t c=some b)(h:∀ tk,Q (.bool b) {s with toks:=tk}) :
  Ax (Bk X.prog X.w) A (call (.builtin "isinstance") [u,c]) Q E s:=by
 cases ty with
 | non=>cases (show u=Value.none from d);exact Fb PySem.W.kitx_none I.kIn True.intro e (fun z=>nomatch z) h
 | bl y=>cases (show u=Value.bool y from d);exact Fb PySem.W.kitx_bool I.kIn True.intro e (fun z=>nomatch z) h
 | int i=>obtain⟨t,q⟩:=(show ∃ t,u=Value.int i t from d);cases q;exact Fb PySem.W.kitx_int I.kIn True.intro e (fun z=>nomatch z) h
 | str y=>obtain⟨t,q⟩:=(show ∃ t,u=Value.str y t from d);cases q;exact Fb PySem.W.kitx_str I.kIn True.intro e (fun z=>nomatch z) h
 | flt y=>obtain⟨t,q⟩:=(show ∃ t,u=Value.float y t from d);cases q;exact Fb PySem.W.kitx_float I.kIn True.intro e (fun z=>nomatch z) h
 | @lst a xs ea=>
  cases (show u=Value.ref a from d)
  obtain⟨_,_,n,_,f⟩:=(show cN X.prog X.w H s.heap a (.lst xs) from I.hok a _ ea)
  exact Fb PySem.W.kitx_list I.kIn ⟨_,f,rfl⟩ e (fun z=>nomatch z) h
 | @frz a ob xs ea=>
  cases (show u=Value.ref a from d)
  obtain⟨_,_,_,n,_,f⟩:=(show cN X.prog X.w H s.heap a (.frz ob (.lst xs)) from I.hok a _ ea)
  exact Fb PySem.W.kitx_list I.kIn ⟨_,f,rfl⟩ e (fun z=>nomatch z) h
 | @tup a xs ea=>
  cases (show u=Value.ref a from d)
  obtain⟨_,_,_,p⟩:=(show cN X.prog X.w H s.heap a (.tup xs) from I.hok a _ ea)
  obtain⟨o,f,g,_⟩:=p
  exact Fb PySem.W.kitx_tuple I.kIn ⟨o,f,g⟩ e (fun z=>nomatch z) h
 | @dK a kvs ea=>
  cases (show u=Value.ref a from d)
  obtain⟨_,_,vs,_,p⟩:=(show cN X.prog X.w H s.heap a (.dK kvs) from I.hok a _ ea)
  obtain⟨o,es,ep,f,g,_⟩:=p
  exact Fb PySem.W.kitx_dict I.kIn ⟨o,f,g.1⟩ e (fun z=>nomatch z) h
 | @dT a kvs ea=>
  cases (show u=Value.ref a from d)
  obtain⟨_,_,xs,_,o,es,ep,f,g,_⟩:=(show cN X.prog X.w H s.heap a (.dT kvs) from I.hok a _ ea)
  exact Fb PySem.W.kitx_dict I.kIn ⟨o,f,g.1⟩ e (fun z=>nomatch z) h
 | @ins a C dx fs ea cl ha k j l=>
  cases (show u=Value.ref a from d)
  obtain⟨mA,O,_⟩:=rK I.hok ea
  obtain⟨m,J,_⟩:=O.look
  exact Fb (PySem.W.kitx_own (cl.get _) cl.hd ha k j l) I.kIn J e (fun z=>nomatch z) h
end
structure cJ(k:Nat)(A:Bv):Prop where
 hd:A.handled=none
 dp:A.depth + 3 * k + 5 < recursionLimit
 un:A.units + 16 * k + 200 < Gh
theorem cJ.mono{j k:Nat}{A:Bv}(r:cJ k A)(h:j<=k):cJ j A:=⟨r.hd,by have:=r.dp;lia,by have:=r.un;lia⟩
theorem cJ.deeper{k:Nat}{A:Bv}(r:cJ (k + 1) A)(env:Env):cJ k (A.deeper env):=
 ⟨r.hd,by have:=r.dp;show A.depth + 1 + 3 * k + 5 < _;lia,by have:=r.un;show A.units + 3 + 16 * k + 200 < _;lia⟩
theorem O9{A:Bv}{C:Addr}{us:List Ac}{a:List (Str×Ac)}:(A.under (.builtin "type.__call__" ⟨.ref C :: us,a⟩)).depth=A.depth + 1:=by
 first | rfl | simp[Around.under,Code.weight,Code.isCreation,Code.isGuard,Code.isCaller,Code.frames,Code.isFrame,guardIds]
theorem PB{A:Bv}{C:Addr}{us:List Ac}{a:List (Str×Ac)}:(A.under (.builtin "type.__call__" ⟨.ref C :: us,a⟩)).units=A.units + 1:=by
 first | rfl | simp[Around.under,Code.cUnits,Code.frames,Code.isFrame]
theorem cJ.make{k:Nat}{A:Bv}(r:cJ (k + 1) A)(C:Addr)(us:List Ac)(a:List (Str×Ac)):cJ k (A.under (.builtin "type.__call__" ⟨.ref C :: us,a⟩)):=
 ⟨r.hd,by have:=r.dp;rw[O9];lia,by have:=r.un;rw[PB];lia⟩
theorem cJ.depth{k:Nat}{A:Bv}(r:cJ k A):A.depth < recursionLimit:=by have:=r.dp;lia
theorem cJ.units{k:Nat}{A:Bv}(r:cJ k A):A.units + 64 < Gh:=by have:=r.un;lia
def vG:TA:=fun _ H Q=>Q [] H
def PC(ta:TE)(b:TA):TA:=fun σ H Q=>ta σ H fun x a=>b σ a fun xs c=>Q (x :: xs) c
section
variable {X:Cx}{e:Expr}{es:List Expr}{te:TE}{t:TA}{pos:Pos}
theorem PD:PA X [] vG:=fun _ _ _ _ H Q I h=>Calls.spliced_nil ⟨[],H,I,.nil,h⟩
theorem PF(ha:PE X e te)(f:PA X es t)(hs:Bj (e :: es) X.env=(false,eval e X.env) :: Bj es X.env:=by rfl):PA X (e :: es) (PC te t):=by
 intro pos pins s σ H Q I h
 rw[hs]
 show Ax _ _ (spliced ((false,eval e X.env) :: Hl pos (Bj es X.env))) _ _ s
 refine Calls.spliced_cons (aZ (ha pins s σ H _ I h) fun u g ⟨x,a,d,i,b⟩=>?_)
 exact aZ (f pos pins g σ a _ d b) fun us m ⟨xs,l,j,k,c⟩=>⟨x :: xs,l,j,.cons i k,c⟩
def PH(t:TA):TE:=fun σ H Q=>t σ H fun xs a=>xs.length<=Aj/\∀ p,a p=none->Q (.ref p) (aN a p (.tup xs))
def PJ(t:TA):TE:=fun σ H Q=>t σ H fun xs a=>xs.length<=Aj/\∀ p,a p=none->Q (.ref p) (aN a p (.lst xs))
theorem PK{x1}(h:PA X es t):PE X (.Tuple es x1 pos) (PH t):=by
 intro pins s σ H Q I f
 refine wpAny_Tuple_spliced (aZ (h pos pins s σ H _ I f) fun us a ⟨xs,c,d,r,z,q⟩=>⟨by rw[<-r.length];exact z,?_⟩)
 have hf:c a.heap.objs.size=none:=d.hok.fresh (Ai _)
 refine⟨.ref a.heap.objs.size,aN c a.heap.objs.size (.tup xs),d.laid (t':=a.toks) (fun b u e=>Af _ e) (Ai _) ?_,rfl,q _ hf⟩
 exact⟨z,us,r,⟨_,Ap _ rfl,rfl,_,rfl⟩⟩
theorem BM(h:PA X es t):PE X (.List es pos) (PJ t):=by
 intro pins s σ H Q I f
 refine wpAny_List_spliced (aZ (h pos pins s σ H _ I f) fun us a ⟨xs,c,d,r,z,q⟩=>⟨by rw[<-r.length];exact z,?_⟩)
 have hf:c a.heap.objs.size=none:=d.hok.fresh (Ai _)
 refine⟨.ref a.heap.objs.size,aN c a.heap.objs.size (.lst xs),d.laid (t':=a.toks) (fun b u e=>Af _ e) (Ai _) ?_,rfl,q _ hf⟩
 exact⟨z,us,0,r,Ap _ rfl⟩
end
abbrev Sp:=List V->Hp->VK->XK->Prop
abbrev jB:=List Env->Hp->Ah->XK->Ac->Ah->Prop
structure mL(P:Bl)(w:Cb)(K:Ae)(mg:Str->Option Ac)(base:Heap)(A:Bv)(outer:List Env)(s:Ah)(H:Hp):Prop where
 frames:A.frames=some outer
 mod:Mod K mg base
 bs:∀ b o,base.get? b=some o->s.heap.get? b=some o/\H b=none
 bsz:base.objs.size<=s.heap.objs.size
 funs:s.heap.FunFrames base outer
 frf:∀ b∈gU outer,H b=none
 hok:cM P w H s.heap
 bare:Nv s.gens
def CE(outer:List Env)(P:Bl)(w:Cb)(H:Hp)(s:Ah)(Q:VK)(u:Ac)(s':Ah):Prop:=
 ∃ v H',s'.os=s.os/\Nv s'.gens/\Un (gU outer) [] H H' s.heap s'.heap/\cM P w H' s'.heap/\RelV v u/\Q v H'
def CR(CX:jB)(outer:List Env)(P:Bl)(w:Cb)(H:Hp)(s:Ah)(Q:VK)(E:XK)(r:Result)(s':Ah):Prop:=
 match r with
 | .ok (.ret u)=>CE outer P w H s Q u s'
 | .ok _=>False
 | .error e=>CX outer H s E e s'
structure e6(P:Bl)(w:Cb)(K:Ae)(mg:Str->Option Ac)(base:Heap)(CX:jB)(k:Nat)(f:Addr)(fd:Bw)(ps:List Str)(sp:Sp):Prop where
 len:∀ vs H Q E,sp vs H Q E->vs.length=ps.length
 run:∀ (A:Bv) (outer:List Env) (s:Ah) (H:Hp) (args:Args) (us:List Ac) (vs:List V) (Q:VK) (E:XK),cJ k A->mL P w K mg base A outer s H->BindsTo s fd args (ps.zip us)->aR vs us->sp vs H Q E->
  Jv (Bk P w) A (.call (.ref f) args) (CR CX outer P w H s Q E) s
theorem mL.make{P:Bl}{w:Cb}{K:Ae}{mg:Str->Option Ac}{base:Heap}{A:Bv}{outer:List Env}{s:Ah}{H:Hp}(e:mL P w K mg base A outer s H)(C:Addr)(us:List Ac)(a:List (Str×Ac)) :
  mL P w K mg base (A.under (.builtin "type.__call__" ⟨.ref C :: us,a⟩)) outer s H:=⟨by first | exact e.frames | (simpa [Around.under,Code.envs,Code.isFrame,pushEnvs] using e.frames),e.mod,e.bs,e.bsz,e.funs,e.frf,e.hok,e.bare⟩
section
variable {X:Cx}{pins:List (Addr×Obj)}{σ:St}{H:Hp}{s s':Ah}
theorem Inv.env0(I:Inv X pins σ H s):mL X.prog X.w X.K X.mg X.base X.A X.stack s H:=
 ⟨I.ok.frames,I.ok.mod,I.bs,Bp I.ok.bsz I.sz,I.stack,I.stkFree,I.hok,I.bare⟩
theorem Inv.after{Q:VK}{u:Ac}(I:Inv X pins σ H s)(h:CE X.stack X.prog X.w H s Q u s'):EP X pins σ Q u s':=by
 obtain⟨v,H',os,bare,un,hok,r,q⟩:=h
 obtain⟨c,g,d,t,a⟩:=s'
 obtain rfl:a=s.os:=os
 exact⟨v,H',I.call (h':=c) (g':=g) (d':=d) (t':=t) (ch:=[]) un hok bare (fun b z=>absurd z (by simp)),r,q⟩
end
def BN(sp:Sp)(dvs:List V)(E:XK)(t:TA):TE:=fun σ H Q=>t σ H fun vs a=>sp (vs ++ dvs) a Q E
def vH(C:Addr)(m:Str)(sp:Sp)(dvs:List V)(E:XK)(ta:TE)(t:TA):TE:=fun σ H Q=>ta σ H fun x b=>∃ a dx fs,x=.ref a/\b a=some (.ins C dx fs)/\fs.lookup m=none/\
 t σ b fun vs c=>sp (x :: (vs ++ dvs)) c Q E
def BO(C:Addr)(sp:Sp)(dvs:List V)(E:XK)(t:TA):TE:=fun σ H Q=>t σ H fun vs a=>∀ x dx,a x=none->a dx=none->dx≠x->
 sp (.ref x :: (vs ++ dvs)) (aN (aN a dx (.own x)) x (.ins C dx [])) (fun v b=>v=.non/\Q (.ref x) b) E
def Binds(K:Ae)(fd:Bw)(ps:List Str)(ds:List Ac):Prop:=
 ∀ (s:Ah) (us:List Ac),K.In s.heap->(us ++ ds).length=ps.length->BindsTo s fd ⟨us,[]⟩ (ps.zip (us ++ ds))
theorem Binds.all{K:Ae}{fd:Bw}{ps:List Str}(h:∀ us:List Ac,us.length=ps.length->bindArgs fd ⟨us,[]⟩=pure (ps.zip us)):Binds K fd ps []:=fun s us _ hl=>by
 rw[Gf] at hl ⊢
 exact .of_eq (h us hl)
def lI(CX:jB)(X:Cx)(E:XK):Prop:=∀ (pins:List (Addr×Obj)) (σ:St) (H:Hp) (s:Ah) (e:Ac) (s':Ah),Inv X pins σ H s->CX X.stack H s E e s'->X.xe e s'
section
variable {X:Cx}{CX:jB}{k:Nat}{f C:Addr}{fd:Bw}{ps:List Str}{sp:Sp}{dvs:List V}{ds:List Ac}{E:XK}{x m:Str}{p pos apos:Pos}{e o:Expr}{es:List Expr}{ta:TE}{t:TA}
theorem vI{pins:List (Addr×Obj)}{σ:St}{H:Hp}{s:Ah}{Q:VK}{us:List Ac}{vs:List V}(F:e6 X.prog X.w X.K X.mg X.base CX k f fd ps sp)(hr:cJ k X.A)(hb:Binds X.K fd ps ds)(hd:aR dvs ds)(hx:lI CX X E)
  (I:Inv X pins σ H s) (r:aR vs us) (h:sp (vs ++ dvs) H Q E):Ax (Bk X.prog X.w) X.A (call (.ref f) us) (EP X pins σ Q) X.xe s:=by
 have r2:aR (vs ++ dvs) (us ++ ds):=r.append hd
 have hl:(us ++ ds).length=ps.length:=by rw[<-r2.length];exact F.len _ _ _ _ h
 refine wpAny_call (Kq (F.run X.A X.stack s H ⟨us,[]⟩ (us ++ ds) (vs ++ dvs) Q E hr I.env0 (hb s us I.kIn hl) r2 h) fun r s' hq=>?_)
 cases r with
 | error e=>exact hx pins σ H s e s' I hq
 | ok fl=>
  cases fl with
  | ret u=>exact I.after hq
  | next=>exact Gu hq
  | brk=>exact Gu hq
  | cont=>exact Gu hq
theorem PL(F:e6 X.prog X.w X.K X.mg X.base CX k f fd ps sp)(g:cJ k X.A)(d:Gl X x)(l:X.mg x=some (.ref f))(hk:Fx X.K (.ref f)=true)(hb:Binds X.K fd ps ds)(hd:aR dvs ds)(i:lI CX X E)
  (ha:PA X (e :: es) t) (b:(x == ("__debug__" : Str))=false:=by decide) (j:Bj (e :: es) X.env=(false,eval e X.env) :: Bj es X.env:=by rfl) (a:(Hl pos (Bj es X.env)).any (·.1)=false:=by rfl) :
  PE X (.Call (.Name x p) (e :: es) [] pos) (BN sp dvs E t):=by
 intro pins s σ H Q I h
 refine Fh (rC I d l ?_ b)
 refine PySem.W.callWith_K (h₀:=X.base) I.ok.mod.kin hk (aZ (ha pos pins s σ H _ I h) fun us n ⟨vs,m,c,r,q⟩=>⟨c.kIn,?_⟩) j a
 exact vI F g hb hd i c r q
theorem PM{pl:Sem Bool}(G:PE X o ta)(c:gA X.K C)(n:nM X.K C m f)(F:e6 X.prog X.w X.K X.mg X.base CX k f fd ps sp)(z:cJ k X.A)(hb:Binds X.K fd ps ds)(hd:aR dvs ds)(D:lI CX X E)(ha:PA X (e :: es) t)
  (d:Bj (e :: es) X.env=(false,eval e X.env) :: Bj es X.env:=by rfl) (b:(Hl pos (Bj es X.env)).any (·.1)=false:=by rfl)
  (ht:eval (.Call (.Attribute o m apos) (e :: es) [] pos) X.env=(do
   let g <-eval o X.env
   Oj apos.atName
   let (f,first) <-Ip [g] (Om g m pl)
   callWith pos f first (Hl pos (Bj (e :: es) X.env)) (Oh pos (Li [] X.env))):=by rfl) :
  PE X (.Call (.Attribute o m apos) (e :: es) [] pos) (vH C m sp dvs E ta t):=by
 intro pins s σ H Q I h
 refine PySem.W.methodCall_KW (pl:=pl) (aZ (G pins s σ H _ I h) fun u B ⟨x,p,i,y,a,dx,fs,ex,ea,l,q⟩=>?_) ht
 subst ex
 obtain rfl:u=Value.ref a:=y
 refine BL i ea c n l ?_
 refine PySem.W.callWith_K (first:=[.ref a]) (h₀:=X.base) I.ok.mod.kin n.kp (aZ (ha pos pins B σ p _ i q) fun us J ⟨vs,L,j,r,v⟩=>⟨j.kIn,?_⟩) d b
 exact vI (us:=.ref a :: us) (vs:=.ref a :: vs) F z hb hd D j (.cons rfl r) v
theorem PN{pl:Sem Bool}(n:PE X o ta)(c:gA X.K C)(e:nM X.K C m f)(F:e6 X.prog X.w X.K X.mg X.base CX k f fd ps sp)(i:cJ k X.A)(hb:Binds X.K fd ps ds)(hd:aR dvs ds)(j:lI CX X E)
  (ht:eval (.Call (.Attribute o m apos) [] [] pos) X.env=(do
   let d <-eval o X.env
   Oj apos.atName
   let (f,first) <-Ip [d] (Om d m pl)
   callWith pos f first (Hl pos (Bj [] X.env)) (Oh pos (Li [] X.env))):=by rfl) :
  PE X (.Call (.Attribute o m apos) [] [] pos) (vH C m sp dvs E ta vG):=by
 intro pins s σ H Q I h
 refine PySem.W.methodCall_KW (pl:=pl) (aZ (n pins s σ H _ I h) fun u r ⟨x,p,b,g,a,dx,fs,ex,ea,l,q⟩=>?_) ht
 subst ex
 obtain rfl:u=Value.ref a:=g
 refine BL b ea c e l ?_
 exact PySem.W.callWith_K0 (first:=[.ref a]) b.kIn e.kp (vI (us:=[.ref a]) (vs:=[.ref a]) F i hb hd j b (.cons rfl .nil) q)
structure Mk(K:Ae)(C f:Addr):Prop where
 makes:PySem.W.makesIn K C=true
 init:Cj K (.ref C) "__init__" = some (some (.ref f))
 fn:Mf K (.ref f)=true
 kp:Fx K (.ref C)=true
theorem BP{pins:List (Addr×Obj)}{σ:St}{H:Hp}{s:Ah}{Q:VK}{us:List Ac}{vs:List V}(M:Mk X.K C f)(F:e6 X.prog X.w X.K X.mg X.base CX k f fd ps sp)(hr:cJ (k + 1) X.A)(hb:Binds X.K fd ps ds)(hd:aR dvs ds)
  (hx:lI CX X E) (I:Inv X pins σ H s) (r:aR vs us)
  (h:∀ x dx,H x=none->H dx=none->dx≠x->sp (.ref x :: (vs ++ dvs)) (aN (aN H dx (.own x)) x (.ins C dx [])) (fun v H2=>v=.non/\Q (.ref x) H2) E) :
  Ax (Bk X.prog X.w) X.A (call (.ref C) us) (EP X pins σ Q) X.xe s:=by
 have hq:=h (s.heap.objs.size + 1) s.heap.objs.size (I.hok.fresh (Kz _)) (I.hok.fresh (Ai _)) (Bf (Hy _))
 have I2:=Inv.made (C:=C) I
 have r2:aR (V.ref (s.heap.objs.size + 1) :: (vs ++ dvs)) (Value.ref (s.heap.objs.size + 1) :: (us ++ ds)):=.cons rfl (r.append hd)
 have hl:(Value.ref (s.heap.objs.size + 1) :: us ++ ds).length=ps.length:=by
  have e:=r2.length
  rw[F.len _ _ _ _ hq] at e
  exact e.symm
 refine wpAny_call (OX (f:=f) I.kIn M.makes M.init (beq_iff_eq.mp M.fn) (Kq (F.run _ X.stack _ _ ⟨Value.ref (s.heap.objs.size + 1) :: us,[]⟩ (Value.ref (s.heap.objs.size + 1) :: (us ++ ds)) _ _ E (hr.make C us [])
  (I2.env0.make C us []) (hb _ (Value.ref (s.heap.objs.size + 1) :: us) I2.kIn hl) r2 hq) fun r s' hq'=>?_))
 cases r with
 | error e=>exact hx pins σ _ _ e s' I2 hq'
 | ok fl=>
  cases fl with
  | ret u=>
   obtain⟨v,H',I3,rv,ev,q3⟩:=I2.after hq'
   subst ev
   exact⟨rv,⟨V.ref (s.heap.objs.size + 1),H',I3,rfl,q3⟩⟩
  | next=>exact Gu hq'
  | brk=>exact Gu hq'
  | cont=>exact Gu hq'
theorem PQ(M:Mk X.K C f)(F:e6 X.prog X.w X.K X.mg X.base CX k f fd ps sp)(g:cJ (k + 1) X.A)(d:Gl X x)(l:X.mg x=some (.ref C))(hb:Binds X.K fd ps ds)(hd:aR dvs ds)(i:lI CX X E)
  (ha:PA X (e :: es) t) (b:(x == ("__debug__" : Str))=false:=by decide) (j:Bj (e :: es) X.env=(false,eval e X.env) :: Bj es X.env:=by rfl) (a:(Hl pos (Bj es X.env)).any (·.1)=false:=by rfl) :
  PE X (.Call (.Name x p) (e :: es) [] pos) (BO C sp dvs E t):=by
 intro pins s σ H Q I h
 refine Fh (rC I d l ?_ b)
 refine PySem.W.callWith_K (h₀:=X.base) I.ok.mod.kin M.kp (aZ (ha pos pins s σ H _ I h) fun us n ⟨vs,m,c,r,q⟩=>⟨c.kIn,?_⟩) j a
 exact BP M F g hb hd i c r q
theorem PR(M:Mk X.K C f)(F:e6 X.prog X.w X.K X.mg X.base CX k f fd ps sp)(c:cJ (k + 1) X.A)(b:Gl X x)(e:X.mg x=some (.ref C))(hb:Binds X.K fd ps ds)(hd:aR dvs ds)(d:lI CX X E)
  (a:(x == ("__debug__" : Str))=false:=by decide):PE X (.Call (.Name x p) [] [] pos) (BO C sp dvs E vG):=by
 intro pins s σ H Q I h
 refine Fh (rC I b e ?_ a)
 exact PySem.W.callWith_K0 I.kIn M.kp (BP (us:=[]) M F c hb hd d I .nil h)
end
section
variable {X:Cx}{CX:jB}{k:Nat}{f C:Addr}{fd:Bw}{ps ks:List Str}{sp:Sp}{E:XK}{x m:Str}{p pos apos kpos:Pos}{e o:Expr}{es:List Expr}{kws:List Keyword}{te ta:TE}{t tk:TA}{nm:Option Str}
variable {g:List Ac->List Ac->List Ac}{gV:List V->List V->List V}
end
structure nN(N P:List Str)(sc:Ke):Prop where
 kind:sc.kind=.function
 co:sc.isCoroutine=false
 gen:sc.isGenerator=false
 nd:N.Nodup
 pre:N.take P.length=P
 par:∀ x∈P,sc.names.lookup x=some .local\/sc.names.lookup x=some .cell
 nofree:∀ y∈sc.names,y.2≠.free
theorem BQ{a:Str->Option Jo}{x:Str}:∀ {binds:List (Str×Ac)} {m:Str->Option Ac},(∀ v,(x,v)∉binds)->bindL a binds m x=m x
 | [],_,_=>rfl
 | (n,v) :: r,m,h=>by
  unfold bindL
  rw[BQ fun w hw=>h w (Bd _ hw)]
  split
  ·have:x≠n:=by rintro rfl;exact h v Bi
   simp[this]
  ·rfl
theorem BR{a:Str->Option Jo}{x:Str}:∀ {binds:List (Str×Ac)} {m:Str->Option Ac},(∀ v,(x,v)∉binds)->bindC a binds m x=m x
 | [],_,_=>rfl
 | (n,v) :: r,m,h=>by
  unfold bindC
  rw[BR fun w hw=>h w (Bd _ hw)]
  split
  ·rfl
  ·have:x≠n:=by rintro rfl;exact h v Bi
   simp[this]
theorem BS{a:Str->Option Jo}{x:Str}{v:Ac}:∀ {P:List Str} {vs:List Ac} {i:Nat} {m:Str->Option Ac},P.Nodup->P[i]? = some x->vs[i]? = some v->a x=some .local->
  bindL a (P.zip vs) m x=some v
 | [],_,_,_,_,h,_,_=>by simp at h
 | _ :: _,[],_,_,_,_,h,_=>by simp at h
 | p :: P,w :: vs,0,m,nd,b,c,hk=>by
  simp at b c;subst b;subst c
  show bindL a ((p,w) :: P.zip vs) m p=_
  unfold bindL
  rw[BQ fun v d=>(Dr.mp nd).1 (List.of_mem_zip d).1,if_pos hk]
  simp
 | p :: P,w :: vs,i + 1,m,nd,b,c,hk=>by
  show bindL a ((p,w) :: P.zip vs) m x=_
  unfold bindL
  exact BS (i:=i) (Dr.mp nd).2 (by simpa using b) (by simpa using c) hk
theorem BU{a:Str->Option Jo}{x:Str}{v:Ac}:∀ {P:List Str} {vs:List Ac} {i:Nat} {m:Str->Option Ac},P.Nodup->P[i]? = some x->vs[i]? = some v->a x≠some .local->
  bindC a (P.zip vs) m x=some v
 | [],_,_,_,_,h,_,_=>by simp at h
 | _ :: _,[],_,_,_,_,h,_=>by simp at h
 | p :: P,w :: vs,0,m,nd,b,c,hk=>by
  simp at b c;subst b;subst c
  show bindC a ((p,w) :: P.zip vs) m p=_
  unfold bindC
  rw[BR fun v d=>(Dr.mp nd).1 (List.of_mem_zip d).1,if_neg hk]
  simp
 | p :: P,w :: vs,i + 1,m,nd,b,c,hk=>by
  show bindC a ((p,w) :: P.zip vs) m x=_
  unfold bindC
  exact BU (i:=i) (Dr.mp nd).2 (by simpa using b) (by simpa using c) hk
def start(N:List Str)(vs:List V):St:=vs.map some ++ Bu (N.length - vs.length) none
def lJ(CX:jB)(P:Bl)(w:Cb)(K:Ae)(mg:Str->Option Ac)(base:Heap)(N:List Str)(b:Str)(a:Ke)(f:Addr)(d:Ac)(A:Bv)(outer:List Env)(s:Ah)(H:Hp)(E:XK):Cx where
 prog:=P
 w:=w
 K:=K
 mg:=mg
 base:=base
 A:=A.deeper (Mz b a s.heap.objs.size f d)
 N:=N
 s₀:=s
 H₀:=H
 env:=Mz b a s.heap.objs.size f d
 outer:=outer
 stack:=Mz b a s.heap.objs.size f d :: outer
 ex:=[]
 calm:=true
 fn:=fun _=>true
 pn:=[]
 xe:=fun e s'=>Ax (Bk P w) (A.deeper (Mz b a s.heap.objs.size f d)) (leaving (Mz b a s.heap.objs.size f d) e) (fun _ c=>CX outer H s E e c) (fun g c=>CX outer H s E g c) s'
theorem BV{sc:Ke}{n:Nat}{x:Str}(h:sc.names.lookup x=some .cell):∃ c,(cellsFrom n sc.names []).lookup x=some c:=by
 have q:=PySem.W.cellsFrom_some sc.names n [] (.inl h)
 exact Option.isSome_iff_exists.mp q
theorem PU{CX:jB}{P:Bl}{w:Cb}{K:Ae}{mg:Str->Option Ac}{base:Heap}{N ps:List Str}{g:Str}{d:Ke}{f:Addr}{C:Ac}{A:Bv}{outer:List Env}{s F:Ah}{H:Hp}{E:XK}{us:List Ac}{vs:List V}
  (S:nN N ps d) (hd:A.handled=none) (l:mL P w K mg base A outer s H) (hl:vs.length=ps.length) (r:aR vs us)
  (x:InCallC s s.heap.objs.size (bindL (Mz g d s.heap.objs.size f C).kindOf (ps.zip us) fun _=>none) (cellsFrom (s.heap.objs.size + 1) d.names []) (bindC (Mz g d s.heap.objs.size f C).kindOf (ps.zip us) fun _=>none) F) :
  Inv (lJ CX P w K mg base N g d f C A outer s H E) [] (start N vs) H F:=by
 have I:ps.length<=N.length:=by have:=congrArg Bb S.pre;rw[Cf] at this;lia
 obtain⟨D,tk,rfl,hk⟩:=x.done
 have o:∀ b:Addr,b∉(lJ CX P w K mg base N g d f C A outer s H E).ex:=fun b z=>absurd (show b∈([]:List Addr) from z) (by simp)
 refine⟨⟨l.mod,S.kind,rfl,rfl,Ai _,fun y z c D j=>?_,fun y m=>?_,fun y c _ h=>?_,fun _=>hd,Around.frames_deeper l.frames,.inr ⟨rfl,rfl⟩,fun b z=>absurd z (o b),l.bs,l.bsz,fun b _ _=>o b,fun b z=>absurd z (o b),l.funs,l.frf⟩,
  rfl,l.bare,Un.kept hk,⟨_,x.toInCall.ns,fun i y v D j L=>?_⟩,fun y c h=>⟨_,x.cell y c h⟩,l.hok.fresh (Ai _),fun y c h=>?_,fun p t=>absurd (show p∈([]:List (Addr×Obj)) from t) (by simp),l.hok.kept hk,?_⟩
 ·exact name_of_addr x.apart (Hm D) (Hm j)
 ·have m:d.names.lookup y=some .cell\/d.names.lookup y=some .free:=m
  rcases m with m | m
  ·exact BV m
  ·exact absurd rfl (S.nofree _ (Hm m))
 ·exact Ic (x.above y c (Hm h))
 ·have hi:i < vs.length:=by
   unfold start at j
   by_cases hi:i < vs.length
   ·exact hi
   ·rw[List.getElem?_append_right (by simpa using hi)] at j
    rw[List.getElem?_replicate] at j
    split at j <;> cases j
  have ha:vs[i]? = some v:=by
   unfold start at j
   rw[List.getElem?_append_left (by simpa using hi),Bh] at j
   cases e:vs[i]? with
   | none=>rw[e] at j;cases j
   | some a=>rw[e] at j;cases j;rfl
  obtain⟨u,G,J⟩:=r.get ha
  have t:ps[i]? = some y:=by
   rw[<-S.pre,List.getElem?_take_of_lt (by lia)];exact D
  have B:ps.Nodup:=by rw[<-S.pre];exact S.nd.sublist (List.take_sublist _ _)
  refine⟨u,J,?_⟩
  rcases S.par y (Be t) with k | k
  ·exact .inl ⟨k,BS B t G k⟩
  ·obtain⟨c,e⟩:=BV (n:=s.heap.objs.size + 1) k
   refine .inr ⟨.inl k,c,e,?_⟩
   have q:=x.cell y c e
   rw[BU B t G (by show d.names.lookup y≠_;rw[k];decide)] at q
   exact q
 ·exact l.hok.fresh (Ic (x.above y c (Hm h)))
 ·unfold start
  show _=N.length
  rw[Av,Ab,List.length_replicate]
  lia
theorem PV{CX:jB}{P:Bl}{w:Cb}{K:Ae}{mg:Str->Option Ac}{base:Heap}{k:Nat}{f:Addr}{name qual:Str}{params:Arguments}{body:List Stmt}{scope:Ke}{dV kV doc pm cdv ct oc:Ac}{an od:Option Addr}
  {osl:Array (Option Ac)} {N ps:List Str} {sp:Sp} (lk:K.lookup f=some ⟨oc,od,.func (Fc name qual params body scope dV kV doc pm an cdv ct),osl⟩) (hcd:Jy K cdv qual=true) (S:nN N ps scope)
  (len:∀ vs H Q E,sp vs H Q E->vs.length=ps.length)
  (hbody:∀ (A:Bv) (outer:List Env) (s:Ah) (H:Hp) (vs:List V) (Q:VK) (E:XK),cJ k (A.deeper (Mz qual scope s.heap.objs.size f cdv))->sp vs H Q E->
   ∃ t,fR (lJ CX P w K mg base N qual scope f cdv A outer s H E) body t/\t {nx:=fun _ H'=>Q .non H',rt:=Q} (start N vs) H) :
  e6 P w K mg base CX (k + 1) f (Fc name qual params body scope dV kV doc pm an cdv ct) ps sp:=by
 refine⟨len,fun A outer s H args us vs Q E hr e0 hb r hsp=>?_⟩
 have hl:=len _ _ _ _ hsp
 have KX:K.In s.heap:=e0.mod.kin.keeps fun b o e=>(e0.bs b o e).1
 have lim:s.heap.NoLimit:=e0.mod.nolimit.keeps fun b o e=>(e0.bs b o e).1
 have hkind:∀ y∈ps.zip us,scope.names.lookup y.1=some .local\/(scope.names.lookup y.1=some .cell/\((cellsFrom (s.heap.objs.size + 1) scope.names []).lookup y.1).isSome=true):=fun⟨n,v⟩ hy=>by
  rcases S.par n (List.of_mem_zip hy).1 with q | q
  ·exact .inl q
  ·exact .inr ⟨q,PySem.W.cellsFrom_some _ _ _ (.inl q)⟩
 refine codeAny_call_function hr.depth (KX _ _ lk) rfl S.co S.gen rfl (PySem.W.codeRec_of KX hcd) (hb _ _ _ _ ?_)
 refine wpAny_newFunctionEnv_cells S.kind hkind fun env he s1 x=>?_
 subst he
 refine⟨lim.keeps x.toInCall.keep,codeAny_func ?_⟩
 obtain⟨t,ht,hq⟩:=hbody A outer s H vs Q E (hr.deeper _) hsp
 have I:Inv (lJ CX P w K mg base N qual scope f cdv A outer s H E) [] (start N vs) H s1:=PU S hr.hd e0 hl r x
 refine Hw (ht [] s1 (start N vs) H _ I hq) (fun fl s' hs=>?_) fun e s' hs=>hs
 have fin:∀ {σ':St} {H':Hp} {v:V} {u:Ac},Inv (lJ CX P w K mg base N qual scope f cdv A outer s H E) [] σ' H' s'->RelV v u->Q v H'->CE outer P w H s Q u s':=
  fun {σ' H' v u} J rv q=>⟨v,H',J.os,J.bare,J.base,J.hok,rv,q⟩
 cases fl with
 | ret u=>
  obtain⟨v,σ',H',J,rv,q⟩:=hs
  exact fin J rv q
 | next=>
  obtain⟨σ',H',J,q⟩:=hs
  exact fin (v:=V.non) (u:=Value.none) J rfl q
 | brk=>
  obtain⟨_,_,_,q⟩:=hs
  exact Gu q
 | cont=>
  obtain⟨_,_,_,q⟩:=hs
  exact Gu q
section
variable {X:Cx}{x:Str}{p pos:Pos}{e:Expr}{es:List Expr}{t:TA}{id T:String}{r:List V->Hp->VK->Prop}
def vJ(r:List V->Hp->VK->Prop)(t:TA):TE:=fun b H Q=>t b H fun vs a=>r vs a Q
theorem PX(hc:cU X (.builtin id) r)(i:Gl X x)(f:X.mg x=none)(j:Cv x=some (.builtin id))(ha:PA X (e :: es) t)(k:x≠"__name__":=by decide)(c:(x == ("__debug__" : Str))=false:=by decide)
  (g:Bj (e :: es) X.env=(false,eval e X.env) :: Bj es X.env:=by rfl) (b:(Hl pos (Bj es X.env)).any (·.1)=false:=by rfl):PE X (.Call (.Name x p) (e :: es) [] pos) (vJ r t):=by
 intro a s d H Q I h
 refine Fh (i9 I i f j ?_ k c)
 exact PyProof.Rows.callWith_builtin1 (aZ (ha pos a s d H _ I h) fun us q ⟨vs,m,o,n,l⟩=>hc a q d m vs us Q o n l) g b
theorem PY(hc:cU X (.type T) r)(i:Gl X x)(f:X.mg x=none)(j:Cv x=some (.type T))(ha:PA X (e :: es) t)(k:x≠"__name__":=by decide)(c:(x == ("__debug__" : Str))=false:=by decide)
  (g:Bj (e :: es) X.env=(false,eval e X.env) :: Bj es X.env:=by rfl) (b:(Hl pos (Bj es X.env)).any (·.1)=false:=by rfl):PE X (.Call (.Name x p) (e :: es) [] pos) (vJ r t):=by
 intro a s d H Q I h
 refine Fh (i9 I i f j ?_ k c)
 exact Dv (aZ (ha pos a s d H _ I h) fun us q ⟨vs,m,o,n,l⟩=>hc a q d m vs us Q o n l) g b
end
end L2
namespace HT
open PySem PyProof.Rows
section
open PySem.SeqAt
open PySem.AutoSeq1 (wpAny_loadPart')
open PySem.MeetsSeq PySem.MeetsSeq2 PySem.MeetsSeq3
end
section
variable {prog:Bl}{w:Cb}{A:Bv}{E:Ac->Ah->Prop}{s:Ah}
theorem cat_tup{t b:Addr}{vs ws:List Ac}{Q:Ac->Ah->Prop}(ht:IsTup s.heap t vs.toArray)(hb:IsTup s.heap b ws.toArray)(k:vs≠[])
  (p:ws=[]->Q (.ref t) s) (o:ws≠[]->Q (.ref s.heap.objs.size) {s with heap:=s.heap.push {cls:=.type "tuple",data:=.seq (vs ++ ws).toArray}})
  (hsz:vs.length + ws.length<=Aj):Ax (Bk prog w) A (Ft .Add (.ref t) (.ref b)) Q E s:=by
 obtain⟨⟨cls,m,data,sl⟩,h,hc,n,hd⟩:=id ht
 obtain⟨⟨j,d,i,g⟩,a,c,l,f⟩:=id hb
 simp only at hc hd c f
 subst hc hd c f
 have e:vs.toArray ++ ws.toArray=(vs ++ ws).toArray:=by simp
 by_cases hw:ws=[]
 ·exact concat_meets ⟨_,h,rfl⟩ ⟨_,a,rfl⟩ noFill_tuple_add seq_tuple_add PySem.F.slot_tuple_add PySem.F.entry_tuple_add (PySem.F.args_tuple_add_2 _ _)
   (tuple_addW1 t b vs.toArray ws.toArray n l m d sl g (by simpa using k) (by simp[hw])) ⟨h,a,p hw⟩
 ·refine concat_meets ⟨_,h,rfl⟩ ⟨_,a,rfl⟩ noFill_tuple_add seq_tuple_add PySem.F.slot_tuple_add PySem.F.entry_tuple_add (PySem.F.args_tuple_add_2 _ _)
   (tuple_addW2 t b vs.toArray ws.toArray n l m d sl g (by simpa using k) (by simpa using hw) (by rw[Bc,Bc];exact hsz)) ⟨h,a,?_⟩
  rw[e]
  exact o hw
def sIx(n d:Nat):Option Int->Nat
 | none=>d
 | some v=>if v < 0 then(v + (n:Int)).toNat else min v.toNat n
theorem sIx_none(n d:Nat):sIx n d none=d:=rfl
theorem sIx_nat(n d k:Nat):sIx n d (some (k:Int))=min k n:=by
 show(if (k:Int) < 0 then((k:Int) + (n:Int)).toNat else min (k:Int).toNat n)=min k n
 rw[if_neg (by lia),Cm]
theorem PZ(n d:Nat)(hd:d<=n)(o:Option Int):sIx n d o<=n:=by
 cases o with
 | none=>exact hd
 | some v=>
  show(if v < 0 then(v + (n:Int)).toNat else min v.toNat n)<=n
  by_cases a:v < 0
  ·rw[if_pos a];lia
  ·rw[if_neg a];exact Nat.min_le_right _ _
theorem BW(v:Int)(n d:Nat):(if v < 0 then max (v + (n:Int)) 0 else min v (n:Int))=((sIx n d (some v):Nat):Int):=by
 show(if v < 0 then max (v + (n:Int)) 0 else min v (n:Int))=(((if v < 0 then(v + (n:Int)).toNat else min v.toNat n):Nat):Int)
 by_cases a:v < 0
 ·simp only[if_pos a];lia
 ·simp only[if_neg a];lia
theorem P0(lo hi:Option Int)(n:Nat):Kr lo hi 1 (n:Int)=(((sIx n 0 lo:Nat):Int),((sIx n n hi:Nat):Int)):=by
 have a:¬ ((1:Int) < 0):=by lia
 unfold Kr
 simp only[a,if_false]
 refine Prod.ext ?_ ?_
 ·cases lo with
  | none=>rfl
  | some v=>exact BW v n 0
 ·cases hi with
  | none=>rfl
  | some v=>exact BW v n n
theorem P1(i j:Nat):Ig (i:Int) (j:Int) 1=j - i:=by
 unfold Ig
 have a:(1:Int) > 0:=by lia
 simp only[a,if_true,Int.ediv_one]
 split <;> lia
theorem BX{v:Ac}{o:Option Int}{Q:Option Int->Ah->Prop}(p:IsPart v o)(h:Q o s):Ax (Bk prog w) A (Builtin.Slice.slicePartIndex v) Q E s:=by
 cases p with
 | none=>exact slicePart_none h
 | int i t=>exact slicePart_int h
theorem P2{sl:Addr}{c d:Ac}{lo hi:Option Int}{n:Nat}{Q:Int×Int×Nat->Ah->Prop}(hs:s.heap.IsSliceOf sl c d .none)(pl:IsPart c lo)(e:IsPart d hi)
  (h:Q (((sIx n 0 lo:Nat):Int),1,sIx n n hi - sIx n 0 lo) s):Ax (Bk prog w) A (Builtin.Slice.sliceApplied (.ref sl) (pure (n:Int))) Q E s:=by
 obtain⟨os,a,f,b⟩:=id hs
 unfold Builtin.Slice.sliceApplied Builtin.Slice.sliceFields
 refine Aa (Aa (Fl a b (x:=c) rfl (Aa (Fl a b (x:=d) rfl (Aa (Fl a b (x:=.none) rfl (Ag ?_)))))))
 refine Aa (slicePart_none ?_)
 show Ax _ _ (if ((1:Int) == 0)=true then _ else _) _ _ s
 rw[if_neg (by decide)]
 refine Aa (BX pl (Aa (BX e (Aa (Ag ?_)))))
 show Ax _ _ (match Kr lo hi 1 (n:Int) with | (lo,hi)=>pure (lo,(1:Int),Ig lo hi 1)) _ _ s
 rw[P0 lo hi n]
 show Ax _ _ (pure (((sIx n 0 lo:Nat):Int),(1:Int),Ig ((sIx n 0 lo:Nat):Int) ((sIx n n hi:Nat):Int) 1)) _ _ s
 rw[P1]
 exact Ag h
theorem P4(xs:Array Ac)(i k:Nat):((Ce k).filterMap fun(m:Nat)=>xs[((i:Int) + (m:Int) * 1).toNat]?).toArray=((xs.toList.drop i).take k).toArray:=by
 have e:(fun(m:Nat)=>xs[((i:Int) + (m:Int) * 1).toNat]?)=fun m=>xs[i + m]?:=by
  funext m
  have:((i:Int) + (m:Int) * 1).toNat=i + m:=by lia
  rw[this]
 rw[e]
 have:=pick_run xs i k
 rw[List.filterMap_map] at this
 have a:((fun x=>xs[x]?) ∘ fun x=>i + x)=fun m=>xs[i + m]?:=rfl
 rw[a] at this
 rw[this]
theorem getItem_tuple_cut{t sl:Addr}{items:Array Ac}{f g:Ac}{lo hi:Option Int}{Q:Ac->Ah->Prop}(ht:IsTup s.heap t items)(hs:s.heap.IsSliceOf sl f g .none)(pl:IsPart f lo)(i:IsPart g hi)
  (hw:¬ (sIx items.size 0 lo=0/\sIx items.size items.size hi=items.size))
  (h:Q (.ref s.heap.objs.size) {s with heap:=s.heap.push {cls:=.type "tuple",data:=.seq ((items.toList.drop (sIx items.size 0 lo)).take (sIx items.size items.size hi - sIx items.size 0 lo)).toArray}})
  (hsz:items.size<=Aj):Ax (Bk prog w) A (getItem (.ref t) (.ref sl)) Q E s:=by
 have a:sizeOk (.seq ((items.toList.drop (sIx items.size 0 lo)).take (sIx items.size items.size hi - sIx items.size 0 lo)).toArray):=by
  show((items.toList.drop (sIx items.size 0 lo)).take (sIx items.size items.size hi - sIx items.size 0 lo)).toArray.size<=Aj
  rw[Bc,Cf,Gs,Bx]
  lia
 have n:sIx items.size items.size hi<=items.size:=PZ _ _ (Ai _) hi
 obtain⟨os,b,e,j⟩:=id hs
 have c:s.TypeIs (.ref sl) "slice":=⟨os,b,e⟩
 unfold getItem
 try with_reducible refine Ct ?_
 first | refine Aa (Ag ?_) | skip
 refine Aa (wpAny_sequenceKey ht.typeIs (by decide) ?_)
 refine Aa (Ee (name:=Cz "__getitem__") ht.typeIs Jq
  (De Jq ht.typeIs entry_tuple_getitem ?_ (args_tuple_getitem _ _)))
 show Ax _ _ (Builtin.Tuple.tupleItemsOf (.ref t) >>= _) _ _ s
 refine Aa (tupleItemsOf_ ht ?_)
 refine Aa (Kn c ?_)
 rw[if_pos (by decide)]
 refine Aa (P2 hs pl i ?_)
 have d:¬ ((((sIx items.size 0 lo:Nat):Int) == 0 && (1:Int) == 1 && (sIx items.size items.size hi - sIx items.size 0 lo) == items.size)=true):=by
  intro q
  rw[Cs,Cs] at q
  have k:((sIx items.size 0 lo:Nat):Int)=0:=eq_of_beq q.1.1
  have l:sIx items.size items.size hi - sIx items.size 0 lo=items.size:=eq_of_beq q.2
  exact hw ⟨by lia,by lia⟩
 show Ax _ _ (if (((sIx items.size 0 lo:Nat):Int) == 0 && (1:Int) == 1 && (sIx items.size items.size hi - sIx items.size 0 lo) == items.size)=true then _ else _) _ _ s
 rw[if_neg d,P4]
 first
  | exact Aa (m:=Iv _) (Dd (Ag ⟨_,rfl,Ag h⟩) a)
  | exact Aa (m:=Iv _) (Dd (Aa (Ag (Ag ⟨_,rfl,Ag h⟩))) a)
  | exact Aa (Aa (m:=Iv _) (Dd (Ag (Ag ⟨_,rfl,Ag h⟩)) a))
  | exact Aa (Aa (m:=Iv _) (Dd (Ag ⟨_,rfl,Ag h⟩) a))
end
end HT
namespace L2
open PySem PySem.Spec PyProof.Rows
abbrev TO:=St->Hp->(Option Int->Hp->Prop)->Prop
def PO(X:Cx)(e:Option Expr)(t:TO):Prop:=
 ∀ (a:List (Addr×Obj)) (s:Ah) (b:St) (H:Hp) (Q:Option Int->Hp->Prop),Inv X a b H s->t b H Q->
  Ax (Bk X.prog X.w) X.A (evalPart e X.env) (fun u d=>∃ o c,Inv X a b c d/\IsPart u o/\Q o c) X.xe s
def P5:TO:=fun _ H Q=>Q none H
def P6(t:TE):TO:=fun b H Q=>t b H fun x a=>∃ i,x=.int i/\Q (some i) a
theorem intsAre_of{ns:List Int}:∀ {us:List Ac},aR (ns.map V.int) us->Iu us ns:=by
 induction ns with
 | nil=>intro us r;rw[Kg] at r;cases r;exact .nil
 | cons n ns c=>
  intro us r
  rw[Ar] at r
  cases r with
  | cons b a=>
   obtain⟨t,e⟩:=b
   subst e
   exact .cons n t (c a)
section
variable {X:Cx}{e:Expr}{te:TE}{lo hi:Option Expr}{tl th:TO}{pos p2:Pos}
theorem P7:PO X none P5:=by
 intro a s b H Q I h
 rw[evalPart_none]
 exact Ag ⟨none,H,I,.none,h⟩
theorem P8(h:PE X e te):PO X (some e) (P6 te):=by
 intro a s g H Q I hw
 rw[evalPart_some]
 refine aZ (h a s g H _ I hw) fun u j ⟨x,c,f,d,b⟩=>?_
 obtain⟨i,rfl,q⟩:=b
 obtain⟨t,rfl⟩:=d
 exact⟨some i,c,f,.int i t,q⟩
def rL(X:Cx)(r:V->Option Int->Option Int->Hp->VK->Prop):Prop:=
 ∀ (a:List (Addr×Obj)) (s:Ah) (c:St) (H:Hp) (x:V) (v b d:Ac) (lo hi:Option Int) (sl:Addr) (Q:VK),Inv X a c H s->RelV x v->s.heap.IsSliceOf sl b d .none->IsPart b lo->IsPart d hi->r x lo hi H Q->
  ∃ T id,typeLookup (.type T) "__getitem__" = pure (some (.builtin id))/\s.TypeIs v T/\Ax (Bk X.prog X.w) X.A (getItem v (.ref sl)) (EP X a c Q) X.xe s
def P9(r:V->Option Int->Option Int->Hp->VK->Prop)(te:TE)(tl th:TO):TE:=fun a H Q=>te a H fun x b=>tl a b fun l c=>th a c fun u d=>r x l u d Q
theorem BY{r:V->Option Int->Option Int->Hp->VK->Prop}(m:rL X r)(k:PE X e te)(hl:PO X lo tl)(J:PO X hi th):PE X (.Subscript e (.Slice lo hi none p2) pos) (P9 r te tl th):=by
 intro a s d H Q I h
 refine Subscript_ (aZ (k a s d H _ I h) fun v K ⟨x,t,z,E,D⟩=>?_)
 refine wpAny_Slice (aZ (hl a K d t _ z D) fun f L ⟨l,o,n,pl,y⟩=>aZ (J a L d o _ n y) fun g c ⟨u,i,B,j,C⟩=>?_)
 rw[evalPart_none]
 refine Ag ?_
 have p:Inv X a d i {c with heap:=c.heap.push {cls:=.type "slice",data:=.fields #[f,g,.none]}}:=B.kept (t':=c.toks) fun b ob q=>Af _ q
 obtain⟨T,id,G,ht,F⟩:=m a {c with heap:=c.heap.push {cls:=.type "slice",data:=.fields #[f,g,.none]}} d i x v f g l u c.heap.objs.size Q p E (Heap.IsSliceOf.new ..) pl j C
 show Ax (Bk X.prog X.w) X.A (subscriptTail e (.Slice lo hi none p2) v (.ref c.heap.objs.size)) (EP X a d Q) X.xe {c with heap:=c.heap.push {cls:=.type "slice",data:=.fields #[f,g,.none]}}
 exact tail_any (ops:=[.ref c.heap.objs.size,v]) ht G F (by with_unfolding_all rfl)
def lK(xs:List V)(lo hi:Option Int):List V:=(xs.drop (HT.sIx xs.length 0 lo)).take (HT.sIx xs.length xs.length hi - HT.sIx xs.length 0 lo)
theorem BZ(xs:List V)(lo hi:Option Int):(lK xs lo hi).length<=xs.length:=by
 unfold lK
 rw[Cf,Gs]
 lia
def QA(K:Ae):V->Option Int->Option Int->Hp->VK->Prop:=fun x lo hi H Q=>∃ a xs,x=.ref a/\bM K H a xs/\
 ¬ (HT.sIx xs.length 0 lo=0/\HT.sIx xs.length xs.length hi=xs.length)/\∀ p,H p=none->Q (.ref p) (aN H p (.tup (lK xs lo hi)))
theorem QB:rL X (QA X.K):=by
 intro d s k H x v i j lo hi sl Q I g hs pl e h
 obtain⟨a,xs,rfl,f,hw,q⟩:=h
 cases g
 obtain⟨its,r,ht,hz⟩:=I.tuple f
 have c:its.toArray.size=xs.length:=by rw[Bc];exact r.length.symm
 refine⟨"tuple",_,Jq.lookup,ht.typeIs,?_⟩
 refine HT.getItem_tuple_cut ht hs pl e (by rw[c];exact hw) ?_ (by rw[c];exact hz)
 rw[c]
 refine⟨.ref s.heap.objs.size,_,I.laid (t':=s.toks) (o:=.tup (lK xs lo hi)) (fun b ob q=>Af _ q) (Ai _) ?_,rfl,q _ (I.hok.fresh (Ai _))⟩
 exact⟨Bp (BZ xs lo hi) hz,_,(r.drop (HT.sIx xs.length 0 lo)).take (HT.sIx xs.length xs.length hi - HT.sIx xs.length 0 lo),IsTup.new _ _⟩
def QC(K:Ae):R2:=fun x y H Q=>∃ a b xs ys,x=.ref a/\y=.ref b/\bM K H a xs/\bM K H b ys/\xs≠[]/\xs.length + ys.length<=Aj/\
 (ys=[]->Q (.ref a) H)/\(ys≠[]->∀ p,H p=none->Q (.ref p) (aN H p (.tup (xs ++ ys))))
theorem aR.nil_iff{xs:List V}{us:List Ac}(r:aR xs us):us=[]↔xs=[]:=by
 cases r with
 | nil=>simp
 | cons _ _=>simp
theorem QD:bB X (Ft .Add) (QC X.K):=by
 intro e s n H x y v u Q I m l h
 obtain⟨a,b,xs,ys,rfl,rfl,ha,hb,j,hz,i,k⟩:=h
 cases m
 cases l
 obtain⟨its,d,g,_⟩:=I.tuple ha
 obtain⟨f,c,p2,_⟩:=I.tuple hb
 refine HT.cat_tup g p2 (fun z=>j (d.nil_iff.mp z)) (fun z=>⟨.ref a,H,I,rfl,i (c.nil_iff.mp z)⟩) (fun z=>?_) (by rw[<-d.length,<-c.length];exact hz)
 refine⟨.ref s.heap.objs.size,_,I.laid (t':=s.toks) (o:=.tup (xs ++ ys)) (fun b ob q=>Af _ q) (Ai _) ?_,rfl,k (fun w=>z (c.nil_iff.mpr w)) _ (I.hok.fresh (Ai _))⟩
 exact⟨by rw[Av];exact hz,_,d.append c,IsTup.new _ _⟩
end
def iE(n:Nat)(i:Int):Option Nat:=if 0<=i then(if i < n then some i.toNat else none) else if -(n:Int)<=i then some (i + n).toNat else none
def bU{a:Type}(xs:List a)(i:Int):Option a:=(iE xs.length i).bind fun j=>xs[j]?
theorem B0{n:Nat}{i:Int}{j:Nat}(h:iE n i=some j):seqIndex? i n=some j/\j < n/\-(n:Int)<=i/\i < n:=by
 unfold iE at h
 by_cases b:0<=i
 ·rw[if_pos b] at h
  by_cases a:i < n
  ·rw[if_pos a] at h
   have e:i.toNat=j:=Dz h
   exact⟨by rw[seqIndex_of b a,e],by lia,by lia,a⟩
  ·rw[if_neg a] at h;cases h
 ·rw[if_neg b] at h
  by_cases a : -(n:Int)<=i
  ·rw[if_pos a] at h
   have e:(i + n).toNat=j:=Dz h
   exact⟨by rw[seqIndex_neg (by lia) a,e],by lia,a,by lia⟩
  ·rw[if_neg a] at h;cases h
theorem vK{a:Type}{xs:List a}{i:Int}{v:a}(h:bU xs i=some v):∃ j,seqIndex? i xs.length=some j/\xs[j]? = some v/\j < xs.length/\-(xs.length:Int)<=i/\i < xs.length:=by
 unfold bU at h
 cases e:iE xs.length i with
 | none=>rw[e] at h;cases h
 | some j=>
  rw[e] at h
  obtain⟨d,c,f,b⟩:=B0 e
  exact⟨j,d,h,c,f,b⟩
theorem jO{a:Type}{xs:List a}{j:Nat}{v:a}(h:xs[j]? = some v):bU xs (j:Int)=some v:=by
 have b:j < xs.length:=(Ao.mp h).1
 have e:iE xs.length (j:Int)=some j:=by
  unfold iE
  rw[if_pos (by lia),if_pos (by lia)];simp
 unfold bU;rw[e];exact h
theorem B1{a:Type}(xs:List a)(v:a):bU (xs ++ [v]) (-1)=some v:=by
 have hl:(xs ++ [v]).length=xs.length + 1:=by simp
 have e:iE (xs ++ [v]).length (-1)=some xs.length:=by
  unfold iE
  rw[hl,if_neg (by decide),if_pos (by lia)]
  congr 1
  lia
 unfold bU
 rw[e]
 show(xs ++ [v])[xs.length]? = some v
 simp
def B2(b:Expr):Prop:=∀ o i,subscripted b false o i=operate [o,i] (getItem o i)
def iR(X:Cx)(r:R2):Prop:=
 ∀ (c a:Expr) (b:List (Addr×Obj)) (s:Ah) (d:St) (H:Hp) (x y:V) (v u:Ac) (Q:VK),Inv X b d H s->RelV x v->RelV y u->r x y H Q->
  subscripted a false v u=operate [v,u] (getItem v u)->Ax (Bk X.prog X.w) X.A (subscriptTail c a v u) (EP X b d Q) X.xe s
def iS(X:Cx)(id:String)(r:V->List V->Hp->VK->Prop):Prop:=
 ∀ (a:List (Addr×Obj)) (s:Ah) (b:St) (H:Hp) (x:V) (xs:List V) (v:Ac) (us:List Ac) (Q:VK),Inv X a b H s->RelV x v->aR xs us->r x xs H Q->
  Ax (Bk X.prog X.w) X.A (call (.builtin id) (v :: us)) (EP X a b Q) X.xe s
section
variable {X:Cx}{a b:Expr}{ta tb:TE}{pos:Pos}
theorem iR.or{r f:R2}(h:iR X r)(h':iR X f):iR X (fun x y H Q=>r x y H Q\/f x y H Q):=by
 intro b a c s e H x y v u Q I g d q hs
 rcases q with q | q
 ·exact h b a c s e H x y v u Q I g d q hs
 ·exact h' b a c s e H x y v u Q I g d q hs
theorem QE{r:R2}(f:iR X r)(ha:PE X a ta)(hb:PE X b tb)(hs:B2 b):PE X (.Subscript a b pos) (pF r ta tb):=by
 intro c s i H Q I h
 exact Subscript_ (vE ha hb I h fun v u j x y e d k g q=>f a b c j i e x y v u Q d k g q (hs _ _))
def QF(K:Ae):R2:=fun x y H Q=>∃ p xs i v,x=.ref p/\y=.int i/\a9 K H p xs/\bU xs i=some v/\Q v H
def QG(K:Ae):R2:=fun x y H Q=>∃ p xs i v,x=.ref p/\y=.int i/\bM K H p xs/\bU xs i=some v/\Q v H
def QH:R2:=fun x y H Q=>∃ z i c,x=.str z/\y=.int i/\z.length<=Aj/\bU z.cps.toList i=some c/\Q (.str ⟨#[c]⟩) H
theorem QI:iR X (QF X.K):=by
 intro e f a s l H x y v u Q I D B h hs
 obtain⟨p,xs,i,z,rfl,rfl,E,o,q⟩:=h
 cases D
 obtain⟨t,rfl⟩:=B
 obtain⟨its,r,pl,hz⟩:=I.list E
 obtain⟨j,b,n,G,m,A⟩:=vK o
 obtain⟨w,g,c⟩:=r.get n
 have hl:=r.length
 have F:=mJ
 have fin:EP X a l Q w s:=⟨z,H,I,c,q⟩
 by_cases k:0<=i
 ·have d:i.toNat=j:=by
   rw[seqIndex_of k A] at b
   exact Dz b
  exact item_listR pl.isList k (by lia) (by rw[d];simpa using g) fin hs
 ·have d:(i + (its.toArray.size:Int)).toNat=j:=by
   rw[seqIndex_neg (by lia) m] at b
   rw[Bc,<-hl]
   exact Dz b
  exact subscriptTail_builtinR (x:=w) pl.isList.typeIs slot_list_getitem.lookup
   (wpAny_getItem_list_neg (Q:=fun r C=>r=w/\EP X a l Q r C) pl.isList (by lia) (by rw[Bc] <;> lia) (by lia) (by rw[d];simpa using g) ⟨rfl,fin⟩) hs
theorem QJ:iR X (QG X.K):=by
 intro d c a s e H x y v u Q I A m h hs
 obtain⟨p,xs,i,z,rfl,rfl,l,g,q⟩:=h
 cases A
 obtain⟨t,rfl⟩:=m
 obtain⟨its,r,pl,hz⟩:=I.tuple l
 obtain⟨j,k,f,D,B,E⟩:=vK g
 obtain⟨w,o,b⟩:=r.get f
 have hl:=r.length
 have C:=mJ
 have fin:EP X a e Q w s:=⟨z,H,I,b,q⟩
 exact subscriptTail_builtinR (x:=w) pl.typeIs slot_tuple_getitem.lookup
  (getItem_tuple (j:=j) (Q:=fun r n=>r=w/\EP X a e Q r n) pl (by lia) (by lia) (by rw[Bc,<-hl];exact k) (by simpa using o) ⟨rfl,fin⟩) hs
theorem QK:iR X QH:=by
 intro b a d s w H x y v u Q I p n h hs
 obtain⟨z,i,c,rfl,rfl,hz,m,q⟩:=h
 obtain⟨t,rfl⟩:=p
 obtain⟨t',rfl⟩:=n
 obtain⟨j,e,l,A,f,o⟩:=vK m
 have hl:z.cps.toList.length=z.length:=by simp[Lq]
 rw[hl] at e f o
 have r:=mJ
 exact tail_any (typeIs_str s z t) slot_str_getitem.lookup (getItem_str (c:=c) (by
  have g:decide (i < -(2 ^ 63:Int))=false:=decide_eq_false (by lia)
  have k:decide (i ≥ 2 ^ 63)=false:=decide_eq_false (by lia)
  rw[g,k,Bool.or_false]) (by rw[e];simpa using l) ⟨.str ⟨#[c]⟩,H,I.tok _,⟨_,rfl⟩,q⟩) hs
theorem QL(its:List Ac)(n j:Nat)(u:Ac):Gw (·.setIfInBounds j u) {cls:=.type "list",data:=.seq its.toArray n} = {cls:=.type "list",data:=.seq (its.set j u).toArray n}:=by
 simp[Gw]
theorem Inv.lst{a:List (Addr×Obj)}{b:St}{H:Hp}{s:Ah}{p:Addr}{xs:List V}(I:Inv X a b H s)(h:H p=some (.lst xs)) :
  ∃ (its:List Ac) (n:Nat),aR xs its/\s.heap.get? p=some {cls:=.type "list",data:=.seq its.toArray n}/\xs.length<=Aj:=by
 obtain⟨z,its,n,r,e⟩:=I.hok p _ h
 exact⟨its,n,r,e,z⟩
theorem Inv.lstUpd{a:List (Addr×Obj)}{d:St}{H:Hp}{s:Ah}{p:Addr}{xs ys:List V}{its its':List Ac}{n c:Nat}{f:Obj->Obj}(I:Inv X a d H s)(h:H p=some (.lst xs))
  (g:s.heap.get? p=some {cls:=.type "list",data:=.seq its.toArray n}) (hf:f {cls:=.type "list",data:=.seq its.toArray n} = {cls:=.type "list",data:=.seq its'.toArray c}) (r:aR ys its') (hz:ys.length<=Aj) (t:Nat) :
  Inv X a d (aN H p (.lst ys)) {s with heap:=s.heap.update p f,toks:=t}:=by
 have e:(s.heap.update p f).get? p=some {cls:=.type "list",data:=.seq its'.toArray c}:=by
  rw[Fd f g (by rw[hf] <;> rfl),hf]
 refine I.write (x:=p) (e:=p) (by rw[h];trivial) (.inl rfl) (fun b u hb q=>(Fn _ _ (Bq hb)).trans q) ⟨_,e⟩ ?_
 exact⟨hz,its',c,r,e⟩
def QM:V->V->V->Hp->(Hp->Prop)->Prop:=fun o i v H Q=>∃ p xs k j,o=.ref p/\i=.int k/\H p=some (.lst xs)/\iE xs.length k=some j/\Q (aN H p (.lst (xs.set j v)))
theorem QN:rE X QM:=by
 intro a s x H o i v A C u Q I m w y h
 obtain⟨p,xs,k,j,rfl,rfl,g,z,q⟩:=h
 cases m
 obtain⟨t,rfl⟩:=w
 obtain⟨its,n,r,c,hz⟩:=I.lst g
 obtain⟨b,B,f,d⟩:=B0 z
 have hl:=r.length
 have D:=mJ
 have e:Inv X a x (aN H p (.lst (xs.set j v))) {s with heap:=s.heap.update p (Gw (·.setIfInBounds j u))}:=
  I.lstUpd g c (QL its n j u) (r.set y j) (by rw[List.length_set];exact hz) s.toks
 by_cases l:0<=k
 ·have hk:k.toNat=j:=by
   rw[seqIndex_of l d] at b
   exact Dz b
  exact PySem.W.ki_setAt c l (by lia) (by rw[Bc,<-hl];exact d) (by rw[hk];exact⟨_,e,q⟩)
 ·have hk:(k + (its.toArray.size:Int)).toNat=j:=by
   rw[seqIndex_neg (by lia) f] at b
   rw[Bc,<-hl]
   exact Dz b
  exact PySem.W.ki_setBack c (by lia) (by rw[Bc,<-hl];exact f) (by lia) (by rw[hk];exact⟨_,e,q⟩)
theorem QO(lo hi:Option Int)(n:Nat):(Lh lo hi none n).1=((HT.sIx n 0 lo:Nat):Int)/\(Lh lo hi none n).2.1=((HT.sIx n n hi:Nat):Int)/\(Lh lo hi none n).2.2=1:=by
 refine⟨?_,?_,rfl⟩
 ·cases lo with
  | none=>simp[Lh,HT.sIx]
  | some i=>
   simp only[Lh,HT.sIx,Option.getD_none,show(1:Int) > 0 by decide,if_true]
   by_cases h:i < 0
   ·simp only[h,if_true] <;> lia
   ·simp only[h,if_false] <;> lia
 ·cases hi with
  | none=>simp[Lh,HT.sIx]
  | some i=>
   simp only[Lh,HT.sIx,Option.getD_none,show(1:Int) > 0 by decide,if_true]
   by_cases h:i < 0
   ·simp only[h,if_true] <;> lia
   ·simp only[h,if_false] <;> lia
theorem QP(its:List Ac)(lo hi:Option Int):slicePick its.toArray lo hi none=((its.drop (HT.sIx its.length 0 lo)).take (HT.sIx its.length its.length hi - HT.sIx its.length 0 lo)).toArray:=by
 obtain⟨a,b,c⟩:=QO lo hi its.toArray.size
 unfold slicePick
 rw[a,b,c]
 simp only[sliceRange_one,pick_run,Bc] <;> rfl
def QQ(K:Ae):V->Option Int->Option Int->Hp->VK->Prop:=fun x lo hi H Q=>∃ a xs,x=.ref a/\a9 K H a xs/\∀ p,H p=none->Q (.ref p) (aN H p (.lst (lK xs lo hi)))
theorem vL:rL X (QQ X.K):=by
 intro d s k H x v i j lo hi sl Q I g hs pl e h
 obtain⟨a,xs,rfl,f,q⟩:=h
 cases g
 obtain⟨its,r,ht,hz⟩:=I.list f
 have c:=r.length
 refine⟨"list",_,slot_list_getitem.lookup,ht.isList.typeIs,?_⟩
 refine wpAny_getItem_list_slice ht.isList hs pl e .none (by simp) ?_ (by rw[Bc] <;> lia)
 rw[QP,<-c]
 refine⟨.ref s.heap.objs.size,_,I.laid (t':=s.toks) (o:=.lst (lK xs lo hi)) (fun b ob q=>Af _ q) (Ai _) ?_,rfl,q _ (I.hok.fresh (Ai _))⟩
 exact⟨Bp (BZ xs lo hi) hz,_,0,(r.drop (HT.sIx xs.length 0 lo)).take (HT.sIx xs.length xs.length hi - HT.sIx xs.length 0 lo),Ap _ rfl⟩
def jP:V->Bool
 | .non=>true
 | .bl _=>true
 | .int _=>true
 | .str _=>true
 | _=>false
def jQ:V->V->Bool
 | .non,.non=>true
 | .bl a,.bl b=>a == b
 | .bl a,.int b=>(if a then 1 else 0) == b
 | .int a,.bl b=>a == (if b then 1 else 0)
 | .int a,.int b=>a == b
 | .str a,.str b=>a == b
 | _,_=>false
theorem QS{A:Bv}{s:Ah}{y x:V}{u v:Ac}(d:RelV y u)(c:RelV x v)(f:jP y=true)(e:jP x=true):SeqAt.EqAt A s u v (jQ y x):=by
 cases y with
 | non=>
  cases d
  cases x with
  | non=>cases c;exact SeqAt.EqAt.same _
  | bl b=>cases c;exact SeqAt.EqAt.none_bool b
  | int b=>obtain⟨t,rfl⟩:=c;exact SeqAt.EqAt.none_int b t
  | str b=>obtain⟨t,rfl⟩:=c;exact SeqAt.EqAt.none_str b t
  | _=>exact absurd (show false=true from e) Am
 | bl a=>
  cases d
  cases x with
  | non=>cases c;exact SeqAt.EqAt.bool_none a
  | bl b=>cases c;exact SeqAt.EqAt.bool_bool a b
  | int b=>obtain⟨t,rfl⟩:=c;exact SeqAt.EqAt.bool_int a b t
  | str b=>obtain⟨t,rfl⟩:=c;exact SeqAt.EqAt.bool_str a b t
  | _=>exact absurd (show false=true from e) Am
 | int a=>
  obtain⟨t',rfl⟩:=d
  cases x with
  | non=>cases c;exact SeqAt.EqAt.int_none a t'
  | bl b=>cases c;exact SeqAt.EqAt.int_bool a t' b
  | int b=>obtain⟨t,rfl⟩:=c;exact SeqAt.EqAt.int_int a t' b t
  | str b=>obtain⟨t,rfl⟩:=c;exact SeqAt.EqAt.int_str a t' b t
  | _=>exact absurd (show false=true from e) Am
 | str a=>
  obtain⟨t',rfl⟩:=d
  cases x with
  | non=>cases c;exact SeqAt.EqAt.str_none a t'
  | bl b=>cases c;exact SeqAt.EqAt.str_bool a t' b
  | int b=>obtain⟨t,rfl⟩:=c;exact SeqAt.EqAt.str_int a t' b t
  | str b=>obtain⟨t,rfl⟩:=c;exact SeqAt.EqAt.str_str a t' b t
  | _=>exact absurd (show false=true from e) Am
 | _=>exact absurd (show false=true from f) Am
def gL(x:V)(u:Ac):Bool:=match u with
 | .none=>jQ .non x
 | .bool b=>jQ (.bl b) x
 | .int i _=>jQ (.int i) x
 | .str z _=>jQ (.str z) x
 | _=>false
theorem B3{x y:V}{u:Ac}(r:RelV y u)(f:jP y=true):gL x u=jQ y x:=by
 cases y with
 | non=>cases r;rfl
 | bl b=>cases r;rfl
 | int i=>obtain⟨t,rfl⟩:=r;rfl
 | str z=>obtain⟨t,rfl⟩:=r;rfl
 | _=>exact absurd (show false=true from f) Am
theorem pH{x:V}:∀ {xs:List V} {us:List Ac},aR xs us->xs.all jP=true->us.any (gL x)=xs.any fun y=>jQ y x
 | _,_,.nil,_=>rfl
 | y :: xs,u :: us,.cons r t,f=>by
  rw[Js,Cs] at f
  rw[Gq,Gq,B3 r f.1,pH t f.2]
theorem pI{A:Bv}{s:Ah}{x:V}{v:Ac}(b:RelV x v)(c:jP x=true):∀ {xs:List V} {us:List Ac},aR xs us->xs.all jP=true->∀ u∈us,SeqAt.EqAt A s u v (gL x u)
 | _,_,.nil,_=>fun u a=>by cases a
 | y :: xs,u :: us,.cons r t,f=>fun d a=>by
  rw[Js,Cs] at f
  rcases Az.mp a with rfl | a
  ·rw[B3 r f.1];exact QS r b f.1 c
  ·exact pI b c t f.2 d a
def inV(x:V)(xs:List V):Bool:=xs.any fun y=>jQ y x
def rIn(K:Ae)(neg:Bool):R2:=fun x y H Q=>∃ p xs,y=.ref p/\(a9 K H p xs\/bM K H p xs)/\jP x=true/\xs.all jP=true/\Q (.bl (if neg then !inV x xs else inV x xs)) H
theorem QT:bB X (Ck .In) (rIn X.K false):=by
 intro b s f H x y v u Q I d e h
 obtain⟨p,xs,rfl,a,c,fs,q⟩:=h
 cases e
 rcases a with a | a
 ·obtain⟨its,r,pl,hz⟩:=I.list a
  refine SeqAt.in_listAt (gL x) pl.isList (fun w hw=>pI d c r fs w (by simpa using hw)) ⟨.bl _,H,I,rfl,?_⟩
  rw[show its.toArray.any (gL x)=its.any (gL x) by simp,pH r fs]
  exact q
 ·obtain⟨its,r,pl,hz⟩:=I.tuple a
  refine SeqAt.in_tupleAt (gL x) pl (fun w hw=>pI d c r fs w (by simpa using hw)) ⟨.bl _,H,I,rfl,?_⟩
  rw[show its.toArray.any (gL x)=its.any (gL x) by simp,pH r fs]
  exact q
theorem QU:bB X (Ck .NotIn) (rIn X.K true):=by
 intro b s f H x y v u Q I d e h
 obtain⟨p,xs,rfl,a,c,fs,q⟩:=h
 cases e
 rcases a with a | a
 ·obtain⟨its,r,pl,hz⟩:=I.list a
  refine SeqAt.notIn_listAt (gL x) pl.isList (fun w hw=>pI d c r fs w (by simpa using hw)) ⟨.bl _,H,I,rfl,?_⟩
  rw[show its.toArray.any (gL x)=its.any (gL x) by simp,pH r fs]
  exact q
 ·obtain⟨its,r,pl,hz⟩:=I.tuple a
  refine SeqAt.notIn_tupleAt (gL x) pl (fun w hw=>pI d c r fs w (by simpa using hw)) ⟨.bl _,H,I,rfl,?_⟩
  rw[show its.toArray.any (gL x)=its.any (gL x) by simp,pH r fs]
  exact q
theorem QV:cU X (.builtin "len") (fun xs H Q=>∃ p ys,xs=[.ref p]/\(a9 X.K H p ys\/bM X.K H p ys)/\Q (.int ys.length) H):=by
 intro d s g H xs us Q I r h
 obtain⟨p,ys,rfl,b,q⟩:=h
 obtain⟨u,rfl,e⟩:=vals1 r
 cases e
 have f:=mJ
 rcases b with b | b
 ·obtain⟨its,c,pl,hz⟩:=I.list b
  have a:=c.length
  exact Calls.call_len_list pl.isList (by simp only[Bc] <;> lia) ⟨.int ys.length,H,I.tok _,⟨s.toks + 1,by rw[Bc,a]⟩,q⟩
 ·obtain⟨its,c,pl,hz⟩:=I.tuple b
  have a:=c.length
  exact len_tuple pl (by simp only[Bc] <;> lia) ⟨.int ys.length,H,I.tok _,⟨s.toks + 1,by rw[Bc,a]⟩,q⟩
theorem QW:cU X (.builtin "len") (fun xs H Q=>∃ z,xs=[.str z]/\z.length<=Aj/\Q (.int z.length) H):=by
 intro a s b H xs us Q I r h
 obtain⟨z,rfl,hz,q⟩:=h
 obtain⟨u,rfl,t,rfl⟩:=vals1 r
 have c:=mJ
 exact len_str (by lia) ⟨.int z.length,H,I.tok _,⟨_,rfl⟩,q⟩
theorem cU.or{f:Ac}{r c:List V->Hp->VK->Prop}(h:cU X f r)(h':cU X f c):cU X f (fun xs H Q=>r xs H Q\/c xs H Q):=by
 intro a s b H xs us Q I rs q
 rcases q with q | q
 ·exact h a s b H xs us Q I rs q
 ·exact h' a s b H xs us Q I rs q
theorem QX:cU X (.type "list") (fun xs H Q=>∃ p ys,xs=[.ref p]/\(a9 X.K H p ys\/bM X.K H p ys)/\∀ l,H l=none->Q (.ref l) (aN H l (.lst ys))):=by
 intro d s k H xs us Q I r h
 obtain⟨p,ys,rfl,f,q⟩:=h
 obtain⟨u,rfl,m⟩:=vals1 r
 cases m
 have fin:∀ (its:List Ac),aR ys its->ys.length<=Aj->∀ (h':Heap) (a:Nat),(∀ b j,s.heap.get? b=some j->h'.get? b=some j)->
   h'.get? s.heap.objs.size=some {cls:=.type "list",dict:=none,data:=.seq its.toArray a,slots:=#[]}->EP X d k Q (.ref s.heap.objs.size) {s with heap:=h'}:=fun its c hz h' a kp e=>
  ⟨.ref s.heap.objs.size,_,I.laid (t':=s.toks) kp (Ai _) (show cN X.prog X.w _ h' _ (.lst ys) from⟨hz,its,a,c,e⟩),rfl,q _ (I.hok.fresh (Ai _))⟩
 rcases f with f | f
 ·obtain⟨its,c,pl,hz⟩:=I.list f
  have g:=c.length
  obtain⟨o,i,hc,n,hd⟩:=pl.isList
  exact call_list_seq p (.inl rfl) i hc hd (fun h' a kp e=>fin its c hz h' a kp e) (by simp only[Bc] <;> lia)
 ·obtain⟨its,c,pl,hz⟩:=I.tuple f
  have g:=c.length
  obtain⟨o,i,hc,n,hd⟩:=pl
  exact call_list_seq p (.inr rfl) i hc hd (fun h' a kp e=>fin its c hz h' a kp e) (by simp only[Bc] <;> lia)
theorem QY:cU X (.type "tuple") (fun xs H Q=>∃ p ys,xs=[.ref p]/\((a9 X.K H p ys/\∀ l,H l=none->Q (.ref l) (aN H l (.tup ys)))\/(bM X.K H p ys/\Q (.ref p) H))):=by
 intro a s g H xs us Q I r h
 obtain⟨p,ys,rfl,h⟩:=h
 obtain⟨u,rfl,k⟩:=vals1 r
 cases k
 rcases h with⟨c,q⟩ | ⟨c,q⟩
 ·obtain⟨its,d,pl,hz⟩:=I.list c
  have i:=d.length
  refine call_tuple_list pl.isList (fun h' kp=>?_) (by simp only[Bc] <;> lia)
  have f:Inv X a g H {s with heap:=h'}:=I.kept (t':=s.toks) kp
  have j:Inv X a g (aN H h'.objs.size (.tup ys)) {s with heap:=h'.push {cls:=.type "tuple",data:=.seq its.toArray}}:=
   f.laid (t':=s.toks) (fun b o e=>Af _ e) (Ai _) (show cN X.prog X.w _ _ _ (.tup ys) from⟨hz,its,d,IsTup.new _ _⟩)
  exact⟨.ref h'.objs.size,_,j,rfl,q _ (f.hok.fresh (Ai _))⟩
 ·obtain⟨its,d,pl,hz⟩:=I.tuple c
  exact call_tuple_same pl ⟨.ref p,H,I,rfl,q⟩
def rM(K:Ae)(T:String)(x:V)(H:Hp):Prop:=match x with
 | .str _=>T = "str"
 | .int _=>T = "int"
 | .ref p=>(T = "list"/\∃ xs,a9 K H p xs)\/(T = "tuple"/\∃ o,K.lookup p=some o/\o.cls=.type "tuple"/\o.dict=none)\/
   (T = "dict"/\((∃ kvs,Rd H p (.dK kvs))\/∃ kvs,Rd H p (.dT kvs)))\/(T = "set"/\∃ S n,H p=some (.set S n))
 | _=>False
theorem B4{b:List (Addr×Obj)}{f:St}{H:Hp}{s:Ah}{T:String}{x:V}{v:Ac}(I:Inv X b f H s)(r:RelV x v)(ty:rM X.K T x H) :
  s.TypeIs v T/\∀ a,v=.ref a->∃ ob,s.heap.get? a=some ob/\ob.dict=none:=by
 cases x with
 | str z=>
  obtain⟨t,rfl⟩:=r
  cases (show T = "str" from ty)
  exact⟨typeIs_str s z t,fun _ e=>nomatch e⟩
 | int i=>
  obtain⟨t,rfl⟩:=r
  cases (show T = "int" from ty)
  exact⟨typeIs_int s i t,fun _ e=>nomatch e⟩
 | ref p=>
  cases r
  rcases ty with⟨rfl,xs,g⟩ | ⟨rfl,o,hk,hc,hd⟩ | ⟨rfl,hk⟩ | ⟨rfl,S,n,hk⟩
  ·obtain⟨its,_,pl,_⟩:=I.list g
   refine⟨pl.isList.typeIs,fun a e=>?_⟩
   cases e
   obtain⟨o,n,e,c,hd,_⟩:=pl
   exact⟨o,e,hd⟩
  ·refine⟨⟨o,I.kIn p o hk,hc⟩,fun a e=>?_⟩
   cases e
   exact⟨o,I.kIn _ o hk,hd⟩
  ·have z:∃ o,s.heap.get? p=some o/\o.ExactDict:=by
    rcases hk with⟨kvs,hk⟩ | ⟨kvs,hk⟩
    ·obtain⟨_,_,_,_,o,_,_,e,ex,_⟩:=hk.ok I.hok
     exact⟨o,e,ex⟩
    ·obtain⟨_,_,_,_,o,_,_,e,ex,_⟩:=hk.ok I.hok
     exact⟨o,e,ex⟩
   obtain⟨o,e,ex⟩:=z
   refine⟨⟨o,e,ex.1⟩,fun a d=>?_⟩
   cases d
   exact⟨o,e,ex.2.1⟩
  ·obtain⟨o,_,_,_,e,ex,_⟩:=I.hok p _ hk
   refine⟨⟨o,e,ex.1⟩,fun a d=>?_⟩
   cases d
   exact⟨o,e,ex.2.1⟩
 | _=>exact Gu ty
def QZ(K:Ae)(T:String)(r:V->List V->Hp->VK->Prop)(to:TE):TE:=fun b H Q=>to b H fun x a=>rM K T x a/\r x [] a Q
def Q0(K:Ae)(T:String)(r:V->List V->Hp->VK->Prop)(to:TE)(t:TA):TE:=fun b H Q=>to b H fun x a=>rM K T x a/\t b a fun xs c=>r x xs c Q
variable {o e:Expr}{es:List Expr}{to:TE}{t:TA}{name:Str}{apos cpos:Pos}{T id:String}{r:V->List V->Hp->VK->Prop}
theorem Q1(pa:PlainAttrs T)(slot:Slot T name id)(d:typeOf (.builtin id)=pure (.type "method_descriptor"))(i:iS X id r)(p:PE X o to)
  (b:Ja o name X.env (eval o X.env)=eval o X.env:=by rfl) (c:(apos.endLine == cpos.line)=true:=by rfl):PE X (.Call (.Attribute o name apos) [] [] cpos) (QZ X.K T r to):=by
 intro a s e H Q I h
 refine wpAny_Call_method0_late b c (aZ (p a s e H _ I h) fun v k ⟨x,n,g,f,ty,m⟩=>?_)
 obtain⟨l,j⟩:=B4 g f ty
 exact⟨T,id,pa,slot,d,l,j,Calls.callWith_builtin rfl (PySem.evalArgs_none (i a k e n x [] v [] Q g f .nil m))⟩
theorem Q2(pa:PlainAttrs T)(slot:Slot T name id)(g:typeOf (.builtin id)=pure (.type "method_descriptor"))(z:iS X id r)(C:PE X o to)(ha:PA X (e :: es) t)
  (c:Ja o name X.env (eval o X.env)=eval o X.env:=by rfl)
  (f:((Hl cpos (Bj (e :: es) X.env)).all (fun x=>!x.1) && (Oh cpos (Li [] X.env)).all (fun x=>x.1.isSome)
   && decide ((e :: es).length + ([]:List Keyword).length + (if ([]:List Keyword).isEmpty then 0 else 1) < 30))=true:=by rfl)
  (d:(apos.endLine == cpos.line)=true:=by rfl) (hs:Bj (e :: es) X.env=(false,eval e X.env) :: Bj es X.env:=by rfl) (b:(Hl cpos (Bj es X.env)).any (·.1)=false:=by rfl) :
  PE X (.Call (.Attribute o name apos) (e :: es) [] cpos) (Q0 X.K T r to t):=by
 intro a s i H Q I h
 refine wpAny_Call_method_late c f d rfl (aZ (C a s i H _ I h) fun v n ⟨x,u,j,l,ty,B⟩=>?_)
 obtain⟨A,m⟩:=B4 j l ty
 refine⟨T,id,pa,slot,g,A,m,?_⟩
 have k:=ha cpos a n i u _ j B
 rw[hs] at k ⊢
 refine Calls.callWith_builtin (by show(false || (Hl cpos (Bj es X.env)).any (·.1))=false;rw[b] <;> rfl) (Calls.evalArgs_plain ?_)
 exact aZ k fun us D ⟨vs,q,p,w,y⟩=>z a D i q x vs v us Q p l w y
end
def vM(X:Cx)(a:String)(r:V->List V->Hp->VK->Prop):Prop:=
 ∀ (pins:List (Addr×Obj)) (s:Ah) (σ:St) (H:Hp) (x:V) (xs:List V) (v:Ac) (us:List Ac) (Q:VK),Inv X pins σ H s->RelV x v->aR xs us->r x xs H Q->
  Ax (Bk X.prog X.w) X.A (call (.builtin a) (v :: us)) (EP X pins σ Q) X.xe s
theorem aR.one:∀ {x:V} {us:List Ac},aR [x] us->∃ u,us=[u]/\RelV x u
 | _,_,.cons r .nil=>⟨_,rfl,r⟩
theorem aR.zero:∀ {us:List Ac},aR [] us->us=[]
 | _,.nil=>rfl
theorem aR.dropLast{xs:List V}{us:List Ac}(h:aR xs us):aR xs.dropLast us.dropLast:=by
 induction h with
 | nil=>exact .nil
 | cons r t a=>
  cases t with
  | nil=>exact .nil
  | cons q t'=>exact .cons r a
theorem aR.rep{xs:List V}{us:List Ac}(h:aR xs us):∀ k:Nat,aR (Bu k xs).flatten (Bu k us).flatten
 | 0=>.nil
 | k + 1=>by
  rw[Gi,Gi,Ir,Ir]
  exact aR.append h (aR.rep h k)
theorem Q3{d:Type}(l:List d):l.eraseIdx (l.length - 1)=l.dropLast:=by
 induction l with
 | nil=>rfl
 | cons a r c=>
  cases r with
  | nil=>rfl
  | cons b r=>
   have e:(a :: b :: r).length - 1=((b :: r).length - 1) + 1:=by
    have g:(a :: b :: r).length=r.length + 2:=rfl
    have f:(b :: r).length=r.length + 1:=rfl
    lia
   rw[e,List.eraseIdx_cons_succ,c]
   all_goals rfl
theorem foldl_rep(its:List Ac):∀ (k:Nat) (acc:List Ac),
  List.foldl (fun x1 x2=>x1 ++ x2) acc.toArray (Bu k its.toArray)=(acc ++ (Bu k its).flatten).toArray
 | 0,acc=>by simp
 | k + 1,acc=>by
  have e:acc.toArray ++ its.toArray=(acc ++ its).toArray:=by simp
  have a:(acc ++ its) ++ (Bu k its).flatten=acc ++ (Bu (k + 1) its).flatten:=by
   rw[Gi,Ir,Cd]
  rw[<-a,<-foldl_rep its k (acc ++ its),<-e,Gi,Ge]
section
variable {X:Cx}{pins:List (Addr×Obj)}{σ:St}{H:Hp}{s:Ah}{l b:Addr}{xs ys zs:List V}
theorem Inv.lset{its its':List Ac}{n:Nat}{f:Array Ac->Array Ac}{t':Nat}(I:Inv X pins σ H s)(a:H l=some (.lst xs))
  (e:s.heap.get? l=some {cls:=.type "list",data:=.seq its.toArray n}) (hf:f its.toArray=its'.toArray) (c:aR ys its') (hz:ys.length<=Aj) :
  Inv X pins σ (aN H l (.lst ys)) {s with heap:=s.heap.update l (Gw f),toks:=t'}:=by
 have q:=PySem.IsL.update e f
 rw[hf] at q
 refine I.write (x:=l) (e:=l) (by rw[a];exact trivial) (.inl rfl) (fun d u hb b=>(Fn s.heap (Gw f) (Bq hb)).trans b) ⟨_,q⟩ ?_
 exact⟨hz,its',_,c,q⟩
theorem Inv.lnew{its:List Ac}{t':Nat}(I:Inv X pins σ H s)(a:aR ys its)(hz:ys.length<=Aj) :
  Inv X pins σ (aN H s.heap.objs.size (.lst ys)) {s with heap:=s.heap.push {cls:=.type "list",data:=.seq its.toArray},toks:=t'}:=
 I.laid (fun _ _ q=>Af _ q) (Ai _) ⟨hz,its,0,a,Ap _ rfl⟩
theorem Inv.fresh(I:Inv X pins σ H s):H s.heap.objs.size=none:=I.hok.fresh (Ai _)
theorem Inv.lstM(I:Inv X pins σ H s)(a:H l=some (.lst xs)):xs.length<=Aj/\∃ (its:List Ac) (n:Nat),aR xs its/\xs.length=its.length/\s.heap.get? l=some {cls:=.type "list",data:=.seq its.toArray n}:=by
 obtain⟨z,its,n,r,e⟩:=I.hok l _ a
 exact⟨z,its,n,r,r.length,e⟩
theorem Q4{n:Nat}(h:n<=Aj):Lc n=false:=by
 unfold Lc
 exact decide_eq_false (by lia)
end
section
variable {X:Cx}
def rAppend:V->List V->Hp->VK->Prop:=fun x vs H Q=>∃ l xs y,x=.ref l/\vs=[y]/\H l=some (.lst xs)/\xs.length < Aj/\Q .non (aN H l (.lst (xs ++ [y])))
theorem B5:vM X "list.append" rAppend:=by
 intro pins s σ H x vs v us Q I c d h
 obtain⟨l,xs,y,rfl,rfl,a,hz,q⟩:=h
 cases c
 obtain⟨u,rfl,b⟩:=d.one
 obtain⟨z,its,n,r,hl,e⟩:=I.lstM a
 refine Me Eu ⟨_,e,rfl⟩ F.entry_list_append (F.args_list_append_2 _ _) (PySem.list_append l its.toArray n u (by rw[Bc];lia)) ⟨e,?_⟩
 refine⟨.non,_,I.lset (its':=its ++ [u]) a e (by simp) (r.append (.cons b .nil)) ?_,rfl,q⟩
 rw[Av,Eb]
 lia
def rPop:V->List V->Hp->VK->Prop:=fun x vs H Q=>∃ l xs y,x=.ref l/\vs=[]/\H l=some (.lst xs)/\xs[xs.length - 1]? = some y/\Q y (aN H l (.lst xs.dropLast))
theorem Q5:vM X "list.pop" rPop:=by
 intro pins s σ H x vs v us Q I j f h
 obtain⟨l,xs,y,rfl,rfl,c,i,q⟩:=h
 cases j
 have a:=f.zero
 subst a
 obtain⟨z,its,n,r,hl,e⟩:=I.lstM c
 obtain⟨u,d,g⟩:=r.get i
 have b:its.toArray[its.toArray.size - 1]? = some u:=by
  show its.toArray[its.length - 1]? = some u
  rw[<-Du,<-hl]
  exact d
 refine Me F.slot_list_pop ⟨_,e,rfl⟩ F.entry_list_pop (F.args_list_pop_1 _) (MeetsSeq.list_pop_last l its.toArray n u b (by rw[Bc];lia)) ⟨e,?_⟩
 refine⟨y,_,I.lset (its':=its.dropLast) c e ?_ r.dropLast ?_,g,q⟩
 ·show its.toArray.eraseIdxIfInBounds (its.toArray.size - 1)=its.dropLast.toArray
  rw[Bc,List.eraseIdxIfInBounds_toArray,Q3]
 ·rw[List.length_dropLast]
  lia
def Q6:R2:=fun x y H Q=>∃ l b xs zs,x=.ref l/\y=.ref b/\H l=some (.lst xs)/\H b=some (.lst zs)/\xs.length + zs.length<=Aj/\∀ p,H p=none->Q (.ref p) (aN H p (.lst (xs ++ zs)))
theorem Q7:bB X (Ft .Add) Q6:=by
 intro pins s σ H x y v u Q I g i h
 obtain⟨l,b,xs,zs,rfl,rfl,f,k,hz,q⟩:=h
 cases g
 cases i
 obtain⟨z,its,n,r,hl,e⟩:=I.lstM f
 obtain⟨z2,a,m,c,d,j⟩:=I.lstM k
 refine PySem.P.add_list e j ?_ (by rw[Bc,Bc];lia)
 have ea:its.toArray ++ a.toArray=(its ++ a).toArray:=by simp
 rw[ea]
 exact⟨.ref _,_,I.lnew (t':=s.toks) (r.append c) (by rw[Av];lia),rfl,q _ I.fresh⟩
def Q8:R2:=fun x y H Q=>∃ l k xs,x=.ref l/\y=.int k/\H l=some (.lst xs)/\-(2 ^ 63)<=k/\k < 2 ^ 63/\xs.length * k.toNat<=Aj/\
 ∀ p,H p=none->Q (.ref p) (aN H p (.lst (Bu k.toNat xs).flatten))
theorem Q9{b:Type}(xs:List b)(k:Nat):(Bu k xs).flatten.length=k * xs.length:=by
 induction k with
 | zero=>simp
 | succ k a=>rw[Gi,Ir,Av,a,Nat.succ_mul,Nat.add_comm]
theorem RA:bB X (Ft .Mult) Q8:=by
 intro pins s σ H x y v u Q I rx ry h
 obtain⟨l,k,xs,rfl,rfl,hH,h1,h2,hz,q⟩:=h
 cases rx
 obtain⟨t,rfl⟩:=ry
 obtain⟨z,its,n,r,hl,e⟩:=I.lstM hH
 have hlen:its.toArray.size * k.toNat<=Aj:=by rw[Bc,<-hl];exact hz
 have hcap:¬ its.toArray.size * k.toNat > (2 ^ 63 - 1) / 8:=by
  have:(Aj:Nat)<=(2 ^ 63 - 1) / 8:=by decide
  lia
 have hfit:¬ (!Builtin.List.listFitsIndex k)=true:=by
  rw[fitsIndex_both h1 h2]
  exact Am
 have hlong:¬ Lc (its.toArray.size * k.toNat)=true:=by
  rw[Q4 hlen]
  exact Am
 have hnew:List.foldl (fun x1 x2=>x1 ++ x2) #[] (Bu (if its.toArray.isEmpty=true then 0 else k.toNat) its.toArray)=(Bu k.toNat its).flatten.toArray:=by
  have f0:∀ m:Nat,List.foldl (fun x1 x2=>x1 ++ x2) #[] (Bu m its.toArray)=(Bu m its).flatten.toArray:=fun m=>by
   have:=foldl_rep its m []
   rw[Lb] at this
   exact this
  rw[f0]
  cases its with
  | nil=>simp
  | cons a r'=>rw[if_neg (by simp)]
 refine wpAny_binaryOp_repeat_ref (T:="list") (U:="int") (by decide) ⟨_,e,rfl⟩ (fun s'=>typeIs_int s' k t) noFill_list_mul F.fills_int_mul F.slot_int_rmul repeat_list F.slot_int_index.lookup
  (Me F.slot_int_rmul (typeIs_int s k t) F.entry_int_rmul (F.args_int_rmul_2 _ _) (int___rmul___int_list k t l its.toArray n)
   ⟨e,rfl,⟨_,e,rfl⟩,Me F.slot_list_mul ⟨_,e,rfl⟩ F.entry_list_mul (F.args_list_mul_2 _ _) (AutoListH.list___mul___list_int_3 l its.toArray n k t hfit hcap hlong) ⟨e,?_⟩⟩)
 rw[hnew]
 exact⟨.ref _,_,I.lnew (t':=s.toks) (r.rep k.toNat) (by rw[Q9,Nat.mul_comm];exact hz),rfl,q _ I.fresh⟩
end
section
variable {prog:Bl}{w:Cb}{A:Bv}{E:Ac->Ah->Prop}{s:Ah}
end
section
variable {X:Cx}
end
section
variable {κ:Type}[DecidableEq κ]
def fT(kvs:List (κ×V))(k:κ):Option V:=(kvs.find? fun a=>decide (a.1=k)).map (·.2)
def eJ(kvs:List (κ×V))(k:κ)(v:V):List (κ×V):=
 if (kvs.any fun a=>decide (a.1=k))=true then kvs.map (fun a=>if a.1=k then(a.1,v) else a) else kvs ++ [(k,v)]
def mM(kvs:List (κ×V))(k:κ):List (κ×V):=kvs.filter fun a=>decide (a.1≠k)
theorem rN{p:κ×V}{r:List (κ×V)}{k:κ}(e:p.1=k):fT (p :: r) k=some p.2:=by simp[fT,Fq,e]
theorem rO{p:κ×V}{r:List (κ×V)}{k:κ}(e:¬ p.1=k):fT (p :: r) k=fT r k:=by simp[fT,Fq,e]
theorem B6(k:κ):∀ kvs:List (κ×V),(kvs.any fun a=>decide (a.1=k))=(fT kvs k).isSome
 | []=>rfl
 | p :: r=>by
  rw[Gq]
  by_cases e:p.1=k
  ·simp only[rN e,decide_eq_true e,Bool.true_or,Option.isSome_some]
  ·rw[rO e,decide_eq_false e,Bool.false_or];exact B6 k r
theorem pJ(kvs:List (κ×V))(k:κ)(v:V):(eJ kvs k v).length<=kvs.length + 1:=by
 unfold eJ
 split
 ·rw[Ab];lia
 ·rw[Av,Bt,List.length_nil];lia
theorem fM.isSome_eq{o:Option V}{u:Option Ac}(r:fM o u):o.isSome=u.isSome:=by
 cases o with
 | none=>cases u with
  | none=>rfl
  | some _=>exact(show False from r).elim
 | some _=>cases u with
  | none=>exact(show False from r).elim
  | some _=>rfl
theorem fM.getD{o:Option V}{u:Option Ac}{d:V}{d':Ac}(r:fM o u)(a:RelV d d'):RelV (o.getD d) (u.getD d'):=by
 cases o with
 | none=>cases u with
  | none=>exact a
  | some _=>exact(show False from r).elim
 | some _=>cases u with
  | none=>exact(show False from r).elim
  | some _=>exact r
theorem KV.val{kvs:List (κ×V)}{vs:List (κ×Ac)}(r:KV kvs vs)(k:κ):fM (fT kvs k) (valueAt vs k):=by
 unfold KV at r
 induction r with
 | nil=>exact True.intro
 | @cons p q ps a h t f=>
  obtain⟨d,g⟩:=h
  by_cases e:p.1=k
  ·have c:q.1=k:=d.symm.trans e
   have b:valueAt (q :: a) k=some q.2:=by simp[valueAt,Fq,c]
   rw[rN e,b];exact g
  ·have c:¬ q.1=k:=fun z=>e (d.trans z)
   have b:valueAt (q :: a) k=valueAt a k:=by simp[valueAt,Fq,c]
   rw[rO e,b];exact f
theorem KV.any{kvs:List (κ×V)}{vs:List (κ×Ac)}(r:KV kvs vs)(k:κ):(kvs.any fun a=>decide (a.1=k))=vs.any fun a=>decide (a.1=k):=by
 unfold KV at r
 induction r with
 | nil=>rfl
 | cons h t b=>rw[Gq,Gq,b,h.1]
theorem KV.repl{kvs:List (κ×V)}{vs:List (κ×Ac)}(r:KV kvs vs)(k:κ){y:V}{u:Ac}(f:RelV y u) :
  KV (kvs.map fun a=>if a.1=k then(a.1,y) else a) (vs.map fun a=>if a.1=k then(a.1,u) else a):=by
 unfold KV at r ⊢
 induction r with
 | nil=>exact .nil
 | @cons p q ps g h t c=>
  rw[Ar,Ar]
  refine .cons ?_ c
  obtain⟨b,d⟩:=h
  by_cases e:p.1=k
  ·rw[if_pos e,if_pos (b.symm.trans e)];exact⟨b,f⟩
  ·rw[if_neg e,if_neg (fun z=>e (b.trans z))];exact⟨b,d⟩
theorem KV.put{kvs:List (κ×V)}{vs:List (κ×Ac)}(r:KV kvs vs)(k:κ){y:V}{u:Ac}(a:RelV y u):KV (eJ kvs k y) (stored vs k u):=by
 unfold eJ stored
 rw[r.any k]
 by_cases e:(vs.any fun b=>decide (b.1=k))=true
 ·rw[if_pos e,if_pos e];exact r.repl k a
 ·rw[if_neg e,if_neg e];exact Paired.snoc r ⟨rfl,a⟩
theorem KV.length{kvs:List (κ×V)}{vs:List (κ×Ac)}(r:KV kvs vs):kvs.length=vs.length:=Eo r
theorem RB(kvs:List (κ×V))(k:κ):(mM kvs k).length<=kvs.length:=Ik _ _
end
theorem lL{P:Bl}{w:Cb}{k:aD}{u:Ac}(r:RelV (kV k) u):(dB P w).is k u=true:=by
 cases k with
 | inl i=>obtain⟨t,e⟩:=(show ∃ t,u=Value.int i t from r);subst e;exact LV P w i t
 | inr x=>obtain⟨t,e⟩:=(show ∃ t,u=Value.str x t from r);subst e;exact LW P w x t
theorem B7{P:Bl}{w:Cb}:∀ {ks:List aD} {us:List Ac},aR (ks.map kV) us->ItemsAre (dB P w) ks us
 | [],_,r=>by rw[Kg] at r;cases r;exact .nil
 | k :: ks,_,r=>by
  rw[Ar] at r
  cases r with
  | cons h t=>exact .cons (lL h) (B7 t)
abbrev KT(H:Hp):List (List aD×V)->List (List aD×Addr×Ac)->Prop:=Iq fun p q=>p.1=q.1/\H q.2.1=some (.tup (p.1.map kV))/\RelV p.2 q.2.2
theorem KT.val{H:Hp}{kvs:List (List aD×V)}{xs:List (List aD×Addr×Ac)}(r:KT H kvs xs)(k:List aD):fM (fT kvs k) ((Ni xs k).map (·.2)):=by
 induction r with
 | nil=>exact True.intro
 | @cons p q ps a h t f=>
  obtain⟨d,_,g⟩:=h
  by_cases e:p.1=k
  ·have c:q.1=k:=d.symm.trans e
   have b:Ni (q :: a) k=some q.2:=by simp[Ni,Fq,c]
   rw[rN e,b];exact g
  ·have c:¬ q.1=k:=fun z=>e (d.trans z)
   have b:Ni (q :: a) k=Ni a k:=by simp[Ni,Fq,c]
   rw[rO e,b];exact f
theorem KT.repl{H:Hp}{kvs:List (List aD×V)}{xs:List (List aD×Addr×Ac)}(r:KT H kvs xs)(k:List aD){y:V}{u:Ac}(g:RelV y u) :
  KT H (kvs.map fun b=>if b.1=k then(b.1,y) else b) (xs.map (putAt k u)):=by
 induction r with
 | nil=>exact .nil
 | @cons p q ps i h t d=>
  rw[Ar,Ar]
  refine .cons ?_ d
  obtain⟨a,c,f⟩:=h
  unfold putAt
  by_cases e:p.1=k
  ·rw[if_pos e,if_pos (a.symm.trans e)];exact⟨a,c,g⟩
  ·rw[if_neg e,if_neg (fun z=>e (a.trans z))];exact⟨a,c,f⟩
theorem KT.put{H:Hp}{kvs:List (List aD×V)}{xs:List (List aD×Addr×Ac)}(r:KT H kvs xs)(k:List aD){b:Addr}{y:V}{u:Ac}(hb:H b=some (.tup (k.map kV)))(a:RelV y u) :
  KT H (eJ kvs k y) (Nq xs k b u):=by
 have e:(kvs.any fun c=>decide (c.1=k))=(Ni xs k).isSome:=by
  rw[B6,(r.val k).isSome_eq,Option.isSome_map]
 unfold eJ Nq
 rw[e]
 by_cases q:(Ni xs k).isSome=true
 ·rw[if_pos q,if_pos q];exact r.repl k a
 ·rw[if_neg q,if_neg q];exact Paired.snoc r ⟨rfl,hb,a⟩
theorem KT.keeps{H a:Hp}{kvs:List (List aD×V)}{xs:List (List aD×Addr×Ac)}(r:KT H kvs xs)(ht:∀ b ys,H b=some (.tup ys)->a b=some (.tup ys)):KT a kvs xs:=
 Paired.mapP r fun _ _ z=>⟨z.1,ht _ _ z.2.1,z.2.2⟩
section
variable {P:Bl}{w:Cb}{H:Hp}{h:Heap}{a:Addr}
theorem vN{u:HO}(ok:cM P w H h)(e:Rd H a u):cN P w H h a u:=e.ok ok
theorem lM{kvs:List (aD×V)}(ok:cM P w H h)(e:Rd H a (.dK kvs)):kvs.length<=Aj/\(a == Gp)=false/\∃ vs,KV kvs vs/\h.DictOf (dB P w) a vs:=
 show cN P w H h a (.dK kvs) from vN ok e
theorem RC{kvs:List (aD×V)}(ok:cM P w H h)(e:H a=some (.dK kvs)):kvs.length<=Aj/\(a == Gp)=false/\∃ vs,KV kvs vs/\h.DictOf (dB P w) a vs:=lM ok (.inl e)
theorem jR{ks:List aD}(ok:cM P w H h)(e:H a=some (.tup (ks.map kV))):(Gn (dB P w)).is h ks a:=by
 obtain⟨_,its,r,o,d,c,n,b⟩:=(show cN P w H h a (.tup (ks.map kV)) from ok a _ e)
 exact⟨o,its.toArray,n,d,c,b,by simpa using B7 r⟩
theorem mN{kvs:List (List aD×V)}(ok:cM P w H h)(e:Rd H a (.dT kvs)):kvs.length<=Aj/\(a == Gp)=false/\
  ∃ xs,KT H kvs xs/\h.DictOfH (Gn (dB P w)) a xs:=by
 obtain⟨z,y,xs,r,o,es,ep,g,f,k,i,j⟩:=(show cN P w H h a (.dT kvs) from vN ok e)
 refine⟨z,y,xs,r,o,es,ep,g,f,k,i,fun x b=>?_,j⟩
 have all:∀ {l:List (List aD×V)} {m:List (List aD×Addr×Ac)},KT H l m->∀ x∈m,(Gn (dB P w)).is h x.1 x.2.1:=by
  intro l m q
  induction q with
  | nil=>intro x b;exact nomatch b
  | @cons p q ps n c t d=>
   intro x b
   rcases Az.mp b with e | b
   ·subst e
    exact jR ok (by rw[<-c.1];exact c.2.1)
   ·exact d x b
 exact all r x b
theorem vO{kvs:List (List aD×V)}(ok:cM P w H h)(e:H a=some (.dT kvs)):kvs.length<=Aj/\(a == Gp)=false/\
  ∃ xs,KT H kvs xs/\h.DictOfH (Gn (dB P w)) a xs:=mN ok (.inl e)
end
def gM(H:Hp)(a:Addr)(y:V)(r:Option V):Prop:=
 (∃ kvs k,Rd H a (.dK kvs)/\y=kV k/\r=fT kvs k)\/∃ kvs k b,Rd H a (.dT kvs)/\y=.ref b/\H b=some (.tup (k.map kV))/\r=fT kvs k
def lN(H:Hp)(a:Addr)(y v:V)(c:Hp):Prop:=
 (∃ kvs k,H a=some (.dK kvs)/\y=kV k/\kvs.length < Aj/\c=aN H a (.dK (eJ kvs k v)))\/
 ∃ kvs k b,H a=some (.dT kvs)/\y=.ref b/\H b=some (.tup (k.map kV))/\kvs.length < Aj/\c=aN H a (.dT (eJ kvs k v))
theorem lN.k{H:Hp}{a:Addr}{kvs:List (aD×V)}{k:aD}{v:V}(e:H a=some (.dK kvs))(hl:kvs.length < Aj):lN H a (kV k) v (aN H a (.dK (eJ kvs k v))):=.inl ⟨kvs,k,e,rfl,hl,rfl⟩
theorem lN.t{H:Hp}{a b:Addr}{kvs:List (List aD×V)}{k:List aD}{v:V}(e:H a=some (.dT kvs))(eb:H b=some (.tup (k.map kV)))(hl:kvs.length < Aj) :
  lN H a (.ref b) v (aN H a (.dT (eJ kvs k v))):=.inr ⟨kvs,k,b,e,rfl,eb,hl,rfl⟩
section
variable {X:Cx}{pins:List (Addr×Obj)}{σ:St}{H:Hp}{s:Ah}{a:Addr}{y v:V}{u r:Ac}{o:Option V}{A:Bv}{E:Ac->Ah->Prop}
theorem Inv.big(I:Inv X pins σ H s):Gp < s.heap.objs.size:=by
 have h:El < s.heap.objs.size:=(I.mod.glob.keeps I.bk).lt
 exact Hi (by decide) h
theorem RD{Q:Ac->Ah->Prop}(r:A.units + 1 < Gh)(I:Inv X pins σ H s)(g:gM H a y (some v))(n:RelV y u)(h:∀ f q,Inv X pins σ H q->RelV v f->Q f q) :
  Ax (Bk X.prog X.w) A (getItem (.ref a) u) Q E s:=by
 rcases g with⟨kvs,k,e,i,l⟩ | ⟨kvs,k,b,e,i,eb,l⟩
 ·subst i
  obtain⟨z,hd,vs,d,j⟩:=lM I.hok e
  obtain⟨f,hw,c⟩:=fM.some_of (v:=v) (o:=valueAt vs k) (by rw[l];exact d.val k)
  exact wpAny_getItem_of (lL n) j.mapOf hw (h f _ (I.tok _) c)
 ·subst i
  cases (show u=Value.ref b from n)
  obtain⟨z,hd,xs,d,j⟩:=mN I.hok e
  obtain⟨f,hw,c⟩:=fM.some_of (v:=v) (o:=(Ni xs k).map (·.2)) (by rw[l];exact d.val k)
  obtain⟨p,t,m⟩:=Bn.mp hw
  refine wpAny_getItem_heap (Fi r) (jR I.hok eb) j t ?_
  rw[m]
  exact h f _ (I.tok _) c
theorem RE{Q:Ac->Ah->Prop}(m:A.units + 1 < Gh)(I:Inv X pins σ H s)(g:gM H a y o)(i:RelV y u)(h:∀ j,Inv X pins σ H j->Q (.bool o.isSome) j) :
  Ax (Bk X.prog X.w) A (Ck .In u (.ref a)) Q E s:=by
 rcases g with⟨kvs,k,e,d,l⟩ | ⟨kvs,k,b,e,d,eb,l⟩
 ·subst d
  obtain⟨z,hd,vs,c,f⟩:=lM I.hok e
  refine wpAny_in_of (lL i) hd f.mapOf ?_
  rw[<-(c.val k).isSome_eq,<-l]
  exact h _ (I.tok _)
 ·subst d
  cases (show u=Value.ref b from i)
  obtain⟨z,hd,xs,c,f⟩:=mN I.hok e
  refine wpAny_in_heap (Fi m) (jR I.hok eb) hd f ?_
  have q:=(c.val k).isSome_eq
  rw[Option.isSome_map] at q
  rw[<-q,<-l]
  exact h _ (I.tok _)
theorem RF{Q:Ac->Ah->Prop}(m:A.units + 1 < Gh)(I:Inv X pins σ H s)(g:gM H a y o)(i:RelV y u)(h:∀ j,Inv X pins σ H j->Q (.bool (!o.isSome)) j) :
  Ax (Bk X.prog X.w) A (Ck .NotIn u (.ref a)) Q E s:=by
 rcases g with⟨kvs,k,e,d,l⟩ | ⟨kvs,k,b,e,d,eb,l⟩
 ·subst d
  obtain⟨z,hd,vs,c,f⟩:=lM I.hok e
  refine wpAny_notIn_of (lL i) hd f.mapOf ?_
  rw[<-(c.val k).isSome_eq,<-l]
  exact h _ (I.tok _)
 ·subst d
  cases (show u=Value.ref b from i)
  obtain⟨z,hd,xs,c,f⟩:=mN I.hok e
  refine wpAny_notIn_heap (Fi m) (jR I.hok eb) hd f ?_
  have q:=(c.val k).isSome_eq
  rw[Option.isSome_map] at q
  rw[<-q,<-l]
  exact h _ (I.tok _)
theorem rP{h':Heap}{t':Nat}{ob:HO}(I:Inv X pins σ H s)(c:pA (H a))(hs:Dx a s.heap h')(d:∃ q,h'.get? a=some q)(new:cN X.prog X.w (aN H a ob) h' a ob) :
  Inv X pins σ (aN H a ob) {s with heap:=h',toks:=t'}:=
 I.write (x:=a) (e:=a) c (.inl rfl) (fun b q hb z=>(hs.2 b hb).trans z) d new
theorem RG{P:Bl}{w:Cb}{c:Hp}{h':Heap}{kvs:List (aD×V)}{vs:List (aD×Ac)}(z:kvs.length<=Aj)(hd:(a == Gp)=false)(b:KV kvs vs)(d:h'.DictOf (dB P w) a vs) :
  cN P w c h' a (.dK kvs):=⟨z,hd,vs,b,d⟩
theorem RH{p:Hp}{Q:Unit->Ah->Prop}(C:A.units + 1 < Gh)(I:Inv X pins σ H s)(g:lN H a y v p)(t:RelV y u)(o:RelV v r)(h:∀ B,Inv X pins σ p B->Q () B) :
  Ax (Bk X.prog X.w) A (setItem (.ref a) u r) Q E s:=by
 rcases g with⟨kvs,k,e,m,l,j⟩ | ⟨kvs,k,b,e,m,eb,l,j⟩
 ·subst m j
  obtain⟨z,hd,vs,d,n⟩:=RC I.hok e
  have hz:vs.length<=Aj:=by rw[<-d.length];exact z
  have hl:(eJ kvs k v).length<=Aj:=by have:=pJ kvs k v;lia
  refine wpAny_setItem_pairs (hsz:=hz) (lL t) n fun h' f hs=>h _ ?_
  have F:∃ q,h'.get? a=some q:=let ⟨q,_,_,i,_⟩:=f;⟨q,i⟩
  exact rP I (by rw[e];exact True.intro) hs F (RG hl hd (d.put k o) f)
 ·subst m j
  cases (show u=Value.ref b from t)
  obtain⟨z,hd,xs,d,n⟩:=vO I.hok e
  have hz:xs.length<=Aj:=by rw[<-Eo d];exact z
  have hl:(eJ kvs k v).length<=Aj:=by have:=pJ kvs k v;lia
  refine wpAny_setItem_heap (hsz:=hz) (Fi C) (jR I.hok eb) n fun h' f hs=>h _ ?_
  obtain⟨q,es,ep,i,D,J,G,_,K⟩:=f
  refine rP I (by rw[e];exact True.intro) hs ⟨q,i⟩ ⟨hl,hd,_,(d.put k eb o).keeps fun c ys x=>?_,q,es,ep,i,D,J,G,K⟩
  rw[bL (u7 x e (fun z=>nomatch z))]
  exact x
end
section
variable {X:Cx}{pins:List (Addr×Obj)}{σ:St}{H:Hp}{s:Ah}{a:Addr}{kvs:List (aD×V)}{k:aD}{u:Ac}{A:Bv}{E:Ac->Ah->Prop}
theorem RI{Q:Ac->Ah->Prop}(I:Inv X pins σ H s)(e:Rd H a (.dK kvs))(h:∀ t c,Inv X pins σ H c->Q (.int kvs.length t) c):Ax (Bk X.prog X.w) A (call (.builtin "len") [.ref a]) Q E s:=by
 obtain⟨z,hd,vs,b,d⟩:=lM I.hok e
 refine call_len_dict hd d (by rw[<-b.length];rw[Hn] at z;lia) ?_
 rw[<-b.length]
 exact h _ _ (I.tok _)
end
theorem RJ{X:Cx}{pins:List (Addr×Obj)}{σ:St}{H:Hp}{s:Ah}{a:Addr}{y:V}{o:Option V}(I:Inv X pins σ H s)(g:gM H a y o):s.TypeIs (.ref a) "dict":=by
 rcases g with⟨kvs,k,e,_,_⟩ | ⟨kvs,k,b,e,_,_,_⟩
 ·obtain⟨_,_,vs,_,c⟩:=lM I.hok e
  exact c.typeIs
 ·obtain⟨_,_,xs,_,c⟩:=mN I.hok e
  exact c.typeIs
section
variable {X:Cx}{o i e value:Expr}{pos pos' tpos:Pos}{td ty tv:TE}
end
theorem RK{P:Bl}{w:Cb}{H:Hp}(h:Heap)(hb:Gp < h.objs.size):cN P w H (h.push {cls:=.type "dict",data:=.dict #[]}) h.objs.size (.dK []):=
 ⟨Co _,beq_eq_false_iff_ne.mpr (Bq (Bf hb)),[],.nil,Heap.DictOf.new h⟩
theorem RL{P:Bl}{w:Cb}{H:Hp}(h:Heap)(hb:Gp < h.objs.size):cN P w H (h.push {cls:=.type "dict",data:=.dict #[]}) h.objs.size (.dT []):=
 ⟨Co _,beq_eq_false_iff_ne.mpr (Bq (Bf hb)),[],.nil,_,#[],0,Ap _ rfl,⟨rfl,rfl,rfl⟩,rfl,rfl,Fz⟩
def RM:TE:=fun _ H Q=>∀ p,H p=none->Q (.ref p) (aN H p (.dK []))
def RN:TE:=fun _ H Q=>∀ p,H p=none->Q (.ref p) (aN H p (.dT []))
section
variable {X:Cx}{pos:Pos}
theorem RO:PE X (.Dict [] [] pos) RM:=fun pins s σ H Q I h=>
 wpAny_Dict_empty ⟨.ref s.heap.objs.size,_,I.laid (a:=s.heap.objs.size) (o:=.dK []) (t':=s.toks) (fun _ _ q=>Af _ q) (Ai _) (RK s.heap I.big),rfl,h _ (I.hok.fresh (Ai _))⟩
theorem RP:PE X (.Dict [] [] pos) RN:=fun pins s σ H Q I h=>
 wpAny_Dict_empty ⟨.ref s.heap.objs.size,_,I.laid (a:=s.heap.objs.size) (o:=.dT []) (t':=s.toks) (fun _ _ q=>Af _ q) (Ai _) (RL s.heap I.big),rfl,h _ (I.hok.fresh (Ai _))⟩
end
structure M1(X:Cx)(o:Expr)(m:Str)(apos:Pos)(e:Expr)(cpos:Pos):Prop where
 base:Ja o m X.env (eval o X.env)=eval o X.env
 few:((Hl cpos (Bj [e] X.env)).all (fun x=>!x.1) && (Oh cpos (Li [] X.env)).all (fun x=>x.1.isSome)
  && decide (([e]:List Expr).length + ([]:List Keyword).length + (if ([]:List Keyword).isEmpty then 0 else 1) < 30))=true
 line:(apos.endLine == cpos.line)=true
 trees:Hl cpos (Bj [e] X.env)=[(false,eval e X.env)]
section
variable {X:Cx}{pins:List (Addr×Obj)}{σ:St}{H:Hp}{s:Ah}{a:Addr}{y d:V}{u r:Ac}{o:Option V}{A:Bv}{E:Ac->Ah->Prop}
theorem B8{Q:Ac->Ah->Prop}(n:A.units + 1 < Gh)(I:Inv X pins σ H s)(g:gM H a y o)(j:RelV y u)(h:∀ i m,Inv X pins σ H m->RelV (o.getD .non) i->Q i m) :
  Ax (Bk X.prog X.w) A (call (.builtin "dict.get") [.ref a,u]) Q E s:=by
 rcases g with⟨kvs,k,e,f,l⟩ | ⟨kvs,k,b,e,f,eb,l⟩
 ·subst f
  obtain⟨z,hd,vs,c,d⟩:=lM I.hok e
  refine Lw Kf d.typeIs Jz (PySem.F.args_dict_get_2 _ _) (meets_dict_get (dB X.prog X.w) a (lL j) hd) ⟨_,d.mapOf,h _ _ (I.tok _) ?_⟩
  rw[l]
  exact(c.val k).getD rfl
 ·subst f
  cases (show u=Value.ref b from j)
  obtain⟨z,hd,xs,c,d⟩:=mN I.hok e
  refine Lw Kf d.typeIs Jz (PySem.F.args_dict_get_2 _ _) (meetsH_dict_get (Gn (dB X.prog X.w)) a b hd) ⟨Fi n,k,xs,jR I.hok eb,d,h _ _ (I.tok _) ?_⟩
  rw[l]
  exact(c.val k).getD rfl
theorem B9{Q:Ac->Ah->Prop}(q:A.units + 1 < Gh)(I:Inv X pins σ H s)(g:gM H a y o)(n:RelV y u)(m:RelV d r)(h:∀ j p,Inv X pins σ H p->RelV (o.getD d) j->Q j p) :
  Ax (Bk X.prog X.w) A (call (.builtin "dict.get") [.ref a,u,r]) Q E s:=by
 rcases g with⟨kvs,k,e,i,l⟩ | ⟨kvs,k,b,e,i,eb,l⟩
 ·subst i
  obtain⟨z,hd,vs,c,f⟩:=lM I.hok e
  refine Lw Kf f.typeIs Jz (PySem.F.args_dict_get_3 _ _ _) (meets_dict_get_default (dB X.prog X.w) a (lL n) hd r) ⟨_,f.mapOf,h _ _ (I.tok _) ?_⟩
  rw[l]
  exact(c.val k).getD m
 ·subst i
  cases (show u=Value.ref b from n)
  obtain⟨z,hd,xs,c,f⟩:=mN I.hok e
  refine Lw Kf f.typeIs Jz (PySem.F.args_dict_get_3 _ _ _) (meetsH_dict_get_default (Gn (dB X.prog X.w)) a b hd r) ⟨Fi q,k,xs,jR I.hok eb,f,h _ _ (I.tok _) ?_⟩
  rw[l]
  exact(c.val k).getD m
end
section
variable {X:Cx}{o e f:Expr}{apos cpos:Pos}{td ty tx:TE}
end
section
variable {X:Cx}{pins:List (Addr×Obj)}{σ:St}{H:Hp}{s:Ah}{a:Addr}{kvs:List (aD×V)}{A:Bv}{E:Ac->Ah->Prop}
end
section
variable {X:Cx}{pins:List (Addr×Obj)}{σ:St}{H:Hp}{s:Ah}{a:Addr}{y:V}{u:Ac}{A:Bv}{E:Ac->Ah->Prop}
end
end L2
namespace Att
open PySem PySem.W PySem.Calls PyProof.Rows
theorem RQ{P:Params}{h:Heap}:∀ (ns:List Int) (vs:List Ac),WellAll P h vs (ns.map WData.int)->Iu vs ns:=by
 intro ns
 induction ns with
 | nil=>
  intro vs w
  rw[Kg] at w
  cases w
  exact .nil
 | cons n ns c=>
  intro vs w
  rw[Ar] at w
  cases w with
  | cons a b=>
   cases a
   exact .cons _ _ (c _ b)
theorem RS{l:OpenLaw}{n:Nat}(v:l.most=some n){P:Params}{h:Heap}{args:List WData}{vals:List Ac}
  (b:l.row.toRowW.claim.pre args=true) (j:WellAll P h vals args) :
  ∃ a vs ns,vals=[Value.ref a]/\args=[WData.list (ns.map WData.int)]/\h.get? a=some {cls:=.type "list",data:=.seq vs.toArray}/\Iu vs ns/\ns.length<=n:=by
 have i:WShape.hasAll [] args [.list .int]=true:=(pre_splitW b).1
 have hc:l.pre.holds [] {args:=args} = true:=(pre_splitW b).2
 obtain⟨d,r,rfl,o,k⟩:=hasAllW_cons i
 obtain rfl:=hasAllW_nil k
 obtain⟨xs,rfl,u⟩:=hasW_list o
 obtain⟨ns,rfl⟩:=items_int u
 have e:ns.length<=n:=by
  unfold OpenLaw.pre at hc
  have f:(WTm.not (.lt (.lit (.int (n:Int))) (.len (.arg 0)))).holds [] {args:=[.list (ns.map .int)]} = true:=by
   have f:=(holds_andW hc).1
   rw[v] at f
   exact f
  have g:=condW_of f (w_not (w_lt w_lit (w_len_list (w_arg rfl))))
  rw[Ab] at g
  refine Nat.le_of_not_lt fun q=>?_
  have p:(n:Int) < ((ns.length:Nat):Int):=by lia
  first
   | (rw[decide_eq_true p] at g;exact absurd g (by decide))
   | (simp at g;lia)
 cases j with
 | cons t s=>
  cases s
  cases t with
  | list m c=>exact⟨_,_,ns,rfl,rfl,m,RQ ns _ c,e⟩
theorem RT(l:OpenLaw)(args:List WData):l.row.toRowW.claim.post args (.bool true) args=true:=
 postW_of (r:=l.row.toRowW) (X:=(true == true))
  (show WShape.has [] (.bool true) .bool=true by first | rfl | decide | simp[WShape.has,WShape.arms,WShape.armsAll])
  (show(WTm.eq .res (.lit (.bool true))).value [] {args:=args,res:=some (.bool true),after:=args} = some (.bool (true == true)) from w_eq_bool (w_res rfl) w_lit) rfl
theorem attach_call{l:OpenLaw}{n:Nat}{q:Bl}{loose:List Str}{XP:(Str->Option Ac)->Heap->Prop}{YP:Cb->Heap->Prop}{d:DefRec}
  (B:l.most=some n) (s:d.params.defaults=[])
  (call:∀ (w:Cb) (s₀ b:Ah) (mg mb:Str->Option Ac) (h:Addr) (o:Obj) (pm m e:Ac) (a:Addr) (vs:List Ac) (ns:List Int),
   Ground q loose [] XP w s₀ mg mb b.heap->YP w b.heap->
   b.heap.get? h=some o->o.data=.func (docDef d.name d.params d.body d.scope pm m e)->b.heap.CodeRec m d.name->mg d.name=some (.ref h)->
   b.heap.get? a=some {cls:=.type "list",data:=.seq vs.toArray}->Iu vs ns->ns.length<=n->b.gens = #[]->
   Jv (Bk l.prog w) callerA (.call (.ref h) ⟨[.ref a],[]⟩) (fun r k=>r=.ok (.ret (.bool true))/\OldK b.heap k.heap/\k.os=b.os/\Nv k.gens) b) :
  WalkO q loose XP YP l.row.toRowW d [] (fun f vs=>PySem.call f vs):=by
 intro w s₀ b mg mb G Y h o pm m e dV kV y hd u x t H args vals J i v A p z
 obtain rfl:dV=.none:=Dflts.none x s
 obtain rfl:kV=.none:=Dflts.noKw x
 obtain⟨a,vs,ns,rfl,rfl,g,c,j⟩:=RS B i p
 refine enter_call (Kq (call w s₀ b mg mb h o pm m e a vs ns G Y y (fd_plain hd) u t g c j H) fun r k F=>?_)
 obtain⟨rfl,E,I,C⟩:=F
 exact⟨.inl ⟨.bool true,.bool true,[],rfl,fun _=>rfl,.bool true,RT l _,fun _=>⟨List.Pairwise.nil,fun _ D=>(nomatch D)⟩⟩,E,I,C⟩
section
variable {prog:Bl}{w:Cb}{A:Bv}{E:Ac->Ah->Prop}{s:Ah}{K:Frag}
end
end Att
namespace L2
open PySem PySem.Spec PyProof.Rows
theorem CA:∀ {vs:List Ac} {ns:List Int},Iu vs ns->aR (ns.map V.int) vs
 | _,_,.nil=>.nil
 | _,_,.cons n t h=>.cons ⟨t,rfl⟩ (CA h)
def rQ(H:Hp):Prop:=∀ b,H b=none\/∃ o xs,H b=some (.frz o (.lst xs))
theorem RU{P:Bl}{w:Cb}{K:Ae}{mg mb:Str->Option Ac}{CX:jB}{k:Nat}{fa a:Addr}{fd:Bw}{x:Str}{sp:Sp}{s₁:Ah}{vs:List Ac}{ns:List Int}
  (KX:K.In s₁.heap) (hns:s₁.heap.Ns El mg) (hb:s₁.heap.Ns builtinsNs mb) (hbb:∀ x:Str,x≠"__name__"->mb x=Cv x) (hlim:s₁.heap.NoLimit) (hg:s₁.gens = #[])
  (ha:s₁.heap.get? a=some {cls:=.type "list",data:=.seq vs.toArray}) (hi:Iu vs ns) (hl:ns.length<=Aj) (hr:cJ k callerA)
  (F:∀ base:Heap,K.In base->base.Ns El mg->e6 P w K mg base CX k fa fd [x] sp) (hbind:∀ (s:Ah) (u:Ac),BindsTo s fd ⟨[u],[]⟩ [(x,u)])
  (hsp:∀ H:Hp,rQ H->a9 K H a (ns.map V.int)->sp [.ref a] H (fun v _=>v=.bl true) fun _ _ _=>False)
  (hCX:∀ H e s',CX [] H s₁ (fun _ _ _=>False) e s'->False) :
  Jv (Bk P w) callerA (.call (.ref fa) ⟨[.ref a],[]⟩) (fun r s'=>r=.ok (.ret (.bool true))/\OldK s₁.heap s'.heap/\s'.os=s₁.os/\Nv s'.gens) s₁:=by
 have rv:=CA hi
 have lenV:=hi.length
 have core:∀ H:Hp,rQ H->a9 K H a (ns.map V.int)->cM P w H s₁.heap->(∀ b,H b≠none->b=a)->(H a≠none->K.lookup a=none)->
   Jv (Bk P w) callerA (.call (.ref fa) ⟨[.ref a],[]⟩) (fun r s'=>r=.ok (.ret (.bool true))/\OldK s₁.heap s'.heap/\s'.os=s₁.os/\Nv s'.gens) s₁:=by
  intro H hO hS hok hA hK
  have base_of:∀ {b:Addr} {o:Obj},s₁.heap.get? b=some o->H b=none->(kI s₁.heap H).get? b=some o:=fun e n=>LY e n
  have noA:∀ {b:Addr} {o:Obj} {es:Array Ie} {ep:Nat},s₁.heap.get? b=some o->o.data=.dict es ep->H b=none:=fun {b o es ep} e d=>by
   cases q:H b with
   | none=>rfl
   | some u=>
    have e':b=a:=hA b (by rw[q];simp)
    subst e'
    rw[ha] at e;cases e
    have d':Data.seq vs.toArray _=Data.dict es ep:=d
    cases d'
  have nsK:∀ {b:Addr} {m:Str->Option Ac},s₁.heap.Ns b m->(kI s₁.heap H).Ns b m:=fun {b m} ⟨o,es,ep,e,d,r⟩=>⟨o,es,ep,base_of e (noA e d),d,r⟩
  have hKb:K.In (kI s₁.heap H):=fun b o e=>base_of (KX b o e) (by
   cases q:H b with
   | none=>rfl
   | some u=>
    have e':b=a:=hA b (by rw[q];simp)
    subst e'
    rw[hK (by rw[q];simp)] at e;cases e)
  have hM:Mod K mg (kI s₁.heap H):=⟨hKb,nsK hns,⟨mb,nsK hb,hbb⟩,let ⟨mc,h1,h2⟩:=hlim;⟨mc,nsK h1,h2⟩⟩
  have e0:mL P w K mg (kI s₁.heap H) callerA [] s₁ H:=⟨rfl,hM,fun b o e=>LZ e,Fo (LX _ _),trivial,fun b hb=>absurd (show b∈([]:List Addr) from hb) (by simp),hok,.of_eq hg⟩
  refine Kq ((F _ hKb (nsK hns)).run callerA [] s₁ H ⟨[.ref a],[]⟩ [.ref a] [.ref a] _ _ hr e0 (hbind s₁ (.ref a)) (.cons rfl .nil) (hsp H hO hS)) fun r s' h=>?_
  cases r with
  | error e=>exact(hCX H e s' h).elim
  | ok fl=>
   cases fl with
   | next=>exact Gu h
   | brk=>exact Gu h
   | cont=>exact Gu h
   | ret u=>
    obtain⟨v,H',os,bare,un,hok',r',q⟩:=h
    have q':v=.bl true:=q
    subst q'
    obtain rfl:u=Value.bool true:=r'
    refine⟨rfl,OldK.of_keep fun b o e=>?_,os,bare⟩
    cases q:H b with
    | none=>exact un.keep b o e q (by intro z;exact absurd (show b∈([]:List Addr) from z) (by simp)) (by simp)
    | some u=>
     rcases hO b with z | ⟨ob,xs,z⟩
     ·rw[q] at z;cases z
     ·have z2:=un.frzs b ob _ z
      obtain⟨e1,_⟩:=hok b _ z
      obtain⟨e2,_⟩:=hok' b _ z2
      rw[e] at e1;cases e1
      exact e2
 cases hk:K.lookup a with
 | some o=>
  have e:=KX a o hk
  rw[ha] at e
  cases e
  refine core (fun _=>none) (fun _=>.inl rfl) (.inr ⟨_,vs.toArray,_,hk,rfl,rfl,rfl,by rw[Bc,lenV];exact hl,by simpa using rv⟩) (fun b u z=>by have z':(none:Option HO)=some u:=z;cases z') (fun b z=>absurd rfl z) fun z=>absurd rfl z
 | none=>
  refine core (fun b=>if b=a then some (.frz {cls:=.type "list",data:=.seq vs.toArray} (.lst (ns.map V.int))) else none) (fun b=>?_) (.inl (.inr ⟨{cls:=.type "list",data:=.seq vs.toArray},if_pos rfl⟩)) (fun b u z=>?_) (fun b z=>?_) fun _=>hk
  ·by_cases hb:b=a
   ·exact .inr ⟨_,_,if_pos hb⟩
   ·exact .inl (if_neg hb)
  ·by_cases hb:b=a
   ·have z':=(if_pos hb).symm.trans z
    cases z'
    subst hb
    exact⟨ha,by rw[Ab];exact hl,vs,_,rv,ha⟩
   ·have z':=(if_neg hb).symm.trans z
    cases z'
  ·by_cases hb:b=a
   ·exact hb
   ·exact absurd (if_neg hb) z
theorem RV{l:PySem.W.OpenLaw}{n k:Nat}{q:Bl}{loose:List Str}{XP:(Str->Option Ac)->Heap->Prop}{YP:Cb->Heap->Prop}{d:DefRec}{K:Params->Ae}{CX:Cb->jB}{sp:Cb->Sp}{x:Str}
  (D:l.most=some n) (B:n<=Aj) (y:d.params.defaults=[]) (O:cJ k callerA)
  (E:∀ (w:Cb) (h:Heap),YP w h->(K w.params).In h)
  (F:∀ (w:Cb) (mg:Str->Option Ac) (p:Addr) (h:Heap),(K w.params).In h->h.Ns El mg->mg d.name=some (.ref p)->
   ∃ fd:Bw,(∀ (s:Ah) (u:Ac),BindsTo s fd ⟨[u],[]⟩ [(x,u)])/\
    ∀ base:Heap,(K w.params).In base->base.Ns El mg->e6 l.prog w (K w.params) mg base (CX w) k p fd [x] (sp w))
  (r:∀ (w:Cb) (H:Hp) (a:Addr) (ns:List Int),ns.length<=n->rQ H->a9 (K w.params) H a (ns.map V.int)->sp w [.ref a] H (fun v _=>v=.bl true) fun _ _ _=>False)
  (A:∀ (w:Cb) (H:Hp) (s:Ah) (e:Ac) (t:Ah),CX w [] H s (fun _ _ _=>False) e t->False) :
  PySem.W.WalkO q loose XP YP l.row.toRowW d [] (fun f vs=>PySem.call f vs):=by
 refine Att.attach_call D y fun w s₀ m mg mb p o pm R P a vs ns G Y Q hd L z j i c N=>?_
 have C:=E w _ Y
 obtain⟨fd,hb,J⟩:=F w mg p _ C G.T.g z
 exact RU C G.T.g G.T.b G.T.builtins G.T.nolimit N j i (Bp c B) O J hb (fun H I M=>r w H a ns c I M) fun H e t=>A w H m e t
def jS(s:Stmt)(j:Nat):Stmt:=match s with
 | .ClassDef _ _ _ a _ _ _ _ _ _ _=>a.getD j (.Pass ⟨0,0,0,0⟩)
 | _=>.Pass ⟨0,0,0,0⟩
def iT(s:Stmt):Arguments:=match s with
 | .FunctionDef _ a _ _ _ _ _ _ _ _=>a
 | _=>{posonlyargs:=[],args:=[],vararg:=none,kwonlyargs:=[],kw_defaults:=[],kwarg:=none,defaults:=[]}
def gN(s:Stmt):List Stmt:=match s with
 | .FunctionDef _ _ b _ _ _ _ _ _ _=>b
 | _=>[]
def eR(s:Stmt):Ke:=match s with
 | .FunctionDef _ _ _ _ _ _ sc _ _ _=>sc
 | _=>{kind:=.function,names:=[],isGenerator:=false,isCoroutine:=false}
abbrev gB:jB:=fun _ _ _ _ _ _=>False
abbrev E0:XK:=fun _ _ _=>False
theorem pK{X:Cx}:lI gB X E0:=fun _ _ _ _ _ _ _ h=>h.elim
structure jT(K:Ae)(x qual:Str)(st:Stmt)(f:Addr)(fd:Bw):Prop where
 ex:∃ (oc:Ac) (od:Option Addr) (kV doc pm:Ac) (an:Option Addr) (cdv ct:Ac) (osl:Array (Option Ac)),
  fd=Fc x qual (iT st) (gN st) (eR st) .none kV doc pm an cdv ct/\K.lookup f=some ⟨oc,od,.func fd,osl⟩/\Jy K cdv qual=true
 kp:Fx K (.ref f)=true
section
variable {P:Bl}{w:Cb}{K:Ae}{mg:Str->Option Ac}{base:Heap}
theorem jT.ok{x a:Str}{st:Stmt}{f:Addr}{fd:Bw}{N ps:List Str}{k:Nat}{sp:Sp}(F:jT K x a st f fd)(S:nN N ps (eR st))(len:∀ vs H Q E,sp vs H Q E->vs.length=ps.length)
  (c:∀ (b:Ac) (A:Bv) (outer:List Env) (s:Ah) (H:Hp) (vs:List V) (Q:VK) (E:XK),cJ k (A.deeper (Mz a (eR st) s.heap.objs.size f b))->sp vs H Q E->
   ∃ t,fR (lJ gB P w K mg base N a (eR st) f b A outer s H E).nox (gN st) t/\t {nx:=fun _ l=>Q .non l,rt:=Q} (start N vs) H):e6 P w K mg base gB (k + 1) f fd ps sp:=by
 obtain⟨p,o,kV,i,pm,n,b,ct,g,rfl,m,e⟩:=F.ex
 refine PV m e S len fun A outer s H vs Q E j d=>?_
 obtain⟨t,h,q⟩:=c b A outer s H vs Q E j d
 exact⟨t,h.nox,q⟩
theorem jT.binds{x a:Str}{st:Stmt}{f:Addr}{fd:Bw}{ps:List Str}(F:jT K x a st f fd)
  (h:∀ (kV b pm:Ac) (d:Option Addr) (c ct:Ac) (us:List Ac),us.length=ps.length->bindArgs (Fc x a (iT st) (gN st) (eR st) .none kV b pm d c ct) ⟨us,[]⟩=pure (ps.zip us)):Binds K fd ps []:=by
 obtain⟨k,j,kV,b,pm,d,c,ct,e,rfl,i,g⟩:=F.ex
 exact .all (h kV b pm d c ct)
theorem nO{x a:Str}{st:Stmt}{f:Addr}{h:Ac}{i g:Option Addr}{e:Array (Option Ac)}{kV d pm b ct:Ac}(l:K.lookup f=some ⟨h,i,.func (Fc x a (iT st) (gN st) (eR st) .none kV d pm g b ct),e⟩)
  (c:Jy K b a=true) (k:Fx K (.ref f)=true):jT K x a st f (Fc x a (iT st) (gN st) (eR st) .none kV d pm g b ct):=⟨⟨h,i,kV,d,pm,g,b,ct,e,rfl,l,c⟩,k⟩
end
theorem RW{A:Bv}{k:Nat}(a:cJ k A):A.units + 1 < Gh:=Ls (Lg (by decide:1<=64) _) a.units
section
variable {X:Cx}
theorem RX:cU X (.builtin "len") (fun xs H Q=>∃ a kvs,xs=[V.ref a]/\H a=some (.dK kvs)/\Q (.int kvs.length) H):=by
 intro pins s σ H xs us Q I r h
 obtain⟨a,kvs,rfl,ha,q⟩:=h
 obtain⟨u,rfl,b⟩:=vals1 r
 cases b
 exact RI I (.inl ha) fun t d c=>⟨.int kvs.length,H,c,⟨t,rfl⟩,q⟩
end
theorem RY{A B:Prop}(h:B):if false=true then A else B:=by
 rw[if_neg Am]
 exact h
theorem RZ{A B:Prop}(h:A):if true=true then A else B:=by
 rw[if_pos rfl]
 exact h
section
variable {κ:Type}[DecidableEq κ]
end
end L2
set_option maxHeartbeats 4000000
namespace L2
open PySem PySem.Spec PyProof.Rows
structure jU where
 cl:List (Str×Addr)
 s:Ah
 H:Hp
 fp:List Addr
 C:Addr
def dN(X:Cx)(sc:Ke)(N':List Str)(B:jU):Cx where
 prog:=X.prog
 w:=X.w
 K:=X.K
 mg:=X.mg
 base:=X.base
 A:=X.A
 N:=N'
 s₀:=B.s
 H₀:=B.H
 env:=compEnvC sc B.cl B.C X.env
 outer:=X.stack
 stack:=X.stack
 ex:=B.fp
 fn:=fun _=>false
 calm:=X.calm
 pn:=[]
 xe:=fun _ _=>False
def fY(cells:List (Str×Addr)):List (Str×Jo)->List (Str×Addr)->List (Str×Addr)
 | [],acc=>acc
 | (n,k) :: r,acc=>if k=.free then fY cells r ((n,(cells.lookup n).getD 0) :: acc) else fY cells r acc
theorem CB{scope:Ke}{env:Env}(h:∀ y∈scope.names,y.2=.free->∃ c,env.cells.lookup y.1=some c):closureFor scope env=pure (fY env.cells scope.names []):=by
 have key:∀ (names:List (Str×Jo)) (acc:List (Str×Addr)),(∀ y∈names,y.2=.free->∃ c,env.cells.lookup y.1=some c)->
   (forIn names acc fun(x:Str×Jo) (cs:List (Str×Addr))=>(if (x.2 == NameKind.free)=true then(do let a <-cellOf env x.1;pure (ForInStep.yield ((x.1,a) :: cs))) else pure (ForInStep.yield cs):Sem (ForInStep (List (Str×Addr)))))=(pure (fY env.cells names acc):Sem _):=by
  intro names
  induction names with
  | nil=>intro acc _;rfl
  | cons y r ih=>
   intro acc hy
   obtain⟨n,k⟩:=y
   rw[List.forIn_cons]
   by_cases hk:k=.free
   ·subst hk
    obtain⟨c,hc⟩:=hy (n,.free) Bi rfl
    have e1:cellOf env n=(pure c:Sem Addr):=by
     unfold cellOf
     rw[show env.cells.lookup n=some c from hc]
    simp only[beq_self_eq_true,if_true,e1,pure_bind]
    rw[ih _ fun z hz=>hy z (Bd _ hz)]
    simp only[fY,if_true]
    rw[show env.cells.lookup n=some c from hc]
    rfl
   ·have hb:(k == NameKind.free)=false:=by simpa using hk
    simp only[hb,Cq,if_false,pure_bind]
    rw[ih _ fun z hz=>hy z (Bd _ hz)]
    simp only[fY,if_neg hk]
 have e:closureFor scope env=((forIn scope.names [] fun(x:Str×Jo) (cs:List (Str×Addr))=>(if (x.2 == NameKind.free)=true then(do let a <-cellOf env x.1;pure (ForInStep.yield ((x.1,a) :: cs))) else pure (ForInStep.yield cs):Sem (ForInStep (List (Str×Addr))))) >>= fun cs=>pure cs):=by
  unfold closureFor
  rfl
 rw[e,key _ _ h,pure_bind]
theorem vP{cells:List (Str×Addr)}{x:Str}{c:Addr}:∀ {names:List (Str×Jo)} {acc:List (Str×Addr)},(∀ y∈names,y.2=.free->∃ c,cells.lookup y.1=some c)->
  (∀ x c,acc.lookup x=some c->cells.lookup x=some c)->(fY cells names acc).lookup x=some c->cells.lookup x=some c
 | [],acc,_,ha,e=>ha x c e
 | (n,k) :: r,acc,a,ha,e=>by
  have f:∀ y∈r,y.2=.free->∃ c,cells.lookup y.1=some c:=fun z hz=>a z (Bd _ hz)
  unfold fY at e
  by_cases hk:k=.free
  ·subst hk
   rw[if_pos rfl] at e
   obtain⟨d,hd⟩:=a (n,.free) Bi rfl
   have hd:cells.lookup n=some d:=hd
   refine vP f (fun z b q=>?_) e
   rw[Hu] at q
   by_cases hz:z=n
   ·subst hz
    rw[beq_self_eq_true,hd] at q
    rw[hd];exact q
   ·have:(z == n)=false:=beq_eq_false_iff_ne.mpr hz
    rw[this] at q
    exact ha z b q
  ·rw[if_neg hk] at e
   exact vP f ha e
theorem rR{cells:List (Str×Addr)}{x:Str}:∀ {names:List (Str×Jo)} {acc:List (Str×Addr)},((x,NameKind.free)∈names\/∃ c,acc.lookup x=some c)->∃ c,(fY cells names acc).lookup x=some c
 | [],acc,h=>by
  rcases h with h | h
  ·cases h
  ·exact h
 | (n,k) :: r,acc,h=>by
  unfold fY
  by_cases hk:k=.free
  ·subst hk
   rw[if_pos rfl]
   refine rR ?_
   by_cases a:x=n
   ·subst a
    right
    rw[Hu,beq_self_eq_true]
    exact⟨_,rfl⟩
   ·have hb:(x == n)=false:=beq_eq_false_iff_ne.mpr a
    rcases h with h | ⟨c,h⟩
    ·rcases Az.mp h with e | h
     ·cases e;exact absurd rfl a
     ·exact .inl h
    ·right
     rw[Hu,hb]
     exact⟨c,h⟩
  ·rw[if_neg hk]
   refine rR ?_
   rcases h with h | h
   ·rcases Az.mp h with e | h
    ·cases e;exact absurd rfl hk
    ·exact .inl h
   ·exact .inr h
structure mO(N':List Str)(sc osc:Ke):Prop where
 kind:sc.kind=.function
 nd:N'.Nodup
 nocell:∀ y∈sc.names,y.2≠.cell
 loc:∀ y∈sc.names,y.2=.local->sc.names.lookup y.1=some .local
 free:∀ y∈sc.names,y.2=.free->osc.names.lookup y.1=some .cell\/osc.names.lookup y.1=some .free
def mP(N':List Str)(sc a:Ke):Bool:=
 decide (sc.kind=.function) && decide N'.Nodup && sc.names.all (fun y=>decide (y.2≠.cell)) && sc.names.all (fun y=>decide (y.2=.local->sc.names.lookup y.1=some .local)) &&
  sc.names.all (fun y=>decide (y.2=.free->a.names.lookup y.1=some .cell\/a.names.lookup y.1=some .free))
theorem mO.of{N':List Str}{sc a:Ke}(h:mP N' sc a=true):mO N' sc a:=by
 unfold mP at h
 simp only[Cs] at h
 obtain⟨⟨⟨⟨c,g⟩,f⟩,d⟩,e⟩:=h
 exact⟨of_decide_eq_true c,of_decide_eq_true g,fun y b=>of_decide_eq_true (Kl.mp f y b),fun y b=>of_decide_eq_true (Kl.mp d y b),fun y b=>of_decide_eq_true (Kl.mp e y b)⟩
def cmap(js:List (Option Nat))(σ:St):St:=js.map fun o=>o.bind fun j=>(σ[j]?).join
def fA(N' N:List Str)(sc:Ke):List (Option Nat)->List Str->Bool
 | [],[]=>true
 | none :: js,_ :: r=>fA N' N sc js r
 | some j :: js,x :: r=>decide (N[j]? = some x) && decide (sc.names.lookup x=some .free) && fA N' N sc js r
 | _,_=>false
theorem vQ{N' N:List Str}{sc:Ke}:∀ {js:List (Option Nat)} {r:List Str},fA N' N sc js r=true->js.length=r.length
 | [],[],_=>rfl
 | none :: js,_ :: r,h=>by
  have:=vQ (js:=js) (r:=r) h
  simp[this]
 | some j :: js,x :: r,h=>by
  unfold fA at h
  rw[Cs] at h
  have:=vQ (js:=js) (r:=r) h.2
  simp[this]
 | [],_ :: _,h=>by simp[fA] at h
 | none :: _,[],h=>by simp[fA] at h
 | some _ :: _,[],h=>by simp[fA] at h
theorem vR{N' N:List Str}{sc:Ke}:∀ {js:List (Option Nat)} {r:List Str} {i j:Nat} {x:Str},fA N' N sc js r=true->js[i]? = some (some j)->r[i]? = some x->N[j]? = some x/\sc.names.lookup x=some .free
 | [],[],i,j,x,_,e,_=>by simp at e
 | none :: js,_ :: r,0,j,x,h,e,_=>by simp at e
 | none :: js,_ :: r,i + 1,j,x,h,e,a=>vR (js:=js) (r:=r) (i:=i) h (by simpa using e) (by simpa using a)
 | some k :: js,y :: r,0,j,x,h,e,a=>by
  unfold fA at h
  rw[Cs,Cs] at h
  simp at e a
  subst e;subst a
  exact⟨of_decide_eq_true h.1.1,of_decide_eq_true h.1.2⟩
 | some k :: js,y :: r,i + 1,j,x,h,e,a=>by
  unfold fA at h
  rw[Cs,Cs] at h
  exact vR (js:=js) (r:=r) (i:=i) h.2 (by simpa using e) (by simpa using a)
 | [],_ :: _,_,_,_,h,_,_=>by simp[fA] at h
 | none :: _,[],_,_,_,h,_,_=>by simp[fA] at h
 | some _ :: _,[],_,_,_,h,_,_=>by simp[fA] at h
theorem vS{env:Env}{x:Str}:∀ {names:List (Str×Jo)},(∀ y∈names,y.2≠.cell)->
  (((names.map fun(n,k)=>if (k == NameKind.free && env.scope.kind == .function && env.kindOf n == some .cell) then(n,NameKind.cell) else(n,k)).lookup x=some .cell\/
    (names.map fun(n,k)=>if (k == NameKind.free && env.scope.kind == .function && env.kindOf n == some .cell) then(n,NameKind.cell) else(n,k)).lookup x=some .free)↔names.lookup x=some .free)
 | [],_=>by simp
 | (n,k) :: r,h=>by
  have b:=@vS env x r fun y c=>h y (Bd _ c)
  have hk:k≠.cell:=h (n,k) Bi
  rw[Ar]
  dsimp only
  by_cases a:(x == n)=true
  ·by_cases hc:(k == NameKind.free && env.scope.kind == .function && env.kindOf n == some .cell)=true
   ·rw[if_pos hc]
    simp only[Hu,a]
    have:k=.free:=by
     rw[Cs,Cs] at hc
     exact beq_iff_eq.mp hc.1.1
    simp[this]
   ·rw[if_neg hc]
    simp only[Hu,a]
    constructor
    ·rintro(e | e)
     ·cases e;exact absurd rfl hk
     ·exact e
    ·intro e;exact .inr e
  ·have a:(x == n)=false:=by simpa using a
   by_cases hc:(k == NameKind.free && env.scope.kind == .function && env.kindOf n == some .cell)=true
   ·rw[if_pos hc]
    simp only[Hu,a]
    exact b
   ·rw[if_neg hc]
    simp only[Hu,a]
    exact b
theorem vT{x:Str}{k:Jo}:∀ {names:List (Str×Jo)},names.lookup x=some k->(x,k)∈names:=fun h=>Hm h
section
variable {X:Cx}{sc:Ke}{N':List Str}{js:List (Option Nat)}{pins:List (Addr×Obj)}{σ:St}{H H1:Hp}{s:Ah}{fp:List Addr}{C:Addr}
theorem vU(S:mO N' sc X.env.scope)(I:Inv X pins σ H s):∀ y∈sc.names,y.2=.free->∃ c,X.env.cells.lookup y.1=some c:=fun y a hk=>
 I.ok.has y.1 (S.free y a hk)
theorem R0(S:mO N' sc X.env.scope)(M:fA N' X.N sc js N'=true)(I:Inv X pins σ H s)(hf:∀ b∈fp,iD X pins H b)(Q:∀ b∈fp,∃ o,s.heap.get? b=some o)
  {n:Heap} {tk:Nat} {m:Str->Option Ac} (K:s.heap.objs.size<=C) (keep:∀ b o,s.heap.get? b=some o->n.get? b=some o) (un:Un (gU X.stack) fp H H1 s.heap n) (hok:cM X.prog X.w H1 n) (R:n.Ns C m) (g:H1 C=none) :
  Inv (dN X sc N' ⟨fY X.env.cells sc.names [],s,H,fp,C⟩) [] (cmap js σ) H1 {s with heap:=n,toks:=tk}:=by
 have cs:=vU S I
 have sub:∀ x c,(fY X.env.cells sc.names []).lookup x=some c->X.env.cells.lookup x=some c:=fun x c e=>vP cs (fun _ _ z=>by simp at z) e
 refine⟨⟨I.ok.mod,S.kind,I.ok.glob,I.ok.blt,K,fun x y c t a=>I.ok.inj x y c (sub x c t) (sub y c a),fun x U=>?_,fun _ _ h _=>absurd (show false=true from h) Am,I.ok.hd,I.ok.frames,.inl rfl,fun b hb=>?_,I.bs,Bp I.ok.bsz I.sz,fun b o e hb=>?_,fun b hb F=>?_,I.stack,I.stkFree⟩,
  rfl,I.bare,un,⟨m,R,fun i x v t a W=>?_⟩,fun x c e=>?_,g,fun x c e=>?_,fun p P=>absurd (show p∈([]:List (Addr×Obj)) from P) (by simp),hok,?_⟩
 ·have q:sc.names.lookup x=some .free:=(vS (env:=X.env) S.nocell).mp U
  exact rR (.inl (vT q))
 ·obtain⟨o,e⟩:=Q b hb
  exact⟨Bf (Br (Ak e) K),fun x c q=>(hf b hb).2.2.2.2.1 x c (sub x c q)⟩
 ·rcases(hf b hb).2.2.2.1 with z | z
  ·exact I.ok.noex b o e z
  ·exact absurd (Br (Ak e) (Bp I.ok.bsz z)) (Gr _)
 ·rcases Az.mp (I.stkSub b F) with z | z
  ·exact(hf b hb).2.1 z
  ·exact(hf b hb).2.2.1 z
 ·
  have t:N'[i]? = some x:=t
  unfold cmap at a
  rw[Bh] at a
  cases f:js[i]? with
  | none=>rw[f] at a;cases a
  | some o=>
   rw[f] at a
   cases o with
   | none=>cases a
   | some j=>
    obtain⟨a1,a2⟩:=vR M f t
    have a:(σ[j]?).join=some v:=by simpa using a
    have D:σ[j]? = some (some v):=by
     cases q:σ[j]? with
     | none=>rw[q] at a;cases a
     | some z=>rw[q] at a;simpa using a
    obtain⟨V,T,J⟩:=I.loc
    have L:=S.free _ (vT a2) rfl
    obtain⟨u,r,l⟩:=J j x v a1 D (L.elim (fun z=>.inr (.inl z)) fun z=>.inr (.inr z))
    refine⟨u,r,.inr ⟨(vS (env:=X.env) S.nocell).mpr a2,?_⟩⟩
    rcases l with⟨k,_⟩ | ⟨_,c,O,hc⟩
    ·have k:X.env.scope.names.lookup x=some .local:=k
     rcases L with z | z
     ·rw[k] at z;cases z
     ·rw[k] at z;cases z
    ·obtain⟨E,B⟩:=rR (cells:=X.env.cells) (acc:=[]) (.inl (vT a2))
     have:E=c:=Dz ((sub x E B).symm.trans O)
     subst this
     obtain⟨A,d,hd⟩:=hc
     exact⟨E,B,A,keep _ _ d,hd⟩
 ·obtain⟨v,A,d,hd⟩:=I.cell x c (sub x c e)
  exact⟨v,A,keep _ _ d,hd⟩
 ·obtain⟨v,A,d,hd⟩:=I.cell x c (sub x c e)
  have G:c∉fp:=fun z=>(hf c z).2.2.2.2.1 x c (sub x c e) rfl
  exact un.free c A d (I.freeC x c (sub x c e)) G
 ·show(cmap js σ).length=N'.length
  unfold cmap
  rw[Ab]
  exact vQ M
end
section
variable {prog:Bl}{w:Cb}{A:Bv}{R:Result->Ah->Prop}{s:Ah}
theorem R1{elt a iter:Expr}{ifs:List Expr}{e:Ke}{pos:Pos}{it acc:Ac}{env:Env}(I:Nat->Ah->Prop)
  (p:∀ n s,I n s->Ax (Bk prog w) A (Ia it) (fun r d=>match r with
   | none=>R (.ok .next) d
   | some v=>Ax (Bk prog w) A (Ny a it v) (fun _ s₀=>Ax (Bk prog w) A (Na a env v) (fun _ i=>
     Ax (Bk prog w) A (forIn ifs true fun c r=>if r=true then do let ok <-isTrue c env (eval c env);pure (ForInStep.yield ok) else pure (ForInStep.yield r)) (fun ok b=>
      if ok=true then Ax (Bk prog w) A (eval elt env) (fun x k=>
       Ax (Bk prog w) A (call (.builtin "list.append") [acc,x]) (fun _ f=>∃ m,m < n/\I m f) (fun _ _=>False) k) (fun _ _=>False) b
      else ∃ m,m < n/\I m b) (fun _ _=>False) i) (fun _ _=>False) s₀) (fun _ _=>False) d) (fun _ _=>False) s)
  (n:Nat) (h:I n s) :
  Jv (Bk prog w) A (.compLoop (.ListComp elt [⟨a,iter,ifs,0⟩] e pos) 0 it acc env) R s:=by
 refine codeAny_loop rfl I (fun n s t=>?_) n h
 show Ax _ A ((compTurn (.ListComp elt [⟨a,iter,ifs,0⟩] e pos) 0 it acc env).onRaise (fun x=>do noteFrame x env;theTreesLotGoes x)) _ _ s
 refine wpAny_noted ?_
 rw[compTurn_list]
 refine Aa (Oq (Aa (Hw (p n s t) (fun r d j=>?_) fun _ _ h'=>h'.elim)))
 cases r with
 | none=>exact Ag j
 | some v=>
  refine Aa (Hw j (fun _ s₀ h₀=>?_) fun _ _ h'=>h'.elim)
  refine Aa (Hw h₀ (fun _ i q=>Aa (Hw q (fun ok b g=>?_) fun _ _ h'=>h'.elim)) fun _ _ h'=>h'.elim)
  cases ok with
  | false=>exact Ag ⟨rfl,g⟩
  | true=>
   exact Aa (Aa (Hw g (fun x k l=>Aa (Hw l (fun _ f o=>Ag (Ag ⟨rfl,o⟩)) fun _ _ h'=>h'.elim)) fun _ _ h'=>h'.elim))
end
def iF(X:Cx)(ifs:List Expr)(t:TT):Prop:=
 ∀ (pins:List (Addr×Obj)) (s:Ah) (σ:St) (H:Hp) (Q:Bool->Hp->Prop),Inv X pins σ H s->t σ H Q->
  Ax (Bk X.prog X.w) X.A (forIn ifs true fun c r=>if r=true then do let ok <-isTrue c X.env (eval c X.env);pure (ForInStep.yield ok) else pure (ForInStep.yield r)) (TP X pins σ Q) X.xe s
def R4:TT:=fun _ H Q=>Q true H
theorem R5{X:Cx}:iF X [] R4:=fun _ _ _ H _ I h=>wpAny_tests_nil ⟨H,I,h⟩
theorem R6{X:Cx}{c:Expr}{t:TT}(h:PT X c t):iF X [c] t:=fun pins s σ H Q I hw=>wpAny_tests_one (h pins s σ H Q I hw)
def vV(J:It)(g:TG)(tt:TT)(te:TE)(p:Addr)(σ₀:St)(H1:Hp)(Q:VK):Prop:=
 ∃ W:Nat->Nat->St->List V->Hp->Prop,(∃ m,W 0 m σ₀ [] (aN H1 p (.lst [])))/\∀ i m e acc H,W i m e acc H->
  (J.stop i H/\Q (.ref p) H)\/(J.go i H/\∃ N:St->List V->Hp->Prop,(∀ a c d,N a c d->∃ f,f < m/\W (i + 1) f a c d)/\∀ x d,J.yld i H x d->g x e d fun a k=>tt a k fun b j=>
   if b=true then te a j fun y h=>h p=some (.lst acc)/\acc.length < Aj/\N a (acc ++ [y]) (aN h p (.lst (acc ++ [y])))
   else N a acc j)
def vW(wi:TI)(g:jU->TG)(tt:jU->TT)(te:jU->TE)(js:List (Option Nat)):TE:=fun σ H Q=>wi σ H fun J H1=>∀ p,H1 p=none->∀ B:jU,vV J (g B) (tt B) (te B) p (cmap js σ) H1 Q
section
variable {X:Cx}{sc:Ke}{N':List Str}{js:List (Option Nat)}{tg iter elt:Expr}{ifs:List Expr}{pos:Pos}{wi:TI}{g:jU->TG}{tt:jU->TT}{te:jU->TE}
theorem CC(S:mO N' sc X.env.scope)(hj:fA N' X.N sc js N'=true)(hc:X.calm=true)
  (hg:∀ B,PG (dN X sc N' B) tg (g B)) (ht:∀ B,iF (dN X sc N' B) ifs (tt B)) (he:∀ B,PE (dN X sc N' B) elt (te B))
  {pins:List (Addr×Obj)} {s:Ah} {σ:St} {J:It} {H:Hp} {it:Addr} {fp:List Addr} {tn:Nat->Heap->Prop} (I:Inv X pins σ H s) (T:kK X.prog X.w X.K tg J fp it tn) (st:tn 0 s.heap) (hf:∀ b∈fp,iD X pins H b)
  {Q:VK} (hw:∀ p,H p=none->∀ B:jU,vV J (g B) (tt B) (te B) p (cmap js σ) H Q) {E:Ac->Ah->Prop} {RR:Ac->Addr->Result->Ah->Prop}
  (hRR:∀ p C k F m,Inv X pins σ k F->iD X pins k C->F.heap.Ns C m->Q (.ref p) k->RR (.ref p) C (.ok .next) F) :
  Ax (Bk X.prog X.w) X.A (newList []) (fun acc h=>Ax (Bk X.prog X.w) X.A (newFunctionEnv sc X.env.globals (fY X.env.cells sc.names []) [] X.env.qual none .none (some X.env)) (fun P s₄=>
   Jv (Bk X.prog X.w) X.A (.compStart (.ListComp elt [⟨tg,iter,ifs,0⟩] sc pos) 0 (.ref it) acc {P with scope:=relabel sc X.env}) (RR acc P.locals) s₄) E h) E s:=by
 refine Dd (wpAny_newFunctionEnv S.nocell (by intro y hy;simp at hy) (fun c f a=>?_) S.kind)
 dsimp only at f a ⊢
 generalize R:s.heap.push {cls:=.type "list",dict:=none,data:=.seq ([]:List Ac).toArray} = H2 at f a ⊢
 have hC:H2.objs.size=s.heap.objs.size + 1:=by rw[<-R,Ds]
 have hDC:s.heap.objs.size≠H2.objs.size:=by rw[hC];exact Bf (Hy _)
 have v:s.heap.objs.size<=H2.objs.size:=by rw[hC];exact Kz _
 have Y:∀ b,b < s.heap.objs.size->b≠H2.objs.size:=fun b hb=>by rw[hC];exact Bf (Hj hb)
 have L:∀ b o,s.heap.get? b=some o->c.get? b=some o:=fun b o e=>a.extBut b o (Y b (Ak e)) (Af _ (R ▸ Af _ e))
 have hacc:c.get? s.heap.objs.size=some {cls:=.type "list",dict:=none,data:=.seq ([]:List Ac).toArray}:=a.extBut _ _ hDC (Af _ (R ▸ Ap _ rfl))
 have hp0:H s.heap.objs.size=none:=I.hok.fresh (Ai _)
 have newO:cN X.prog X.w (aN H s.heap.objs.size (.lst [])) c s.heap.objs.size (.lst []):=⟨Co _,[],_,.nil,hacc⟩
 have hok1:cM X.prog X.w (aN H s.heap.objs.size (.lst [])) c:=I.hok.laid L (Ai _) newO
 have un1:Un (gU X.stack) fp H (aN H s.heap.objs.size (.lst [])) s.heap c:=Un.laid L (Ai _) hp0
 have fC:(aN H s.heap.objs.size (.lst [])) H2.objs.size=none:=by rw[bL (Bq hDC)];exact I.hok.fresh v
 have IB:=R0 (tk:=s.toks + ([]:List (Str×Ac)).length) S hj I hf (fun b hb=>let ⟨o,e,_⟩:=T.obj 0 _ st b hb;⟨o,e⟩) v L un1 hok1 f fC
 obtain⟨W,⟨m0,w0⟩,O⟩:=hw _ hp0 ⟨fY X.env.cells sc.names [],s,H,fp,H2.objs.size⟩
 have st1:tn 0 c:=T.keep _ _ _ st fun b _ o e=>L b o e
 have loop:∀ h:Ah,h = {s with heap:=c,toks:=s.toks + ([]:List (Str×Ac)).length}->
   Jv (Bk X.prog X.w) X.A (.compLoop (.ListComp elt [⟨tg,iter,ifs,0⟩] sc pos) 0 (.ref it) (.ref s.heap.objs.size) (compEnvC sc (fY X.env.cells sc.names []) H2.objs.size X.env))
    (RR (.ref s.heap.objs.size) H2.objs.size) h:=by
  rintro h rfl
  generalize hB:(⟨fY X.env.cells sc.names [],s,H,fp,H2.objs.size⟩:jU)=B at O w0 IB
  have eB:compEnvC sc (fY X.env.cells sc.names []) H2.objs.size X.env=(dN X sc N' B).env:=by subst hB;rfl
  have G:(dN X sc N' B).ex=fp:=by subst hB;rfl
  rw[eB]
  have D:∀ {j:St} {k:Hp} {F:Ah},Inv (dN X sc N' B) [] j k F->(∀ b∈fp,k b=none)->∀ b∈fp,iD (dN X sc N' B) [] k b:=fun {j k F} J' hn b hb=>by
   refine⟨hn b hb,(J'.ok.exf b (by rw[G];exact hb)).1,J'.ok.exfs b (by rw[G];exact hb),.inl (by rw[G];exact hb),(J'.ok.exf b (by rw[G];exact hb)).2,fun p hp=>absurd (show p∈([]:List (Addr×Obj)) from hp) (by simp)⟩
  have fp0:∀ b∈fp,(aN H s.heap.objs.size (.lst [])) b=none:=fun b hb=>by
   obtain⟨o,e,_⟩:=T.obj 0 _ st b hb
   rw[bL (Bf (Ak e))]
   exact(hf b hb).1
  refine R1 (fun n F=>∃ i j acc k,Inv (dN X sc N' B) [] j k F/\tn i F.heap/\(∀ b∈fp,k b=none)/\W i n j acc k) ?_ m0 ⟨0,_,[],_,IB,st1,fp0,w0⟩
  rintro n s3 ⟨i,M,acc,H3,I3,st3,fr3,w3⟩
  rcases O i n M acc H3 w3 with⟨stop,qn⟩ | ⟨go,N,hN,step⟩
  ·refine aZ (T.done (dN X sc N' B) rfl rfl rfl hc i [] s3 M H3 (fun _ _=>False) I3 (D I3 fr3) st3 stop) fun r s4 ⟨hr,I4⟩=>?_
   subst hr
   obtain⟨m4,hn4,_⟩:=I4.loc
   have u4:Un (gU X.stack) fp H H3 s.heap s4.heap:=by have:=I4.base;subst hB;exact this
   have o4:s4.os=s.os:=by have:=I4.os;subst hB;exact this
   have c4:(dN X sc N' B).env.locals=H2.objs.size:=by subst hB;rfl
   have hIX:Inv X pins σ H3 s4:=I.call' (ch:=fp) o4 u4 I4.hok I4.bare fun b hb=>⟨(hf b hb).2.2.2.1,(hf b hb).2.1,(hf b hb).2.2.2.2.1,(hf b hb).2.2.2.2.2⟩
   exact hRR _ _ H3 s4 m4 hIX (I.fpOk v (by rw[<-c4];exact I4.free)) (by rw[<-c4];exact hn4) qn
  ·refine aZ (T.item (dN X sc N' B) rfl rfl rfl hc i [] s3 M H3 (fun _ _=>False) I3 (D I3 fr3) st3 go) fun r s4 ⟨u,hr,h4⟩=>?_
   subst hr
   refine aZ h4 fun _ s5 ⟨x,H5,I5,r5,y5,U,fr5⟩=>?_
   have I5':=I5.pinned (D I5 fr5) (T.obj _ _ U)
   refine aZ (hg B _ s5 M H5 x u _ I5' r5 (step x H5 y5)) fun _ s6 ⟨l,H6,I6,q6⟩=>?_
   refine aZ (ht B _ s6 l H6 _ I6 q6) fun ok s7 ⟨H7,I7,q7⟩=>?_
   have q:∀ {Z:Hp} {s8:Ah} {t:List V},Inv (dN X sc N' B) ([] ++ pD fp s5.heap) l Z s8->(∃ m',m' < n/\W (i + 1) m' l t Z)->∃ m,m < n/\∃ i j acc k,Inv (dN X sc N' B) [] j k s8/\tn i s8.heap/\(∀ b∈fp,k b=none)/\W i m j acc k:=
    fun {Z s8 t} I8 ⟨m',hm,w8⟩=>by
     refine⟨m',hm,i + 1,l,t,Z,I8.unpinned,T.keep _ _ _ U fun b hb o e=>(I8.pin (b,o) (Dc _ (Dc _ (rG hb e)))).1,fun b hb=>?_,w8⟩
     obtain⟨o,e,d⟩:=T.obj _ _ U b hb
     exact(I8.pin (b,o) (Dc _ (Dc _ (rG hb e)))).2.1
   cases ok with
   | false=>
    rw[if_neg Am] at q7
    rw[if_neg Am]
    exact q I7 (hN _ _ _ q7)
   | true=>
    rw[if_pos rfl] at q7
    rw[if_pos rfl]
    refine aZ (he B _ s7 l H7 _ I7 q7) fun y s8 ⟨z,Z,I8,r8,hp8,hl8,q8⟩=>?_
    exact aZ (B5 _ s8 l Z (.ref s.heap.objs.size) [z] (.ref s.heap.objs.size) [y] (fun _ H9=>N l (acc ++ [z]) H9) I8 rfl (.cons r8 .nil) ⟨_,acc,z,rfl,rfl,hp8,hl8,q8⟩) fun _ s9 ⟨_,H9,I9,_,q9⟩=>q I9 (hN _ _ _ q9)
 exact codeAny_compStart_list (loop _ rfl) (T.self _ 0 _ _ _ st1 (loop _ rfl))
theorem R7(N':List Str)(js:List (Option Nat))(hi:PI X tg iter wi)
  (z:∀ B,PG (dN X sc N' B) tg (g B)) (ht:∀ B,iF (dN X sc N' B) ifs (tt B)) (t:∀ B,PE (dN X sc N' B) elt (te B))
  (v:mP N' sc X.env.scope=true:=by kernel_rfl) (F:fA N' X.N sc js N'=true:=by kernel_rfl) (hc:X.calm=true:=by rfl) (hs:∀ x,Ho iter X.env x=pure x:=by intro _;rfl):PE X (.ListComp elt [⟨tg,iter,ifs,0⟩] sc pos) (vW wi g tt te js):=by
 intro pins s σ H Q I h
 have S:=mO.of v
 rw[eval_ListComp]
 refine wpAny_comprehension_free (use:=none) rfl hs (CB (vU S I)) S.kind S.loc (aZ (hi pins s σ H _ I h) fun K j d=>aZ d fun D k a=>?_)
 obtain⟨it,fp,L,J,G,e,E,T,f,l,hw⟩:=a
 subst e
 refine CC (RR:=fun acc C=>compPost (Bk X.prog X.w) X.A X.xe none (EP X pins σ Q) acc C) S F hc z ht t E T f l hw ?_
 intro p C u r m y c n q
 refine⟨m,n,fun h' i=>⟨.ref p,u,?_,rfl,q⟩⟩
 exact y.turned (t':=r.toks) (fun b o hb e=>(i.2 b hb).trans e) c.1 c.2.1 c.2.2.2.1 c.2.2.2.2.1 c.2.2.2.2.2
theorem R8{i:Nat}{x:Str}{f c:Pos}(O:X.N.Nodup)(E:X.N[i]? = some x)(hx:Loc X.env.scope x)(N':List Str)(js:List (Option Nat))(hi:PI X tg iter wi)
  (Y:∀ B,PG (dN X sc N' B) tg (g B)) (ht:∀ B,iF (dN X sc N' B) ifs (tt B)) (P:∀ B,PE (dN X sc N' B) elt (te B))
  (V:mP N' sc X.env.scope=true:=by kernel_rfl) (hj:fA N' X.N sc js N'=true:=by kernel_rfl) (hc:X.calm=true:=by rfl) (n:Ki (.ListComp elt [⟨tg,iter,ifs,0⟩] sc pos) (some (.Name x f)) c.line X.env=pure true:=by rfl)
  (hf:X.fn x=true\/X.env.scope.names.lookup x=some .local:=by first | exact .inl rfl | exact .inr rfl | assumption)
  (hs:∀ x,Ho iter X.env x=pure x:=by intro _;rfl):PS X (.Assign [.Name x f] (.ListComp elt [⟨tg,iter,ifs,0⟩] sc pos) c) (rF (vW wi g tt te js) (vA i)):=by
 intro pins s σ H D I h
 have S:=mO.of V
 rw[exec_Assign_Name_used _ _ _ _ n]
 refine Aa (Oq (Aa ?_))
 show Ax _ X.A (do let _ <-comprehension (.ListComp elt [⟨tg,iter,ifs,0⟩] sc pos) sc X.env _ (newList []) false (eval iter X.env) (some (Na (.Name x f) X.env))) _ _ s
 refine Aa (Hw (wpAny_comprehension_free (use:=some (Na (.Name x f) X.env)) (Q:=fun _ k=>SP X pins D .next k) rfl hs (CB (vU S I)) S.kind S.loc
  (aZ (hi pins s σ H _ I h) fun xv G l=>aZ l fun Z K j=>?_)) (fun _ k R=>Ag (Ag R)) fun _ _ e=>e)
 obtain⟨it,fp,tn,J,H2,e,I2,T,t,L,hw⟩:=j
 subst e
 refine CC (RR:=fun acc C=>compPost (Bk X.prog X.w) X.A X.xe (some (Na (.Name x f) X.env)) (fun _ k=>SP X pins D .next k) acc C) S hj hc Y ht P I2 T t L hw ?_
 intro p C U k m W d M q
 show Ax _ X.A (Na (.Name x f) X.env (.ref p)) _ _ _
 refine wpAny_assign_Name (A2 W O E hx (v:=.ref p) rfl (fun u F ⟨a,sb,ha⟩=>?_) hf)
 have r:C≠a:=by
  rcases ha with e | e
  ·rw[e];exact d.2.1
  ·exact fun z=>d.2.2.2.2.1 x a e z.symm
 refine⟨m,M.sameBut sb r,fun h' y=>⟨_,U,?_,q⟩⟩
 exact F.turned (t':=u.toks) (fun b o hb e=>(y.2 b hb).trans e) d.1 d.2.1 d.2.2.2.1 d.2.2.2.2.1 d.2.2.2.2.2
end
section
variable {g:TG}{tt:TT}{te:TE}{p:Addr}{σ₀:St}{H1:Hp}{Q:VK}
theorem R9{J:It}(n:Nat)(c:Nat->St->List V->Hp->Prop)(s:c 0 σ₀ [] (aN H1 p (.lst [])))(hd:∀ σ acc H,c n σ acc H->J.stop n H/\Q (.ref p) H)
  (hs:∀ i σ acc H,i < n->c i σ acc H->J.go i H/\∀ x f,J.yld i H x f->g x σ f fun a l=>tt a l fun b k=>
   if b=true then te a k fun y j=>j p=some (.lst acc)/\acc.length < Aj/\c (i + 1) a (acc ++ [y]) (aN j p (.lst (acc ++ [y]))) else c (i + 1) a acc k):vV J g tt te p σ₀ H1 Q:=by
 refine⟨fun i m σ acc H=>m=n - i/\i<=n/\c i σ acc H,⟨n,by simp,Co _,s⟩,?_⟩
 rintro i m σ acc H ⟨rfl,hi,q⟩
 by_cases d:i < n
 ·obtain⟨r,t⟩:=hs i σ acc H d q
  exact .inr ⟨r,c (i + 1),fun a h f o=>⟨n - (i + 1),by omega,rfl,d,o⟩,t⟩
 ·have e:i=n:=by omega
  subst e
  exact .inl (hd σ acc H q)
end
section
variable {X:Cx}
theorem CD{i:Int}(h:i.natAbs < 2 ^ 4096):Builtin.Int.intBits i<=2 ^ 20:=by
 unfold Builtin.Int.intBits
 split
 ·exact Co _
 ·rename_i a
  have b:i.natAbs≠0:=by
   intro z
   have:i=0:=Int.natAbs_eq_zero.mp z
   rw[this] at a
   exact a rfl
  have:i.natAbs.log2 < 4096:=(Nat.log2_lt b).mpr h
  have e:(2:Nat) ^ 20=1048576:=by decide
  lia
def nP(i j:Int):Prop:=i.natAbs < 2 ^ 4096/\j.natAbs < 2 ^ 4096
theorem SA:bB X (Ft .Mult) (rI nP fun i j=>.int (i * j)):=pG fun _ _ _ _ _ _ _ hc q=>mul_int q (IntMulOk.of_bits (CD hc.1) (CD hc.2))
def pL(i j:Int):Prop:=0 < j/\j < 2 ^ 4096
theorem SD:bB X (Ft .FloorDiv) (rI pL fun i j=>.int (i / j)):=pG fun i j _ _ _ _ _ hc q=>by
 refine floordiv_int (by have:=hc.1;lia) ?_ (.inl (PyProof.noPylong_of_log2 ?_))
 ·rw[Int.fdiv_eq_ediv_of_nonneg _ (Int.le_of_lt hc.1)];exact q
 ·have d:j.natAbs≠0:=by have:=hc.1;lia
  have c:j.natAbs < 2 ^ 4096:=by
   have a:=hc.1
   have b:=hc.2
   lia
  have:=(Nat.log2_lt d).mpr c
  lia
theorem SE:iS X "str.partition" (fun x vs H Q=>∃ z y,x=.str z/\vs=[.str y]/\(y.length == 0)=false/\z.length<=Aj/\
  ∀ p,H p=none->Q (.ref p) (aN H p (.tup [.str (Dq z y).1,.str (Dq z y).2.1,.str (Dq z y).2.2]))):=by
 intro pins s σ H x xs v us Q I l n h
 obtain⟨z,y,rfl,rfl,m,hz,q⟩:=h
 obtain⟨t,rfl⟩:=l
 obtain⟨u,rfl,w⟩:=n.one
 obtain⟨t',rfl⟩:=w
 refine Me F.slot_str_partition (typeIs_str _ _ _) F.entry_str_partition (F.args_str_partition_2 _ _) (meets_str_partition z y t t' m hz) ?_
 have d:=q s.heap.objs.size (I.hok.fresh (Ai _))
 have fin:∀ (a b c:Str) (g j f:Tok) (tk:Nat),Q (.ref s.heap.objs.size) (aN H s.heap.objs.size (.tup [.str a,.str b,.str c]))->
   EP X pins σ Q (.ref s.heap.objs.size) {s with toks:=tk,heap:=s.heap.push {cls:=.type "tuple",data:=.seq [.str a g,.str b j,.str c f].toArray}}:=fun a b c g j f tk k=>
  ⟨.ref s.heap.objs.size,_,I.laid (o:=.tup [.str a,.str b,.str c]) (t':=tk) (fun b o e=>Af _ e) (Ai _)
   ⟨by show 3<=Aj;decide,[.str a g,.str b j,.str c f],.cons ⟨_,rfl⟩ (.cons ⟨_,rfl⟩ (.cons ⟨_,rfl⟩ .nil)),⟨_,Ap _ rfl,rfl,_,rfl⟩⟩,rfl,k⟩
 unfold Dq at d
 revert d
 cases Jk z y 0 z.length 1 with
 | nil=>intro d;exact fin _ _ _ _ _ _ _ d
 | cons i r=>intro d;exact fin _ _ _ _ _ _ _ d
theorem all_range{bs:List Bool}:(Ce bs.length).all (fun i=>bs.getD i false)=bs.all id:=by
 induction bs with
 | nil=>rfl
 | cons b r a=>
  rw[Bt,List.range_succ_eq_map,Js,List.all_map,Js]
  have:((fun i=>(b :: r).getD i false) ∘ Nat.succ)=fun i=>r.getD i false:=by
   funext i;simp[List.getD]
  rw[this,a]
  simp
theorem CF(hc:X.calm=true):cU X (.builtin "all") (fun xs H Q=>∃ (p:Addr) (bs:List Bool),xs=[.ref p]/\a9 X.K H p (bs.map V.bl)/\Q (.bl (bs.all id)) H):=by
 intro pins s σ H xs us Q I r h
 obtain⟨p,bs,rfl,n,q⟩:=h
 obtain⟨u,rfl,j⟩:=vals1 r
 cases j
 obtain⟨its,g,pl,hz⟩:=I.list n
 have c:p < s.heap.objs.size:=by obtain⟨_,e,_⟩:=pl.isList;exact Ak e
 refine call_all_walk (Jh pl.isList ?_)
 have m:X.A.in1.handled=none:=I.ok.hd hc
 refine⟨s.heap.objs.size,[s.heap.objs.size,p],[s.heap.objs.size],its.toArray.size,(fun i v=>its.toArray[i]? = some v),_,(fun i=>bs.getD i false),rfl,Ms m s.heap.objs.size p (Bf c) its.toArray,
  ⟨⟨_,Ap _ rfl,rfl,rfl⟩,pl.isList.push _⟩,?_,fun h' tk hk=>?_⟩
 ·intro i v t y w l f
  have a:its[i]? = some v:=by simpa using l
  have hi:i < its.length:=(Ao.mp a).1
  have hl:=g.length
  rw[Ab] at hl
  have hb:bs[i]? = some (bs.getD i false):=by
   have d:i < bs.length:=by lia
   simp[List.getD,An d]
  obtain⟨u,k,j⟩:=g.get (i:=i) (x:=.bl (bs.getD i false)) (by rw[Bh,hb];rfl)
  rw[a] at k;cases k
  cases (show v=Value.bool (bs.getD i false) from j)
  exact Ag f
 ·have hl:=g.length
  rw[Ab] at hl
  have e:(Ce its.toArray.size).all (fun i=>bs.getD i false)=bs.all id:=by
   rw[Bc,<-hl,all_range]
  rw[e]
  refine⟨.bl (bs.all id),H,?_,rfl,q⟩
  exact I.kept (t':=tk) fun b o eb=>hk b o (fun z=>by
   have:b=s.heap.objs.size:=by simpa using z
   exact absurd (Ak eb) (by rw[this];exact Gr _)) (Af _ eb)
theorem SF:cU X (.builtin "isinstance") (fun xs H Q=>∃ x T t b,xs=[x,.ty T]/\gW X.K H x t/\Jx X.K t (.type T)=some b/\Q (.bl b) H):=by
 intro pins s σ H xs us Q I r h
 obtain⟨x,T,t,b,rfl,ty,e,q⟩:=h
 obtain⟨u,c,rfl,d,a⟩:=vals2 r
 cases (show c=Value.type T from a)
 exact O8 I d ty e fun tk=>⟨.bl b,H,I.tok _,rfl,q⟩
def vX(z:Str):It:=⟨fun i _=>i < z.cps.size,fun i H x a=>a=H/\∃ c,z.cps.toList[i]? = some c/\x=.str ⟨#[c]⟩,fun i _=>z.cps.size<=i⟩
theorem CG{P:Bl}{w:Cb}{K:Ae}{x:Str}{D:Pos}(z:Str)(it:Addr)(ty:String)(a:Tok)
  (nx:∀ (A:Bv) (s:Ah) (i c:Nat) (Q:Option Ac->Ah->Prop) (E:Ac->Ah->Prop),s.heap.IsStrIter it ty z a i->z.cps[i]? = some c->
   (∀ h',h'.IsStrIter it ty z a (i + 1)->Dx it s.heap h'->Q (some (.str ⟨#[c]⟩ s.toks)) {s with heap:=h',toks:=s.toks + 1})->Ax (Bk P w) A (Ia (.ref it)) Q E s)
  (en:∀ (A:Bv) (s:Ah) (i:Nat) (Q:Option Ac->Ah->Prop) (E:Ac->Ah->Prop),A.handled=none->s.heap.IsStrIter it ty z a i->z.cps[i]? = none->
   (∀ h',Heap.ExtBut it s.heap h'->Q none {s with heap:=h'})->Ax (Bk P w) A (Ia (.ref it)) Q E s)
  (m:∀ (A:Bv) (i:Nat) (s:Ah) (Q:Ac->Ah->Prop) (E:Ac->Ah->Prop),s.heap.IsStrIter it ty z a i->Q (.ref it) s->Ax (Bk P w) A (Og (.ref it)) Q E s) :
  kK P w K (.Name x D) (vX z) [it] it (fun i h=>h.IsStrIter it ty z a i) where
 mem:=by simp
 obj:=fun i h st b hb=>by
  have e:b=it:=by simpa using hb
  subst e
  obtain⟨o,u,_,hd⟩:=st
  exact⟨o,u,fun v q=>by rw[hd] at q;cases q⟩
 keep:=fun i h h' st k=>by
  obtain⟨o,u,r⟩:=st
  exact⟨o,k it (by simp) o u,r⟩
 item:=by
  intro X l hw t hc i pins s σ H E I hf st f
  subst l hw t
  obtain⟨y,p,C,d,j,n⟩:=hf it (by simp)
  have hi:z.cps[i]? = some z.cps[i]:=Lv f
  refine nx X.A s i _ _ _ st hi fun h' st' sb=>?_
  have B:Inv X pins σ H {s with heap:=h',toks:=s.toks + 1}:=I.turned (fun b o hb e=>(sb.2 b hb).trans e) y p d j n
  exact⟨_,rfl,Ag ⟨.str ⟨#[z.cps[i]]⟩,H,B,⟨_,rfl⟩,⟨rfl,z.cps[i],by rw[Du];exact hi,rfl⟩,st',fun b hb=>(hf b hb).1⟩⟩
 done:=by
  intro X l hw t hc i pins s σ H E I hf st f
  subst l hw t
  obtain⟨y,p,C,d,j,n⟩:=hf it (by simp)
  have g:z.cps.size<=i:=f
  exact en X.A s i _ _ (I.ok.hd hc) st (Array.getElem?_eq_none g) fun h' eb=>⟨rfl,I.turned (t':=s.toks) (fun b o hb e=>eb b o hb e) y p d j n⟩
 self:=m
theorem CH{prog:Bl}{w:Cb}{A:Bv}{E:Ac->Ah->Prop}{it l:Addr}{items:Array Ac}(g:l≠it):∀ (n i:Nat) (s:Ah) (Q:List Ac->Ah->Prop),s.heap.IsListIter it l i->s.heap.IsList l items->i + n<=items.size->
  (∀ h',h'.IsListIter it l (i + n)->Dx it s.heap h'->Q ((items.toList.drop i).take n) {s with heap:=h'})->Ax (Bk prog w) A (draw (.ref it) n) Q E s
 | 0,i,s,Q,hit,_,_,h=>by
  show Ax _ _ (pure []) Q E s
  exact Ag (by simpa using h s.heap hit (Heap.SameBut.refl ..))
 | n + 1,i,s,Q,hit,ht,k,h=>by
  have e:i < items.size:=by lia
  show Ax _ _ (Ia (.ref it) >>= _) Q E s
  refine Aa (wpAny_pyNext_list_item hit ht (x:=items[i]) (by simp[e]) fun j b a=>?_)
  refine Aa (Ct (CH g n (i + 1) _ _ b (ht.extBut a.extBut g) (by lia) fun f c d=>Ag ?_))
  have hd:items.toList.drop i=items[i] :: items.toList.drop (i + 1):=by simp[Hc,e]
  have:=h f (by rw[show i + (n + 1)=i + 1 + n by lia];exact c) (a.trans d)
  rw[hd,List.take_succ_cons] at this
  exact this
theorem SG{prog:Bl}{w:Cb}{A:Bv}{E:Ac->Ah->Prop}{s:Ah}{t:Addr}{items:Array Ac}{a:List (Bool×(Ac->Sem Unit))}{Q:Unit->Ah->Prop}(n:A.handled=none)(ht:s.heap.IsList t items)
  (q:a.length=items.size) (i:a.findIdx? (·.1)=none)
  (h:∀ h',Heap.ExtBut s.heap.objs.size s.heap h'->Ax (Bk prog w) A (assignInOrder (a.map (·.2)) items.toList) Q E {s with heap:=h'}) :
  Ax (Bk prog w) A (unpack (.ref t) a) Q E s:=by
 have j:t≠s.heap.objs.size:=by obtain⟨o,p,_⟩:=ht;exact Bf (Ak p)
 unfold unpack
 rw[q,i]
 refine Aa (Ct ?_)
 unfold unpackItems
 refine Aa ?_
 unfold notIterableAtAll
 refine Aa (wpAny_specialOf ht.typeIs F.slot_list_iter.lookup ?_)
 refine Ag ?_
 simp only[Cq,if_false]
 refine Aa (Ct (Jh ht ?_))
 refine Aa (Ct (CH j items.size 0 _ _ ⟨_,Ap _ rfl,rfl,rfl⟩ (ht.push _) (by lia) fun m d c=>?_))
 have l:List.take items.size (List.drop 0 items.toList)=items.toList:=by
  rw[Lk];exact Dw (by simp)
 rw[l]
 rw[if_neg (by simp)]
 have f:m.IsList t items:=(ht.push _).extBut c.extBut j
 refine Aa (Ct (wpAny_pyNext_list_end n d f (by simp) fun k g=>?_))
 simp only[Option.isSome_none,Cq,if_false]
 refine Ag (h k fun b o hb e=>g b o hb (c.extBut b o hb (Af _ e)))
def SH(K:Ae)(n:Nat)(t:jA):TG:=fun v σ H Q=>∃ a xs,v=.ref a/\a9 K H a xs/\xs.length=n/\t xs σ H Q
theorem CI{es:List Expr}{k:Nat}{pos:Pos}{t:jA}{n:Nat}(hc:X.calm=true)(h:iQ X es t)
  (l:(He es X.env).length=n:=by rfl) (c:(He es X.env).findIdx? (·.1)=none:=by rfl):PG X (.Tuple es k pos) (SH X.K n t):=by
 intro pins s σ H v u Q I r hw
 obtain⟨a,xs,j,i,hl,hw⟩:=hw
 subst j
 cases r
 obtain⟨its,d,ht,hz⟩:=I.list i
 rw[PyProof.Rows.assign_Tuple]
 refine Aa (Oq (SG (I.ok.hd hc) ht.isList (by simp[l,<-hl,d.length]) c fun h' g=>?_))
 have f:Inv X pins σ H {s with heap:=h'}:=I.kept (t':=s.toks) fun b o e=>g b o (Bf (Ak e)) e
 exact h pins _ σ H xs _ Q f (by simpa using d) hw
end
end L2
namespace Rg
open PySem PySem.Spec PyProof.Rows L2
abbrev mQ:Str:="ABCDEFGHIJKLMNOPQRSTUVWXYZ"
abbrev rS:Str:="0123456789"
abbrev pM:Str:="abcdefghijklmnopqrstuvwxyz"
def cs(z:Str):List Nat:=z.cps.toList
def jC(z g:Str):Bool:=(!decide (V.str z=V.str "")) && (cs z).all fun c=>decide (c∈cs g)
def jV(z:Str):Bool:=(decide (V.str (Dq z "_").2.1=V.str "") || jC (Dq z "_").2.2 rS) && jC (Dq z "_").1 mQ
theorem SI{x y:Str}(h:cs x=cs y):x=y:=by
 obtain⟨x⟩:=x;obtain⟨y⟩:=y
 exact congrArg Str.mk (Array.toList_inj.mp h)
theorem SJ(x:Str):(cs x).length=x.length:=by unfold cs Lq;simp
theorem CJ:cs "" = []:=by decide +kernel
theorem SM(z:Str):decide (V.str z=V.str "")=decide (cs z=[]):=by
 by_cases h:z = ""
 ·subst h;simp[CJ]
 ·rw[decide_eq_false (fun e=>h (V.str.inj e)),decide_eq_false]
  intro e
  exact h (SI (e.trans CJ.symm))
theorem CK(z g:Str):jC z g=(!decide (cs z=[]) && (cs z).all fun c=>decide (c∈cs g)):=by unfold jC;rw[SM]
theorem SN:("_" : Str)=⟨#[95]⟩:=by decide +kernel
theorem SO{z:Str}(h:95∉cs z):Dq z "_" = (z,Str.empty,Str.empty):=by
 rw[SN]
 rcases partition_whole z ⟨#[95]⟩ with⟨e,_⟩ | ⟨i,_,hi,_⟩
 ·exact e
 ·exact absurd ((mem_iff_at z 95).mpr ⟨i,hi⟩) h
theorem SQ{z:Str}(b:cs z≠[])(h:∀ c∈cs z,c∈cs pM):jV z=false:=by
 have a:95∉cs z:=fun m=>absurd (h _ m) (by decide +kernel)
 unfold jV
 rw[SO a,CK,CK]
 have d:((cs z).all fun c=>decide (c∈cs mQ))=false:=by
  cases hz:cs z with
  | nil=>exact absurd hz b
  | cons c r=>
   have hc:c∈cs pM:=h c (by rw[hz];simp)
   have e:c∉cs mQ:=by
    have key:∀ c∈cs pM,c∉cs mQ:=by decide +kernel
    exact key c hc
   rw[Js,decide_eq_false e,Bool.false_and]
 rw[d]
 simp
def Below(d s:Int):Prop:=0<=d/\d < s
abbrev Drawn:List Int->List Int->Prop:=Iq Below
theorem vY{i:Nat}{m n:Nat}(h:i < 2 ^ m)(a:m<=n):i < 2 ^ n:=Br h (Nat.pow_le_pow_right (by decide) a)
end Rg
namespace L2
open PySem PySem.Spec PyProof.Rows
section
variable {P:Bl}{w:Cb}{H:Hp}{h:Heap}
end
section
variable {X:Cx}
def CL(d:Mh):Prop:=d.canLay0=true/\d.depth<=60
theorem vZ:∀ {xs:List V} {us:List Ac},xs.length=us.length->(∀ (j:Nat) (u:Ac),us[j]? = some u->∃ x,xs[j]? = some x/\RelV x u)->aR xs us
 | [],[],_,_=>.nil
 | [],_ :: _,h,_=>by simp at h
 | _ :: _,[],h,_=>by simp at h
 | x :: xs,u :: us,h,k=>by
  obtain⟨y,e,r⟩:=k 0 u rfl
  simp at e
  subst e
  exact .cons r (vZ (by simpa using h) fun j v a=>by
   obtain⟨y,e,r⟩:=k (j + 1) v (by simpa using a)
   exact⟨y,by simpa using e,r⟩)
theorem CM:∀ {kvs:List (aD×V)} {vs:List (aD×Ac)} {j:Nat} {k:aD} {x:Ac},KV kvs vs->vs[j]? = some (k,x)->∃ v,kvs[j]? = some (k,v)
 | _,_,_,_,_,.nil,e=>by simp at e
 | _,_,0,_,_,.cons (a:=p) r _,e=>by
  simp at e
  subst e
  exact⟨p.2,by obtain⟨a,b⟩:=p;cases r.1;rfl⟩
 | _,_,j + 1,k,x,.cons _ t,e=>by
  obtain⟨v,q⟩:=CM (j:=j) (k:=k) (x:=x) t (by simpa using e)
  exact⟨v,by simpa using q⟩
theorem SU{k:aD}{v:Ac}(h:mI k v=true):RelV (kV k) v:=by
 rcases jN h with⟨i,t,rfl,rfl⟩ | ⟨x,t,rfl,rfl⟩
 ·exact⟨t,rfl⟩
 ·exact⟨t,rfl⟩
theorem SW(hc:X.calm=true):cU X (.type "list") (fun xs H Q=>∃ d kvs,xs=[.ref d]/\H d=some (.dK kvs)/\∀ l,H l=none->Q (.ref l) (aN H l (.lst (kvs.map fun e=>kV e.1)))):=by
 intro m s F H xs us Q I r h
 obtain⟨d,kvs,rfl,hd,q⟩:=h
 obtain⟨u,rfl,p⟩:=vals1 r
 cases p
 obtain⟨hz,f,vs,c,n⟩:=(show cN X.prog X.w H s.heap d (.dK kvs) from I.hok d _ hd)
 obtain⟨ep,i⟩:=n.dictAt
 have hl:=c.length
 refine PySem.W.kdl_call (PySem.W.kdl_dict (knd:=dB X.prog X.w) (kvs:=vs) (ep:=ep) f) (I.ok.hd hc) i (by rw[<-hl];exact hz) fun h' tk a B hk C b=>?_
 refine⟨.ref s.heap.objs.size,_,I.laid (o:=.lst (kvs.map fun e=>kV e.1)) (t':=tk) hk (Ai _) ⟨by rw[Ab];exact hz,a.toList,B,?_,by rw[Ku];exact C⟩,rfl,q _ (I.hok.fresh (Ai _))⟩
 refine vZ (by have G:=b.1;have D:a.toList.length=a.size:=Bx;have E:(kvs.map fun e=>kV e.1).length=kvs.length:=Ab ..;lia) fun j v z=>?_
 obtain⟨k,x,A,g⟩:=b.2 j v (by rw[<-Du];exact z)
 obtain⟨y,t⟩:=CM c A
 exact⟨kV k,by rw[Bh,t];rfl,SU g⟩
theorem nQ{n:Nat}(i j:Nat)(h:i≠j):n + i≠n + j:=by lia
theorem v3{n:Nat}(i:Nat)(h:i≠0):n + i≠n:=by lia
theorem CN{n:Nat}(i:Nat)(h:i≠0):n≠n + i:=by lia
theorem gX{n a:Nat}(i:Nat)(h:a < n):a≠n + i:=by lia
theorem rT{n a:Nat}(h:a < n):a≠n:=by lia
theorem SX{n:Nat}(i:Nat):n<=n + i:=by lia
def rV(K:Ae)(a b:Addr)(xs ys:List V):It:=
 ⟨fun i H=>a9 K H a xs/\a9 K H b ys/\i < xs.length/\i < ys.length,
   fun i H x c=>∃ p u v,xs[i]? = some u/\ys[i]? = some v/\H p=none/\x=.ref p/\c=aN H p (.tup [u,v]),
   fun i H=>a9 K H a xs/\a9 K H b ys/\(xs.length<=i\/ys.length<=i)⟩
theorem SY{P:Bl}{w:Cb}{K:Ae}{es:List Expr}{kx:Nat}{px:Pos}(a b z TI TO i1 i2:Addr)(xs ys:List V)(D:ZipApart z TI TO i1 i2 a b) :
  kK P w K (.Tuple es kx px) (rV K a b xs ys) [z,TI,TO,i1,i2] z (fun i h=>Oi h z TI TO .none/\Hz h TI (.ref i1) (.ref i2)/\(∃ c d,Hz h TO c d)/\h.IsListIter i1 a i/\h.IsListIter i2 b i) where
 mem:=by simp
 obj:=fun i h st c hc=>by
  obtain⟨L,A,⟨p,q,F⟩,⟨o4,G,_,h4d⟩,⟨o5,C,_,h5d⟩⟩:=st
  simp only[Az,Ek,or_false] at hc
  rcases hc with rfl | rfl | rfl | rfl | rfl
  ·exact⟨_,L,fun v q=>by cases q⟩
  ·exact⟨_,A,fun v q=>by cases q⟩
  ·exact⟨_,F,fun v q=>by cases q⟩
  ·exact⟨_,G,fun v q=>by rw[h4d] at q;cases q⟩
  ·exact⟨_,C,fun v q=>by rw[h5d] at q;cases q⟩
 keep:=fun i h h' st k=>by
  obtain⟨L,A,⟨p,q,F⟩,⟨o4,G,r4⟩,⟨o5,C,r5⟩⟩:=st
  exact⟨k z (by simp) _ L,k TI (by simp) _ A,⟨p,q,k TO (by simp) _ F⟩,⟨o4,k i1 (by simp) _ G,r4⟩,⟨o5,k i2 (by simp) _ C,r5⟩⟩
 item:=by
  intro X hP hw hK hc i J s σ H E I hf st Y
  subst hP hw hK
  obtain⟨L,A,⟨c,d,F⟩,G,C⟩:=st
  obtain⟨R,Q,hi,hj⟩:=Y
  obtain⟨its,rv,pl,hz⟩:=I.list R
  obtain⟨S,O,N,hz2⟩:=I.list Q
  obtain⟨u,hu,ru⟩:=rv.get (An hi)
  obtain⟨v,hv,rvv⟩:=O.get (An hj)
  refine wpAny_pyNext_zip_item D L A F G C pl.isList N.isList (x:=u) (y:=v) (by simpa using hu) (by simpa using hv) fun h' a1 a2 a3 a4 a5 a6 hk=>?_
  refine⟨_,rfl,wpAny_letOwnedTupleGo_zip a1 fun M z' sb=>?_⟩
  have j:H s.heap.objs.size=none:=I.hok.fresh (Ai _)
  have T:z < s.heap.objs.size:=Ak L
  have ltO:TO < s.heap.objs.size:=Ak F
  have lt1:i1 < s.heap.objs.size:=by obtain⟨_,e,_⟩:=G;exact Ak e
  have lt2:i2 < s.heap.objs.size:=by obtain⟨_,e,_⟩:=C;exact Ak e
  have f:∀ q o,q∉[z,TI,TO,i1,i2]->s.heap.get? q=some o->M.get? q=some o:=fun q o g e=>by
   simp only[Az,Ek,or_false,not_or] at g
   exact(sb.2 q g.1).trans (hk q o g.1 g.2.2.1 g.2.2.2.1 g.2.2.2.2 e)
  have hp2:Hz M s.heap.objs.size u v:=(sb.2 _ (Dy T)).trans a5
  have B:∀ q∈[z,TI,TO,i1,i2],H q=none:=fun q g=>(hf q g).1
  have I1:Inv X J σ (aN H s.heap.objs.size (.tup [xs[i],ys[i]])) {s with heap:=M}:=by
   refine I.step (g':=s.gens) (d':=s.drawn) (t':=s.toks) (ch:=[z,TI,TO,i1,i2]) (fun q g=>⟨(hf q g).2.2.2.1,(hf q g).2.1,(hf q g).2.2.2.2.1,(hf q g).2.2.2.2.2⟩)
    (fun q o _ _ hc e _=>f q o hc e) (fun q o _ _ hc e _=>⟨o.slots,f q o hc e⟩) (fun q o _ e n=>by rw[bL (Bf (Ak e))];exact n)
    (fun q o hc e=>⟨o,f q o hc e⟩) (fun q W e=>by rw[bL (dZ e j)];exact e) (fun q o W e=>by rw[bL (dZ e j)];exact e) (fun q ps e=>⟨#[],by rw[bL (dZ e j),e];simp⟩) (fun m hm=>?_) ?_ I.bare
   ·obtain⟨o,es,ep,ho,r⟩:=hm
    exact⟨o,es,ep,f _ o (fun z=>absurd rfl (hf _ z).2.1) ho,r⟩
   ·intro q o e
    by_cases g:q=s.heap.objs.size
    ·subst g
     rw[dY] at e;cases e
     exact⟨by show 2<=Aj;decide,[u,v],.cons ru (.cons rvv .nil),⟨_,hp2,rfl,_,rfl⟩⟩
    ·rw[bL g] at e
     refine(I.hok q o e).stay (fun t w' ht l=>f t w' (fun z=>?_) l) (fun t l=>by rw[bL (dZ l j)];exact l) fun t W l=>by rw[bL (dZ l j)];exact l
     have U:=B t z
     rcases ht with rfl | ht
     ·rw[U] at e;cases e
     ·rw[U] at ht;cases ht
  refine⟨.ref s.heap.objs.size,_,I1,rfl,⟨s.heap.objs.size,xs[i],ys[i],An hi,An hj,j,rfl,rfl⟩,⟨z',(sb.2 _ D.TIz).trans (hk _ _ D.TIz D.TITO D.TIi1 D.TIi2 A),⟨u,v,(sb.2 _ D.TOz).trans a2⟩,a3.extBut sb.extBut D.i1z,a4.extBut sb.extBut D.i2z⟩,fun q g=>?_⟩
  rw[bL]
  ·exact B q g
  ·intro e
   subst e
   have:H s.heap.objs.size=none:=j
   simp only[Az,Ek,or_false] at g
   have ltI:TI < s.heap.objs.size:=Ak A
   rcases g with e | e | e | e | e
   ·exact Dy T e
   ·exact Dy ltI e
   ·exact Dy ltO e
   ·exact Dy lt1 e
   ·exact Dy lt2 e
 done:=by
  intro X hP hw hK hc i J s σ H E I hf st Y
  subst hP hw hK
  obtain⟨L,A,⟨c,d,F⟩,G,C⟩:=st
  obtain⟨R,Q,Z⟩:=Y
  obtain⟨its,rv,pl,hz⟩:=I.list R
  obtain⟨S,O,N,hz2⟩:=I.list Q
  have l1:=rv.length
  have l2:=O.length
  refine wpAny_pyNext_zip_end (I.ok.hd hc) D L A F G C pl.isList N.isList (Z.elim (fun q=>.inl (by simp;lia)) fun q=>.inr (by simp;lia)) fun h' hk=>⟨rfl,?_⟩
  have f:∀ q o,q∉[z,TI,TO,i1,i2]->s.heap.get? q=some o->h'.get? q=some o:=fun q o g e=>by
   simp only[Az,Ek,or_false,not_or] at g
   exact hk q o g.1 g.2.2.1 g.2.2.2.1 g.2.2.2.2 e
  have B:∀ q∈[z,TI,TO,i1,i2],H q=none:=fun q g=>(hf q g).1
  refine I.step (g':=s.gens) (d':=s.drawn) (t':=s.toks) (ch:=[z,TI,TO,i1,i2]) (fun q g=>⟨(hf q g).2.2.2.1,(hf q g).2.1,(hf q g).2.2.2.2.1,(hf q g).2.2.2.2.2⟩)
    (fun q o _ _ hc e _=>f q o hc e) (fun q o _ _ hc e _=>⟨o.slots,f q o hc e⟩) (fun q o _ e n=>n)
    (fun q o hc e=>⟨o,f q o hc e⟩) (fun q W e=>e) (fun q o W e=>e) (fun q ps e=>⟨#[],by rw[e];simp⟩) (fun m hm=>?_) ?_ I.bare
  ·obtain⟨o,es,ep,ho,r⟩:=hm
   exact⟨o,es,ep,f _ o (fun z=>absurd rfl (hf _ z).2.1) ho,r⟩
  ·intro q o e
   refine(I.hok q o e).stay (fun t w' ht l=>f t w' (fun z=>?_) l) (fun t l=>l) fun t W l=>l
   have U:=B t z
   rcases ht with rfl | ht
   ·rw[U] at e;cases e
   ·rw[U] at ht;cases ht
 self:=fun _ _ _ _ _ st h=>Nh st.1 h
theorem S4:Cv "zip" = some (.type "zip"):=by decide +kernel
end
section
variable {X:Cx}
def v5(K:Ae)(a:Addr)(xs:List V):It:=
 ⟨fun i H=>a9 K H a xs/\i < xs.length,
   fun i H x b=>∃ p u,xs[i]? = some u/\H p=none/\x=.ref p/\b=aN H p (.tup [.int (i:Nat),u]),
   fun i H=>a9 K H a xs/\xs.length<=i⟩
theorem Inv.laidT{d:List (Addr×Obj)}{l:St}{H:Hp}{s:Ah}{fp:List Addr}{g:Heap}{tk:Nat}{xs:List V}{its:List Ac}(I:Inv X d l H s)(hf:∀ b∈fp,iD X d H b)
  (a:∀ q o,q∉fp->s.heap.get? q=some o->g.get? q=some o) (hz:xs.length<=Aj) (w:aR xs its) (i:g.get? s.heap.objs.size=some {cls:=.type "tuple",data:=.seq its.toArray}) :
  Inv X d l (aN H s.heap.objs.size (.tup xs)) {s with heap:=g,toks:=tk}:=by
 have c:H s.heap.objs.size=none:=I.hok.fresh (Ai _)
 have j:∀ q∈fp,H q=none:=fun q f=>(hf q f).1
 refine I.step (g':=s.gens) (d':=s.drawn) (t':=tk) (ch:=fp) (fun q f=>⟨(hf q f).2.2.2.1,(hf q f).2.1,(hf q f).2.2.2.2.1,(hf q f).2.2.2.2.2⟩)
  (fun q o _ _ hc e _=>a q o hc e) (fun q o _ _ hc e _=>⟨o.slots,a q o hc e⟩) (fun q o _ e n=>by rw[bL (Bf (Ak e))];exact n)
  (fun q o hc e=>⟨o,a q o hc e⟩) (fun q p e=>by rw[bL (dZ e c)];exact e) (fun q o p e=>by rw[bL (dZ e c)];exact e) (fun q ps e=>⟨#[],by rw[bL (dZ e c),e];simp⟩) (fun m v=>?_) ?_ I.bare
 ·obtain⟨o,es,ep,x,r⟩:=v
  exact⟨o,es,ep,a _ o (fun z=>absurd rfl (hf _ z).2.1) x,r⟩
 ·intro q o e
  by_cases f:q=s.heap.objs.size
  ·subst f
   rw[dY] at e;cases e
   exact⟨hz,its,w,⟨_,i,rfl,_,rfl⟩⟩
  ·rw[bL f] at e
   refine(I.hok q o e).stay (fun t u ht h=>a t u (fun z=>?_) h) (fun t h=>by rw[bL (dZ h c)];exact h) fun t p h=>by rw[bL (dZ h c)];exact h
   have k:=j t z
   rcases ht with rfl | ht
   ·rw[k] at e;cases e
   ·rw[k] at ht;cases ht
theorem Inv.turnedT{c:List (Addr×Obj)}{j:St}{H:Hp}{s:Ah}{fp:List Addr}{f:Heap}{tk:Nat}(I:Inv X c j H s)(hf:∀ b∈fp,iD X c H b)
  (a:∀ q o,q∉fp->s.heap.get? q=some o->f.get? q=some o):Inv X c j H {s with heap:=f,toks:=tk}:=by
 have h:∀ q∈fp,H q=none:=fun q d=>(hf q d).1
 refine I.step (g':=s.gens) (d':=s.drawn) (t':=tk) (ch:=fp) (fun q d=>⟨(hf q d).2.2.2.1,(hf q d).2.1,(hf q d).2.2.2.2.1,(hf q d).2.2.2.2.2⟩)
   (fun q o _ _ hc e _=>a q o hc e) (fun q o _ _ hc e _=>⟨o.slots,a q o hc e⟩) (fun q o _ e n=>n)
   (fun q o hc e=>⟨o,a q o hc e⟩) (fun q k e=>e) (fun q o k e=>e) (fun q ps e=>⟨#[],by rw[e];simp⟩) (fun m p=>?_) ?_ I.bare
 ·obtain⟨o,es,ep,u,r⟩:=p
  exact⟨o,es,ep,a _ o (fun z=>absurd rfl (hf _ z).2.1) u,r⟩
 ·intro q o e
  refine(I.hok q o e).stay (fun t l ht g=>a t l (fun z=>?_) g) (fun t g=>g) fun t k g=>g
  have i:=h t z
  rcases ht with rfl | ht
  ·rw[i] at e;cases e
  ·rw[i] at ht;cases ht
theorem S5{P:Bl}{w:Cb}{K:Ae}{es:List Expr}{R:Nat}{O:Pos}(a e it:Addr)(xs:List V)(p:e≠it) :
  kK P w K (.Tuple es R O) (v5 K a xs) [e,it] e (fun i h=>(∃ b,IsEnum h e it (i:Nat) b)/\h.IsListIter it a i) where
 mem:=by simp
 obj:=fun i h st c hc=>by
  obtain⟨⟨b,f⟩,⟨J,g,_,F⟩⟩:=st
  simp only[Az,Ek,or_false] at hc
  rcases hc with rfl | rfl
  ·exact⟨_,f,fun v q=>by cases q⟩
  ·exact⟨_,g,fun v q=>by rw[F] at q;cases q⟩
 keep:=fun i h h' st k=>by
  obtain⟨⟨b,f⟩,⟨J,g,M⟩⟩:=st
  exact⟨⟨b,k e (by simp) _ f⟩,⟨J,k it (by simp) _ g,M⟩⟩
 item:=by
  intro X C hw A hc i j s L H E I hf st t
  subst C hw A
  obtain⟨⟨b,f⟩,g⟩:=st
  obtain⟨n,hi⟩:=t
  obtain⟨its,D,pl,hz⟩:=I.list n
  obtain⟨u,T,S⟩:=D.get (An hi)
  refine wpAny_pyNext_enum_item f g pl.isList (x:=u) (by simpa using T) p fun h' a1 a2 U Y hk=>?_
  refine⟨_,rfl,wpAny_letOwnedTupleGo_enum a1 fun l W sb=>?_⟩
  have y:H s.heap.objs.size=none:=I.hok.fresh (Ai _)
  have r:e < s.heap.objs.size:=Ak f
  have B:it < s.heap.objs.size:=by obtain⟨_,q,_⟩:=g;exact Ak q
  have m:∀ q o,q∉[e,it]->s.heap.get? q=some o->l.get? q=some o:=fun q o d eq=>by
   simp only[Az,Ek,or_false,not_or] at d
   exact(sb.2 q d.1).trans (hk q o d.1 d.2 eq)
  have G:l.get? s.heap.objs.size=some {cls:=.type "tuple",data:=.seq [.int (i:Nat) s.toks,u].toArray}:=(sb.2 _ (Dy r)).trans U
  have Q:Inv X j L (aN H s.heap.objs.size (.tup [.int (i:Nat),xs[i]])) {s with heap:=l,toks:=s.toks + 1}:=I.laidT (its:=[.int (i:Nat) s.toks,u]) hf m (by show 2<=Aj;decide) (.cons ⟨_,rfl⟩ (.cons S .nil)) G
  refine⟨.ref s.heap.objs.size,_,Q,rfl,⟨s.heap.objs.size,xs[i],An hi,y,rfl,rfl⟩,⟨⟨u,by rw[Int.natCast_add];exact W⟩,a2.extBut sb.extBut p.symm⟩,fun q d=>?_⟩
  rw[bL]
  ·exact(hf q d).1
  ·intro eq
   subst eq
   simp only[Az,Ek,or_false] at d
   rcases d with q | q
   ·exact Dy r q
   ·exact Dy B q
 done:=by
  intro X C hw A hc i j s L H E I hf st t
  subst C hw A
  obtain⟨⟨b,f⟩,g⟩:=st
  obtain⟨n,N⟩:=t
  obtain⟨its,D,pl,hz⟩:=I.list n
  have l1:=D.length
  refine wpAny_pyNext_enum_end (I.ok.hd hc) f g pl.isList (by simp;lia) fun h' hk=>⟨rfl,?_⟩
  exact I.turnedT (tk:=s.toks) hf fun q o d eq=>hk q o (fun z=>d (by simp[z])) eq
 self:=fun _ _ _ _ _ st h=>by
  obtain⟨⟨b,f⟩,_⟩:=st
  exact wpAny_pyIter_enum f h
def S6(K:Ae)(ta:TA):TI:=fun c H R=>ta c H fun vs b=>∃ a xs,vs=[.ref a]/\a9 K b a xs/\R (v5 K a xs) b
theorem S7{a:Expr}{ta:TA}{p pos:Pos}{es:List Expr}{o:Nat}{m:Pos}(l:Gl X "enumerate")(r:X.mg "enumerate" = none)(ha:PA X [a] ta)(hs:Bj [a] X.env=[(false,eval a X.env)]:=by rfl) :
  PI X (.Tuple es o m) (.Call (.Name "enumerate" p) [a] [] pos) (S6 X.K ta):=by
 intro d s z H R I h
 refine Call_ (i9 I l r boot_enumerate (Dv (aZ (ha pos d s z H _ I h) fun us c ⟨vs,w,f,x,y⟩=>?_) hs rfl))
 obtain⟨a,xs,rfl,g,q⟩:=y
 obtain⟨u,rfl,v⟩:=vals1 x
 cases v
 obtain⟨its,t,pl,hz⟩:=f.list g
 refine call_enumerate_list pl.isList fun h' i n A k=>?_
 refine wpAny_pyIter_enum i ?_
 refine⟨c.heap.objs.size + 1,[c.heap.objs.size + 1,c.heap.objs.size],_,_,w,rfl,f.kept (t':=c.toks) k,S5 a _ _ xs (v3 1 (by decide)),⟨⟨_,i⟩,n⟩,fun q j=>?_,q⟩
 have b:c.heap.objs.size<=q:=by
  simp only[Az,Ek,or_false] at j
  rcases j with e | e
  ·rw[e];exact SX 1
  ·rw[e];exact Ai _
 exact f.fpOk b (f.hok.fresh b)
end
section
variable {prog:Bl}{w:Cb}{A:Bv}{E:Ac->Ah->Prop}{s:Ah}
end
abbrev v7:=aD×List aD
section
variable {prog:Bl}{w:Cb}
end
end L2
namespace L2
open PySem PySem.Spec PySem.W PyProof.Rows
section
variable {prog:Bl}{w:Cb}{A:Bv}{E:Ac->Ah->Prop}{s:Ah}
theorem S8{it d:Addr}{i ep:Nat}{es:Array Ie}{f:Obj}{Q:Option Ac->Ah->Prop}(hit:s.heap.IsKeyIter it d i es.size ep)(b:s.heap.get? d=some f)(c:f.data=.dict es ep)(hi:i < es.size)
  (g:∀ h',h'.IsKeyIter it d (i + 1) es.size ep->Dx it s.heap h'->Q (some es[i].key) {s with heap:=h'}):Ax (Bk prog w) A (Ia (.ref it)) Q E s:=by
 have a:=hit.typeIs
 obtain⟨o,e,hc,hd⟩:=id hit
 have own:Builtin.Dict_items.ownsTuple "dict_keyiterator" = false:=by decide
 have j:¬ ((Value.ref d == Value.none)=true):=Am
 have up:(s.heap.update it (Et (·.setIfInBounds 1 (Gv ((i:Int) + 1))))).IsKeyIter it d (i + 1) es.size ep:=
  ⟨_,Fd _ e (Nk (Ib hd _)),(Obj.cls_mapFields ..).trans hc,by rw[Ib hd];simp[Gv]⟩
 have h:=up.typeIs (s:={s with heap:=s.heap.update it (Et (·.setIfInBounds 1 (Gv ((i:Int) + 1))))})
 unfold Ia
 refine Aa (Kd (Ee (name:=Cz "__next__") a Fe (De Fe a PySem.F.entry_dict_keyiterator_next ?_ (PySem.F.args_dict_keyiterator_next_1 _))))
 refine Aa (Ag (Aa (Aa ?_)))
 first | refine Aa (Ii a (Ag ?_)) | refine Aa (Kb a (Ag ?_))
 refine Aa (Of e hd ?_)
 rw[own,if_neg Am]
 show Ax _ _ (if (Value.ref d == Value.none)=true then _ else _) _ _ _
 rw[if_neg j]
 refine Aa (Ag (Aa (Ji b c ?_)))
 rw[if_neg (by simp)]
 refine Aa (Ag (Aa (wpAny_dictEpoch b c ?_)))
 rw[if_neg (by simp)]
 refine Ag ?_
 simp only[show ¬ ((i:Int) < 0) by omega,if_false,Cm,Lv hi]
 refine Aa ?_
 first | refine Aa (Ii a (Ag ?_)) | refine Aa (Kb a (Ag ?_))
 refine Aa (wpAny_isOneOf_keyiter a ?_)
 show Ax _ _ (setField (.ref it) 1 (Gv ((i:Int) + 1)) >>= _) _ _ _
 refine Aa (Ey e hd (by simp) (Aa (Ct (Aa (wpAny_isOneOf_keyiter h ?_)))))
 show Ax _ _ (pure es[i].key) _ _ _
 exact Ag (Ag ⟨_,rfl,Ag (g _ up (Ca ..))⟩)
theorem S9{it d:Addr}{i ep:Nat}{es:Array Ie}{g:Obj}{Q:Option Ac->Ah->Prop}(l:A.handled=none)(hit:s.heap.IsKeyIter it d i es.size ep)(e:s.heap.get? d=some g)(f:g.data=.dict es ep)(hi:es.size<=i)
  (j:∀ h',Heap.ExtBut it s.heap h'->Q none {s with heap:=h'}):Ax (Bk prog w) A (Ia (.ref it)) Q E s:=by
 have c:=hit.typeIs
 obtain⟨o,h,hc,hd⟩:=id hit
 have own:Builtin.Dict_items.ownsTuple "dict_keyiterator" = false:=by decide
 have k:¬ ((Value.ref d == Value.none)=true):=Am
 unfold Ia
 refine Aa (Kd (Ee (name:=Cz "__next__") c Fe (De Fe c PySem.F.entry_dict_keyiterator_next ?_ (PySem.F.args_dict_keyiterator_next_1 _))))
 refine Aa (Ag (Aa (Aa ?_)))
 first | refine Aa (Ii c (Ag ?_)) | refine Aa (Kb c (Ag ?_))
 refine Aa (Of h hd ?_)
 rw[own,if_neg Am]
 show Ax _ _ (if (Value.ref d == Value.none)=true then _ else _) _ _ _
 rw[if_neg k]
 refine Aa (Ag (Aa (Ji e f ?_)))
 rw[if_neg (by simp)]
 refine Aa (Ag (Aa (wpAny_dictEpoch e f ?_)))
 rw[if_neg (by simp)]
 refine Ag ?_
 simp only[show ¬ ((i:Int) < 0) by omega,if_false,Cm,Array.getElem?_eq_none hi]
 refine Aa ?_
 first | refine Aa (Ii c (Ag ?_)) | refine Aa (Kb c (Ag ?_))
 show Ax _ _ (setField (.ref it) 0 .none >>= _) _ _ _
 refine Aa (Ey h hd (by simp) ?_)
 show Ax _ _ (newExc (.type "StopIteration") [] >>= _) _ _ _
 refine Aa ?_
 simp only[newExc,newTuple]
 refine Aa (Dd (Aa (m:=Ko _ _) (wpAny_of_eq (a:=Value.none) (by first | rfl | (simp only[Ko];rfl)) (Dd ?_ (by size_fits)))) (by size_fits))
 simp only[raiseNew]
 refine Aa (wpAny_handled ?_)
 rw[show A.in1.handled=none from l]
 refine Aa (Ag (wpAny_throw ?_))
 refine Aa (Jt (T:="StopIteration") (b:=true) ⟨_,Ap _ rfl,rfl⟩ isSubtype_stop ?_)
 exact Ag (j _ (((Ca ..).extBut.push _).push _))
theorem TB(n:A.handled=none)(I d:Addr)(m:d≠I)(es:Array Ie)(ep:Nat) :
  Walks prog w A I [I,d] [I] es.size (fun i v=>∃ e,es[i]? = some e/\v=e.key) (fun i h=>h.IsKeyIter I d i es.size ep/\∃ a,h.get? d=some a/\a.data=.dict es ep) where
 sub:=fun b hb=>by simp at hb;simp[hb]
 frame:=fun _ _ _ st hk=>⟨st.1.at fun o e=>hk I (by simp) o e,let ⟨a,f,c⟩:=st.2;⟨a,hk d (by simp) a f,c⟩⟩
 item:=fun i s Q E hi st g=>by
  obtain⟨a,f,c⟩:=st.2
  refine S8 st.1 f c hi fun h' k j=>?_
  exact g _ h' s.toks ⟨es[i],by simp[hi],rfl⟩ ⟨k,a,j.extBut d a m f,c⟩ fun b o hb e=>j.extBut b o (fun h=>hb (by simp[h])) e
 done:=fun s Q E st g=>by
  obtain⟨a,f,c⟩:=st.2
  exact S9 n st.1 f c (Ai _) fun h' l=>g h' s.toks fun b o hb e=>l b o (fun h=>hb (by simp[h])) e
 self:=fun _ _ _ _ st g=>wpAny_pyIter_keyiter st.1 g
def jW(h:Heap)(a:Addr)(es:Array Ie)(ep:Nat):Prop:=∃ o,h.get? a=some o/\o.ExactDict/\o.data=.dict es ep
theorem jW.typeIs{d:Addr}{es:Array Ie}{ep:Nat}(h:jW s.heap d es ep):s.TypeIs (.ref d) "dict":=let ⟨o,ho,hc,_⟩:=h;⟨o,ho,hc.1⟩
theorem jW.at{h h':Heap}{d:Addr}{es:Array Ie}{ep:Nat}(x:jW h d es ep)(e:∀ o,h.get? d=some o->h'.get? d=some o):jW h' d es ep:=let ⟨o,ho,r⟩:=x;⟨o,e o ho,r⟩
theorem jW.lt{h:Heap}{d:Addr}{es:Array Ie}{ep:Nat}(x:jW h d es ep):d < h.objs.size:=let ⟨_,ho,_⟩:=x;Ak ho
theorem TC{d:Addr}{es:Array Ie}{ep:Nat}{Q:Ac->Ah->Prop}(hd:(d == Gp)=false)(c:jW s.heap d es ep)
  (f:Q (.ref s.heap.objs.size) {s with heap:=s.heap.push {cls:=.type "dict_keyiterator",data:=.fields #[.ref d,.int 0 0,.int es.size 0,.int ep 0]}}):Ax (Bk prog w) A (Og (.ref d)) Q E s:=by
 have b:=c.typeIs
 obtain⟨o,e,hc,a⟩:=c
 refine wpAny_pyIter_slot b PySem.F.slot_dict_iter (De PySem.F.slot_dict_iter b PySem.F.entry_dict_iter ?_ (PySem.F.args_dict_iter_1 _))
 unfold Hh.«dict.__iter__»
 refine Aa ?_
 unfold Builtin.Dict.dictSlotNone
 refine Aa (Jd b (Ag ?_))
 show Ax _ _ (Builtin.Dict.showsAll d >>= _) _ _ _
 unfold Builtin.Dict.showsAll
 rw[if_neg (by rw[hd];exact Am)]
 refine Aa (Ag (Aa (Ji e a (Aa (wpAny_dictEpoch e a ?_)))))
 refine Aa (Dd (Ag ⟨_,rfl,"dict_keyiterator",_,⟨_,Ap _ rfl,rfl⟩,Fe.lookup,?_⟩))
 simpa [Gv] using f
theorem TF{d:Addr}{es:Array Ie}{ep:Nat}(lo:(d == Gp)=false):KdlSrc prog w "dict" d d es.size (fun i v=>∃ e,es[i]? = some e/\v=e.key) (fun h=>jW h d es ep) where
 type:=fun _ a=>a.typeIs
 there:=fun _ a=>⟨a.lt,a.lt⟩
 keep:=fun _ _ a hk=>a.at fun o e=>hk d (.inl rfl) o e
 notList:=by decide
 notTuple:=by decide
 hint:=fun _ _ _ _ a b=>kdl_hint_dict a.typeIs b
 iter:=fun _ _ c a=>⟨_,_,(fun _ _ b=>TC lo a b),TB c _ d (Bf a.lt) es ep,⟨⟨_,Ap _ rfl,rfl,rfl⟩,let ⟨o,ho,_,hd⟩:=a;⟨o,Af _ ho,hd⟩⟩⟩
end
end L2
namespace PySem
namespace Rv
open PyProof.Rows L2 PySem.Spec
section
variable {prog:Bl}{w:Cb}{A:Bv}{E:Ac->Ah->Prop}{s:Ah}
end
end Rv
end PySem
namespace PySem
namespace Rv
open PyProof.Rows L2 PySem.Spec
section
variable {prog:Bl}{w:Cb}{A:Bv}{E:Ac->Ah->Prop}{s:Ah}
end
end Rv
end PySem
namespace PySem
namespace Rv
open PyProof.Rows L2 PySem.Spec
section
variable {prog:Bl}{w:Cb}{A:Bv}{E:Ac->Ah->Prop}{s:Ah}
end
end Rv
end PySem
namespace L2
open PySem PySem.Spec PyProof.Rows
section
variable {X:Cx}{a:Expr}{ta:TA}{p p2 pos pos2:Pos}
end
end L2
namespace PySem
namespace Zt
open PyProof.Rows L2 PySem.Spec
section
variable {prog:Bl}{w:Cb}{A:Bv}{E:Ac->Ah->Prop}{s:Ah}
theorem TH{α:Type}{Q:α->Ah->Prop}(hh:A.handled=none)(hE:∀ h' e,(∀ c o,s.heap.get? c=some o->h'.get? c=some o)->(∃ o,h'.get? e=some o/\o.cls=.type "StopIteration")->E (.ref e) {s with heap:=h'}) :
  Ax (Bk prog w) A (Builtin.SmallTypes.stopIteration:Sem α) Q E s:=by
 unfold Builtin.SmallTypes.stopIteration
 refine Aa (m:=newExc (.type "StopIteration") []) ?_
 simp only[newExc,newTuple]
 refine Aa (Dd (Aa (m:=Ko _ _) (wpAny_of_eq (a:=Value.none) (by first | rfl | (simp only[Ko];rfl)) (Dd ?_ (by size_fits)))) (by size_fits))
 simp only[raiseNew]
 refine Aa (wpAny_handled ?_)
 rw[hh]
 refine Aa (Ag (wpAny_throw (hE _ _ (fun c o e=>Af _ (Af _ e)) ⟨_,Ap _ rfl,rfl⟩)))
structure kN(prog:Bl)(w:Cb)(i l:Addr)(xs:Array Ac)(St:Nat->Heap->Prop):Prop where
 keep:∀ k h h',St k h->(∀ c,c=i\/c=l->∀ o,h.get? c=some o->h'.get? c=some o)->St k h'
 there:∀ k h,St k h->i < h.objs.size
 item:∀ (A:Bv) (E:Ac->Ah->Prop) (s:Ah) (k:Nat) (x:Ac) (Q:Ac->Ah->Prop),St k s.heap->xs[k]? = some x->(∀ h',St (k + 1) h'->Dx i s.heap h'->Q x {s with heap:=h'})->
  Ax (Bk prog w) A (Ea (.ref i)) Q E s
 stop:∀ (A:Bv) (E:Ac->Ah->Prop) (s:Ah) (k:Nat) (Q:Ac->Ah->Prop),A.handled=none->St k s.heap->xs[k]? = none->
  (∀ h' e,Heap.ExtBut i s.heap h'->(∃ o,h'.get? e=some o/\o.cls=.type "StopIteration")->E (.ref e) {s with heap:=h'})->Ax (Bk prog w) A (Ea (.ref i)) Q E s
theorem side_tuple(i l:Addr)(hne:l≠i)(xs:Array Ac):kN prog w i l xs (fun k h=>h.IsTupleIter i l k/\h.IsTuple l xs) where
 keep:=fun k h h' x hk=>by
  obtain⟨⟨o,e,r⟩,⟨u,g,q⟩⟩:=x
  exact⟨⟨o,hk i (.inl rfl) o e,r⟩,⟨u,hk l (.inr rfl) u g,q⟩⟩
 there:=fun k h x=>by obtain⟨_,e,_⟩:=x.1;exact Ak e
 item:=fun A E s k x Q st hx hQ=>by
  obtain⟨⟨o,ho,hc,hd⟩,⟨u,hu,hcu,n,hdu⟩⟩:=st
  have ty:s.TypeIs (.ref i) "tuple_iterator":=⟨o,ho,hc⟩
  unfold Ea
  refine Aa (Ee (name:=Cz "__next__") ty Jm (De Jm ty F.entry_tuple_iterator_next ?_ (F.args_tuple_iterator_next_1 _)))
  show Ax _ _ (field (.ref i) 0 >>= fun q=>_) _ _ _
  refine Aa (Fl ho hd (x:=.ref l) rfl ?_)
  show Ax _ _ (if (Value.ref l == Value.none)=true then _ else _) _ _ s
  rw[if_neg (show ¬ (Value.ref l == Value.none)=true from fun z=>nomatch z)]
  show Ax _ _ (field (.ref i) 1 >>= fun q=>_) _ _ _
  refine Aa (Fl ho hd (x:=.int k 0) rfl ?_)
  show Ax _ _ (seqItems? (.ref l) >>= fun q=>_) _ _ _
  refine Aa (Gg hu hdu ?_)
  simp only[Cm,hx]
  refine Aa (Ey ho hd (by simp) (Ag ⟨x,rfl,Ag (hQ _ ⟨⟨_,Fd _ ho (Nk (Ib hd _)),(Obj.cls_mapFields ..).trans hc,?_⟩,⟨u,?_,hcu,n,hdu⟩⟩ (Ca ..))⟩))
  ·rw[Ib hd];simp[Gv]
  ·exact(Fn _ _ (Bq hne)).trans hu
 stop:=fun A E s k Q hh st hx hE=>by
  obtain⟨⟨o,ho,hc,hd⟩,⟨u,hu,hcu,n,hdu⟩⟩:=st
  have ty:s.TypeIs (.ref i) "tuple_iterator":=⟨o,ho,hc⟩
  unfold Ea
  refine Aa (Ee (name:=Cz "__next__") ty Jm (De Jm ty F.entry_tuple_iterator_next ?_ (F.args_tuple_iterator_next_1 _)))
  show Ax _ _ (field (.ref i) 0 >>= fun q=>_) _ _ _
  refine Aa (Fl ho hd (x:=.ref l) rfl ?_)
  show Ax _ _ (if (Value.ref l == Value.none)=true then _ else _) _ _ s
  rw[if_neg (show ¬ (Value.ref l == Value.none)=true from fun z=>nomatch z)]
  show Ax _ _ (field (.ref i) 1 >>= fun q=>_) _ _ _
  refine Aa (Fl ho hd (x:=.int k 0) rfl ?_)
  show Ax _ _ (seqItems? (.ref l) >>= fun q=>_) _ _ _
  refine Aa (Gg hu hdu ?_)
  simp only[Cm,hx]
  refine Aa (Ej (Aa (Ey ho hd (by simp) (TH hh fun h' e hk he=>hE h' e (fun c q hc' g=>hk c q ((Fn _ _ (Bq hc')).trans g)) he))))
structure Apart(z TI TO i1 i2 l1 l2:Addr):Prop where
 nd : [z,TI,TO,i1,i2].Nodup
 a:l1≠z/\l1≠TI/\l1≠TO/\l1≠i1/\l1≠i2
 b:l2≠z/\l2≠TI/\l2≠TO/\l2≠i1/\l2≠i2
variable {z TI TO i1 i2 l1 l2:Addr}{xs ys:Array Ac}{S1 S2:Nat->Heap->Prop}
theorem item{k:Nat}{x y a b:Ac}{Q:Ac->Ah->Prop}(D:Apart z TI TO i1 i2 l1 l2)(F:kN prog w i1 l1 xs S1)(G:kN prog w i2 l2 ys S2)(hz:Oi s.heap z TI TO .none)(hI:Hz s.heap TI (.ref i1) (.ref i2))(V:Hz s.heap TO a b)
  (h1:S1 k s.heap) (X:S2 k s.heap) (hx:xs[k]? = some x) (hy:ys[k]? = some y)
  (U:∀ h',Oi h' z TI TO (Gv s.heap.objs.size)->Hz h' TO x y->S1 (k + 1) h'->S2 (k + 1) h'->Hz h' s.heap.objs.size x y->(∀ c o,c≠z->c≠TO->c≠i1->c≠i2->s.heap.get? c=some o->h'.get? c=some o)->Q (.ref s.heap.objs.size) {s with heap:=h'}) :
  Ax (Bk prog w) A (Hh.«zip.__next__» ⟨[.ref z],[]⟩) (fun fin s'=>∃ v,fin=.done (.ret v)/\Q v s') E s:=by
 have nd:=D.nd
 simp only[Dr,Az,Ex,or_false,not_or,not_false_eq_true,Fz,and_true] at nd
 obtain⟨⟨zI,B,z1,z2⟩,⟨IO,I1,I2⟩,⟨L,S⟩,j⟩:=nd
 obtain⟨W,aI,aO,a1,a2⟩:=D.a
 obtain⟨bz,bI,bO,b1,b2⟩:=D.b
 show Ax _ _ (field (.ref z) 2 >>= fun q=>_) _ _ _
 refine Aa (Fl hz rfl (x:=.bool false) rfl ?_)
 show Ax _ _ (field (.ref z) 3 >>= fun q=>_) _ _ _
 refine Aa (Fl hz rfl (x:=.ref TI) rfl (Aa (Gg hI rfl ?_)))
 show Ax _ _ (Fv (.ref z) >>= fun q=>_) _ _ _
 refine Aa ?_
 unfold Fv
 refine Aa (Fl hz rfl (x:=.none) rfl (Ag ?_))
 simp only[if_true]
 refine Aa (Ej (Aa (Fl hz rfl (x:=.ref TO) rfl (Aa (Im hz (by simp) fun g1 q1 p=>Aa ?_)))))
 simp only[Jj,List.zipIdx_nil,List.forIn_cons,List.forIn_nil]
 have n:∀ c,c=i1\/c=l1->c≠z/\c≠TO/\c≠i2:=fun c hc=>by
  rcases hc with rfl | rfl
  ·exact⟨Bq z1,Bq L,j⟩
  ·exact⟨W,aO,a2⟩
 have i:∀ c,c=i2\/c=l2->c≠z/\c≠TO/\c≠i1:=fun c hc=>by
  rcases hc with rfl | rfl
  ·exact⟨Bq z2,Bq S,Bq j⟩
  ·exact⟨bz,bO,b1⟩
 refine Aa (Aa (Ot ?_))
 show Ax _ _ (Ea (.ref i1) >>= fun q=>_) _ _ _
 refine Aa (F.item _ _ {s with heap:=g1} k x _ (F.keep k _ _ h1 fun c hc o e=>p.extBut c o (n c hc).1 e) hx fun Y t2 l=>Ag ?_)
 have K:Hz Y TO a b:=l.extBut _ _ L (p.extBut _ _ (Bq B) V)
 refine Aa (Gg K rfl (Aa (Oe K fun H C h=>Aa (wpAny_letGo (Ag ?_)))))
 replace C:Hz H TO x b:=C
 refine Aa (Aa (Ot ?_))
 show Ax _ _ (Ea (.ref i2) >>= fun q=>_) _ _ _
 refine Aa (G.item _ _ {s with heap:=H} k y _ (G.keep k _ _ X fun c hc o e=>h.extBut c o (i c hc).2.1 (l.extBut c o (i c hc).2.2 (p.extBut c o (i c hc).1 e))) hy fun g4 Z t=>Ag ?_)
 have T:Hz g4 TO x b:=t.extBut _ _ S C
 refine Aa (Gg T rfl (Aa (Oe T fun d u r=>Aa (wpAny_letGo (Ag (Ag ?_))))))
 replace u:Hz d TO x y:=u
 refine Aa (Gg u rfl (Aa (wpAny_newTuple ?_)))
 have f:d.objs.size=s.heap.objs.size:=by rw[r.1,t.1,h.1,l.1,p.1]
 have N:Oi d z TI TO .ellipsis:=r.extBut _ _ B (t.extBut _ _ z2 (h.extBut _ _ B (l.extBut _ _ z1 q1)))
 have R:z < d.objs.size:=Ak N
 refine Aa (m:=Builtin.SmallTypes.ownedTupleHandOut _ _) ?_
 unfold Builtin.SmallTypes.ownedTupleHandOut
 have z6:Oi (d.push {cls:=.type "tuple",data:=.seq #[x,y]}) z TI TO .ellipsis:=Af _ N
 refine Aa (Im z6 (by simp) fun g7 z7 P=>Im z7 (by simp) fun g z8 I=>Ag ⟨_,rfl,?_⟩)
 have up:∀ c o,c≠z->d.get? c=some o->g.get? c=some o:=fun c o hc e=>I.extBut _ _ hc (P.extBut _ _ hc (Af _ e))
 have J:Hz g d.objs.size x y:=I.extBut _ _ (Dy R) (P.extBut _ _ (Dy R) (Ap _ rfl))
 have r1:S1 (k + 1) g:=F.keep _ _ _ t2 fun c hc o e=>up c o (n c hc).1 (r.extBut _ _ (n c hc).2.1 (t.extBut _ _ (n c hc).2.2 (h.extBut _ _ (n c hc).2.1 e)))
 have r2:S2 (k + 1) g:=G.keep _ _ _ Z fun c hc o e=>up c o (i c hc).1 (r.extBut _ _ (i c hc).2.1 e)
 show Q (.ref d.objs.size) _
 replace z8:Oi g z TI TO (Gv d.objs.size):=z8
 rw[f] at z8 J ⊢
 exact U g z8 (up _ _ (Bq B) u) r1 r2 J fun c o O M c3 c4 e=>up c o O (r.extBut _ _ M (t.extBut _ _ c4 (h.extBut _ _ M (l.extBut _ _ c3 (p.extBut _ _ O e)))))
theorem stop{k:Nat}{a b:Ac}{Q:Fin->Ah->Prop}(L:A.handled=none)(D:Apart z TI TO i1 i2 l1 l2)(m:kN prog w i1 l1 xs S1)(T:kN prog w i2 l2 ys S2)(hz:Oi s.heap z TI TO .none)(hI:Hz s.heap TI (.ref i1) (.ref i2))(U:Hz s.heap TO a b)
  (S:S1 k s.heap) (W:S2 k s.heap) (j:xs[k]? = none\/ys[k]? = none)
  (H:∀ h' e,(∀ c o,c≠z->c≠TO->c≠i1->c≠i2->s.heap.get? c=some o->h'.get? c=some o)->(∃ o,h'.get? e=some o/\o.cls=.type "StopIteration")->E (.ref e) {s with heap:=h'}) :
  Ax (Bk prog w) A (Hh.«zip.__next__» ⟨[.ref z],[]⟩) Q E s:=by
 have nd:=D.nd
 simp only[Dr,Az,Ex,or_false,not_or,not_false_eq_true,Fz,and_true] at nd
 obtain⟨⟨zI,O,z1,z2⟩,⟨IO,I1,I2⟩,⟨Z,O2⟩,p⟩:=nd
 obtain⟨V,aI,aO,a1,a2⟩:=D.a
 obtain⟨bz,bI,bO,b1,b2⟩:=D.b
 have K:∀ c,c=i1\/c=l1->c≠z:=fun c hc=>by rcases hc with rfl | rfl;exact Bq z1;exact V
 have n:∀ c,c=i2\/c=l2->c≠z/\c≠TO/\c≠i1:=fun c hc=>by
  rcases hc with rfl | rfl
  ·exact⟨Bq z2,Bq O2,Bq p⟩
  ·exact⟨bz,bO,b1⟩
 show Ax _ _ (field (.ref z) 2 >>= fun q=>_) _ _ _
 refine Aa (Fl hz rfl (x:=.bool false) rfl ?_)
 show Ax _ _ (field (.ref z) 3 >>= fun q=>_) _ _ _
 refine Aa (Fl hz rfl (x:=.ref TI) rfl (Aa (Gg hI rfl ?_)))
 show Ax _ _ (Fv (.ref z) >>= fun q=>_) _ _ _
 refine Aa ?_
 unfold Fv
 refine Aa (Fl hz rfl (x:=.none) rfl (Ag ?_))
 simp only[if_true]
 refine Aa (Ej (Aa (Fl hz rfl (x:=.ref TO) rfl (Aa (Im hz (by simp) fun G M g=>Aa ?_)))))
 simp only[Jj,List.zipIdx_nil,List.forIn_cons,List.forIn_nil]
 refine Aa (Aa (Ot ?_))
 show Ax _ _ (Ea (.ref i1) >>= fun q=>_) _ _ _
 cases C:xs[k]? with
 | none=>
  refine Aa (m.stop _ _ {s with heap:=G} k _ L (m.keep k _ _ S fun c hc o e=>g.extBut c o (K c hc) e) C fun t e d B=>?_)
  obtain⟨F,ge,i⟩:=B
  have I:Oi t z TI TO .ellipsis:=d _ _ z1 M
  have y:e≠z:=fun u=>by subst u;rw[I] at ge;cases ge;simp at i
  exact Im I (by simp) fun r _ f=>H r e (fun c o l _ v _ u=>f.extBut _ _ l (d _ _ v (g.extBut _ _ l u))) ⟨F,f.extBut _ _ y ge,i⟩
 | some x=>
  have X:ys[k]? = none:=by rcases j with h | h;rw[C] at h;cases h;exact h
  refine Aa (m.item _ _ {s with heap:=G} k x _ (m.keep k _ _ S fun c hc o e=>g.extBut c o (K c hc) e) C fun t t2 d=>Ag ?_)
  have J:Hz t TO a b:=d.extBut _ _ Z (g.extBut _ _ (Bq O) U)
  refine Aa (Gg J rfl (Aa (Oe J fun r o3 f=>Aa (wpAny_letGo (Ag ?_)))))
  refine Aa (Aa (Ot ?_))
  show Ax _ _ (Ea (.ref i2) >>= fun q=>_) _ _ _
  refine Aa (T.stop _ _ {s with heap:=r} k _ L (T.keep k _ _ W fun c hc o e=>f.extBut c o (n c hc).2.1 (d.extBut c o (n c hc).2.2 (g.extBut c o (n c hc).1 e))) X fun Y e R B=>?_)
  obtain⟨F,ge,i⟩:=B
  have P:Oi Y z TI TO .ellipsis:=R _ _ z2 (f.extBut _ _ O (d.extBut _ _ z1 M))
  have y:e≠z:=fun u=>by subst u;rw[P] at ge;cases ge;simp at i
  exact Im P (by simp) fun g5 _ N=>H g5 e (fun c o l c2 v c4 u=>N.extBut _ _ l (R _ _ c4 (f.extBut _ _ c2 (d.extBut _ _ v (g.extBut _ _ l u))))) ⟨F,N.extBut _ _ y ge,i⟩
end
end Zt
end PySem
namespace PySem
namespace Zt
open PyProof.Rows L2 PySem.Spec
section
variable {prog:Bl}{w:Cb}{A:Bv}{E:Ac->Ah->Prop}{s:Ah}{z TI TO i1 i2 l1 l2:Addr}{xs ys:Array Ac}{S1 S2:Nat->Heap->Prop}
theorem next_item{k:Nat}{x y a b:Ac}{Q:Option Ac->Ah->Prop}(D:Apart z TI TO i1 i2 l1 l2)(g:kN prog w i1 l1 xs S1)(p:kN prog w i2 l2 ys S2)(hz:Oi s.heap z TI TO .none)(e:Hz s.heap TI (.ref i1) (.ref i2))(h:Hz s.heap TO a b)
  (u:S1 k s.heap) (l:S2 k s.heap) (i:xs[k]? = some x) (f:ys[k]? = some y)
  (q:∀ h',Oi h' z TI TO (Gv s.heap.objs.size)->Hz h' TO x y->S1 (k + 1) h'->S2 (k + 1) h'->Hz h' s.heap.objs.size x y->(∀ c o,c≠z->c≠TO->c≠i1->c≠i2->s.heap.get? c=some o->h'.get? c=some o)->Q (some (.ref s.heap.objs.size)) {s with heap:=h'}) :
  Ax (Bk prog w) A (Ia (.ref z)) Q E s:=by
 have ty:s.TypeIs (.ref z) "zip":=⟨_,hz,rfl⟩
 unfold Ia
 exact Aa (Kd (Ee (name:=Cz "__next__") ty Nn (De Nn ty F.entry_zip_next (item D g p hz e h u l i f fun h' t m n d j r=>Ag (q h' t m n d j r)) (F.args_zip_next_1 _))))
theorem next_stop{k:Nat}{a b:Ac}{Q:Option Ac->Ah->Prop}(i:A.handled=none)(D:Apart z TI TO i1 i2 l1 l2)(n:kN prog w i1 l1 xs S1)(l:kN prog w i2 l2 ys S2)(hz:Oi s.heap z TI TO .none)(f:Hz s.heap TI (.ref i1) (.ref i2))(h:Hz s.heap TO a b)
  (p:S1 k s.heap) (j:S2 k s.heap) (d:xs[k]? = none\/ys[k]? = none)
  (m:∀ h',(∀ c o,c≠z->c≠TO->c≠i1->c≠i2->s.heap.get? c=some o->h'.get? c=some o)->Q none {s with heap:=h'}):Ax (Bk prog w) A (Ia (.ref z)) Q E s:=by
 have ty:s.TypeIs (.ref z) "zip":=⟨_,hz,rfl⟩
 unfold Ia
 refine Aa (Kd (Ee (name:=Cz "__next__") ty Nn (De Nn ty F.entry_zip_next (stop i D n l hz f h p j d fun h' e hk ⟨o,g,hc⟩=>?_) (F.args_zip_next_1 _))))
 exact Aa (Jt (T:="StopIteration") (b:=true) ⟨o,g,hc⟩ isSubtype_stop (Ag (m _ hk)))
end
abbrev zh1(h:Heap)(a:Addr):Heap:=h.push {cls:=.type "tuple_iterator",data:=.fields #[.ref a,.int 0 0]}
abbrev zh2(h:Heap)(a b:Addr):Heap:=(zh1 h a).push {cls:=.type "tuple_iterator",data:=.fields #[.ref b,.int 0 0]}
abbrev zh3(h:Heap)(a b:Addr):Heap:=(zh2 h a b).push {cls:=.type "tuple",data:=.seq #[.ref h.objs.size,.ref (zh1 h a).objs.size]}
abbrev zh4(h:Heap)(a b:Addr):Heap:=(zh3 h a b).push {cls:=.type "tuple",data:=.seq #[.none,.none]}
abbrev zh5(h:Heap)(a b:Addr):Heap:=(zh4 h a b).push {cls:=.type "zip",data:=.fields #[.none,.bool false,.bool false,.ref (zh2 h a b).objs.size,.ref (zh3 h a b).objs.size]}
theorem meets_new(a b:Addr)(xs ys:Array Ac) :
  Meets (Hh.«zip.__new__» ⟨[.type "zip",.ref a,.ref b],[]⟩) (fun _ R s=>s.heap.IsTuple a xs/\s.heap.IsTuple b ys/\R (.ok (.ret (.ref (zh4 s.heap a b).objs.size))) {s with heap:=zh5 s.heap a b}):=
 .of_wp fun prog w A R s h=>by
  obtain⟨c,g,d,tk,os⟩:=s;obtain⟨l,k,h⟩:=h
  have f:=sub_zip
  have i:Heap.IsTuple (Shared.heap ⟨c,g,d,tk,os⟩) a xs:=l
  have j:Heap.IsTuple (Shared.heap ⟨c.push {cls:=.type "tuple_iterator",data:=.fields #[.ref a,.int 0 0]},g,d,tk,os⟩) b ys:=by
   obtain⟨o,e,r⟩:=(show c.IsTuple b ys from k)
   exact⟨o,Af _ e,r⟩
  wp_walk using wpAny_pyIter_tuple i,wpAny_pyIter_tuple j
  exact⟨_,rfl,h⟩
end Zt
end PySem
namespace L2
open PySem PySem.Spec PyProof.Rows
def rW(K:Ae)(a b:Addr)(xs ys:List V):It:=
 ⟨fun i H=>bM K H a xs/\bM K H b ys/\i < xs.length/\i < ys.length,
   fun i H x H'=>∃ p u v,xs[i]? = some u/\ys[i]? = some v/\H p=none/\x=.ref p/\H'=aN H p (.tup [u,v]),
   fun i H=>bM K H a xs/\bM K H b ys/\(xs.length<=i\/ys.length<=i)⟩
theorem TJ{P:Bl}{w:Cb}{K:Ae}{es:List Expr}{kx:Nat}{px:Pos}(a b z TI TO i1 i2:Addr)(xs ys:List V)(D:Zt.Apart z TI TO i1 i2 a b) :
  kK P w K (.Tuple es kx px) (rW K a b xs ys) [z,TI,TO,i1,i2] z (fun i h=>Oi h z TI TO .none/\Hz h TI (.ref i1) (.ref i2)/\(∃ c d,Hz h TO c d)/\h.IsTupleIter i1 a i/\h.IsTupleIter i2 b i) where
 mem:=by simp
 obj:=fun i h st c hc=>by
  obtain⟨n,l,⟨p,q,B⟩,⟨o4,t,_,d4⟩,⟨o5,A,_,d5⟩⟩:=st
  simp only[Az,Ek,or_false] at hc
  rcases hc with rfl | rfl | rfl | rfl | rfl
  ·exact⟨_,n,fun v g=>nomatch g⟩
  ·exact⟨_,l,fun v g=>nomatch g⟩
  ·exact⟨_,B,fun v g=>nomatch g⟩
  ·exact⟨_,t,fun v g=>by rw[d4] at g;cases g⟩
  ·exact⟨_,A,fun v g=>by rw[d5] at g;cases g⟩
 keep:=fun i h h' st k=>by
  obtain⟨n,l,⟨p,q,B⟩,⟨o4,t,r4⟩,⟨o5,A,r5⟩⟩:=st
  exact⟨k z (by simp) _ n,k TI (by simp) _ l,⟨p,q,k TO (by simp) _ B⟩,⟨o4,k i1 (by simp) _ t,r4⟩,⟨o5,k i2 (by simp) _ A,r5⟩⟩
 item:=by
  intro X T hw U hc i m s σ H E I hf st W
  subst T hw U
  obtain⟨n,l,⟨c,d,B⟩,t,A⟩:=st
  obtain⟨L,G,hi,hj⟩:=W
  obtain⟨its,R,pl,hz⟩:=I.tuple L
  obtain⟨j,J,F,hz2⟩:=I.tuple G
  obtain⟨u,hu,ru⟩:=R.get (An hi)
  obtain⟨v,hv,Z⟩:=J.get (An hj)
  refine Zt.next_item D (Zt.side_tuple i1 a D.a.2.2.2.1 its.toArray) (Zt.side_tuple i2 b D.b.2.2.2.2 j.toArray) n l B ⟨t,pl⟩ ⟨A,F⟩ (x:=u) (y:=v) (by simpa using hu) (by simpa using hv) fun h' c1 c2 c3 c4 c5 hk=>?_
  refine⟨_,rfl,wpAny_letOwnedTupleGo_zip c1 fun C z' sb=>?_⟩
  have nd:=D.nd
  simp only[Dr,Az,Ex,or_false,not_or,not_false_eq_true,Fz,and_true] at nd
  obtain⟨⟨zI,zO,z1,z2⟩,⟨IO,I1',Q⟩,⟨O1,O2⟩,n12⟩:=nd
  have O:H s.heap.objs.size=none:=I.hok.fresh (Ai _)
  have N:z < s.heap.objs.size:=Ak n
  have M:∀ q o,q∉[z,TI,TO,i1,i2]->s.heap.get? q=some o->C.get? q=some o:=fun q o f e=>by
   simp only[Az,Ek,or_false,not_or] at f
   exact(sb.2 q f.1).trans (hk q o f.1 f.2.2.1 f.2.2.2.1 f.2.2.2.2 e)
  have S:C.get? s.heap.objs.size=some {cls:=.type "tuple",data:=.seq [u,v].toArray}:=(sb.2 _ (Dy N)).trans c5
  have I1:Inv X m σ (aN H s.heap.objs.size (.tup [xs[i],ys[i]])) {s with heap:=C,toks:=s.toks}:=I.laidT (its:=[u,v]) hf M (by show 2<=Aj;decide) (.cons ru (.cons Z .nil)) S
  have low:∀ q∈[z,TI,TO,i1,i2],q < s.heap.objs.size:=fun q f=>by
   simp only[Az,Ek,or_false] at f
   rcases f with rfl | rfl | rfl | rfl | rfl
   ·exact N
   ·exact Ak l
   ·exact Ak B
   ·obtain⟨_,e,_⟩:=t;exact Ak e
   ·obtain⟨_,e,_⟩:=A;exact Ak e
  refine⟨.ref s.heap.objs.size,_,I1,rfl,⟨s.heap.objs.size,xs[i],ys[i],An hi,An hj,O,rfl,rfl⟩,⟨z',(sb.2 _ (Bq zI)).trans (hk _ _ (Bq zI) IO I1' Q l),⟨u,v,(sb.2 _ (Bq zO)).trans c2⟩,?_,?_⟩,fun q f=>?_⟩
  ·obtain⟨o,e,r⟩:=c3.1;exact⟨o,(sb.2 _ (Bq z1)).trans e,r⟩
  ·obtain⟨o,e,r⟩:=c4.1;exact⟨o,(sb.2 _ (Bq z2)).trans e,r⟩
  ·rw[bL (Bf (low q f))];exact(hf q f).1
 done:=by
  intro X T hw U hc i m s σ H E I hf st W
  subst T hw U
  obtain⟨n,l,⟨c,d,B⟩,t,A⟩:=st
  obtain⟨L,G,Y⟩:=W
  obtain⟨its,R,pl,hz⟩:=I.tuple L
  obtain⟨j,J,F,hz2⟩:=I.tuple G
  have l1:=R.length
  have l2:=J.length
  refine Zt.next_stop (I.ok.hd hc) D (Zt.side_tuple i1 a D.a.2.2.2.1 its.toArray) (Zt.side_tuple i2 b D.b.2.2.2.2 j.toArray) n l B ⟨t,pl⟩ ⟨A,F⟩ (Y.elim (fun q=>.inl (by simp;lia)) fun q=>.inr (by simp;lia)) fun h' hk=>⟨rfl,?_⟩
  exact I.turnedT (tk:=s.toks) hf fun q o f e=>hk q o (fun y=>f (by simp[y])) (fun y=>f (by simp[y])) (fun y=>f (by simp[y])) (fun y=>f (by simp[y])) e
 self:=fun _ _ _ _ _ st h=>Nh st.1 h
theorem TL(n:Nat) : [n + 4,n + 2,n + 3,n,n + 1].Nodup:=by
 simp only[Dr,Az,Ex,or_false,not_or,not_false_eq_true,Fz,and_true]
 lia
theorem rX{n q:Nat}(h:q∈[n + 4,n + 2,n + 3,n,n + 1]):n<=q:=by
 simp only[Az,Ek,or_false] at h
 lia
section
variable {X:Cx}
theorem TM{f:List (Addr×Obj)}{d:Ah}{x:St}{H1:Hp}{R:It->Hp->Prop}{a b:Addr}{xs ys:List V}{es:List Expr}{D:Nat}{H:Pos}(i:Inv X f x H1 d)(n:bM X.K H1 a xs)(m:bM X.K H1 b ys)(q:R (rW X.K a b xs ys) H1) :
  Ax (Bk X.prog X.w) X.A (call (.type "zip") [.ref a,.ref b]) (fun v d=>Ax (Bk X.prog X.w) X.A (Og v) (pB X f x (.Tuple es D H) R) X.xe d) X.xe d:=by
 obtain⟨its,G,pl,hz⟩:=i.tuple n
 obtain⟨g,C,h,I⟩:=i.tuple m
 have la:a < d.heap.objs.size:=by obtain⟨_,e,_⟩:=(show d.heap.IsTuple a its.toArray from pl);exact Ak e
 have k:b < d.heap.objs.size:=by obtain⟨_,e,_⟩:=(show d.heap.IsTuple b g.toArray from h);exact Ak e
 have s:(Zt.zh1 d.heap a).objs.size=d.heap.objs.size + 1:=Ds ..
 have r:(Zt.zh2 d.heap a b).objs.size=d.heap.objs.size + 2:=by rw[Ds,s]
 have p:(Zt.zh3 d.heap a b).objs.size=d.heap.objs.size + 3:=by rw[Ds,r]
 have z:(Zt.zh4 d.heap a b).objs.size=d.heap.objs.size + 4:=by rw[Ds,p]
 have j:∀ c o,d.heap.get? c=some o->(Zt.zh5 d.heap a b).get? c=some o:=fun c o e=>Af _ (Af _ (Af _ (Af _ (Af _ e))))
 have l:(Zt.zh5 d.heap a b).get? (Zt.zh4 d.heap a b).objs.size=some _:=Ap _ rfl
 have B:(Zt.zh5 d.heap a b).get? (Zt.zh3 d.heap a b).objs.size=some _:=Af _ (Ap _ rfl)
 have y:(Zt.zh5 d.heap a b).get? (Zt.zh2 d.heap a b).objs.size=some _:=Af _ (Af _ (Ap _ rfl))
 have t:(Zt.zh5 d.heap a b).get? (Zt.zh1 d.heap a).objs.size=some _:=Af _ (Af _ (Af _ (Ap _ rfl)))
 have E:(Zt.zh5 d.heap a b).get? d.heap.objs.size=some _:=Af _ (Af _ (Af _ (Af _ (Ap _ rfl))))
 refine callType_new F.called_zip (by decide) (F.typeCall_zip_2 _ _) (F.newCall_zip_2 _ _) (fun obj=>F.args_object_init_3 obj _ _) F.entry_zip_new (Zt.meets_new a b its.toArray g.toArray) ⟨pl,h,⟨_,l,rfl⟩,?_⟩
 refine Nh l ?_
 rw[r,p,z] at l
 rw[s,r] at y
 rw[p] at B
 rw[s] at t
 rw[z]
 refine⟨d.heap.objs.size + 4,[d.heap.objs.size + 4,d.heap.objs.size + 2,d.heap.objs.size + 3,d.heap.objs.size,d.heap.objs.size + 1],_,_,H1,rfl,i.kept (t':=d.toks) j,
  TJ a b (d.heap.objs.size + 4) (d.heap.objs.size + 2) (d.heap.objs.size + 3) d.heap.objs.size (d.heap.objs.size + 1) xs ys ⟨TL _,⟨gX 4 la,gX 2 la,gX 3 la,rT la,gX 1 la⟩,⟨gX 4 k,gX 2 k,gX 3 k,rT k,gX 1 k⟩⟩,⟨l,y,⟨_,_,B⟩,⟨_,E,rfl,rfl⟩,⟨_,t,rfl,rfl⟩⟩,fun q u=>i.fpOk (rX u) (i.hok.fresh (rX u)),q⟩
theorem TN{d:List (Addr×Obj)}{c:Ah}{o:St}{H1:Hp}{R:It->Hp->Prop}{a b:Addr}{xs ys:List V}{es:List Expr}{s:Nat}{x:Pos}(g:Inv X d o H1 c)(j:a9 X.K H1 a xs)(i:a9 X.K H1 b ys)(q:R (rV X.K a b xs ys) H1) :
  Ax (Bk X.prog X.w) X.A (call (.type "zip") [.ref a,.ref b]) (fun v c=>Ax (Bk X.prog X.w) X.A (Og v) (pB X d o (.Tuple es s x) R) X.xe c) X.xe c:=by
 obtain⟨its,u,pl,hz⟩:=g.list j
 obtain⟨m,r,f,B⟩:=g.list i
 have la:a < c.heap.objs.size:=by obtain⟨_,e,_⟩:=pl.isList;exact Ak e
 have h:b < c.heap.objs.size:=by obtain⟨_,e,_⟩:=f.isList;exact Ak e
 refine call_zip_2 pl.isList f.isList fun h' n p t y z C k=>Nh n ?_
 refine⟨c.heap.objs.size + 4,[c.heap.objs.size + 4,c.heap.objs.size + 2,c.heap.objs.size + 3,c.heap.objs.size,c.heap.objs.size + 1],_,_,H1,rfl,g.kept (t':=c.toks) k,
  SY a b _ _ _ _ _ xs ys ⟨nQ 2 4 (by decide),nQ 3 4 (by decide),CN 4 (by decide),nQ 1 4 (by decide),nQ 2 3 (by decide),v3 2 (by decide),nQ 2 1 (by decide),v3 3 (by decide),nQ 3 1 (by decide),CN 1 (by decide),gX 4 la,gX 3 la,rT la,gX 1 la,gX 4 h,gX 3 h,rT h,gX 1 h⟩,⟨n,p,⟨_,_,t⟩,y,z⟩,fun q l=>g.fpOk (rX l) (g.hok.fresh (rX l)),q⟩
def TQ(K:Ae)(d:TA):TI:=fun c H R=>d c H fun vs H1=>∃ a b xs ys,vs=[.ref a,.ref b]/\((bM K H1 a xs/\bM K H1 b ys/\R (rW K a b xs ys) H1)\/(a9 K H1 a xs/\a9 K H1 b ys/\R (rV K a b xs ys) H1))
theorem TR{a b:Expr}{j:TA}{p pos:Pos}{es:List Expr}{o:Nat}{n:Pos}(m:Gl X "zip")(r:X.mg "zip" = none)(ha:PA X [a,b] j)(hs:Bj [a,b] X.env=[(false,eval a X.env),(false,eval b X.env)]:=by rfl)(c:Bj [b] X.env=[(false,eval b X.env)]:=by rfl) :
  PI X (.Tuple es o n) (.Call (.Name "zip" p) [a,b] [] pos) (TQ X.K j):=by
 intro d s t H R I h
 refine Call_ (i9 I m r S4 (Dv (aZ (ha pos d s t H _ I h) fun us x ⟨vs,H1,i,l,g⟩=>?_) (by rw[hs,c]) (by rw[c];rfl)))
 obtain⟨a,b,xs,ys,rfl,g⟩:=g
 obtain⟨u,v,rfl,k,w⟩:=vals2 l
 cases k;cases w
 rcases g with⟨f,e,q⟩ | ⟨f,e,q⟩
 ·exact TM i f e q
 ·exact TN i f e q
end
section
variable {X:Cx}
end
section
variable {X:Cx}
end
end L2
namespace L3
open PySem PySem.Spec PyProof.Rows L2
abbrev SV:=L2.St
inductive W where
 | non | bl (b:Bool) | int (i:Int) | str (x:Str) | ty (n:String) | tup (ws:List W) | rl (ws:List W) | sc (ws:List W) | ref (a:Addr)
 | dk (kvs:List (aD×W)) | dt (kvs:List (List aD×W)) | fk (kvs:List (aD×W)) | ft (kvs:List (List aD×W))
inductive MO where
 | lst (ws:List W) | dK (kvs:List (aD×W)) | dT (kvs:List (List aD×W)) | fix (vs:List V) | ins (C dx:Addr) (fs:List (Str×W))
abbrev Mm:=Addr->Option MO
def put(M:Mm)(a:Addr)(o:MO):Mm:=fun b=>if b=a then some o else M b
def del(M:Mm)(a:Addr):Mm:=fun b=>if b=a then none else M b
theorem bC{M:Mm}{a:Addr}{o:MO}:put M a o a=some o:=by unfold put;rw[if_pos rfl]
theorem aP{M:Mm}{a b:Addr}{o:MO}(h:b≠a):put M a o b=M b:=by unfold put;rw[if_neg h]
theorem kO{M:Mm}{a:Addr}{o u:MO}:put (put M a o) a u=put M a u:=by
 funext b;unfold put;split <;> rfl
theorem rY{M:Mm}{a:Addr}{o:MO}(h:M a=none):del (put M a o) a=M:=by
 funext b;unfold del put;split
 ·rename_i e;rw[e,h]
 ·rfl
theorem pN{M:Mm}{a:Addr}:del M a a=none:=by unfold del;rw[if_pos rfl]
theorem TU{M:Mm}{a b:Addr}{o u:MO}(h:a≠b):put (put M a o) b u=put (put M b u) a o:=by
 funext c
 unfold put
 by_cases e:c=b
 ·by_cases d:c=a
  ·exact absurd (d.symm.trans e) h
  ·rw[if_pos e,if_neg d,if_pos e]
 ·by_cases d:c=a
  ·rw[if_neg e,if_pos d,if_pos d]
  ·rw[if_neg e,if_neg d,if_neg d,if_neg e]
theorem TV{M:Mm}{a:Addr}{o:MO}(h:M a=some o):put M a o=M:=by
 funext b;unfold put;split
 ·rename_i e;rw[e,h]
 ·rfl
def Sub(M M':Mm):Prop:=∀ a o,M a=some o->M' a=some o
theorem Sub.refl(M:Mm):Sub M M:=fun _ _ h=>h
theorem Sub.trans{M M1 M2:Mm}(a:Sub M M1)(b:Sub M1 M2):Sub M M2:=fun c o h=>b c o (a c o h)
theorem Sub.new{M:Mm}{a:Addr}{o:MO}(h:M a=none):Sub M (put M a o):=fun b u e=>by
 rw[aP (fun z=>by rw[z,h] at e;cases e)];exact e
theorem Sub.put{M M':Mm}{a:Addr}{o:MO}(h:Sub M M'):Sub (put M a o) (put M' a o):=fun b u e=>by
 unfold L3.put at e ⊢
 split at e
 ·rename_i z;rw[if_pos z];exact e
 ·rename_i z;rw[if_neg z];exact h b u e
theorem Sub.del{M:Mm}{a:Addr}:Sub (del M a) M:=fun b u e=>by
 unfold L3.del at e
 split at e
 ·cases e
 ·exact e
theorem Sub.non{M M':Mm}(h:Sub M M'){a:Addr}(e:M' a=none):M a=none:=by
 cases q:M a with
 | none=>rfl
 | some o=>rw[h a o q] at e;cases e
def kP(K:Ae)(H:Hp)(a:Addr)(xs:List V):Prop:=
 (∃ o,H a=some (.frz o (.lst xs)))\/
  ∃ (o:Obj) (its:Array Ac) (n:Nat),K.lookup a=some o/\o.cls=.type "list"/\o.dict=none/\o.data=.seq its n/\its.size<=Aj/\aR xs its.toList
theorem kP.sq{K:Ae}{H:Hp}{a:Addr}{xs:List V}(h:kP K H a xs):a9 K H a xs:=by
 rcases h with⟨o,h⟩ | h
 ·exact .inl (.inr ⟨o,h⟩)
 ·exact .inr h
mutual
inductive AV(K:Ae)(H:Hp)(M:Mm):V->W->Prop
 | non:AV K H M .non .non
 | bl (b:Bool):AV K H M (.bl b) (.bl b)
 | int (i:Int):AV K H M (.int i) (.int i)
 | str (x:Str):AV K H M (.str x) (.str x)
 | ty (n:String):AV K H M (.ty n) (.ty n)
 | tup {a:Addr} {xs:List V} {ws:List W}:H a=some (.tup xs)->aL K H M xs ws->AV K H M (.ref a) (.tup ws)
 | sc {a:Addr} {xs:List V} {ws:List W}:kP K H a xs->aL K H M xs ws->AV K H M (.ref a) (.sc ws)
 | rl {a:Addr} {xs:List V} {ws:List W}:H a=some (.lst xs)->M a=none->aL K H M xs ws->AV K H M (.ref a) (.rl ws)
 | ref (a:Addr):AV K H M (.ref a) (.ref a)
 | dk {a:Addr} {ks:List (aD×V)} {kvs:List (aD×W)}:H a=some (.dK ks)->M a=none->ks.map Dh=kvs.map Dh->aL K H M (ks.map Jr) (kvs.map Jr)->AV K H M (.ref a) (.dk kvs)
 | dt {a:Addr} {ks:List (List aD×V)} {kvs:List (List aD×W)}:H a=some (.dT ks)->M a=none->ks.map Dh=kvs.map Dh->aL K H M (ks.map Jr) (kvs.map Jr)->AV K H M (.ref a) (.dt kvs)
 | fk {a:Addr} {o:Obj} {ks:List (aD×V)} {kvs:List (aD×W)}:H a=some (.frz o (.dK ks))->ks.map Dh=kvs.map Dh->aL K H M (ks.map Jr) (kvs.map Jr)->AV K H M (.ref a) (.fk kvs)
 | ft {a:Addr} {o:Obj} {ks:List (List aD×V)} {kvs:List (List aD×W)}:H a=some (.frz o (.dT ks))->ks.map Dh=kvs.map Dh->aL K H M (ks.map Jr) (kvs.map Jr)->AV K H M (.ref a) (.ft kvs)
inductive aL(K:Ae)(H:Hp)(M:Mm):List V->List W->Prop
 | nil:aL K H M [] []
 | cons {v:V} {vs:List V} {w:W} {ws:List W}:AV K H M v w->aL K H M vs ws->aL K H M (v :: vs) (w :: ws)
end
abbrev bN(K:Ae)(H:Hp)(M:Mm)(κ:Type):List (κ×V)->List (κ×W)->Prop:=Iq fun p q=>p.1=q.1/\AV K H M p.2 q.2
theorem pO{K:Ae}{H:Hp}{M:Mm}{κ:Type}:∀ {ks:List (κ×V)} {kvs:List (κ×W)},ks.map Dh=kvs.map Dh->aL K H M (ks.map Jr) (kvs.map Jr)->bN K H M κ ks kvs
 | [],[],_,_=>.nil
 | [],_ :: _,e,_=>by simp at e
 | _ :: _,[],e,_=>by simp at e
 | p :: ps,q :: a,e,h=>by
  rw[Ar,Ar] at e h
  rw[Cy] at e
  cases h with
  | cons x r=>exact .cons ⟨e.1,x⟩ (pO e.2 r)
theorem bN.keys{K:Ae}{H:Hp}{M:Mm}{κ:Type}{ks:List (κ×V)}{kvs:List (κ×W)}(h:bN K H M κ ks kvs):ks.map Dh=kvs.map Dh:=by
 induction h with
 | nil=>rfl
 | cons r _ a=>rw[Ar,Ar,a,r.1]
theorem bN.vals{K:Ae}{H:Hp}{M:Mm}{κ:Type}{ks:List (κ×V)}{kvs:List (κ×W)}(h:bN K H M κ ks kvs):aL K H M (ks.map Jr) (kvs.map Jr):=by
 induction h with
 | nil=>exact .nil
 | cons r _ a=>exact .cons r.2 a
def AO(K:Ae)(H:Hp)(M:Mm)(a:Addr):MO->Prop
 | .lst ws=>∃ vs,H a=some (.lst vs)/\aL K H M vs ws
 | .dK kvs=>∃ ks,H a=some (.dK ks)/\bN K H M aD ks kvs
 | .dT kvs=>∃ ks,H a=some (.dT ks)/\bN K H M (List aD) ks kvs
 | .fix vs=>H a=some (.lst vs)
 | .ins C c fs=>∃ b,H a=some (.ins C c b)/\bN K H M Str b fs
def AM(K:Ae)(H:Hp)(M:Mm):Prop:=∀ a o,M a=some o->AO K H M a o
structure Kp(H:Hp)(M:Mm)(H':Hp)(M':Mm):Prop where
 fr:∀ a o,M a=none->H a=some o->H' a=some o/\M' a=none
 dom:∀ a o,M a=some o->∃ u,H' a=some u
structure Go(H:Hp)(M:Mm)(H':Hp)(M':Mm):Prop where
 ht:∀ b xs,H b=some (.tup xs)->H' b=some (.tup xs)
 hf:∀ b o u,H b=some (.frz o u)->H' b=some (.frz o u)
 hl:∀ b o,M b=none->H b=some o->H' b=some o/\M' b=none
section
variable {K:Ae}{H H' H1 H2:Hp}{M M' M1 M2:Mm}{a:Addr}
theorem AO.has{o:MO}(h:AO K H M a o):∃ u,H a=some u:=by
 cases o with
 | lst ws=>obtain⟨vs,e,_⟩:=h;exact⟨_,e⟩
 | dK kvs=>obtain⟨ks,e,_⟩:=h;exact⟨_,e⟩
 | dT kvs=>obtain⟨ks,e,_⟩:=h;exact⟨_,e⟩
 | fix vs=>exact⟨_,h⟩
 | ins C dx fs=>obtain⟨gs,e,_⟩:=h;exact⟨_,e⟩
theorem AM.nonM(b:AM K H M)(h:H a=none):M a=none:=by
 cases q:M a with
 | none=>rfl
 | some o=>obtain⟨u,e⟩:=(b a o q).has;rw[h] at e;cases e
theorem AM.noTup(am:AM K H M){xs:List V}(h:H a=some (.tup xs)):M a=none:=by
 cases q:M a with
 | none=>rfl
 | some o=>
  have:=am a o q
  cases o with
  | lst ws=>obtain⟨vs,e,_⟩:=this;rw[h] at e;cases e
  | dK kvs=>obtain⟨ks,e,_⟩:=this;rw[h] at e;cases e
  | dT kvs=>obtain⟨ks,e,_⟩:=this;rw[h] at e;cases e
  | fix vs=>have e:H a=some (.lst vs):=this;rw[h] at e;cases e
  | ins C dx fs=>obtain⟨gs,e,_⟩:=this;rw[h] at e;cases e
theorem AM.noFrz(am:AM K H M){ob:Obj}{u:HO}(h:H a=some (.frz ob u)):M a=none:=by
 cases q:M a with
 | none=>rfl
 | some o=>
  have:=am a o q
  cases o with
  | lst ws=>obtain⟨vs,e,_⟩:=this;rw[h] at e;cases e
  | dK kvs=>obtain⟨ks,e,_⟩:=this;rw[h] at e;cases e
  | dT kvs=>obtain⟨ks,e,_⟩:=this;rw[h] at e;cases e
  | fix vs=>have e:H a=some (.lst vs):=this;rw[h] at e;cases e
  | ins C dx fs=>obtain⟨gs,e,_⟩:=this;rw[h] at e;cases e
theorem Kp.refl(b:AM K H M):Kp H M H M:=⟨fun a o h e=>⟨e,h⟩,fun a o h=>(b a o h).has⟩
theorem Kp.trans(x:Kp H M H1 M1)(y:Kp H1 M1 H2 M2):Kp H M H2 M2 where
 fr:=fun a o h e=>by
  obtain⟨b,d⟩:=x.fr a o h e
  exact y.fr a o d b
 dom:=fun a o h=>by
  obtain⟨u,e⟩:=x.dom a o h
  cases q:M1 a with
  | none=>exact⟨u,(y.fr a u q e).1⟩
  | some c=>exact y.dom a c q
theorem Kp.sub(x:Kp H M H1 M1)(h:Sub M2 M1):Kp H M H1 M2 where
 fr:=fun a o n e=>⟨(x.fr a o n e).1,h.non (x.fr a o n e).2⟩
 dom:=x.dom
theorem Kp.go(a:AM K H M)(k:Kp H M H' M'):Go H M H' M':=⟨fun b xs e=>(k.fr b _ (a.noTup e) e).1,fun b o u e=>(k.fr b _ (a.noFrz e) e).1,k.fr⟩
theorem Go.sub(h:Sub M' M):Go H M H M':=⟨fun _ _ e=>e,fun _ _ _ e=>e,fun b o n e=>⟨e,h.non n⟩⟩
theorem AV.go(g:Go H M H' M'){v:V}{w:W}(h:AV K H M v w):AV K H' M' v w:=AV.rec (motive_1:=fun v w _=>AV K H' M' v w) (motive_2:=fun vs ws _=>aL K H' M' vs ws) .non .bl .int .str .ty (fun e _ q=>.tup (g.ht _ _ e) q) (fun e _ q=>.sc (e.elim (fun z=>.inl (z.elim fun o q=>⟨o,g.hf _ _ _ q⟩)) .inr) q) (fun e n _ q=>.rl (g.hl _ _ n e).1 (g.hl _ _ n e).2 q) .ref
  (fun e n a _ q=>.dk (g.hl _ _ n e).1 (g.hl _ _ n e).2 a q) (fun e n a _ q=>.dt (g.hl _ _ n e).1 (g.hl _ _ n e).2 a q) (fun e a _ q=>.fk (g.hf _ _ _ e) a q) (fun e a _ q=>.ft (g.hf _ _ _ e) a q) .nil (fun _ _ x r=>.cons x r) h
theorem aL.go(g:Go H M H' M'){vs:List V}{ws:List W}(h:aL K H M vs ws):aL K H' M' vs ws:=aL.rec (motive_1:=fun v w _=>AV K H' M' v w) (motive_2:=fun vs ws _=>aL K H' M' vs ws) .non .bl .int .str .ty (fun e _ q=>.tup (g.ht _ _ e) q) (fun e _ q=>.sc (e.elim (fun z=>.inl (z.elim fun o q=>⟨o,g.hf _ _ _ q⟩)) .inr) q) (fun e n _ q=>.rl (g.hl _ _ n e).1 (g.hl _ _ n e).2 q) .ref
  (fun e n a _ q=>.dk (g.hl _ _ n e).1 (g.hl _ _ n e).2 a q) (fun e n a _ q=>.dt (g.hl _ _ n e).1 (g.hl _ _ n e).2 a q) (fun e a _ q=>.fk (g.hf _ _ _ e) a q) (fun e a _ q=>.ft (g.hf _ _ _ e) a q) .nil (fun _ _ x r=>.cons x r) h
theorem bN.go{κ:Type}{ks:List (κ×V)}{kvs:List (κ×W)}(g:Go H M H' M')(h:bN K H M κ ks kvs):bN K H' M' κ ks kvs:=Paired.mapP h fun p q z=>⟨z.1,z.2.go g⟩
theorem AO.go{o:MO}(g:Go H M H' M')(e:H' a=H a)(h:AO K H M a o):AO K H' M' a o:=by
 cases o with
 | lst ws=>obtain⟨vs,e1,r⟩:=h;exact⟨vs,by rw[e];exact e1,r.go g⟩
 | dK kvs=>obtain⟨vs,e1,r⟩:=h;exact⟨vs,by rw[e];exact e1,r.go g⟩
 | dT kvs=>obtain⟨vs,e1,r⟩:=h;exact⟨vs,by rw[e];exact e1,r.go g⟩
 | fix vs=>exact e.trans h
 | ins C dx fs=>obtain⟨gs,e1,r⟩:=h;exact⟨gs,by rw[e];exact e1,r.go g⟩
theorem AM.sub(b:AM K H M')(h:Sub M M'):AM K H M:=fun a o e=>(b a o (h a o e)).go (Go.sub h) rfl
theorem AV.sub(h:Sub M' M){v:V}{w:W}(x:AV K H M v w):AV K H M' v w:=x.go (Go.sub h)
theorem aL.sub(h:Sub M' M){v:List V}{w:List W}(x:aL K H M v w):aL K H M' v w:=x.go (Go.sub h)
theorem AV.kp(a:AM K H M)(k:Kp H M H' M'){v:V}{w:W}(h:AV K H M v w):AV K H' M' v w:=h.go (k.go a)
theorem aL.kp(a:AM K H M)(k:Kp H M H' M'){vs:List V}{ws:List W}(h:aL K H M vs ws):aL K H' M' vs ws:=h.go (k.go a)
theorem aL.length:∀ {vs:List V} {ws:List W},aL K H M vs ws->vs.length=ws.length
 | _,_,.nil=>rfl
 | _,_,.cons _ r=>by simp[aL.length r]
theorem aL.append:∀ {vs us:List V} {ws a:List W},aL K H M vs ws->aL K H M us a->aL K H M (vs ++ us) (ws ++ a)
 | _,_,_,_,.nil,s=>s
 | _,_,_,_,.cons x r,s=>.cons x (aL.append r s)
theorem aL.getW:∀ {vs:List V} {ws:List W} {i:Nat} {w:W},aL K H M vs ws->ws[i]? = some w->∃ v,vs[i]? = some v/\AV K H M v w
 | _,_,_,_,.nil,e=>by simp at e
 | _,_,0,_,.cons x _,e=>by simp at e;subst e;exact⟨_,rfl,x⟩
 | _,_,i + 1,w,.cons _ r,e=>by
  obtain⟨v,b,a⟩:=aL.getW (i:=i) (w:=w) r (by simpa using e)
  exact⟨v,by simpa using b,a⟩
theorem aL.getV:∀ {vs:List V} {ws:List W} {i:Nat} {v:V},aL K H M vs ws->vs[i]? = some v->∃ w,ws[i]? = some w/\AV K H M v w
 | _,_,_,_,.nil,e=>by simp at e
 | _,_,0,_,.cons x _,e=>by simp at e;subst e;exact⟨_,rfl,x⟩
 | _,_,i + 1,v,.cons _ r,e=>by
  obtain⟨w,b,a⟩:=aL.getV (i:=i) (v:=v) r (by simpa using e)
  exact⟨w,by simpa using b,a⟩
theorem aL.set{v:V}{w:W}(x:AV K H M v w):∀ {vs:List V} {ws:List W} (i:Nat),aL K H M vs ws->aL K H M (vs.set i v) (ws.set i w)
 | _,_,_,.nil=>.nil
 | _,_,0,.cons _ t=>.cons x t
 | _,_,i + 1,.cons q t=>.cons q (aL.set x i t)
theorem aL.take:∀ {vs:List V} {ws:List W} (n:Nat),aL K H M vs ws->aL K H M (vs.take n) (ws.take n)
 | _,_,0,_=>by simp;exact .nil
 | _,_,_ + 1,.nil=>.nil
 | _,_,n + 1,.cons x t=>.cons x (aL.take n t)
theorem aL.drop:∀ {vs:List V} {ws:List W} (n:Nat),aL K H M vs ws->aL K H M (vs.drop n) (ws.drop n)
 | _,_,0,h=>h
 | _,_,_ + 1,.nil=>.nil
 | _,_,n + 1,.cons _ t=>aL.drop n t
theorem aL.dropLast{vs:List V}{ws:List W}(h:aL K H M vs ws):aL K H M vs.dropLast ws.dropLast:=by
 rw[List.dropLast_eq_take,List.dropLast_eq_take,h.length];exact h.take _
theorem aL.flatRep{vs:List V}{ws:List W}(h:aL K H M vs ws):∀ n:Nat,aL K H M (Bu n vs).flatten (Bu n ws).flatten
 | 0=>.nil
 | n + 1=>by
  rw[Gi,Gi,Ir,Ir]
  exact h.append (aL.flatRep h n)
theorem aL.int(a:List Int):aL K H M (a.map V.int) (a.map W.int):=by
 induction a with
 | nil=>exact .nil
 | cons i r b=>exact .cons (.int i) b
theorem CO{p:Addr}{u:HO}(a:H p=none)(hs:∀ b,b≠p->M b=none->M' b=none):Go H M (aN H p u) M':=
 ⟨fun b xs e=>by rw[bL (dZ e a)];exact e,fun b o x e=>by rw[bL (dZ e a)];exact e,fun b o n e=>⟨by rw[bL (dZ e a)];exact e,hs b (dZ e a) n⟩⟩
theorem CP{p:Addr}{o:MO}{u:HO}(a:H p=none):Go H M (aN H p u) (put M p o):=CO a fun b ne n=>by rw[aP ne];exact n
theorem go_same{p:Addr}{u:HO}(a:H p=none):Go H M (aN H p u) M:=CO a fun b ne n=>n
theorem AM.laid{p:Addr}{o:MO}{u:HO}(c:AM K H M)(b:H p=none)(h:AO K (aN H p u) (put M p o) p o):AM K (aN H p u) (put M p o)/\Kp H M (aN H p u) (put M p o):=by
 refine⟨fun a x e=>?_,fun a x h e=>⟨?_,?_⟩,fun a x h=>?_⟩
 ·by_cases ha:a=p
  ·subst ha;rw[bC] at e;cases e;exact h
  ·rw[aP ha] at e
   exact(c a x e).go (CP b) (bL ha)
 ·rw[bL (dZ e b)];exact e
 ·rw[aP (dZ e b)];exact h
 ·obtain⟨y,e⟩:=(c a x h).has
  exact⟨y,by rw[bL (dZ e b)];exact e⟩
theorem CQ{p:Addr}{o u:MO}:Go H (put M p o) H (put M p u):=⟨fun _ _ e=>e,fun _ _ _ e=>e,fun b x n e=>⟨e,by
 have ne:b≠p:=fun z=>by rw[z,bC] at n;cases n
 rw[aP ne] at n ⊢;exact n⟩⟩
theorem AM.tup{p:Addr}{u:HO}(c:AM K H M)(b:H p=none):AM K (aN H p u) M/\Kp H M (aN H p u) M:=by
 refine⟨fun a x e=>?_,fun a x h e=>⟨?_,h⟩,fun a x h=>?_⟩
 ·have ne:a≠p:=fun z=>by rw[z,c.nonM b] at e;cases e
  exact(c a x e).go (go_same b) (bL ne)
 ·rw[bL (dZ e b)];exact e
 ·obtain⟨y,e⟩:=(c a x h).has
  exact⟨y,by rw[bL (dZ e b)];exact e⟩
theorem nR{l:Addr}{c o:MO}{u:HO}(a:AM K H M)(hl:M l=some c):Go H M (aN H l u) (put M l o):=
 ⟨fun b xs e=>by rw[bL (fun z=>by rw[<-z,a.noTup e] at hl;cases hl)];exact e,fun b ob x e=>by rw[bL (fun z=>by rw[<-z,a.noFrz e] at hl;cases hl)];exact e,
   fun b x n e=>by
  have ne:b≠l:=fun z=>by rw[<-z,n] at hl;cases hl
  rw[bL ne,aP ne];exact⟨e,n⟩⟩
theorem AM.write{l:Addr}{c o:MO}{u:HO}(b:AM K H M)(hl:M l=some c)(h:AO K (aN H l u) (put M l o) l o):AM K (aN H l u) (put M l o)/\Kp H M (aN H l u) (put M l o):=by
 refine⟨fun a x e=>?_,fun a x h e=>?_,fun a x h=>?_⟩
 ·by_cases ha:a=l
  ·subst ha;rw[bC] at e;cases e;exact h
  ·rw[aP ha] at e
   exact(b a x e).go (nR b hl) (bL ha)
 ·have:a≠l:=fun z=>by rw[z,hl] at h;cases h
  rw[bL this,aP this];exact⟨e,h⟩
 ·by_cases ha:a=l
  ·subst ha;exact⟨u,dY⟩
  ·obtain⟨y,e⟩:=(b a x h).has
   exact⟨y,by rw[bL ha];exact e⟩
theorem AM.lst(b:AM K H M){ws:List W}(h:M a=some (.lst ws)):∃ vs,H a=some (.lst vs)/\aL K H M vs ws:=b a _ h
theorem aL.newT{p:Addr}{u:HO}{vs:List V}{ws:List W}(a:H p=none)(h:aL K H M vs ws):aL K (aN H p u) M vs ws:=h.go (go_same a)
theorem aL.newL{p:Addr}{u:HO}{o:MO}{vs:List V}{ws:List W}(a:H p=none)(h:aL K H M vs ws):aL K (aN H p u) (put M p o) vs ws:=h.go (CP a)
theorem aL.wr{l:Addr}{a o:MO}{u:HO}{vs:List V}{ws:List W}(b:AM K H M)(hl:M l=some a)(h:aL K H M vs ws):aL K (aN H l u) (put M l o) vs ws:=h.go (nR b hl)
theorem AV.wr{l:Addr}{a o:MO}{u:HO}{v:V}{w:W}(b:AM K H M)(hl:M l=some a)(h:AV K H M v w):AV K (aN H l u) (put M l o) v w:=h.go (nR b hl)
end
abbrev S3:=List (Option W)
abbrev K3:=W->Mm->Prop
abbrev aS:=S3->Mm->K3->Prop
abbrev dO:=S3->Mm->(Bool->Mm->Prop)->Prop
abbrev dS:=S3->Mm->(List W->Mm->Prop)->Prop
abbrev R3:=W->W->Mm->K3->Prop
structure D3 where
 nx:S3->Mm->Prop
 rt:K3
 bk:S3->Mm->Prop:=fun _ _=>False
 ct:S3->Mm->Prop:=fun _ _=>False
abbrev aK:=D3->S3->Mm->Prop
def AS(K:Ae)(H:Hp)(M:Mm):SV->S3->Prop:=Iq fun b a=>∀ w,a=some w->∃ v,b=some v/\AV K H M v w
section
variable {K:Ae}{H H':Hp}{M M':Mm}
theorem AS.kp(c:AM K H M)(k:Kp H M H' M'){a:SV}{b:S3}(h:AS K H M a b):AS K H' M' a b:=
 Paired.mapP h fun f g z w e=>by obtain⟨v,d,r⟩:=z w e;exact⟨v,d,r.kp c k⟩
theorem AS.sub{M':Mm}(g:Sub M' M){a:SV}{b:S3}(h:AS K H M a b):AS K H M' a b:=
 Paired.mapP h fun d f z w e=>by obtain⟨v,c,r⟩:=z w e;exact⟨v,c,r.sub g⟩
theorem AS.get{w:W}:∀ {d:SV} {c:S3} {i:Nat},AS K H M d c->c[i]? = some (some w)->∃ v,d[i]? = some (some v)/\AV K H M v w
 | _,_,_,.nil,e=>by simp at e
 | _,_,0,.cons r _,e=>by
  simp at e
  obtain⟨v,b,a⟩:=r w e
  exact⟨v,by rw[b];rfl,a⟩
 | _,_,i + 1,.cons _ t,e=>by
  obtain⟨v,b,a⟩:=AS.get (i:=i) t (by simpa using e)
  exact⟨v,by simpa using b,a⟩
theorem AS.set{v:V}{w:W}(r:AV K H M v w):∀ {b:SV} {a:S3} (i:Nat),AS K H M b a->AS K H M (b.set i (some v)) (a.set i (some w))
 | _,_,_,.nil=>.nil
 | _,_,0,.cons _ t=>.cons (fun x e=>⟨v,rfl,by cases e;exact r⟩) t
 | _,_,i + 1,.cons q t=>.cons q (AS.set r i t)
theorem AS.nones:∀ n:Nat,AS K H M (Bu n none) (Bu n none)
 | 0=>.nil
 | n + 1=>.cons (fun _ e=>nomatch e) (AS.nones n)
theorem AS.start{vs:List V}{ws:List W}(h:aL K H M vs ws)(n:Nat):AS K H M (vs.map some ++ Bu n none) (ws.map some ++ Bu n none):=by
 induction vs generalizing ws with
 | nil=>cases h;exact AS.nones n
 | cons v vs a=>
  cases h with
  | cons x r=>exact .cons (fun w e=>⟨v,rfl,by cases e;exact x⟩) (a r)
end
def Up(K:Ae)(H:Hp)(M:Mm)(R:K3)(Q:VK):Prop:=∀ v H' w M',Kp H M H' M'->AM K H' M'->AV K H' M' v w->R w M'->Q v H'
def up(K:Ae)(t:aS):TE:=fun b H Q=>∃ a M R,AS K H M b a/\AM K H M/\t a M R/\Up K H M R Q
def jX(K:Ae)(t:dO):TT:=fun c H Q=>∃ (a:S3) (M:Mm) (R:Bool->Mm->Prop),AS K H M c a/\AM K H M/\t a M R/\∀ b H' M',Kp H M H' M'->AM K H' M'->R b M'->Q b H'
def nS(K:Ae)(t:dS):TA:=fun b H Q=>∃ (a:S3) (M:Mm) (R:List W->Mm->Prop),AS K H M b a/\AM K H M/\t a M R/\∀ vs H' ws M',Kp H M H' M'->AM K H' M'->aL K H' M' vs ws->R ws M'->Q vs H'
def gY(K:Ae)(H:Hp)(M:Mm)(R:S3->Mm->Prop)(Q:SV->Hp->Prop):Prop:=∀ b H' a M',Kp H M H' M'->AM K H' M'->AS K H' M' b a->R a M'->Q b H'
structure pP(K:Ae)(H:Hp)(M:Mm)(D:D3)(E:kJ):Prop where
 nx:gY K H M D.nx E.nx
 rt:Up K H M D.rt E.rt
 bk:gY K H M D.bk E.bk
 ct:gY K H M D.ct E.ct
def pQ(K:Ae)(t:aK):TS:=fun E b H=>∃ a M D,AS K H M b a/\AM K H M/\t D a M/\pP K H M D E
section
variable {K:Ae}{H H1:Hp}{M M1:Mm}
theorem Up.kp{R:K3}{Q:VK}(h:Up K H M R Q)(k:Kp H M H1 M1):Up K H1 M1 R Q:=fun v H' w M' c b a r=>h v H' w M' (k.trans c) b a r
theorem gY.kp{R:S3->Mm->Prop}{Q:SV->Hp->Prop}(h:gY K H M R Q)(k:Kp H M H1 M1):gY K H1 M1 R Q:=fun v H' w M' c b a r=>h v H' w M' (k.trans c) b a r
theorem pP.kp{D:D3}{E:kJ}(h:pP K H M D E)(k:Kp H M H1 M1):pP K H1 M1 D E:=⟨h.nx.kp k,h.rt.kp k,h.bk.kp k,h.ct.kp k⟩
theorem Up.at{R:K3}{Q:VK}(h:Up K H M R Q)(a:AM K H M){v:V}{w:W}(b:AV K H M v w)(r:R w M):Q v H:=h v H w M (Kp.refl a) a b r
end
def frz:W->Mm->K3->Prop
 | .ref p,M,R=>(∃ ws,M p=some (.lst ws)/\R (.rl ws) (del M p))\/(∃ kvs,M p=some (.dK kvs)/\R (.dk kvs) (del M p))\/(∃ kvs,M p=some (.dT kvs)/\R (.dt kvs) (del M p))\/R (.ref p) M
 | w,M,R=>R w M
theorem Up.frz{K:Ae}{H:Hp}{M:Mm}{R:K3}{Q:VK}(h:Up K H M R Q):Up K H M (fun w M'=>frz w M' R) Q:=fun v H' w M' k a c r=>by
 have b:=c
 cases c <;> first | exact h _ _ _ _ k a b r | skip
 case ref p=>
  rcases r with⟨ws,e,r⟩ | ⟨kvs,e,r⟩ | ⟨kvs,e,r⟩ | r
  ·obtain⟨vs,f,q⟩:=a.lst e
   exact h _ _ _ _ (k.sub Sub.del) (a.sub Sub.del) (.rl f pN (q.sub Sub.del)) r
  ·obtain⟨ks,f,q⟩:=a _ _ e
   exact h _ _ _ _ (k.sub Sub.del) (a.sub Sub.del) (.dk f pN q.keys (q.vals.sub Sub.del)) r
  ·obtain⟨ks,f,q⟩:=a _ _ e
   exact h _ _ _ _ (k.sub Sub.del) (a.sub Sub.del) (.dt f pN q.keys (q.vals.sub Sub.del)) r
  ·exact h _ _ _ _ k a (.ref p) r
theorem TX{M:Mm}{p:Addr}{ws:List W}{R:K3}(a:M p=none)(r:R (.rl ws) M):frz (.ref p) (put M p (.lst ws)) R:=.inl ⟨ws,bC,by rw[rY a];exact r⟩
theorem TY{M:Mm}{p:Addr}{kvs:List (List aD×W)}{R:K3}(a:M p=none)(r:R (.dt kvs) M):frz (.ref p) (put M p (.dT kvs)) R:=.inr (.inr (.inl ⟨kvs,bC,by rw[rY a];exact r⟩))
def aQ(ws:List W)(M:Mm)(R:K3):Prop:=∀ p,M p=none->R (.ref p) (put M p (.lst ws))
def TZ(kvs:List (aD×W))(M:Mm)(R:K3):Prop:=∀ p,M p=none->R (.ref p) (put M p (.dK kvs))
def iG(kvs:List (List aD×W))(M:Mm)(R:K3):Prop:=∀ p,M p=none->R (.ref p) (put M p (.dT kvs))
theorem aQ.frz{M:Mm}{ws:List W}{R:K3}(r:R (.rl ws) M):aQ ws M fun w M'=>L3.frz w M' R:=fun p a=>TX a r
theorem iG.frz{M:Mm}{kvs:List (List aD×W)}{R:K3}(r:R (.dt kvs) M):iG kvs M fun w M'=>L3.frz w M' R:=fun p a=>TY a r
def cV(t:aS):aS:=fun a M R=>t a M fun w M'=>frz w M' R
def T4(K:Ae)(H:Hp)(M:Mm)(v:V):W->Prop
 | .non=>v=.non
 | .bl b=>v=.bl b
 | .int i=>v=.int i
 | .str x=>v=.str x
 | .ty n=>v=.ty n
 | .tup ws=>∃ a xs,v=.ref a/\H a=some (.tup xs)/\aL K H M xs ws
 | .sc ws=>∃ a xs,v=.ref a/\kP K H a xs/\aL K H M xs ws
 | .rl ws=>∃ a xs,v=.ref a/\H a=some (.lst xs)/\M a=none/\aL K H M xs ws
 | .ref a=>v=.ref a
 | .dk kvs=>∃ a ks,v=.ref a/\H a=some (.dK ks)/\M a=none/\bN K H M aD ks kvs
 | .dt kvs=>∃ a ks,v=.ref a/\H a=some (.dT ks)/\M a=none/\bN K H M (List aD) ks kvs
 | .fk kvs=>∃ a ks,v=.ref a/\(∃ o,H a=some (.frz o (.dK ks)))/\bN K H M aD ks kvs
 | .ft kvs=>∃ a ks,v=.ref a/\(∃ o,H a=some (.frz o (.dT ks)))/\bN K H M (List aD) ks kvs
section
variable {K:Ae}{H:Hp}{M:Mm}{v:V}{vs:List V}{w:W}{ws:List W}{C:Prop}
theorem AV.inv(h:AV K H M v w):T4 K H M v w:=by
 cases h
 case non | bl | int | str | ty | ref=>rfl
 case tup | sc=>rename_i e q;exact⟨_,_,rfl,e,q⟩
 case rl=>rename_i e n q;exact⟨_,_,rfl,e,n,q⟩
 case dk | dt=>rename_i e n z q;exact⟨_,_,rfl,e,n,pO z q⟩
 case fk | ft=>rename_i e z q;exact⟨_,_,rfl,⟨_,e⟩,pO z q⟩
theorem AV.tupE(h:AV K H M v (.tup ws))(c:∀ a xs,v=.ref a->H a=some (.tup xs)->aL K H M xs ws->C):C:=
 let ⟨a,xs,e,f,q⟩:=h.inv;c a xs e f q
theorem AV.scE(h:AV K H M v (.sc ws))(c:∀ a xs,v=.ref a->kP K H a xs->aL K H M xs ws->C):C:=
 let ⟨a,xs,e,f,q⟩:=h.inv;c a xs e f q
theorem AV.rlE(h:AV K H M v (.rl ws))(c:∀ a xs,v=.ref a->H a=some (.lst xs)->aL K H M xs ws->C):C:=
 let ⟨a,xs,e,f,_,q⟩:=h.inv;c a xs e f q
theorem aL.nil_(h:aL K H M vs []):vs=[]:=by cases h;rfl
theorem aL.one(h:aL K H M vs [w]):∃ v,vs=[v]/\AV K H M v w:=by
 cases h with
 | cons x r=>rw[r.nil_];exact⟨_,rfl,x⟩
theorem aL.oneE(h:aL K H M vs [w])(c:∀ v,vs=[v]->AV K H M v w->C):C:=h.one.elim fun v h=>c v h.1 h.2
theorem aL.two{z:W}(h:aL K H M vs [w,z]):∃ v u,vs=[v,u]/\AV K H M v w/\AV K H M u z:=by
 cases h with
 | cons x r=>obtain⟨u,rfl,y⟩:=r.one;exact⟨_,_,rfl,x,y⟩
theorem AM.lstE{a:Addr}(b:AM K H M)(e:M a=some (.lst ws))(c:∀ xs,H a=some (.lst xs)->aL K H M xs ws->C):C:=(b.lst e).elim fun v h=>c v h.1 h.2
theorem gZ{x y:V}(e:vs=[x])(f:x=y):vs=[y]:=by rw[e,f]
end
theorem up.el{K:Ae}{H:Hp}{e:SV}{C:Prop}{t:aS}{Q:VK}(h:up K t e H Q)(c:∀ d M R,AS K H M e d->AM K H M->t d M R->Up K H M R Q->C):C:=by obtain⟨d,M,R,a,b,h,k⟩:=h;exact c d M R a b h k
theorem jX.el{K:Ae}{H:Hp}{e:SV}{C:Prop}{t:dO}{Q:Bool->Hp->Prop}(h:jX K t e H Q)(c:∀ d M R,AS K H M e d->AM K H M->t d M R->(∀ b H' M',Kp H M H' M'->AM K H' M'->R b M'->Q b H')->C):C:=by obtain⟨d,M,R,a,b,h,k⟩:=h;exact c d M R a b h k
theorem nS.el{K:Ae}{H:Hp}{e:SV}{C:Prop}{t:dS}{Q:List V->Hp->Prop}(h:nS K t e H Q)(c:∀ d M R,AS K H M e d->AM K H M->t d M R->(∀ vs H' ws M',Kp H M H' M'->AM K H' M'->aL K H' M' vs ws->R ws M'->Q vs H')->C):C:=by obtain⟨d,M,R,a,b,h,k⟩:=h;exact c d M R a b h k
theorem pQ.el{K:Ae}{H:Hp}{σ:SV}{C:Prop}{t:aK}{E:kJ}(h:pQ K t E σ H)(c:∀ d M D,AS K H M σ d->AM K H M->t D d M->pP K H M D E->C):C:=by obtain⟨d,M,D,a,b,h,k⟩:=h;exact c d M D a b h k
end L3
namespace L2
section
variable {X:Cx}
theorem PE.weak{e:Mu}{t t':TE}(h:PE X e t)(k:∀ σ H Q,t' σ H Q->t σ H Q):PE X e t':=fun pins s σ H Q I q=>h pins s σ H Q I (k σ H Q q)
theorem PT.weak{e:Mu}{t t':TT}(h:PT X e t)(k:∀ σ H Q,t' σ H Q->t σ H Q):PT X e t':=fun pins s σ H Q I q=>h pins s σ H Q I (k σ H Q q)
theorem PW.weak{e:Mu}{t t':TT}(h:PW X e t)(k:∀ σ H Q,t' σ H Q->t σ H Q):PW X e t':=fun a pins s σ H Q I q=>h a pins s σ H Q I (k σ H Q q)
theorem PA.weak{es:List Mu}{t t':TA}(h:PA X es t)(k:∀ σ H Q,t' σ H Q->t σ H Q):PA X es t':=fun pos pins s σ H Q I q=>h pos pins s σ H Q I (k σ H Q q)
theorem PS.weak{st:PySem.Stmt}{t t':TS}(h:PS X st t)(k:∀ D σ H,t' D σ H->t D σ H):PS X st t':=fun pins s σ H D I q=>h pins s σ H D I (k D σ H q)
theorem fR.weak{st:List PySem.Stmt}{t t':TS}(h:fR X st t)(k:∀ D σ H,t' D σ H->t D σ H):fR X st t':=fun pins s σ H D I q=>h pins s σ H D I (k D σ H q)
theorem PO.weak{e:Option Mu}{t t':TO}(h:PO X e t)(k:∀ σ H Q,t' σ H Q->t σ H Q):PO X e t':=fun pins s σ H Q I q=>h pins s σ H Q I (k σ H Q q)
theorem iF.weak{es:List Mu}{t t':TT}(h:iF X es t)(k:∀ σ H Q,t' σ H Q->t σ H Q):iF X es t':=fun pins s σ H Q I q=>h pins s σ H Q I (k σ H Q q)
end
end L2
namespace L3
open PySem PySem.Spec PyProof.Rows L2
abbrev E3(X:Cx)(e:Expr)(t:aS):Prop:=PE X e (up X.K t)
abbrev T3(X:Cx)(e:Expr)(t:dO):Prop:=PT X e (jX X.K t)
abbrev W3(X:Cx)(e:Expr)(t:dO):Prop:=PW X e (jX X.K t)
abbrev A3(X:Cx)(es:List Expr)(t:dS):Prop:=PA X es (nS X.K t)
def cE(K:Ae)(r:R3):R2:=fun x y H Q=>∃ a b M R,AM K H M/\AV K H M x a/\AV K H M y b/\r a b M R/\Up K H M R Q
def CS(K:Ae)(r:W->Mm->K3->Prop):V->Hp->VK->Prop:=fun x H Q=>∃ a M R,AM K H M/\AV K H M x a/\r a M R/\Up K H M R Q
def gC(K:Ae)(r:List W->Mm->K3->Prop):List V->Hp->VK->Prop:=fun xs H Q=>∃ ws M R,AM K H M/\aL K H M xs ws/\r ws M R/\Up K H M R Q
def kQ(K:Ae)(r:W->List W->Mm->K3->Prop):V->List V->Hp->VK->Prop:=fun x xs H Q=>∃ a ws M R,AM K H M/\AV K H M x a/\aL K H M xs ws/\r a ws M R/\Up K H M R Q
section
variable {X:Cx}{a b c:Expr}{ta tb tc:aS}{pos:Pos}
def aA(i:Nat):aS:=fun a M R=>∃ w,a[i]? = some (some w)/\R w M
def vC(w:W):aS:=fun _ M R=>R w M
theorem v(i:Nat){x:Str}{pos:Pos}(b:X.N[i]? = some x:=by rfl)(g:u9 X.env.scope x:=by first | exact Or.inl rfl | exact Or.inr (Or.inl rfl) | exact Or.inr (Or.inr rfl))(hd:(x == ("__debug__" : Str))=false:=by decide)
  (a:(x == ("__classdict__" : Str))=false:=by decide):E3 X (.Name x pos) (aA i):=(L4 b g hd a).weak fun σ H Q ⟨j,M,R,c,d,⟨w,e,r⟩,k⟩=>by
 obtain⟨v,f,h⟩:=c.get e
 exact⟨v,f,k.at d h r⟩
theorem aM{i j pos}:E3 X (.Constant (.int i) j pos) (vC (.int i)):=L5.weak fun σ H Q z0=>z0.el fun b M R c a r k=>k.at a (.int i) r
theorem jD{b j pos}:E3 X (.Constant (.bool b) j pos) (vC (.bl b)):=L6.weak fun σ H Q z0=>z0.el fun c M R d a r k=>k.at a (.bl b) r
theorem gD{x j pos}:E3 X (.Constant (.str x) j pos) (vC (.str x)):=L7.weak fun σ H Q z0=>z0.el fun b M R c a r k=>k.at a (.str x) r
theorem CT{x:Str}{y:V}{w:W}{u:Ac}{pos:Pos}(c:Gl X x)(b:X.mg x=some u)(r:RelV y u)(hw:∀ H M,AV X.K H M y w)(hd:(x == ("__debug__" : Str))=false:=by decide):E3 X (.Name x pos) (vC w):=
 (L8 c b r hd).weak fun σ H Q z0=>z0.el fun e M R d a r k=>k.at a (hw H M) r
theorem rZ{x:Str}{y:V}{w:W}{u:Ac}{pos:Pos}(e:Gl X x)(d:X.mg x=none)(a:Cv x=some u)(r:RelV y u)(hw:∀ H M,AV X.K H M y w)(b:x≠"__name__":=by decide)(hd:(x == ("__debug__" : Str))=false:=by decide):E3 X (.Name x pos) (vC w):=
 (L9 e d a r b hd).weak fun σ H Q z0=>z0.el fun g M R f c r k=>k.at c (hw H M) r
theorem eL(ha:E3 X a ta):E3 X a (cV ta):=ha.weak fun σ H Q z0=>z0.el fun b M R c d h k=>⟨b,M,_,c,d,h,k.frz⟩
def aG(r:R3)(ta tb:aS):aS:=fun a M R=>ta a M fun x M1=>tb a M1 fun y b=>r x y b R
theorem r6{K:Ae}{r:R3}{σ:SV}{H:Hp}{Q:VK}(h:up K (aG r ta tb) σ H Q):pF (cE K r) (up K ta) (up K tb) σ H Q:=by
 obtain⟨e,M,R,d,f,h,k⟩:=h
 refine⟨e,M,_,d,f,h,fun x s n M1 g a l p=>⟨e,M1,_,d.kp f g,a,p,fun y q i o c b m j=>?_⟩⟩
 exact⟨n,i,o,R,b,l.kp a c,m,j,(k.kp g).kp c⟩
theorem bF{op:Operator}{r:R3}(c:bB X (Ft op) (cE X.K r))(ha:E3 X a ta)(hb:E3 X b tb):E3 X (.BinOp a op b pos) (aG r ta tb):=(N5 c ha hb).weak fun _ _ _ h=>r6 h
theorem T5{op:CmpOp}{r:R3}(d:bB X (Ck op) (cE X.K r))(ha:E3 X a ta)(hb:E3 X b tb)(c:Iz op b=false):E3 X (.Compare a [op] [b] pos) (aG r ta tb):=(ON d ha hb c).weak fun _ _ _ h=>r6 h
def dC(t:aS):dO:=fun b M Q=>t b M fun w a=>∃ k,w=.bl k/\Q k a
theorem AV.bl_inv{K:Ae}{H:Hp}{M:Mm}{v:V}{k:Bool}(h:AV K H M v (.bl k)):v=.bl k:=by cases h;rfl
theorem T6{op:CmpOp}{r:R3}(p:bB X (Ck op) (cE X.K r))(ha:E3 X a ta)(hb:E3 X b tb)(l:Iz op b=false):T3 X (.Compare a [op] [b] pos) (dC (aG r ta tb)):=
 (OO p ha hb l).weak fun σ H Q z0=>z0.el fun i M R g j h k=>r6 ⟨i,M,_,g,j,h,fun v f w m n d o ⟨c,e,r⟩=>by
  subst e
  exact⟨c,o.bl_inv,k c f m n d r⟩⟩
def jY(r:W->Mm->K3->Prop)(ta:aS):aS:=fun a M R=>ta a M fun x M1=>r x M1 R
theorem lO{op:UnaryOp}{r:W->Mm->K3->Prop}(c:pE X (unaryOp op) (CS X.K r))(ha:E3 X a ta):E3 X (.UnaryOp op a pos) (jY r ta):=
 (N6 c ha).weak fun σ H Q z0=>z0.el fun e M R d f h k=>⟨e,M,_,d,f,h,fun x m j M1 g b i l=>⟨j,M1,R,b,i,l,k.kp g⟩⟩
def jZ:W->Mm->(Bool->Mm->Prop)->Prop
 | .non,M,Q=>Q false M
 | .bl b,M,Q=>Q b M
 | .int i,M,Q=>Q (i != 0) M
 | .str y,M,Q=>y.length<=Aj/\Q ((y.length:Int) != 0) M
 | .tup ws,M,Q=>Q (!ws.isEmpty) M
 | .rl ws,M,Q=>Q (!ws.isEmpty) M
 | .sc ws,M,Q=>Q (!ws.isEmpty) M
 | .dk kvs,M,Q=>Q (!kvs.isEmpty) M
 | .ref p,M,Q=>(∃ ws,M p=some (.lst ws)/\Q (!ws.isEmpty) M)\/∃ kvs,M p=some (.dK kvs)/\Q (!kvs.isEmpty) M
 | _,_,_=>False
def g9(t:aS):dO:=fun b M Q=>t b M fun w a=>jZ w a Q
theorem aL.empty{K:Ae}{H:Hp}{M:Mm}{vs:List V}{ws:List W}(h:aL K H M vs ws):(!ws.isEmpty) = !vs.isEmpty:=by cases h <;> rfl
theorem iU(ha:E3 X a ta)(l:∀ d,isTrue a X.env d=(do let v <-d;Oj a.pos;Ip [v] (truthy v)):=by intro _;rfl):T3 X a (g9 ta):=
 (OS ha l).weak fun σ H Q z0=>z0.el fun o M R m s h k=>⟨o,M,_,m,s,h,fun v u w x f c t r=>by
  cases t with
  | non=>exact⟨false,rfl,k _ _ _ f c r⟩
  | bl b=>exact⟨b,rfl,k _ _ _ f c r⟩
  | int i=>exact⟨_,rfl,k _ _ _ f c r⟩
  | str y=>exact⟨_,⟨r.1,rfl⟩,k _ _ _ f c r.2⟩
  | ty n=>exact(show False from r).elim
  | tup e q=>exact⟨_,.inr (.inl ⟨_,bM.of e,q.empty⟩),k _ _ _ f c r⟩
  | rl e n q=>exact⟨_,.inl ⟨_,a9.of e,q.empty⟩,k _ _ _ f c r⟩
  | sc e q=>exact⟨_,.inl ⟨_,e.sq,q.empty⟩,k _ _ _ f c r⟩
  | @dk a ks kvs e n g q=>exact⟨!kvs.isEmpty,.inr (.inr ⟨_,e,by have:=pO g q;cases this <;> rfl⟩),k _ _ _ f c r⟩
  | dt e n g q=>exact(show False from r).elim
  | fk e g q=>exact(show False from r).elim
  | ft e g q=>exact(show False from r).elim
  | ref p=>
   rcases r with⟨ws,e,r⟩ | ⟨kvs,e,r⟩
   ·obtain⟨vs,j,q⟩:=c.lst e
    exact⟨_,.inl ⟨_,a9.of j,q.empty⟩,k _ _ _ f c r⟩
   ·obtain⟨ks,j,q⟩:=c _ _ e
    exact⟨!kvs.isEmpty,.inr (.inr ⟨_,j,by cases q <;> rfl⟩),k _ _ _ f c r⟩⟩
def pR(t u:dO):dO:=fun a M Q=>t a M fun c M1=>if c=true then u a M1 Q else Q false M1
def nT(t u:dO):dO:=fun a M Q=>t a M fun c M1=>if c=true then Q true M1 else u a M1 Q
def kR(t:dO):dO:=fun a M Q=>t a M fun c M1=>Q (!c) M1
variable {tA tB':dO}{rest:List Expr}
theorem v8(ha:T3 X a tA):W3 X (.BoolOp .And [a] pos) tA:=ME ha
theorem r9(ha:T3 X a tA):W3 X (.BoolOp .Or [a] pos) tA:=MF ha
theorem v9(ha:T3 X a tA)(hb:W3 X (.BoolOp .And (b :: rest) pos) tB'):W3 X (.BoolOp .And (a :: b :: rest) pos) (pR tA tB'):=
 (MG ha hb).weak fun σ H Q z0=>z0.el fun i M R g j h k=>⟨i,M,_,g,j,h,fun c n M1 e d l=>by
  cases c with
  | true=>exact⟨i,M1,R,g.kp j e,d,l,fun b m o p f r=>k b m o (e.trans p) f r⟩
  | false=>exact k false n M1 e d l⟩
theorem sE(ha:T3 X a tA)(hb:W3 X (.BoolOp .Or (b :: rest) pos) tB'):W3 X (.BoolOp .Or (a :: b :: rest) pos) (nT tA tB'):=
 (MH ha hb).weak fun σ H Q z0=>z0.el fun i M R g j h k=>⟨i,M,_,g,j,h,fun c n M1 e d l=>by
  cases c with
  | true=>exact k true n M1 e d l
  | false=>exact⟨i,M1,R,g.kp j e,d,l,fun b m o p f r=>k b m o (e.trans p) f r⟩⟩
theorem mR(ha:T3 X a tA):T3 X (.UnaryOp .Not a pos) (kR tA):=
 (MI ha).weak fun σ H Q z0=>z0.el fun i M R d f h k=>⟨i,M,_,d,f,h,fun c g M1 e b j=>k (!c) g M1 e b j⟩
def pT(ta tb:aS):aS:=fun a M R=>ta a M fun x M1=>∃ c,x=.bl c/\if c=true then tb a M1 R else R (.bl false) M1
def wA(ta tb:aS):aS:=fun a M R=>ta a M fun x M1=>∃ c,x=.bl c/\if c=true then R (.bl true) M1 else tb a M1 R
def T7(ta:aS):aS:=fun a M R=>ta a M fun x M1=>∃ c,x=.bl c/\R (.bl (!c)) M1
theorem sF{op}(h:E3 X a ta):E3 X (.BoolOp op [a] pos) ta:=ML h
theorem v_and(ha:E3 X a ta)(hb:E3 X (.BoolOp .And (b :: rest) pos) tb):E3 X (.BoolOp .And (a :: b :: rest) pos) (pT ta tb):=
 (MM ha hb).weak fun σ H Q z0=>z0.el fun i M R g j h k=>⟨i,M,_,g,j,h,fun x n o M1 f d m ⟨c,e,l⟩=>by
  subst e
  refine⟨c,m.bl_inv,?_⟩
  cases c with
  | true=>exact⟨i,M1,R,g.kp j f,d,l,k.kp f⟩
  | false=>exact(k.kp f).at d (.bl false) l⟩
theorem v_or(ha:E3 X a ta)(hb:E3 X (.BoolOp .Or (b :: rest) pos) tb):E3 X (.BoolOp .Or (a :: b :: rest) pos) (wA ta tb):=
 (MN ha hb).weak fun σ H Q z0=>z0.el fun i M R g j h k=>⟨i,M,_,g,j,h,fun x n o M1 f d m ⟨c,e,l⟩=>by
  subst e
  refine⟨c,m.bl_inv,?_⟩
  cases c with
  | true=>exact(k.kp f).at d (.bl true) l
  | false=>exact⟨i,M1,R,g.kp j f,d,l,k.kp f⟩⟩
def T8(t:dO)(ta tb:aS):aS:=fun a M R=>t a M fun c M1=>if c=true then ta a M1 R else tb a M1 R
def aE:dS:=fun _ M R=>R [] M
def aB(ta:aS)(b:dS):dS:=fun a M R=>ta a M fun x M1=>b a M1 fun xs c=>R (x :: xs) c
variable {e:Expr}{es:List Expr}{te:aS}{t:dS}
theorem aJ:A3 X [] aE:=PD.weak fun σ H Q z0=>z0.el fun b M R c a h k=>k [] H [] M (Kp.refl a) a .nil h
theorem aC(ha:E3 X e te)(p:A3 X es t)(hs:Bj (e :: es) X.env=(false,eval e X.env) :: Bj es X.env:=by rfl):A3 X (e :: es) (aB te t):=
 (PF ha p hs).weak fun σ H Q z0=>z0.el fun g M R f i h k=>⟨g,M,_,f,i,h,fun x s o M1 j a n r=>⟨g,M1,_,f.kp i j,a,r,fun xs m ws q d b c l=>
  k (x :: xs) m (o :: ws) q (j.trans d) b (.cons (n.kp a d) c) l⟩⟩
def dD(t:dS):aS:=fun a M R=>t a M fun ws M1=>ws.length<=Aj/\R (.tup ws) M1
def kS(t:dS):aS:=fun a M R=>t a M fun ws M1=>ws.length<=Aj/\aQ ws M1 R
theorem laidT{K:Ae}{H:Hp}{M:Mm}{R:K3}{Q:VK}{p:Addr}{xs:List V}{ws:List W}(d:AM K H M)(k:Up K H M R Q)(b:H p=none)(e:aL K H M xs ws)(r:R (.tup ws) M):Q (.ref p) (aN H p (.tup xs)):=by
 obtain⟨a,c⟩:=d.tup (u:=.tup xs) b
 exact k _ _ _ _ c a (.tup dY (e.newT b)) r
theorem iH{K:Ae}{H:Hp}{M:Mm}{R:K3}{Q:VK}{p:Addr}{xs:List V}{ws:List W}(c:AM K H M)(k:Up K H M R Q)(b:H p=none)(e:aL K H M xs ws)(r:∀ p,M p=none->R (.ref p) (put M p (.lst ws))):Q (.ref p) (aN H p (.lst xs)):=by
 obtain⟨a,d⟩:=c.laid (o:=.lst ws) (u:=.lst xs) b ⟨xs,dY,e.newL b⟩
 exact k _ _ _ _ d a (.ref p) (r p (c.nonM b))
theorem wB{K:Ae}{H:Hp}{M:Mm}{R:K3}{Q:VK}{l:Addr}{xs:List V}{ws b:List W}{y:V}{w:W}(c:AM K H M)(k:Up K H M R Q)(hl:M l=some (.lst b))(f:aL K H M xs ws)(e:AV K H M y w)(r:R w (put M l (.lst ws))):Q y (aN H l (.lst xs)):=by
 obtain⟨a,d⟩:=c.write (o:=.lst ws) (u:=.lst xs) hl ⟨xs,dY,f.wr c hl⟩
 exact k _ _ _ _ d a (e.wr c hl) r
theorem dU{x1}(h:A3 X es t):E3 X (.Tuple es x1 pos) (dD t):=
 (PK h).weak fun σ H Q z0=>z0.el fun g M R c e h k=>⟨g,M,_,c,e,h,fun xs i ws M1 d b a ⟨hl,r⟩=>⟨by rw[a.length];exact hl,fun p f=>laidT b (k.kp d) f a r⟩⟩
theorem mS(h:A3 X es t):E3 X (.List es pos) (kS t):=
 (BM h).weak fun σ H Q z0=>z0.el fun g M R c e h k=>⟨g,M,_,c,e,h,fun xs i ws M1 d b a ⟨hl,r⟩=>⟨by rw[a.length];exact hl,fun p f=>iH b (k.kp d) f a r⟩⟩
def bW(r:List W->Mm->K3->Prop)(t:dS):aS:=fun a M R=>t a M fun ws M1=>r ws M1 R
variable {x:Str}{p:Pos}{id T:String}{r:List W->Mm->K3->Prop}
theorem CU{K:Ae}{σ:SV}{H:Hp}{Q:VK}(h:up K (bW r t) σ H Q):vJ (gC K r) (nS K t) σ H Q:=by
 obtain⟨f,M,R,c,e,h,k⟩:=h
 exact⟨f,M,_,c,e,h,fun xs i ws M1 d b a g=>⟨ws,M1,R,b,a,g,k.kp d⟩⟩
theorem dE(hc:cU X (.builtin id) (gC X.K r))(d:Gl X x)(f:X.mg x=none)(g:Cv x=some (.builtin id))(ha:A3 X (e :: es) t)(c:x≠"__name__":=by decide)(b:(x == ("__debug__" : Str))=false:=by decide)
  (hs:Bj (e :: es) X.env=(false,eval e X.env) :: Bj es X.env:=by rfl) (a:(Hl pos (Bj es X.env)).any (·.1)=false:=by rfl):E3 X (.Call (.Name x p) (e :: es) [] pos) (bW r t):=(PX hc d f g ha c b hs a).weak fun _ _ _ h=>CU h
theorem kT(hc:cU X (.type T) (gC X.K r))(d:Gl X x)(f:X.mg x=none)(g:Cv x=some (.type T))(ha:A3 X (e :: es) t)(c:x≠"__name__":=by decide)(b:(x == ("__debug__" : Str))=false:=by decide)
  (hs:Bj (e :: es) X.env=(false,eval e X.env) :: Bj es X.env:=by rfl) (a:(Hl pos (Bj es X.env)).any (·.1)=false:=by rfl):E3 X (.Call (.Name x p) (e :: es) [] pos) (bW r t):=(PY hc d f g ha c b hs a).weak fun _ _ _ h=>CU h
abbrev bX:=List W->Mm->K3->Prop
def gO(K:Ae)(sp:bX):Sp:=fun vs H Q _=>∃ ws M R,AM K H M/\aL K H M vs ws/\sp ws M R/\Up K H M R Q
variable {k:Nat}{f:Addr}{fd:Bw}{ps:List Str}{sp:bX}
def b6(sp:bX)(t:dS):aS:=fun a M R=>t a M fun ws M1=>sp ws M1 R
theorem T9{K:Ae}{σ:SV}{H:Hp}{Q:VK}(h:up K (b6 sp t) σ H Q):BN (gO K sp) [] E0 (nS K t) σ H Q:=by
 obtain⟨f,M,R,c,e,h,k⟩:=h
 exact⟨f,M,_,c,e,h,fun xs i ws M1 d b a g=>⟨ws,M1,R,b,by rw[Gf];exact a,g,k.kp d⟩⟩
theorem UA(F:e6 X.prog X.w X.K X.mg X.base gB k f fd ps (gO X.K sp))(i:cJ k X.A)(d:Gl X x)(c:X.mg x=some (.ref f))(hk:Fx X.K (.ref f)=true)(hb:Binds X.K fd ps [])
  (ha:A3 X (e :: es) t) (b:(x == ("__debug__" : Str))=false:=by decide) (g:Bj (e :: es) X.env=(false,eval e X.env) :: Bj es X.env:=by rfl) (a:(Hl pos (Bj es X.env)).any (·.1)=false:=by rfl) :
  E3 X (.Call (.Name x p) (e :: es) [] pos) (b6 sp t):=(PL F i d c hk hb .nil pK ha b g a).weak fun _ _ _ h=>T9 h
def fB(T:String):W->Mm->Prop
 | .str _,_=>T = "str"
 | .int _,_=>T = "int"
 | .rl _,_=>T = "list"
 | .sc _,_=>T = "list"
 | .dk _,_=>T = "dict"
 | .dt _,_=>T = "dict"
 | .fk _,_=>T = "dict"
 | .ft _,_=>T = "dict"
 | .ref p,M=>(T = "list"/\∃ ws,M p=some (.lst ws))\/(T = "dict"/\((∃ kvs,M p=some (.dK kvs))\/∃ kvs,M p=some (.dT kvs)))
 | _,_=>False
theorem CV{K:Ae}{H:Hp}{M:Mm}{v:V}{w:W}(c:AM K H M)(f:AV K H M v w)(h:fB T w M):rM K T v H:=by
 cases f with
 | str y=>exact h
 | int i=>exact h
 | rl e n q=>exact .inl ⟨h,_,a9.of e⟩
 | sc e q=>exact .inl ⟨h,_,e.sq⟩
 | dk e n d q=>exact .inr (.inr (.inl ⟨h,.inl ⟨_,.inl e⟩⟩))
 | dt e n d q=>exact .inr (.inr (.inl ⟨h,.inr ⟨_,.inl e⟩⟩))
 | ref p=>
  rcases h with⟨e,ws,h⟩ | ⟨e,h⟩
  ·obtain⟨vs,a,_⟩:=c.lst h
   exact .inl ⟨e,vs,a9.of a⟩
  ·refine .inr (.inr (.inl ⟨e,?_⟩))
   rcases h with⟨kvs,h⟩ | ⟨kvs,h⟩
   ·obtain⟨ks,a,_⟩:=c _ _ h;exact .inl ⟨ks,.inl a⟩
   ·obtain⟨ks,a,_⟩:=c _ _ h;exact .inr ⟨ks,.inl a⟩
 | non=>exact h.elim
 | bl b=>exact h.elim
 | ty n=>exact h.elim
 | tup e q=>exact h.elim
 | fk e d q=>exact .inr (.inr (.inl ⟨h,.inl ⟨_,.inr ⟨_,e⟩⟩⟩))
 | ft e d q=>exact .inr (.inr (.inl ⟨h,.inr ⟨_,.inr ⟨_,e⟩⟩⟩))
variable {o:Expr}{to:aS}{name:Str}{apos cpos:Pos}{rm:W->List W->Mm->K3->Prop}
def sG(T:String)(r:W->List W->Mm->K3->Prop)(to:aS):aS:=fun a M R=>to a M fun x M1=>fB T x M1/\r x [] M1 R
def fN(T:String)(r:W->List W->Mm->K3->Prop)(to:aS)(t:dS):aS:=fun a M R=>to a M fun x M1=>fB T x M1/\t a M1 fun xs b=>r x xs b R
theorem CW(pa:PlainAttrs T)(slot:Slot T name id)(d:typeOf (.builtin id)=pure (.type "method_descriptor"))(m:iS X id (kQ X.K rm))(f:E3 X o to)
  (b:Ja o name X.env (eval o X.env)=eval o X.env:=by rfl) (a:(apos.endLine == cpos.line)=true:=by rfl):E3 X (.Call (.Attribute o name apos) [] [] cpos) (sG T rm to):=
 (Q1 pa slot d m f b a).weak fun σ H Q z0=>z0.el fun i M R g j h k=>⟨i,M,_,g,j,h,fun x q p M1 l c e ⟨ty,n⟩=>⟨CV c e ty,p,[],M1,R,c,e,.nil,n,k.kp l⟩⟩
theorem fZ(pa:PlainAttrs T)(slot:Slot T name id)(i:typeOf (.builtin id)=pure (.type "method_descriptor"))(v:iS X id (kQ X.K rm))(y:E3 X o to)(ha:A3 X (e :: es) t)
  (b:Ja o name X.env (eval o X.env)=eval o X.env:=by rfl)
  (f:((Hl cpos (Bj (e :: es) X.env)).all (fun x=>!x.1) && (Oh cpos (Li [] X.env)).all (fun x=>x.1.isSome)
   && decide ((e :: es).length + ([]:List Keyword).length + (if ([]:List Keyword).isEmpty then 0 else 1) < 30))=true:=by rfl)
  (c:(apos.endLine == cpos.line)=true:=by rfl) (hs:Bj (e :: es) X.env=(false,eval e X.env) :: Bj es X.env:=by rfl) (a:(Hl cpos (Bj es X.env)).any (·.1)=false:=by rfl) :
  E3 X (.Call (.Attribute o name apos) (e :: es) [] cpos) (fN T rm to t):=
 (Q2 pa slot i v y ha b f c hs a).weak fun σ H Q z0=>z0.el fun q M R m n h k=>⟨q,M,_,m,n,h,fun x B s M1 r d p ⟨ty,u⟩=>⟨CV d p ty,q,M1,_,m.kp n r,d,u,fun xs A ws z l j g w=>
  ⟨s,ws,z,R,j,p.kp d l,g,w,(k.kp r).kp l⟩⟩⟩
end
section
variable {X:Cx}
theorem lP{f:Ac->Ac->Sem Ac}{r:R2}{c:R3}(e:bB X f r)(h:∀ x y H Q M R,AM X.K H M->Up X.K H M R Q->∀ b a,c b a M R->AV X.K H M x b->AV X.K H M y a->r x y H Q):bB X f (cE X.K c):=
 fun pins s σ H x y v u Q I j l ⟨b,a,M,R,d,g,i,m,k⟩=>e pins s σ H x y v u Q I j l (h x y H Q M R d k b a m g i)
theorem UB{r:R2}{e:R3}(g:iR X r)(h:∀ x y H Q M R,AM X.K H M->Up X.K H M R Q->∀ d c,e d c M R->AV X.K H M x d->AV X.K H M y c->r x y H Q):iR X (cE X.K e):=
 fun b a pins s σ H x y v u Q I m i ⟨d,c,M,R,f,j,l,n,k⟩=>g b a pins s σ H x y v u Q I m i (h x y H Q M R f k d c n j l)
theorem wC{f:Ac}{r:List V->Hp->VK->Prop}{a:List W->Mm->K3->Prop}(c:cU X f r)(h:∀ xs H Q M R,AM X.K H M->Up X.K H M R Q->∀ ws,a ws M R->aL X.K H M xs ws->r xs H Q):cU X f (gC X.K a):=
 fun pins s σ H xs us Q I rs ⟨ws,M,R,b,d,e,k⟩=>c pins s σ H xs us Q I rs (h xs H Q M R b k ws e d)
def lQ:R3
 | .int i,.int j,M,R=>R (.int (i + j)) M
 | .tup xs,.tup ys,M,R=>xs≠[]/\xs.length + ys.length<=Aj/\R (.tup (xs ++ ys)) M
 | .ref a,.ref b,M,R=>∃ xs ys,M a=some (.lst xs)/\M b=some (.lst ys)/\xs.length + ys.length<=Aj/\aQ (xs ++ ys) M R
 | .rl xs,.ref b,M,R=>∃ ys,M b=some (.lst ys)/\xs.length + ys.length<=Aj/\aQ (xs ++ ys) M R
 | .ref a,.rl ys,M,R=>∃ xs,M a=some (.lst xs)/\xs.length + ys.length<=Aj/\aQ (xs ++ ys) M R
 | .rl xs,.rl ys,M,R=>xs.length + ys.length<=Aj/\aQ (xs ++ ys) M R
 | _,_,_,_=>False
def kU(M:Mm):W->List W->Prop
 | .ref a,ws=>M a=some (.lst ws)
 | .rl ws,b=>ws=b
 | _,_=>False
theorem lR{K:Ae}{H:Hp}{M:Mm}{v:V}{w:W}{ws:List W}(b:AM K H M)(h:AV K H M v w)(e:kU M w ws):∃ a xs,v=.ref a/\H a=some (.lst xs)/\aL K H M xs ws:=by
 cases w <;> first | exact(show False from e).elim | skip
 case ref a=>exact b.lstE e fun xs f q=>⟨_,_,h.inv,f,q⟩
 case rl zs=>exact h.rlE fun a xs c f q=>⟨_,_,c,f,by rw[<-show zs=ws from e];exact q⟩
theorem UC{P:W->W->Prop}{M:Mm}{R:K3}(b:∀ i j,R (.int (i + j)) M->P (.int i) (.int j))(c:∀ xs ys,xs≠[]/\xs.length + ys.length<=Aj/\R (.tup (xs ++ ys)) M->P (.tup xs) (.tup ys))
  (a:∀ x y xs ys,kU M x xs->kU M y ys->xs.length + ys.length<=Aj->aQ (xs ++ ys) M R->P x y):∀ x y,lQ x y M R->P x y:=by
 intro x y h
 cases x <;> first | exact(show False from h).elim | (cases y <;> first | exact(show False from h).elim | skip)
 case int.int=>exact b _ _ h
 case tup.tup=>exact c _ _ h
 case ref.ref=>obtain⟨xs,ys,e,f,l,r⟩:=h;exact a _ _ _ _ e f l r
 case rl.ref=>obtain⟨ys,f,l,r⟩:=h;exact a _ _ _ _ rfl f l r
 case ref.rl=>obtain⟨xs,e,l,r⟩:=h;exact a _ _ _ _ e rfl l r
 case rl.rl=>exact a _ _ _ _ rfl rfl h.1 h.2
theorem UD:bB X (Ft .Add) (cE X.K lQ):=lP (N7.or (QD.or Q7)) fun x y H Q M R d k=>UC
 (fun i j h e g=>.inl ⟨i,j,e.inv,g.inv,k.at d (.int _) h⟩)
 (fun xs ys h e g=>e.tupE fun a us m n c=>g.tupE fun b vs q o f=>.inr (.inl ⟨a,b,us,vs,m,q,bM.of n,bM.of o,
  fun z=>h.1 (Mo.mp (by rw[<-c.length,z];rfl)),by rw[c.length,f.length];exact h.2.1,
  fun z=>k.at d (by rw[<-m];exact e) (by rw[<-Gf xs,<-Mo.mp (show ys.length=0 by rw[<-f.length,z];rfl)];exact h.2.2),
  fun _ p s=>laidT d k s (c.append f) h.2.2⟩))
 (fun w v xs ys u t l r e g=>.inr (.inr (by
  obtain⟨a,us,m,n,c⟩:=lR d e u
  obtain⟨b,vs,q,o,f⟩:=lR d g t
  exact⟨a,b,us,vs,m,q,n,o,by rw[c.length,f.length];exact l,fun p s=>iH d k s (c.append f) r⟩)))
def nU(C:Int->Int->Prop)(g:Int->Int->W):R3
 | .int i,.int j,M,R=>C i j/\R (g i j) M
 | _,_,_,_=>False
theorem UE{C:Int->Int->Prop}{g:Int->Int->W}{P:W->W->Prop}{M:Mm}{R:K3}(c:∀ i j,C i j/\R (g i j) M->P (.int i) (.int j))(x y:W)(h:nU C g x y M R):P x y:=by
 cases x <;> first | exact(show False from h).elim | (cases y <;> first | exact(show False from h).elim | exact c _ _ h)
theorem wD{f:Ac->Ac->Sem Ac}{C:Int->Int->Prop}{g:Int->Int->V}{g':Int->Int->W}(b:bB X f (rI C g))(e:∀ H M i j,AV X.K H M (g i j) (g' i j)):bB X f (cE X.K (nU C g')):=
 lP b fun x y H Q M R a k=>UE fun i j h c d=>⟨i,j,c.inv,d.inv,h.1,k.at a (e H M i j) h.2⟩
def lS(g:Int->Int->W):R3
 | .int i,.int j,M,R=>R (g i j) M
 | _,_,_,_=>False
theorem UG{g:Int->Int->W}{P:W->W->Prop}{M:Mm}{R:K3}(c:∀ i j,R (g i j) M->P (.int i) (.int j))(x y:W)(h:lS g x y M R):P x y:=by
 cases x <;> first | exact(show False from h).elim | (cases y <;> first | exact(show False from h).elim | exact c _ _ h)
theorem pU{f:Ac->Ac->Sem Ac}{g:Int->Int->V}{g':Int->Int->W}(b:bB X f (kL g))(e:∀ H M i j,AV X.K H M (g i j) (g' i j)):bB X f (cE X.K (lS g')):=
 lP b fun x y H Q M R a k=>UG fun i j h d c=>⟨i,j,d.inv,c.inv,k.at a (e H M i j) h⟩
abbrev nV:R3:=lS fun i j=>.int (i - j)
theorem pV:bB X (Ft .Sub) (cE X.K nV):=pU N8 fun _ _ _ _=>.int _
abbrev nW:R3:=nU pL fun i j=>.int (i / j)
theorem pW:bB X (Ft .FloorDiv) (cE X.K nW):=wD SD fun _ _ _ _=>.int _
abbrev iV:R3:=nU (fun _ j=>0 < j) fun i j=>.int (i % j)
theorem jE:bB X (Ft .Mod) (cE X.K iV):=wD OA fun _ _ _ _=>.int _
abbrev sH:R3:=nU A8 fun i j=>.int (i ^ j.toNat)
theorem wF:bB X (Ft .Pow) (cE X.K sH):=wD OB fun _ _ _ _=>.int _
def pX:R3
 | .int i,.int j,M,R=>(lH i j\/nP i j)/\R (.int (i * j)) M
 | .ref a,.int n,M,R=>∃ xs,M a=some (.lst xs)/\-(2 ^ 63)<=n/\n < 2 ^ 63/\xs.length * n.toNat<=Aj/\aQ (Bu n.toNat xs).flatten M R
 | .rl xs,.int n,M,R=>-(2 ^ 63)<=n/\n < 2 ^ 63/\xs.length * n.toNat<=Aj/\aQ (Bu n.toNat xs).flatten M R
 | _,_,_,_=>False
theorem UH{P:W->W->Prop}{M:Mm}{R:K3}(b:∀ i j,(lH i j\/nP i j)/\R (.int (i * j)) M->P (.int i) (.int j))
  (a:∀ x n xs,kU M x xs->-(2 ^ 63)<=n/\n < 2 ^ 63/\xs.length * n.toNat<=Aj/\aQ (Bu n.toNat xs).flatten M R->P x (.int n)):∀ x y,pX x y M R->P x y:=by
 intro x y h
 cases x <;> first | exact(show False from h).elim | (cases y <;> first | exact(show False from h).elim | skip)
 case int.int=>exact b _ _ h
 case ref.int=>obtain⟨xs,e,h⟩:=h;exact a _ _ _ e h
 case rl.int=>exact a _ _ _ rfl h
theorem UI:bB X (Ft .Mult) (cE X.K pX):=lP (N9.or (SA.or RA)) fun x y H Q M R b k=>UH
 (fun i j h c d=>h.1.elim (fun z=>.inl ⟨i,j,c.inv,d.inv,z,k.at b (.int _) h.2⟩) fun z=>.inr (.inl ⟨i,j,c.inv,d.inv,z,k.at b (.int _) h.2⟩))
 (fun o n xs m h c d=>.inr (.inr (by
  obtain⟨a,us,g,f,e⟩:=lR b c m
  exact⟨a,n,us,g,d.inv,f,h.1,h.2.1,by rw[e.length];exact h.2.2.1,fun p l=>iH b k l (e.flatRep _) h.2.2.2⟩)))
def j0:W->Mm->K3->Prop
 | .int i,M,R=>R (.int (-i)) M
 | _,_,_=>False
theorem lT:pE X (unaryOp .USub) (CS X.K j0):=by
 rintro pins s σ H x v Q I c ⟨d,M,R,a,b,h,k⟩
 cases d <;> first | exact(show False from h).elim | skip
 case int i=>exact OD pins s σ H _ v Q I c ⟨i,b.inv,k.at a (.int _) h⟩
def lU:R3:=lS fun i j=>.bl (decide (i < j))
theorem nX:bB X (Ck .Lt) (cE X.K lU):=pU OH fun _ _ _ _=>.bl _
abbrev CY:R3:=lS fun i j=>.bl (decide (i<=j))
theorem UJ:bB X (Ck .LtE) (cE X.K CY):=pU OI fun _ _ _ _=>.bl _
abbrev CZ:R3:=lS fun i j=>.bl (decide (j < i))
theorem UK:bB X (Ck .Gt) (cE X.K CZ):=pU OJ fun _ _ _ _=>.bl _
abbrev C0:R3:=lS fun i j=>.bl (decide (j<=i))
theorem UL:bB X (Ck .GtE) (cE X.K C0):=pU OK fun _ _ _ _=>.bl _
mutual
inductive Snap(M:Mm):W->Mh->Prop
 | non:Snap M .non .none
 | bl (b:Bool):Snap M (.bl b) (.bool b)
 | int (i:Int):Snap M (.int i) (.int i)
 | str (x:Str):Snap M (.str x) (.str x)
 | tup {ws:List W} {ds:List Mh}:iI M ws ds->Snap M (.tup ws) (.tuple ds)
 | rl {ws:List W} {ds:List Mh}:iI M ws ds->Snap M (.rl ws) (.list ds)
 | ref {a:Addr} {ws:List W} {ds:List Mh}:M a=some (.lst ws)->iI M ws ds->Snap M (.ref a) (.list ds)
inductive iI(M:Mm):List W->List Mh->Prop
 | nil:iI M [] []
 | cons {w:W} {ws:List W} {d:Mh} {ds:List Mh}:Snap M w d->iI M ws ds->iI M (w :: ws) (d :: ds)
end
section
variable {pins:List (Addr×Obj)}{σ:SV}{H:Hp}{s:Ah}{M:Mm}
theorem iI.reads(I:Inv X pins σ H s)(F:AM X.K H M){ws:List W}{A:List Mh}(h:iI M ws A):∀ {vs:List V} {us:List Ac},aL X.K H M vs ws->aR vs us->∃ g,ReadsAll s.heap us A g:=
 iI.rec (motive_1:=fun w d _=>∀ {v:V} {u:Ac},AV X.K H M v w->RelV v u->∃ g,Reads s.heap u d g) (motive_2:=fun ws A _=>∀ {vs:List V} {us:List Ac},aL X.K H M vs ws->aR vs us->∃ g,ReadsAll s.heap us A g)
  (fun c r=>by rw[show _=_ from c.inv] at r;rw[show _=_ from r];exact⟨_,.none⟩)
  (fun b _ _ c r=>by rw[show _=_ from c.inv] at r;rw[show _=_ from r];exact⟨_,.bool b⟩)
  (fun i _ _ c r=>by rw[show _=_ from c.inv] at r;exact r.elim fun t r=>by rw[r];exact⟨_,.int i t⟩)
  (fun x _ _ c r=>by rw[show _=_ from c.inv] at r;exact r.elim fun t r=>by rw[r];exact⟨_,.str x t⟩)
  (fun _ p _ _ c r=>c.tupE fun a xs e f q=>by
   rw[e] at r;rw[show _=_ from r]
   obtain⟨its,k,⟨o,m,l,n,j⟩,_⟩:=I.tuple (bM.of f)
   exact(p q k).elim fun g z=>⟨_,.tuple m l j (by simpa using z)⟩)
  (fun _ p _ _ c r=>c.rlE fun a xs e f q=>by
   rw[e] at r;rw[show _=_ from r]
   obtain⟨its,k,pl,_⟩:=I.list (a9.of f)
   obtain⟨o,m,l,n,j⟩:=pl.isList
   exact(p q k).elim fun g z=>⟨_,.list m l j (by simpa using z)⟩)
  (fun J _ p _ _ c r=>F.lstE J fun vs f q=>by
   rw[show _=_ from c.inv] at r;rw[show _=_ from r]
   obtain⟨its,k,pl,_⟩:=I.list (a9.of f)
   obtain⟨o,m,l,n,j⟩:=pl.isList
   exact(p q k).elim fun g z=>⟨_,.list m l j (by simpa using z)⟩)
  (fun c r=>by cases c;cases r;exact⟨_,.nil⟩)
  (fun _ _ C B _ _ c r=>by
   cases c with
   | cons a b=>
    cases r with
    | cons E L=>exact(C a E).elim fun x D=>(B b L).elim fun y G=>⟨_,.cons D G⟩) h
theorem Snap.reads(I:Inv X pins σ H s)(c:AM X.K H M){w:W}{d:Mh}{v:V}{u:Ac}(h:Snap M w d)(a:AV X.K H M v w)(r:RelV v u):∃ b,Reads s.heap u d b:=
 (iI.reads I c (.cons h .nil) (.cons a .nil) (.cons r .nil)).elim fun _ z=>by
  cases z with
  | cons q _=>exact⟨_,q⟩
end
def pY(neg:Bool):R3:=fun x y M R=>∃ da db,Snap M x da/\Snap M y db/\CL da/\CL db/\R (.bl (if neg then !PyData.eqv da db else Lf da db)) M
def rEq(neg:Bool):R3
 | .int i,.int j,M,R=>R (.bl (if neg then !decide (i=j) else decide (i=j))) M
 | .str i,.str j,M,R=>R (.bl (if neg then !decide (i=j) else decide (i=j))) M
 | .bl i,.bl j,M,R=>R (.bl (if neg then !decide (i=j) else decide (i=j))) M
 | x,y,M,R=>pY neg x y M R
theorem C4{i j:Int}:decide (V.int i=V.int j)=decide (i=j):=by rw[Es];simp
theorem sI{i j:Str}:decide (V.str i=V.str j)=decide (i=j):=by rw[Es];simp
theorem C5{i j:Bool}:decide (V.bl i=V.bl j)=decide (i=j):=by rw[Es];simp
theorem C6{n:Bool}{P:W->W->Prop}{M:Mm}{R:K3}(b:∀ i j,R (.bl (if n then !decide (i=j) else decide (i=j))) M->P (.int i) (.int j))(d:∀ i j,R (.bl (if n then !decide (i=j) else decide (i=j))) M->P (.str i) (.str j))
  (c:∀ i j,R (.bl (if n then !decide (i=j) else decide (i=j))) M->P (.bl i) (.bl j)) (a:∀ x y,pY n x y M R->P x y) (x y:W) (h:rEq n x y M R):P x y:=by
 cases x <;> first | exact a _ _ h | (cases y <;> first | exact b _ _ h | exact d _ _ h | exact c _ _ h | exact a _ _ h)
theorem sV{i j:V}{x y:V}(e:x=i)(f:y=j)(h:rJ i j=true):rJ x y=true:=by rw[e,f];exact h
theorem dV{i j:V}{x y:V}{b:Bool}{Q:Bool->Prop}(e:x=i)(f:y=j)(h:decide (i=j)=b)(q:Q b):Q (decide (x=y)):=by rw[e,f,h];exact q
theorem UM(f:X.A.units + 64 < Gh):bB X (Ck .Eq) (cE X.K (pY false)):=by
 rintro pins s σ H x y v u Q I g h ⟨l,i,M,R,a,e,d,⟨da,db,ha,hb,b,fb,q⟩,k⟩
 obtain⟨j,c⟩:=ha.reads I a e g
 obtain⟨bs,rb⟩:=hb.reads I a d h
 exact SeqAt.compareEq_reads c rb b.1 fb.1 (Ls (Lg (Bp (Jw _ _) (Bp b.2 (by decide))) _) f) ⟨.bl _,H,I,rfl,k.at a (.bl _) q⟩
theorem UN(f:X.A.units + 64 < Gh):bB X (Ck .NotEq) (cE X.K (pY true)):=by
 rintro pins s σ H x y v u Q I g h ⟨l,i,M,R,a,e,d,⟨da,db,ha,hb,b,fb,q⟩,k⟩
 obtain⟨j,c⟩:=ha.reads I a e g
 obtain⟨bs,rb⟩:=hb.reads I a d h
 exact SeqAt.compareNe_reads c rb b.1 fb.1 (Ls (Lg (Bp (Jw _ _) (Bp b.2 (by decide))) _) f) ⟨.bl _,H,I,rfl,k.at a (.bl _) q⟩
theorem mT(f:X.A.units + 64 < Gh):bB X (Ck .Eq) (cE X.K (rEq false)):=lP (OF.or (UM f)) fun x y H Q M R d k=>C6
 (fun i j h a c=>.inl ⟨sV a.inv c.inv rfl,dV (Q:=fun b=>Q (.bl b) H) a.inv c.inv C4 (k.at d (.bl _) h)⟩)
 (fun i j h a c=>.inl ⟨sV a.inv c.inv rfl,dV (Q:=fun b=>Q (.bl b) H) a.inv c.inv sI (k.at d (.bl _) h)⟩)
 (fun i j h a c=>.inl ⟨sV a.inv c.inv rfl,dV (Q:=fun b=>Q (.bl b) H) a.inv c.inv C5 (k.at d (.bl _) h)⟩)
 (fun g e h a c=>.inr ⟨g,e,M,R,d,a,c,h,k⟩)
theorem pZ(f:X.A.units + 64 < Gh):bB X (Ck .NotEq) (cE X.K (rEq true)):=lP (OG.or (UN f)) fun x y H Q M R d k=>C6
 (fun i j h a c=>.inl ⟨sV a.inv c.inv rfl,dV (Q:=fun b=>Q (.bl !b) H) a.inv c.inv C4 (k.at d (.bl _) h)⟩)
 (fun i j h a c=>.inl ⟨sV a.inv c.inv rfl,dV (Q:=fun b=>Q (.bl !b) H) a.inv c.inv sI (k.at d (.bl _) h)⟩)
 (fun i j h a c=>.inl ⟨sV a.inv c.inv rfl,dV (Q:=fun b=>Q (.bl !b) H) a.inv c.inv C5 (k.at d (.bl _) h)⟩)
 (fun g e h a c=>.inr ⟨g,e,M,R,d,a,c,h,k⟩)
def wK:aD->W
 | .inl i=>.int i
 | .inr x=>.str x
def bD{κ:Type}[DecidableEq κ](kvs:List (κ×W))(k:κ):Option W:=(kvs.find? fun a=>decide (a.1=k)).map (·.2)
def bZ{κ:Type}[DecidableEq κ](kvs:List (κ×W))(k:κ)(v:W):List (κ×W):=
 if (kvs.any fun a=>decide (a.1=k))=true then kvs.map (fun a=>if a.1=k then(a.1,v) else a) else kvs ++ [(k,v)]
theorem AV.key{K:Ae}{H:Hp}{M:Mm}{v:V}{k:aD}(h:AV K H M v (wK k)):v=kV k:=by
 cases k <;> exact h.inv
theorem aL.keys{K:Ae}{H:Hp}{M:Mm}:∀ {vs:List V} {k:List aD},aL K H M vs (k.map wK)->vs=k.map kV
 | _,[],h=>by cases h;rfl
 | _,a :: r,h=>by
  cases h with
  | cons x y=>rw[x.key,aL.keys y];rfl
section
variable {κ:Type}[DecidableEq κ]{K:Ae}{H:Hp}{M:Mm}
theorem sJ{ks:List (κ×V)}{kvs:List (κ×W)}(h:bN K H M κ ks kvs)(k:κ):(bD kvs k=none/\fT ks k=none)\/∃ v w,bD kvs k=some w/\fT ks k=some v/\AV K H M v w:=by
 induction h with
 | nil=>exact .inl ⟨rfl,rfl⟩
 | @cons p q ps a r t c=>
  by_cases e:p.1=k
  ·refine .inr ⟨p.2,q.2,?_,?_,r.2⟩
   ·unfold bD;rw[Fq,decide_eq_true (by rw[<-r.1];exact e)];rfl
   ·exact rN e
  ·have b:¬ q.1=k:=by rw[<-r.1];exact e
   have l:bD (q :: a) k=bD a k:=by unfold bD;rw[Fq,decide_eq_false b]
   rw[l,rO e]
   exact c
theorem UO{ks:List (κ×V)}{kvs:List (κ×W)}(h:bN K H M κ ks kvs)(k:κ):(ks.any fun a=>decide (a.1=k))=(kvs.any fun a=>decide (a.1=k)):=by
 induction h with
 | nil=>rfl
 | cons r t b=>rw[Gq,Gq,b,r.1]
theorem UP{ks:List (κ×V)}{kvs:List (κ×W)}{v:V}{w:W}{k:κ}(c:AV K H M v w)(h:bN K H M κ ks kvs):bN K H M κ (ks.map (fun a=>if a.1=k then(a.1,v) else a)) (kvs.map (fun a=>if a.1=k then(a.1,w) else a)):=by
 induction h with
 | nil=>exact .nil
 | @cons p q ps d r t b=>
  rw[Ar,Ar]
  refine .cons ?_ b
  by_cases e:p.1=k
  ·rw[if_pos e,if_pos (by rw[<-r.1];exact e)];exact⟨r.1,c⟩
  ·rw[if_neg e,if_neg (by rw[<-r.1];exact e)];exact r
theorem UQ{ks:List (κ×V)}{kvs:List (κ×W)}{v:V}{w:W}{k:κ}(b:AV K H M v w)(h:bN K H M κ ks kvs):bN K H M κ (ks ++ [(k,v)]) (kvs ++ [(k,w)]):=by
 induction h with
 | nil=>exact .cons ⟨rfl,b⟩ .nil
 | cons r t a=>exact .cons r a
theorem sL{ks:List (κ×V)}{kvs:List (κ×W)}{v:V}{w:W}(h:bN K H M κ ks kvs)(k:κ)(a:AV K H M v w):bN K H M κ (eJ ks k v) (bZ kvs k w):=by
 unfold eJ bZ
 rw[UO h k]
 split
 ·exact UP a h
 ·exact UQ a h
end
def d6(M:Mm):W->W->Option W->Prop
 | .ref a,y,o=>(∃ kvs k,M a=some (.dK kvs)/\y=wK k/\o=bD kvs k)\/∃ kvs k,M a=some (.dT kvs)/\y=.tup (k.map wK)/\o=bD kvs k
 | .dk kvs,y,o=>∃ k,y=wK k/\o=bD kvs k
 | .dt kvs,y,o=>∃ k,y=.tup (k.map wK)/\o=bD kvs k
 | .fk kvs,y,o=>∃ k,y=wK k/\o=bD kvs k
 | .ft kvs,y,o=>∃ k,y=.tup (k.map wK)/\o=bD kvs k
 | _,_,_=>False
theorem wH{K:Ae}{H:Hp}{M:Mm}{a:Addr}{y:V}{k:aD}{ks:List (aD×V)}{kvs:List (aD×W)}(d:Rd H a (.dK ks))(q:bN K H M aD ks kvs)(e:AV K H M y (wK k)):(bD kvs k=none/\gM H a y none)\/∃ v w,bD kvs k=some w/\gM H a y (some v)/\AV K H M v w:=by
 rw[e.key]
 rcases sJ q k with⟨c,b⟩ | ⟨v,w,c,b,f⟩
 ·exact .inl ⟨c,by rw[<-b];exact .inl ⟨_,_,d,rfl,rfl⟩⟩
 ·exact .inr ⟨v,w,c,by rw[<-b];exact .inl ⟨_,_,d,rfl,rfl⟩,f⟩
theorem wI{K:Ae}{H:Hp}{M:Mm}{a:Addr}{y:V}{k:List aD}{ks:List (List aD×V)}{kvs:List (List aD×W)}(f:Rd H a (.dT ks))(q:bN K H M (List aD) ks kvs)(h:AV K H M y (.tup (k.map wK))):(bD kvs k=none/\gM H a y none)\/∃ v w,bD kvs k=some w/\gM H a y (some v)/\AV K H M v w:=
 h.tupE fun b xs e eb g=>by
  rw[g.keys] at eb
  rcases sJ q k with⟨d,c⟩ | ⟨v,w,d,c,i⟩
  ·exact .inl ⟨d,by rw[<-c];exact .inr ⟨_,_,_,f,e,eb,rfl⟩⟩
  ·exact .inr ⟨v,w,d,by rw[<-c];exact .inr ⟨_,_,_,f,e,eb,rfl⟩,i⟩
theorem sM{K:Ae}{H:Hp}{M:Mm}{x y:V}{g i:W}{o:Option W}(j:AM K H M)(b:AV K H M x g)(c:AV K H M y i)(h:d6 M g i o):∃ a,x=.ref a/\((o=none/\gM H a y none)\/∃ v w,o=some w/\gM H a y (some v)/\AV K H M v w):=by
 cases g <;> first | exact(show False from h).elim | skip
 case ref a=>
  rcases h with⟨kvs,k,e,rfl,rfl⟩ | ⟨kvs,k,e,rfl,rfl⟩
  ·obtain⟨ks,d,q⟩:=j _ _ e
   exact⟨a,b.inv,wH (.inl d) q c⟩
  ·obtain⟨ks,d,q⟩:=j _ _ e
   exact⟨a,b.inv,wI (.inl d) q c⟩
 all_goals
  obtain⟨k,rfl,rfl⟩:=h
  have b:=b.inv
 case dk=>obtain⟨a,ks,e,f,_,q⟩:=b;exact⟨a,e,wH (.inl f) q c⟩
 case dt=>obtain⟨a,ks,e,f,_,q⟩:=b;exact⟨a,e,wI (.inl f) q c⟩
 case fk=>obtain⟨a,ks,e,f,q⟩:=b;exact⟨a,e,wH (.inr f) q c⟩
 case ft=>obtain⟨a,ks,e,f,q⟩:=b;exact⟨a,e,wI (.inr f) q c⟩
def aV:R3
 | .tup ws,.int i,M,R=>∃ w,bU ws i=some w/\R w M
 | .rl ws,.int i,M,R=>∃ w,bU ws i=some w/\R w M
 | .sc ws,.int i,M,R=>∃ w,bU ws i=some w/\R w M
 | .dk kvs,y,M,R=>∃ w,d6 M (.dk kvs) y (some w)/\R w M
 | .dt kvs,y,M,R=>∃ w,d6 M (.dt kvs) y (some w)/\R w M
 | .fk kvs,y,M,R=>∃ w,d6 M (.fk kvs) y (some w)/\R w M
 | .ft kvs,y,M,R=>∃ w,d6 M (.ft kvs) y (some w)/\R w M
 | .str z,.int i,M,R=>z.length<=Aj/\∃ c,bU z.cps.toList i=some c/\R (.str ⟨#[c]⟩) M
 | .ref a,.int i,M,R=>(∃ ws w,M a=some (.lst ws)/\bU ws i=some w/\R w M)\/∃ w,d6 M (.ref a) (.int i) (some w)/\R w M
 | .ref a,y,M,R=>∃ w,d6 M (.ref a) y (some w)/\R w M
 | _,_,_,_=>False
theorem wJ{K:Ae}{H:Hp}{M:Mm}{vs:List V}{ws:List W}{i:Int}{w:W}(q:aL K H M vs ws)(h:bU ws i=some w):∃ v,bU vs i=some v/\AV K H M v w:=by
 unfold bU at h ⊢
 rw[q.length]
 cases e:iE ws.length i with
 | none=>rw[e] at h;cases h
 | some j=>
  rw[e] at h
  exact q.getW (i:=j) h
theorem UR(j:X.A.units + 1 < Gh):iR X (fun x y H Q=>∃ a v,x=.ref a/\gM H a y (some v)/\Q v H):=by
 intro d b pins s σ H x y v u Q I f i h hs
 obtain⟨a,z,rfl,g,q⟩:=h
 cases f
 exact tail_any (RJ I g) PySem.F.slot_dict_getitem.lookup (RD j I g i fun k l e c=>⟨z,H,e,c,q⟩) hs
theorem US{P:W->W->Prop}{M:Mm}{R:K3}(d:∀ ws i w,bU ws i=some w->R w M->P (.tup ws) (.int i))(g:∀ ws i w,bU ws i=some w->R w M->P (.sc ws) (.int i))
  (b:∀ x ws i w,kU M x ws->bU ws i=some w->R w M->P x (.int i)) (f:∀ z i,z.length<=Aj/\(∃ c,bU z.cps.toList i=some c/\R (.str ⟨#[c]⟩) M)->P (.str z) (.int i))
  (a:∀ x y w,d6 M x y (some w)->R w M->P x y) (x y:W) (h:aV x y M R):P x y:=by
 cases x
 case non | bl | int | ty=>exact(show False from h).elim
 case dk | dt | fk | ft=>exact h.elim fun w h=>a _ _ _ h.1 h.2
 all_goals cases y <;> first | exact(show False from h).elim | skip
 case tup.int=>obtain⟨w,e,r⟩:=h;exact d _ _ _ e r
 case sc.int=>obtain⟨w,e,r⟩:=h;exact g _ _ _ e r
 case rl.int=>obtain⟨w,e,r⟩:=h;exact b _ _ _ _ rfl e r
 case str.int=>exact f _ _ h
 case ref.int=>exact h.elim (fun⟨ws,w,e,j,r⟩=>b _ _ _ _ e j r) fun⟨w,e,r⟩=>a _ _ _ e r
 all_goals obtain⟨w,e,r⟩:=h;exact a _ _ _ e r
theorem UT(n:X.A.units + 1 < Gh):iR X (cE X.K aV):=UB (QI.or (QJ.or (QK.or (UR n)))) fun x y H Q M R j k=>US
 (fun ws i w h r b d=>b.tupE fun a xs e f q=>let ⟨z,e3,l⟩:=wJ q h;.inr (.inl ⟨a,xs,i,z,e,d.inv,bM.of f,e3,k.at j l r⟩))
 (fun ws i w h r b d=>b.scE fun a xs e f q=>let ⟨z,e3,l⟩:=wJ q h;.inl ⟨a,xs,i,z,e,d.inv,f.sq,e3,k.at j l r⟩)
 (fun o ws i w p h r b d=>let ⟨a,xs,e,f,q⟩:=lR j b p;let ⟨z,e3,l⟩:=wJ q h;.inl ⟨a,xs,i,z,e,d.inv,a9.of f,e3,k.at j l r⟩)
 (fun z i h b d=>let ⟨c,e,r⟩:=h.2;.inr (.inr (.inl ⟨z,i,c,b.inv,d.inv,h.1,e,k.at j (.str _) r⟩)))
 (fun o s w g r b d=>.inr (.inr (.inr (by
  obtain⟨a,e,g⟩:=sM j b d g
  rcases g with⟨z,_⟩ | ⟨z,t,m,g',l⟩
  ·cases z
  ·exact⟨a,z,e,g',k.at j l (by rw[<-Dz m];exact r)⟩))))
variable {a b:Expr}{ta tb:aS}{pos:Pos}
theorem bA(c:X.A.units + 1 < Gh)(ha:E3 X a ta)(hb:E3 X b tb)(hs:B2 b:=by exact fun _ _=>rfl):E3 X (.Subscript a b pos) (aG aV ta tb):=(QE (UT c) ha hb hs).weak fun _ _ _ h=>r6 h
def cH(ws:List W)(lo hi:Option Int):List W:=(ws.drop (HT.sIx ws.length 0 lo)).take (HT.sIx ws.length ws.length hi - HT.sIx ws.length 0 lo)
def mU:W->Option Int->Option Int->Mm->K3->Prop
 | .rl ws,lo,hi,M,R=>aQ (cH ws lo hi) M R
 | .sc ws,lo,hi,M,R=>aQ (cH ws lo hi) M R
 | .ref a,lo,hi,M,R=>∃ ws,M a=some (.lst ws)/\aQ (cH ws lo hi) M R
 | .tup ws,lo,hi,M,R=>¬ (HT.sIx ws.length 0 lo=0/\HT.sIx ws.length ws.length hi=ws.length)/\R (.tup (cH ws lo hi)) M
 | _,_,_,_,_=>False
theorem sN{K:Ae}{H:Hp}{M:Mm}{vs:List V}{ws:List W}{lo hi:Option Int}(q:aL K H M vs ws):aL K H M (lK vs lo hi) (cH ws lo hi):=by
 unfold lK cH
 rw[q.length]
 exact(q.drop _).take _
def UU(K:Ae)(r:W->Option Int->Option Int->Mm->K3->Prop):V->Option Int->Option Int->Hp->VK->Prop:=fun x lo hi H Q=>∃ a M R,AM K H M/\AV K H M x a/\r a lo hi M R/\Up K H M R Q
theorem C7:rL X (UU X.K mU):=by
 rintro pins s σ H x v j d lo hi sl Q I l hs pl g ⟨m,M,R,c,i,h,k⟩
 cases m <;> first | exact(show False from h).elim | skip
 case tup ws=>exact i.tupE fun a xs e f q=>QB pins s σ H _ v j d lo hi sl Q I l hs pl g ⟨a,xs,e,bM.of f,by rw[q.length];exact h.1,fun p b=>laidT c k b (sN q) h.2⟩
 case sc ws=>exact i.scE fun a xs e f q=>vL pins s σ H _ v j d lo hi sl Q I l hs pl g ⟨a,xs,e,f.sq,fun p b=>iH c k b (sN q) h⟩
 case rl ws=>exact i.rlE fun a xs e f q=>vL pins s σ H _ v j d lo hi sl Q I l hs pl g ⟨a,xs,e,a9.of f,fun p b=>iH c k b (sN q) h⟩
 case ref a=>
  obtain⟨ws,e,r⟩:=h
  exact c.lstE e fun vs f q=>vL pins s σ H _ v j d lo hi sl Q I l hs pl g ⟨a,vs,i.inv,a9.of f,fun p b=>iH c k b (sN q) r⟩
abbrev lV:=S3->Mm->(Option Int->Mm->Prop)->Prop
def lW(K:Ae)(t:lV):TO:=fun σ H Q=>∃ (c:S3) (M:Mm) (R:Option Int->Mm->Prop),AS K H M σ c/\AM K H M/\t c M R/\∀ o b a,Kp H M b a->AM K b a->R o a->Q o b
theorem lW.el{K:Ae}{H:Hp}{σ:SV}{C:Prop}{t:lV}{Q:Option Int->Hp->Prop}(h:lW K t σ H Q)(c:∀ d M R,AS K H M σ d->AM K H M->t d M R->(∀ o e f,Kp H M e f->AM K e f->R o f->Q o e)->C):C:=by obtain⟨d,M,R,a,b,h,k⟩:=h;exact c d M R a b h k
def mV:lV:=fun _ M Q=>Q none M
def jF(t:aS):lV:=fun a M Q=>t a M fun x M1=>∃ i,x=.int i/\Q (some i) M1
theorem p5:PO X none (lW X.K mV):=P7.weak fun σ H Q z0=>z0.el fun b M R c a h k=>k none H M (Kp.refl a) a h
theorem kW(h:E3 X a ta):PO X (some a) (lW X.K (jF ta)):=(P8 h).weak fun σ H Q z0=>z0.el fun d M R c f h k=>⟨d,M,_,c,f,h,fun x m n M1 g b j ⟨i,e,l⟩=>by
 subst e;exact⟨i,j.inv,k _ _ _ g b l⟩⟩
def wL(ta:aS)(c b:lV):aS:=fun a M R=>ta a M fun x M1=>c a M1 fun l e=>b a e fun u d=>mU x l u d R
theorem UW{lo hi:Option Expr}{m n:lV}{y:Pos}(z:E3 X a ta)(hl:PO X lo (lW X.K m))(v:PO X hi (lW X.K n)):E3 X (.Subscript a (.Slice lo hi none y) pos) (wL ta m n):=
 (BY C7 z hl v).weak fun σ H Q z0=>z0.el fun g M R e f h k=>⟨g,M,_,e,f,h,fun x C q M1 i b t s=>⟨g,M1,_,e.kp f i,b,s,fun l B A d c w=>⟨g,A,_,(e.kp f i).kp b d,c,w,fun u D r o j p=>
  ⟨q,r,R,j,(t.kp b d).kp c o,p,((k.kp i).kp d).kp o⟩⟩⟩⟩
def eS:W->Bool
 | .non=>true
 | .bl _=>true
 | .int _=>true
 | .str _=>true
 | _=>false
def nY:W->W->Bool
 | .non,.non=>true
 | .bl a,.bl b=>a == b
 | .bl a,.int b=>(if a then 1 else 0) == b
 | .int a,.bl b=>a == (if b then 1 else 0)
 | .int a,.int b=>a == b
 | .str a,.str b=>a == b
 | _,_=>false
def inW(x:W)(ws:List W):Bool:=ws.any fun y=>nY y x
theorem AV.flat{K:Ae}{H:Hp}{M:Mm}{v:V}{w:W}(h:AV K H M v w)(f:eS w=true):jP v=true:=by cases h <;> first | rfl | exact f
def wM:W->V
 | .non=>.non
 | .bl b=>.bl b
 | .int i=>.int i
 | .str x=>.str x
 | _=>.non
theorem AV.flv{K:Ae}{H:Hp}{M:Mm}{v:V}{w:W}(h:AV K H M v w)(f:eS w=true):v=wM w:=by
 cases w <;> first | exact h.inv | exact absurd f Am
theorem UX:∀ {w z:W},eS w=true->eS z=true->jQ (wM w) (wM z)=nY w z:=by
 intro w z f g
 cases w <;> first | exact absurd f Am | (cases z <;> first | rfl | exact absurd g Am)
theorem AV.eq{K:Ae}{H:Hp}{M:Mm}{v u:V}{w z:W}(h:AV K H M v w)(b:AV K H M u z)(f:eS w=true)(a:eS z=true):jQ v u=nY w z:=by
 rw[h.flv f,b.flv a];exact UX f a
theorem aL.inn{K:Ae}{H:Hp}{M:Mm}{u:V}{z:W}(hz:AV K H M u z)(a:eS z=true):∀ {vs:List V} {ws:List W},aL K H M vs ws->ws.all eS=true->vs.all jP=true/\inV u vs=inW z ws
 | _,_,.nil,_=>⟨rfl,rfl⟩
 | _,_,.cons x r,f=>by
  rw[Js,Cs] at f
  obtain⟨c,b⟩:=aL.inn hz a r f.2
  refine⟨by rw[Js,x.flat f.1,c];rfl,?_⟩
  unfold inV inW at b ⊢
  rw[Gq,Gq,b,x.eq hz f.1 a]
def occ(i j:Str):Bool:=!(Jk j i 0 j.length 1).isEmpty
def rIn(neg:Bool):R3
 | .str i,.str j,M,R=>R (.bl (if neg then !occ i j else occ i j)) M
 | x,.tup ws,M,R=>eS x=true/\ws.all eS=true/\R (.bl (if neg then !inW x ws else inW x ws)) M
 | x,.rl ws,M,R=>eS x=true/\ws.all eS=true/\R (.bl (if neg then !inW x ws else inW x ws)) M
 | x,.ref a,M,R=>(∃ ws,M a=some (.lst ws)/\eS x=true/\ws.all eS=true/\R (.bl (if neg then !inW x ws else inW x ws)) M)\/∃ o,d6 M (.ref a) x o/\R (.bl (if neg then !o.isSome else o.isSome)) M
 | x,.dk kvs,M,R=>∃ o,d6 M (.dk kvs) x o/\R (.bl (if neg then !o.isSome else o.isSome)) M
 | x,.dt kvs,M,R=>∃ o,d6 M (.dt kvs) x o/\R (.bl (if neg then !o.isSome else o.isSome)) M
 | x,.fk kvs,M,R=>∃ o,d6 M (.fk kvs) x o/\R (.bl (if neg then !o.isSome else o.isSome)) M
 | x,.ft kvs,M,R=>∃ o,d6 M (.ft kvs) x o/\R (.bl (if neg then !o.isSome else o.isSome)) M
 | _,_,_,_=>False
def C8(M:Mm):W->List W->Prop
 | .tup ws,a=>ws=a
 | x,ws=>kU M x ws
theorem C9{K:Ae}{H:Hp}{M:Mm}{v:V}{w:W}{ws:List W}(c:AM K H M)(h:AV K H M v w)(e:C8 M w ws):∃ a xs,v=.ref a/\(a9 K H a xs\/bM K H a xs)/\aL K H M xs ws:=by
 cases w
 case tup zs=>exact h.tupE fun a xs b f q=>⟨_,_,b,.inr (bM.of f),by rw[<-show zs=ws from e];exact q⟩
 case ref | rl=>obtain⟨a,xs,b,f,q⟩:=lR c h e;exact⟨a,xs,b,.inl (a9.of f),q⟩
 all_goals exact(show False from e).elim
theorem DA{n:Bool}{P:W->W->Prop}{M:Mm}{R:K3}(d:∀ i j,R (.bl (if n then !occ i j else occ i j)) M->P (.str i) (.str j))
  (c:∀ x y ws,C8 M y ws->eS x=true/\ws.all eS=true/\R (.bl (if n then !inW x ws else inW x ws)) M->P x y)
  (b:∀ x y o,d6 M y x o->R (.bl (if n then !o.isSome else o.isSome)) M->P x y) (x y:W) (h:rIn n x y M R):P x y:=by
 cases y
 case non | bl | int | ty | sc=>exfalso;cases x <;> exact h
 case str=>cases x <;> first | exact(show False from h).elim | exact d _ _ h
 case tup=>exact c _ _ _ rfl (by cases x <;> exact h)
 case rl=>exact c _ _ _ rfl (by cases x <;> exact h)
 case ref a=>
  have h:(∃ ws,M a=some (.lst ws)/\eS x=true/\ws.all eS=true/\R (.bl (if n then !inW x ws else inW x ws)) M)\/∃ o,d6 M (.ref a) x o/\R (.bl (if n then !o.isSome else o.isSome)) M:=by cases x <;> exact h
  exact h.elim (fun⟨ws,e,h⟩=>c _ _ _ e h) fun⟨o,g,r⟩=>b _ _ _ g r
 case dk kvs=>have h:∃ o,d6 M (.dk kvs) x o/\R (.bl (if n then !o.isSome else o.isSome)) M:=(by cases x <;> exact h);exact h.elim fun o h=>b _ _ _ h.1 h.2
 case dt kvs=>have h:∃ o,d6 M (.dt kvs) x o/\R (.bl (if n then !o.isSome else o.isSome)) M:=(by cases x <;> exact h);exact h.elim fun o h=>b _ _ _ h.1 h.2
 case fk kvs=>have h:∃ o,d6 M (.fk kvs) x o/\R (.bl (if n then !o.isSome else o.isSome)) M:=(by cases x <;> exact h);exact h.elim fun o h=>b _ _ _ h.1 h.2
 case ft kvs=>have h:∃ o,d6 M (.ft kvs) x o/\R (.bl (if n then !o.isSome else o.isSome)) M:=(by cases x <;> exact h);exact h.elim fun o h=>b _ _ _ h.1 h.2
def DB(n:Bool):R2:=fun x y H Q=>∃ a o,y=.ref a/\gM H a x o/\Q (.bl (if n then !o.isSome else o.isSome)) H
theorem UY(d:X.A.units + 1 < Gh):bB X (Ck .In) (DB false):=by
 rintro pins s σ H x y v u Q I e c ⟨a,o,rfl,g,q⟩
 cases c
 exact RE d I g e fun f b=>⟨.bl _,H,b,rfl,q⟩
theorem UZ(d:X.A.units + 1 < Gh):bB X (Ck .NotIn) (DB true):=by
 rintro pins s σ H x y v u Q I e c ⟨a,o,rfl,g,q⟩
 cases c
 exact RF d I g e fun f b=>⟨.bl _,H,b,rfl,q⟩
theorem DC{K:Ae}{H:Hp}{M:Mm}{x y:V}{d c:W}{o:Option W}(f:AM K H M)(i:AV K H M x d)(j:AV K H M y c)(h:d6 M d c o):∃ a b,x=.ref a/\gM H a y b/\b.isSome=o.isSome:=by
 obtain⟨a,e,⟨rfl,g⟩ | ⟨v,w,rfl,g,_⟩⟩:=sM f i j h
 ·exact⟨a,_,e,g,rfl⟩
 ·exact⟨a,_,e,g,rfl⟩
theorem nZ(m:X.A.units + 1 < Gh):bB X (Ck .In) (cE X.K (rIn false)):=lP (OL.or (QT.or (UY m))) fun x y H Q M R c k=>DA
 (fun i j h b d=>.inl ⟨i,j,b.inv,d.inv,k.at c (.bl _) h⟩)
 (fun n l ws e h b d=>let ⟨a,xs,e1,f,q⟩:=C9 c d e;.inr (.inl ⟨a,xs,e1,f,b.flat h.1,(aL.inn b h.1 q h.2.1).1,by rw[(aL.inn b h.1 q h.2.1).2];exact k.at c (.bl _) h.2.2⟩))
 (fun n l o g r b d=>let ⟨a,o',e,g,z⟩:=DC c d b g;.inr (.inr ⟨a,o',e,g,by rw[z];exact k.at c (.bl _) r⟩))
theorem p6(m:X.A.units + 1 < Gh):bB X (Ck .NotIn) (cE X.K (rIn true)):=lP (OM.or (QU.or (UZ m))) fun x y H Q M R c k=>DA
 (fun i j h b d=>.inl ⟨i,j,b.inv,d.inv,k.at c (.bl _) h⟩)
 (fun n l ws e h b d=>let ⟨a,xs,e1,f,q⟩:=C9 c d e;.inr (.inl ⟨a,xs,e1,f,b.flat h.1,(aL.inn b h.1 q h.2.1).1,by rw[(aL.inn b h.1 q h.2.1).2];exact k.at c (.bl _) h.2.2⟩))
 (fun n l o g r b d=>let ⟨a,o',e,g,z⟩:=DC c d b g;.inr (.inr ⟨a,o',e,g,by rw[z];exact k.at c (.bl _) r⟩))
def cX:List W->Mm->K3->Prop
 | [.tup ws],M,R=>R (.int ws.length) M
 | [.rl ws],M,R=>R (.int ws.length) M
 | [.sc ws],M,R=>R (.int ws.length) M
 | [.dk kvs],M,R=>R (.int kvs.length) M
 | [.str z],M,R=>z.length<=Aj/\R (.int z.length) M
 | [.ref a],M,R=>(∃ ws,M a=some (.lst ws)/\R (.int ws.length) M)\/∃ kvs,M a=some (.dK kvs)/\R (.int kvs.length) M
 | _,_,_=>False
theorem U0{P:List W->Prop}{M:Mm}{R:K3}(c:∀ ws,R (.int ws.length) M->P [.tup ws])(g:∀ ws,R (.int ws.length) M->P [.sc ws])(b:∀ x ws,kU M x ws->R (.int ws.length) M->P [x])
  (d:∀ z,z.length<=Aj/\R (.int z.length) M->P [.str z]) (i:∀ kvs,R (.int kvs.length) M->P [.dk kvs]) (f:∀ a kvs,M a=some (.dK kvs)->R (.int kvs.length) M->P [.ref a]) (l:List W) (h:cX l M R):P l:=by
 match l,h with
 | [.tup _],h=>exact c _ h
 | [.rl _],h=>exact b _ _ rfl h
 | [.sc _],h=>exact g _ h
 | [.dk _],h=>exact i _ h
 | [.str _],h=>exact d _ h
 | [.ref _],h=>exact h.elim (fun⟨ws,e,r⟩=>b _ _ e r) fun⟨ws,e,r⟩=>f _ _ e r
theorem eM:cU X (.builtin "len") (gC X.K cX):=wC (QV.or (QW.or RX)) fun xs H Q M R g k=>U0
 (fun ws h b=>b.oneE fun v c d=>d.tupE fun a us e f q=>.inl ⟨_,_,gZ c e,.inr (bM.of f),by rw[q.length];exact k.at g (.int _) h⟩)
 (fun ws h b=>b.oneE fun v c d=>d.scE fun a us e f q=>.inl ⟨_,_,gZ c e,.inl f.sq,by rw[q.length];exact k.at g (.int _) h⟩)
 (fun x ws i h b=>b.oneE fun v c d=>let ⟨a,us,e,f,q⟩:=lR g d i;.inl ⟨_,_,gZ c e,.inl (a9.of f),by rw[q.length];exact k.at g (.int _) h⟩)
 (fun z h b=>b.oneE fun v c d=>.inr (.inl ⟨z,gZ c d.inv,h.1,k.at g (.int _) h.2⟩))
 (fun kvs h b=>b.oneE fun v c d=>let ⟨a,ks,e,f,_,q⟩:=d.inv;.inr (.inr ⟨a,ks,gZ c e,f,by rw[Eo q];exact k.at g (.int _) h⟩))
 (fun a kvs i h b=>b.oneE fun v c d=>let ⟨ks,f,q⟩:=g _ _ i;.inr (.inr ⟨a,ks,gZ c d.inv,f,by rw[Eo q];exact k.at g (.int _) h⟩))
def kX:List W->Mm->K3->Prop
 | [.tup ws],M,R=>aQ ws M R
 | [.rl ws],M,R=>aQ ws M R
 | [.sc ws],M,R=>aQ ws M R
 | [.dk kvs],M,R=>aQ (kvs.map fun b=>wK b.1) M R
 | [.ref a],M,R=>(∃ ws,M a=some (.lst ws)/\aQ ws M R)\/∃ kvs,M a=some (.dK kvs)/\aQ (kvs.map fun b=>wK b.1) M R
 | _,_,_=>False
theorem DD{K:Ae}{H:Hp}{M:Mm}{ks:List (aD×V)}{kvs:List (aD×W)}(h:bN K H M aD ks kvs):aL K H M (ks.map fun a=>kV a.1) (kvs.map fun a=>wK a.1):=by
 induction h with
 | nil=>exact .nil
 | @cons p q ps c r t b=>
  refine .cons ?_ b
  show AV K H M (kV p.1) (wK q.1)
  rw[r.1]
  cases q.1 with
  | inl i=>exact .int i
  | inr x=>exact .str x
theorem U1{P:List W->Prop}{M:Mm}{R:K3}(d:∀ ws,aQ ws M R->P [.tup ws])(g:∀ ws,aQ ws M R->P [.sc ws])(c:∀ x ws,kU M x ws->aQ ws M R->P [x])
  (i:∀ kvs:List (aD×W),aQ (kvs.map fun b=>wK b.1) M R->P [.dk kvs]) (f:∀ a kvs,M a=some (.dK kvs)->aQ (kvs.map fun b=>wK b.1) M R->P [.ref a]) (l:List W) (h:kX l M R):P l:=by
 match l,h with
 | [.tup _],h=>exact d _ h
 | [.rl _],h=>exact c _ _ rfl h
 | [.sc _],h=>exact g _ h
 | [.dk _],h=>exact i _ h
 | [.ref _],h=>exact h.elim (fun⟨ws,e,r⟩=>c _ _ e r) fun⟨ws,e,r⟩=>f _ _ e r
theorem wN(hc:X.calm=true):cU X (.type "list") (gC X.K kX):=wC (QX.or (SW hc)) fun xs H Q M R i k=>U1
 (fun ws h b=>b.oneE fun v c g=>g.tupE fun a us e f q=>.inl ⟨_,_,gZ c e,.inr (bM.of f),fun p d=>iH i k d q h⟩)
 (fun ws h b=>b.oneE fun v c g=>g.scE fun a us e f q=>.inl ⟨_,_,gZ c e,.inl f.sq,fun p d=>iH i k d q h⟩)
 (fun x ws j h b=>b.oneE fun v c g=>let ⟨a,us,e,f,q⟩:=lR i g j;.inl ⟨_,_,gZ c e,.inl (a9.of f),fun p d=>iH i k d q h⟩)
 (fun kvs h b=>b.oneE fun v c g=>let ⟨a,ks,e,f,_,q⟩:=g.inv;.inr ⟨a,ks,gZ c e,f,fun p d=>iH i k d (DD q) h⟩)
 (fun a kvs j h b=>b.oneE fun v c g=>let ⟨ks,f,q⟩:=i _ _ j;.inr ⟨a,ks,gZ c g.inv,f,fun p d=>iH i k d (DD q) h⟩)
def n5:List W->Mm->K3->Prop
 | [.tup ws],M,R=>R (.tup ws) M
 | [.rl ws],M,R=>R (.tup ws) M
 | [.ref a],M,R=>∃ ws,M a=some (.lst ws)/\R (.tup ws) M
 | _,_,_=>False
theorem U2{P:List W->Prop}{M:Mm}{R:K3}(b:∀ ws,R (.tup ws) M->P [.tup ws])(a:∀ x ws,kU M x ws->R (.tup ws) M->P [x])(l:List W)(h:n5 l M R):P l:=by
 match l,h with
 | [.tup _],h=>exact b _ h
 | [.rl _],h=>exact a _ _ rfl h
 | [.ref _],h=>exact h.elim fun ws h=>a _ _ h.1 h.2
theorem U3:cU X (.type "tuple") (gC X.K n5):=wC QY fun xs H Q M R c k=>U2
 (fun ws h d=>d.oneE fun v g b=>b.tupE fun a us e f q=>⟨_,_,gZ g e,.inr ⟨bM.of f,k.at c (by rw[<-e];exact b) h⟩⟩)
 (fun x ws j h d=>d.oneE fun v g b=>let ⟨a,us,e,f,q⟩:=lR c b j;⟨_,_,gZ g e,.inl ⟨a9.of f,fun p i=>laidT c k i q h⟩⟩)
def bools(bs:List Bool):List W:=bs.map W.bl
theorem aL.bools{K:Ae}{H:Hp}{M:Mm}:∀ {bs:List Bool} {vs:List V},aL K H M vs (L3.bools bs)->vs=bs.map V.bl
 | [],_,h=>by cases h;rfl
 | b :: r,_,h=>by
  cases h with
  | cons x y=>cases x;rw[aL.bools y];rfl
theorem aL.ints{K:Ae}{H:Hp}{M:Mm}:∀ {bs:List Int} {vs:List V},aL K H M vs (bs.map W.int)->vs=bs.map V.int
 | [],_,h=>by cases h;rfl
 | b :: r,_,h=>by
  cases h with
  | cons x y=>cases x;rw[aL.ints y];rfl
def wO:List W->Mm->K3->Prop
 | [.ref a],M,R=>∃ bs,M a=some (.lst (bools bs))/\R (.bl (bs.all id)) M
 | [.rl ws],M,R=>∃ bs,ws=bools bs/\R (.bl (bs.all id)) M
 | _,_,_=>False
theorem U4(hc:X.calm=true):cU X (.builtin "all") (gC X.K wO):=by
 rintro pins s σ H xs us Q I rs ⟨ws,M,R,d,b,h,k⟩
 match ws,h with
 | [.ref a],h=>
  obtain⟨v,rfl,c⟩:=b.one
  cases c
  obtain⟨bs,e,r⟩:=h
  obtain⟨vs,f,q⟩:=d.lst e
  rw[q.bools] at f
  exact CF hc pins s σ H _ us Q I rs ⟨a,bs,rfl,a9.of f,k.at d (.bl _) r⟩
 | [.rl ws],h=>
  obtain⟨v,rfl,c⟩:=b.one
  obtain⟨bs,rfl,r⟩:=h
  cases c with
  | rl f _ q=>
   rw[q.bools] at f
   exact CF hc pins s σ H _ us Q I rs ⟨_,bs,rfl,a9.of f,k.at d (.bl _) r⟩
def fU:W->List W->Mm->K3->Prop
 | .ref l,[y],M,R=>∃ ws,M l=some (.lst ws)/\ws.length < Aj/\R .non (put M l (.lst (ws ++ [y])))
 | _,_,_,_=>False
theorem kY:iS X "list.append" (kQ X.K fU):=by
 rintro pins s σ H x xs v us Q I d rs ⟨g,ws,M,R,b,c,a,h,k⟩
 match g,ws,h with
 | .ref l,[y],h=>
  obtain⟨z,rfl,i⟩:=a.one
  cases c
  obtain⟨ws,e,hl,r⟩:=h
  obtain⟨vs,f,q⟩:=b.lst e
  exact B5 pins s σ H _ _ v us Q I d rs ⟨l,vs,z,rfl,rfl,f,by rw[q.length];exact hl,wB b k e (q.append (.cons i .nil)) .non r⟩
def rPop:W->List W->Mm->K3->Prop
 | .ref l,[],M,R=>∃ ws w,M l=some (.lst (ws ++ [w]))/\R w (put M l (.lst ws))
 | _,_,_,_=>False
theorem DE:iS X "list.pop" (kQ X.K rPop):=by
 rintro pins s σ H x xs v us Q I d rs ⟨g,ws,M,R,b,c,a,h,k⟩
 match g,ws,h with
 | .ref l,[],h=>
  cases a
  cases c
  obtain⟨ws,w,e,r⟩:=h
  obtain⟨vs,f,q⟩:=b.lst e
  have hl:=q.length
  rw[Av,Eb] at hl
  obtain⟨z,hz,j⟩:=q.getW (i:=ws.length) (w:=w) (by simp)
  refine Q5 pins s σ H _ _ v us Q I d rs ⟨l,vs,z,rfl,rfl,f,by rw[hl];exact hz,wB b k e ?_ j r⟩
  have:=q.dropLast
  rw[List.dropLast_concat] at this
  exact this
def wQ:aS:=fun _ M R=>TZ [] M R
def lX:aS:=fun _ M R=>iG [] M R
theorem U5:E3 X (.Dict [] [] pos) wQ:=RO.weak fun σ H Q ⟨f,M,R,e,b,h,k⟩ p c=>by
 obtain⟨a,d⟩:=b.laid (o:=.dK []) (u:=.dK []) c ⟨[],dY,.nil⟩
 exact k _ _ _ _ d a (.ref p) (h p (b.nonM c))
theorem n6:E3 X (.Dict [] [] pos) lX:=RP.weak fun σ H Q ⟨f,M,R,e,b,h,k⟩ p c=>by
 obtain⟨a,d⟩:=b.laid (o:=.dT []) (u:=.dT []) c ⟨[],dY,.nil⟩
 exact k _ _ _ _ d a (.ref p) (h p (b.nonM c))
end
abbrev P3(X:Cx)(st:Stmt)(t:aK):Prop:=PS X st (pQ X.K t)
abbrev j8(X:Cx)(st:List Stmt)(t:aK):Prop:=fR X st (pQ X.K t)
abbrev eT:=W->S3->Mm->(S3->Mm->Prop)->Prop
abbrev lY:=List W->S3->Mm->(S3->Mm->Prop)->Prop
def gP(K:Ae)(g:eT):TG:=fun v b H Q=>∃ w a M R,AV K H M v w/\AS K H M b a/\AM K H M/\g w a M R/\gY K H M R Q
def n8(K:Ae)(g:lY):jA:=fun vs b H Q=>∃ ws a M R,aL K H M vs ws/\AS K H M b a/\AM K H M/\g ws a M R/\gY K H M R Q
theorem gP.el{K:Ae}{H:Hp}{f:SV}{C:Prop}{t:eT}{v:V}{Q:SV->Hp->Prop}(h:gP K t v f H Q)(c:∀ w e M R,AV K H M v w->AS K H M f e->AM K H M->t w e M R->gY K H M R Q->C):C:=by obtain⟨w,e,M,R,a,b,d,h,k⟩:=h;exact c w e M R a b d h k
theorem n8.el{K:Ae}{H:Hp}{f:SV}{C:Prop}{t:lY}{v:List V}{Q:SV->Hp->Prop}(h:n8 K t v f H Q)(c:∀ w e M R,aL K H M v w->AS K H M f e->AM K H M->t w e M R->gY K H M R Q->C):C:=by obtain⟨w,e,M,R,a,b,d,h,k⟩:=h;exact c w e M R a b d h k
section
variable {X:Cx}{pos:Pos}
theorem _root_.L2.PG.weak{e:Expr}{t t':TG}(h:PG X e t)(k:∀ v b H Q,t' v b H Q->t v b H Q):PG X e t':=fun a s b H v u Q I r q=>h a s b H v u Q I r (k v b H Q q)
theorem _root_.L2.iQ.weak{e:List Expr}{t t':jA}(h:iQ X e t)(k:∀ v b H Q,t' v b H Q->t v b H Q):iQ X e t':=fun a s b H v u Q I r q=>h a s b H v u Q I r (k v b H Q q)
theorem gY.at{K:Ae}{H:Hp}{M:Mm}{R:S3->Mm->Prop}{Q:SV->Hp->Prop}(h:gY K H M R Q)(c:AM K H M){b:SV}{a:S3}(d:AS K H M b a)(r:R a M):Q b H:=h b H a M (Kp.refl c) c d r
def bQ(i:Nat):eT:=fun w a M R=>R (a.set i (some w)) M
theorem DF{i:Nat}{x:Str}(e:X.N.Nodup)(hi:X.N[i]? = some x)(d:Loc X.env.scope x)(hf:X.fn x=true\/X.env.scope.names.lookup x=some .local:=by first | exact .inl rfl | exact .inr rfl | assumption):PG X (.Name x pos) (gP X.K (bQ i)):=
 (ND e hi d hf).weak fun v g H Q z0=>z0.el fun w f M R b a c h k=>k.at c (a.set b i) h
def j9:lY:=fun ws a M R=>ws=[]/\R a M
def fD(t:eT)(u:lY):lY:=fun ws c M R=>match ws with
 | w :: r=>t w c M fun a b=>u r a b R
 | []=>False
theorem mW:iQ X [] (n8 X.K j9):=NH.weak fun vs e H Q z=>z.el fun ws d M R b a c h k=>⟨aL.nil_ (by rw[<-h.1];exact b),k.at c a h.2⟩
theorem gE{e:Expr}{es:List Expr}{t:eT}{u:lY}(g:PG X e (gP X.K t))(l:iQ X es (n8 X.K u))
  (hs:(He (e :: es) X.env).map (·.2)=Na e X.env :: (He es X.env).map (·.2):=by rfl):iQ X (e :: es) (n8 X.K (fD t u)):=
 (NI g l hs).weak fun vs p H Q z0=>z0.el fun ws n M R m j f h k=>by
  cases m with
  | nil=>exact(show False from h).elim
  | cons x r=>exact⟨_,_,rfl,_,n,M,_,x,j,f,h,fun o q c i d a b h'=>⟨_,c,i,R,r.kp f d,b,a,h',k.kp d⟩⟩
def kA(n:Nat)(g:lY):eT:=fun w b M R=>match w with
 | .tup ws=>ws.length=n/\g ws b M R
 | .rl ws=>ws.length=n/\g ws b M R
 | .ref a=>∃ ws,M a=some (.lst ws)/\ws.length=n/\g ws b M R
 | _=>False
theorem mX{es:List Expr}{k:Nat}{t:lY}{n:Nat}(hc:X.calm=true)(h:iQ X es (n8 X.K t))
  (o:(He es X.env).length=n:=by rfl) (c:(He es X.env).findIdx? (·.1)=none:=by rfl):PG X (.Tuple es k pos) (gP X.K (kA n t)):=by
 rintro b s l H v u Q I r ⟨w,j,M,R,i,g,d,hw,m⟩
 cases w <;> first | exact(show False from hw).elim | skip
 case tup ws=>exact i.tupE fun a xs e f q=>NK hc h o c b s l H _ u Q I r ⟨a,xs,e,bM.of f,by rw[q.length];exact hw.1,_,j,M,R,q,g,d,hw.2,m⟩
 case rl ws=>exact i.rlE fun a xs e f q=>CI hc h o c b s l H _ u Q I r ⟨a,xs,e,a9.of f,by rw[q.length];exact hw.1,_,j,M,R,q,g,d,hw.2,m⟩
 case ref a=>exact hw.elim fun ws hw=>d.lstE hw.1 fun xs f q=>CI hc h o c b s l H _ u Q I r ⟨a,xs,i.inv,a9.of f,by rw[q.length];exact hw.2.1,_,j,M,R,q,g,d,hw.2.2,m⟩
def lZ(te:aS)(g:eT):aK:=fun D a M=>te a M fun x M1=>g x a M1 D.nx
theorem U6{K:Ae}{te:aS}{g:eT}{D:kJ}{f:SV}{H:Hp}(h:pQ K (lZ te g) D f H):rF (up K te) (gP K g) D f H:=by
 obtain⟨c,M,m,b,e,h,k⟩:=h
 exact⟨c,M,_,b,e,h,fun x n l M1 d a j i=>⟨l,c,M1,m.nx,j,b.kp e d,a,i,k.nx.kp d⟩⟩
theorem p7{tg e:Expr}{te:aS}{g:eT}(c:E3 X e te)(b:PG X tg (gP X.K g))(hs:swapsWithSole [tg] e pos.line X.env=pure false:=by rfl)(hw:swappedStores [tg] e X.env=pure none:=by rfl)
  (a:(He [tg] X.env).map (·.2)=[Na tg X.env]:=by rfl):P3 X (.Assign [tg] e pos) (lZ te g):=(NO c b hs hw a).weak fun _ _ _ h=>U6 h
def bH(i:Nat)(te:aS):aK:=fun D a M=>te a M fun x M1=>D.nx (a.set i (some x)) M1
theorem U7{i:Nat}{x:Str}{e:Expr}{te:aS}{a:Pos}(m:X.N.Nodup)(hi:X.N[i]? = some x)(n:Loc X.env.scope x)(o:E3 X e te)(hs:Ki e (some (.Name x a)) pos.line X.env=pure false:=by rfl)(hf:X.fn x=true\/X.env.scope.names.lookup x=some .local:=by first | exact .inl rfl | exact .inr rfl | assumption) :
  P3 X (.Assign [.Name x a] e pos) (bH i te):=(NP m hi n o hs hf).weak fun D r H z0=>z0.el fun l M s c f h k=>⟨l,M,_,c,f,h,fun y p q M1 d b j g=>k.nx _ _ _ _ d b ((c.kp f d).set j i) g⟩
def p8(o i v:W)(M:Mm)(Q:Mm->Prop):Prop:=match o with
 | .ref a=>(∃ ws k j,i=.int k/\M a=some (.lst ws)/\iE ws.length k=some j/\Q (put M a (.lst (ws.set j v))))\/
   (∃ kvs k,i=wK k/\M a=some (.dK kvs)/\kvs.length < Aj/\Q (put M a (.dK (bZ kvs k v))))\/
   ∃ kvs k,i=.tup (k.map wK)/\M a=some (.dT kvs)/\kvs.length < Aj/\Q (put M a (.dT (bZ kvs k v)))
 | _=>False
def U8(K:Ae):rD:=fun o i v H Q=>∃ d wi c M R,AV K H M o d/\AV K H M i wi/\AV K H M v c/\AM K H M/\p8 d wi c M R/\∀ b a,Kp H M b a->AM K b a->R a->Q b
theorem set_dict(g:X.A.units + 1 < Gh):rE X (fun o i v H Q=>∃ a b,o=.ref a/\lN H a i v b/\Q b):=by
 intro c s n H o i v l m u Q I j k f h
 obtain⟨a,b,rfl,d,q⟩:=h
 cases j
 exact RH g I d k f fun p e=>⟨b,e,q⟩
theorem DG{κ:Type}[DecidableEq κ]{K:Ae}{H:Hp}{M:Mm}{ks:List (κ×V)}{kvs:List (κ×W)}{n:κ}{v:V}{b:W}{a:Addr}{o:MO}{u:HO}(d:AM K H M)(e:M a=some o)(q:bN K H M κ ks kvs)(c:AV K H M v b){f:MO}:bN K (aN H a u) (put M a f) κ (eJ ks n v) (bZ kvs n b):=Paired.mapP (sL q n c) fun p q z=>⟨z.1,z.2.wr d e⟩
theorem U9(G:X.A.units + 1 < Gh):rE X (U8 X.K):=by
 rintro c s C H o i v E x u Q I y F w ⟨J,wi,z,M,R,D,l,B,g,h,k⟩
 cases J <;> first | exact(show False from h).elim | skip
 rename_i a
 rcases h with⟨ws,n,j,p,e,L,r⟩ | ⟨kvs,n,p,e,hl,r⟩ | ⟨kvs,n,p,e,hl,r⟩
 ·rw[p] at l
  obtain⟨vs,f,q⟩:=g.lst e
  obtain⟨d,m⟩:=g.write (o:=.lst (ws.set j z)) (u:=.lst (vs.set j v)) e ⟨_,dY,(aL.set B j q).wr g e⟩
  exact QN c s C H _ _ v E x u Q I y F w ⟨a,vs,n,j,D.inv,l.inv,f,by rw[q.length];exact L,k _ _ m d r⟩
 ·rw[p] at l
  obtain⟨ks,f,q⟩:=g _ _ e
  obtain⟨d,m⟩:=g.write (o:=.dK (bZ kvs n z)) (u:=.dK (eJ ks n v)) e ⟨_,dY,DG g e q B⟩
  exact set_dict G c s C H _ _ v E x u Q I y F w ⟨a,_,D.inv,by rw[l.key];exact lN.k f (by rw[Eo q];exact hl),k _ _ m d r⟩
 ·rw[p] at l
  obtain⟨ks,f,q⟩:=g _ _ e
  obtain⟨d,m⟩:=g.write (o:=.dT (bZ kvs n z)) (u:=.dT (eJ ks n v)) e ⟨_,dY,DG g e q B⟩
  exact l.tupE fun b xs eb fb N=>set_dict G c s C H _ _ v E x u Q I y F w ⟨a,_,D.inv,by rw[eb];exact lN.t f (by rw[<-N.keys];exact fb) (by rw[Eo q];exact hl),k _ _ m d r⟩
def mY(e b:aS):eT:=fun w a M R=>e a M fun o M1=>b a M1 fun i d=>p8 o i w d fun c=>R a c
theorem w_sub{o i:Expr}{p n:aS}(D:X.A.units + 1 < Gh)(z:E3 X o p)(hi:E3 X i n)
  (ha:∀ v,Na (.Subscript o i pos) X.env v=(do
   let e <-Ip [v] (eval o X.env)
   let g <-Ip [v,e] (eval i X.env)
   Oj pos
   Ip [v,e,g] (setItem e g v)
   release [v,e,g] []):=by intro _;rfl):PG X (.Subscript o i pos) (gP X.K (mY p n)):=
 (NN z hi (U9 D) ha).weak fun v F H Q z0=>z0.el fun w m M R y l f h k=>⟨m,M,_,l,f,h,fun o E s M1 c a C B=>⟨m,M1,_,l.kp f c,a,B,fun i J wi u d b x t=>
  ⟨s,wi,w,u,_,C.kp a d,x,(y.kp f c).kp a d,b,t,fun G I q j r=>k _ _ _ _ ((c.trans d).trans q) j (((l.kp f c).kp a d).kp b q) r⟩⟩⟩
def fV:aK:=fun D a M=>D.nx a M
def aT(t u:aK):aK:=fun D a M=>t {D with nx:=u D} a M
variable {st:Stmt}{rest:List Stmt}{t u:aK}{e:Expr}{te:aS}
theorem gF:j8 X [] fV:=MS.weak fun D d H z0=>z0.el fun c M e a b h k=>k.nx.at b a h
theorem aU(d:P3 X st t)(i:j8 X rest u):j8 X (st :: rest) (aT t u):=(MT d i).weak fun D o H z0=>z0.el fun j M n g l h k=>
 ⟨j,M,_,g,l,h,⟨fun m p c e f a b h'=>⟨c,e,n,b,a,h',k.kp f⟩,k.rt,k.bk,k.ct⟩⟩
theorem aX(a:P3 X st t):j8 X [st] t:=MU a
def eN(te:aS):aK:=fun D a M=>te a M fun _ M1=>D.nx a M1
theorem e7(g:E3 X e te)(hs:Ki e none pos.line X.env=pure false:=by rfl):P3 X (.Expr e pos) (eN te):=(MW g hs).weak fun D l H z0=>z0.el fun f M n c d h k=>
 ⟨f,M,_,c,d,h,fun v m w i b a j r=>k.nx _ _ _ _ b a (c.kp d b) r⟩
def cP(te:aS):aK:=fun D a M=>te a M D.rt
theorem cY(d:E3 X e te):P3 X (.Return (some e) pos) (cP te):=(MY d).weak fun D f H z0=>z0.el fun b M g a c h k=>⟨b,M,_,a,c,h,k.rt⟩
def wR:aK:=fun D _ M=>D.rt .non M
theorem DH:P3 X (.Return none pos) wR:=M8.weak fun D d H z0=>z0.el fun c M e b a h k=>k.rt.at a .non h
def eE(c:dO)(t u:aK):aK:=fun D a M=>c a M fun b M1=>if b=true then t D a M1 else u D a M1
theorem eU{c:Expr}{a b:List Stmt}{tc:dO}(hc:T3 X c tc)(ha:j8 X a t)(hb:j8 X b u):P3 X (.If c a b pos) (eE tc t u):=(NA hc ha hb).weak fun D n H z0=>z0.el fun g M l f i h k=>
 ⟨g,M,_,f,i,h,fun b m M1 e d j=>by
  cases b with
  | true=>exact⟨g,M1,l,f.kp i e,d,j,k.kp e⟩
  | false=>exact⟨g,M1,l,f.kp i e,d,j,k.kp e⟩⟩
theorem wU:P3 X st (fun _ _ _=>False):=NC.weak fun D d H z0=>z0.el fun b M e a c h k=>h.elim
def n9(c:dO)(tb:aK):aK:=fun D e M=>∃ g:Nat->S3->Mm->Prop,(∃ m,g m e M)/\∀ m e M,g m e M->
 c e M fun b M1=>if b=true then tb {D with nx:=fun d h=>∃ f a,f < m/\Sub a h/\g f d a,ct:=fun d h=>∃ f a,f < m/\Sub a h/\g f d a,bk:=D.nx} e M1 else D.nx e M1
theorem wV{c:Expr}{n:List Stmt}{tc:dO}{tb:aK}(P:PassesOwn (Bk X.prog X.w) X.A X.env X.xe)(hc:T3 X c tc)(hb:j8 X n tb):P3 X (.While c n [] pos) (n9 tc tb):=
 (NR P hc hb).weak fun D U H ⟨G,M,E,L,F,⟨r,⟨m,J⟩,h⟩,k⟩=>by
  refine⟨fun m g i=>∃ a d,Kp H M i d/\AM X.K i d/\AS X.K i d g a/\r m a d,⟨m,G,M,Kp.refl F,F,L,J⟩,?_⟩
  rintro m Q T ⟨l,M1,v,o,p,N⟩
  refine⟨l,M1,_,p,o,h m l M1 N,fun b S x q s u=>?_⟩
  cases b with
  | false=>exact k.nx _ _ _ _ (v.trans q) s (p.kp o q) u
  | true=>
   have u:tb {E with nx:=fun a d=>∃ f e,f < m/\Sub e d/\r f a e,ct:=fun a d=>∃ f e,f < m/\Sub e d/\r f a e,bk:=E.nx} l x:=u
   refine⟨fun g i=>∃ f a d,f < m/\Kp H M i d/\AM X.K i d/\AS X.K i d g a/\r f a d,fun g i ⟨f,a,d,z,t,C,I,R⟩=>⟨f,z,a,d,t,C,I,R⟩,l,x,_,p.kp o q,s,u,?_⟩
   have j:gY X.K S x (fun a d=>∃ f e,f < m/\Sub e d/\r f a e) (fun g i=>∃ f a d,f < m/\Kp H M i d/\AM X.K i d/\AS X.K i d g a/\r f a d):=
    fun g i a d O B y ⟨f,e,z,t,C⟩=>⟨f,a,e,z,((v.trans q).trans O).sub t,B.sub t,y.sub t,C⟩
   exact⟨j,(k.rt.kp v).kp q,(k.nx.kp v).kp q,j⟩
abbrev hJ:=S3->Mm->(List W->(Mm->Prop)->Mm->Prop)->Prop
structure iJ(K:Ae)(H0:Hp)(M0:Mm)(J:It)(ws:List W)(keep:Mm->Prop):Prop where
 go:∀ i H M,Kp H0 M0 H M->AM K H M->keep M->i < ws.length->J.go i H
 stop:∀ H M,Kp H0 M0 H M->AM K H M->keep M->J.stop ws.length H
 yld:∀ i H M x H',Kp H0 M0 H M->AM K H M->keep M->i < ws.length->J.yld i H x H'->∃ w,ws[i]? = some w/\Kp H M H' M/\AM K H' M/\AV K H' M x w
def hU(K:Ae)(wi:hJ):TI:=fun e H d=>∃ (c:S3) (M:Mm) (R:List W->(Mm->Prop)->Mm->Prop),AS K H M e c/\AM K H M/\wi c M R/\∀ J b ws keep a,Kp H M b a->AM K b a->iJ K b a J ws keep->R ws keep a->d J b
theorem hU.el{K:Ae}{H:Hp}{g:SV}{C:Prop}{t:hJ}{Q:It->Hp->Prop}(h:hU K t g H Q)(c:∀ e M R,AS K H M g e->AM K H M->t e M R->(∀ J f ws keep d,Kp H M f d->AM K f d->iJ K f d J ws keep->R ws keep d->Q J f)->C):C:=by obtain⟨e,M,R,a,b,h,k⟩:=h;exact c e M R a b h k
theorem _root_.L2.PI.weak{tg iter:Expr}{t t':TI}(h:PI X tg iter t)(k:∀ b H R,t' b H R->t b H R):PI X tg iter t':=fun a s b H R I q=>h a s b H R I (k b H R q)
def DJ(ws:List W)(keep:Mm->Prop)(g:eT)(tb:aK)(D:D3)(b:S3)(M:Mm):Prop:=
 ∃ d:Nat->S3->Mm->Prop,d 0 b M/\(∀ i b M,i<=ws.length->d i b M->keep M)/\
  (∀ i w b M,ws[i]? = some w->d i b M->g w b M fun f h=>tb {D with nx:=fun c e=>∃ a,Sub a e/\d (i + 1) c a,ct:=fun c e=>∃ a,Sub a e/\d (i + 1) c a,bk:=D.nx} f h)/\
  ∀ b M,d ws.length b M->D.nx b M
def fE(wi:hJ)(g:eT)(tb:aK):aK:=fun D a M=>wi a M fun ws keep M1=>DJ ws keep g tb D a M1
theorem fW{tg iter:Expr}{p:List Stmt}{wi:hJ}{g:eT}{tb:aK}{pos:Pos}(hp:PassesOwn (Bk X.prog X.w) X.A X.env X.xe)(hc:X.calm=true)(hi:PI X tg iter (hU X.K wi))(Y:PG X tg (gP X.K g))(hb:j8 X p tb)
  (hs:∀ x,Ho iter X.env x=pure x:=by intro _;rfl):P3 X (.For tg iter p [] pos) (fE wi g tb):=
 (N2 hp hc hi Y hb hs).weak fun D σ H z0=>z0.el fun R M D' S V h k=>by
  refine⟨R,M,_,S,V,h,fun J G ws keep M1 z s it ⟨B,h0,hk,hs,hd⟩=>?_⟩
  refine⟨fun i m c f=>m=ws.length - i/\i<=ws.length/\∃ a b,Kp G M1 f b/\AM X.K f b/\AS X.K f b c a/\B i a b,⟨_,rfl,Co _,R,M1,Kp.refl s,s,S.kp V z,h0⟩,?_⟩
  rintro i m σ2 Q ⟨rfl,hi,d,o,u,l,t,v⟩
  by_cases r:i < ws.length
  ·refine .inr ⟨it.go i Q o u l (hk i d o hi v) r,fun c f=>∃ a b,Kp G M1 f b/\AM X.K f b/\AS X.K f b c a/\B (i + 1) a b,fun c f q=>⟨ws.length - (i + 1),by omega,rfl,r,q⟩,fun x H3 y=>?_⟩
   obtain⟨w,hw,T,N,ax⟩:=it.yld i Q o x H3 u l (hk i d o hi v) r y
   refine⟨w,d,o,_,ax,t.kp l T,N,hs i w d o hw v,fun Z W C U k4 L F h4=>⟨C,U,_,F,L,h4,?_⟩⟩
   have O:=((u.trans T).trans k4)
   have j:gY X.K W U (fun a b=>∃ n,Sub n b/\B (i + 1) a n) (fun c f=>∃ a b,Kp G M1 f b/\AM X.K f b/\AS X.K f b c a/\B (i + 1) a b):=
    fun c f a b k' I E ⟨n,P,q3⟩=>⟨a,n,(O.trans k').sub P,I.sub P,E.sub P,q3⟩
   exact⟨j,k.rt.kp (z.trans O),k.nx.kp (z.trans O),j⟩
  ·have e:i=ws.length:=by omega
   subst e
   exact .inl ⟨it.stop Q o u l (hk _ d o hi v),k.nx _ _ _ _ (z.trans u) l t (hd d o v)⟩
theorem fF{ws:List W}{keep:Mm->Prop}{g:eT}{tb:aK}{D:D3}{b:S3}{M:Mm}(c:Nat->S3->Mm->Prop)(j:c 0 b M)(hk:∀ i b M,i<=ws.length->c i b M->keep M)
  (hs:∀ i w b M,ws[i]? = some w->c i b M->g w b M fun f h=>tb {D with nx:=fun d e=>∃ a,Sub a e/\c (i + 1) d a,ct:=fun d e=>∃ a,Sub a e/\c (i + 1) d a,bk:=D.nx} f h)
  (hd:∀ b M,c ws.length b M->D.nx b M):DJ ws keep g tb D b M:=⟨c,j,hk,hs,hd⟩
variable {tg l a b:Expr}{tl ta tb':aS}
theorem VA{K:Ae}{b:Hp}{d:Mm}{p:Addr}{ws:List W}:iJ K b d (nL K p) ws fun M=>M p=some (.lst ws) where
 go:=fun i H M _ a e hi=>by
  obtain⟨vs,f,q⟩:=a.lst e
  exact⟨vs,vs[i]'(by rw[q.length];exact hi),a9.of f,by simp⟩
 stop:=fun H M _ a e=>by
  obtain⟨vs,f,q⟩:=a.lst e
  exact⟨vs,a9.of f,by rw[q.length];exact Ai _⟩
 yld:=fun i H M x g _ a e hi y=>by
  obtain⟨rfl,y⟩:=y
  obtain⟨vs,f,q⟩:=a.lst e
  obtain⟨w,hw,c⟩:=q.getV (y vs (a9.of f))
  exact⟨w,hw,Kp.refl a,a,c⟩
theorem DK{K:Ae}{a:Hp}{c:Mm}{p:Addr}{vs:List V}{ws:List W}(d:AM K a c)(st:∀ H M,Kp a c H M->a9 K H p vs)(e:aL K a c vs ws):iJ K a c (nL K p) ws fun _=>True:=by
 refine⟨fun i H M k b _ hi=>⟨vs,vs[i]'(by rw[e.length];exact hi),st H M k,by simp⟩,fun H M k b _=>⟨vs,st H M k,by rw[e.length];exact Ai _⟩,fun i H M x g k b _ hi y=>?_⟩
 obtain⟨rfl,y⟩:=y
 obtain⟨w,hw,f⟩:=(e.kp d k).getV (y vs (st _ M k))
 exact⟨w,hw,Kp.refl b,b,f⟩
theorem VB{K:Ae}{b:Hp}{c:Mm}{p:Addr}{vs:List V}{ws:List W}(a:AM K b c)(e:kP K b p vs)(d:aL K b c vs ws):iJ K b c (nL K p) ws fun _=>True:=
 DK a (fun H M k=>by
  refine kP.sq ?_
  rcases e with⟨o,e⟩ | e
  ·exact .inl ⟨o,(k.fr _ _ (a.noFrz e) e).1⟩
  ·exact .inr e) d
theorem VC{K:Ae}{a:Hp}{b:Mm}{p:Addr}{vs:List V}{ws:List W}(c:AM K a b)(e:a p=some (.lst vs))(n:b p=none)(d:aL K a b vs ws):iJ K a b (nL K p) ws fun _=>True:=
 DK c (fun H M k=>a9.of (k.fr _ _ n e).1) d
theorem VD{K:Ae}{a:Hp}{d:Mm}{p:Addr}{vs:List V}{ws:List W}(b:AM K a d)(e:a p=some (.tup vs))(f:aL K a d vs ws):iJ K a d (vD K p) ws fun _=>True:=by
 have st:∀ H M,Kp a d H M->bM K H p vs:=fun H M k=>bM.of (k.fr _ _ (b.noTup e) e).1
 refine⟨fun i H M k c _ hi=>⟨vs,vs[i]'(by rw[f.length];exact hi),st H M k,by simp⟩,fun H M k c _=>⟨vs,st H M k,by rw[f.length];exact Ai _⟩,fun i H M x h k c _ hi y=>?_⟩
 obtain⟨rfl,y⟩:=y
 obtain⟨w,hw,g⟩:=(f.kp b k).getV (y vs (st _ M k))
 exact⟨w,hw,Kp.refl c,c,g⟩
theorem DL{K:Ae}{b:Hp}{c:Mm}{lo:Int}{n:Nat}:iJ K b c (pC lo n) ((Ce n).map fun i=>W.int (lo + (i:Nat))) fun _=>True where
 go:=fun i H M _ a _ hi=>by show i < n;simpa using hi
 stop:=fun H M _ a _=>by show n<=_;simp
 yld:=fun i H M x d _ a _ hi y=>by
  obtain⟨rfl,rfl⟩:=y
  have hi:i < n:=by simpa using hi
  exact⟨.int (lo + i),by simp[hi],Kp.refl a,a,.int _⟩
theorem VE{K:Ae}{b:Hp}{d:Mm}{z:Str}:iJ K b d (vX z) (z.cps.toList.map fun c=>W.str ⟨#[c]⟩) fun _=>True where
 go:=fun i H M _ a _ hi=>by show i < z.cps.size;simpa using hi
 stop:=fun H M _ a _=>by show z.cps.size<=_;simp
 yld:=fun i H M x e _ a _ hi y=>by
  obtain⟨rfl,c,hc,rfl⟩:=y
  exact⟨.str ⟨#[c]⟩,by rw[Bh,hc];rfl,Kp.refl a,a,.str _⟩
def mZ(X:Cx)(tg:Expr)(r:V->Hp->(It->Hp->Prop)->Prop):Prop:=
 ∀ (a:List (Addr×Obj)) (s:Ah) (b:SV) (H:Hp) (x:V) (u:Ac) (R:It->Hp->Prop),Inv X a b H s->RelV x u->r x H R->Ax (Bk X.prog X.w) X.A (Og u) (pB X a b tg R) X.xe s
theorem wW:mZ X tg (fun x H R=>∃ a,x=.ref a/\(∃ xs,a9 X.K H a xs)/\R (nL X.K a) H):=by
 rintro f c k g x u R d i ⟨a,rfl,⟨xs,h⟩,q⟩
 cases i
 obtain⟨its,j,p,hz⟩:=d.list h
 refine Jh p.isList ?_
 refine⟨c.heap.objs.size,[c.heap.objs.size],_,_,g,rfl,d.kept (t':=c.toks) fun b o e=>Af _ e,NS a _,⟨_,Ap _ rfl,rfl,rfl⟩,fun b hb=>?_,q⟩
 have e:b=c.heap.objs.size:=by simpa using hb
 subst e
 exact d.fpOk (Ai _) (d.hok.fresh (Ai _))
theorem VF:mZ X tg (fun x H R=>∃ a,x=.ref a/\(∃ xs,bM X.K H a xs)/\R (vD X.K a) H):=by
 rintro f c k g x u R d i ⟨a,rfl,⟨xs,h⟩,q⟩
 cases i
 obtain⟨its,j,p,hz⟩:=d.tuple h
 refine wpAny_pyIter_tuple (show c.heap.IsTuple a its.toArray from p) ?_
 refine⟨c.heap.objs.size,[c.heap.objs.size],_,_,g,rfl,d.kept (t':=c.toks) fun b o e=>Af _ e,NT a _,⟨_,Ap _ rfl,rfl,rfl⟩,fun b hb=>?_,q⟩
 have e:b=c.heap.objs.size:=by simpa using hb
 subst e
 exact d.fpOk (Ai _) (d.hok.fresh (Ai _))
theorem VG{x:Str}{k:Pos}:mZ X (.Name x k) (fun x H R=>∃ z,x=.str z/\R (vX z) H):=by
 rintro g f m j x u R h l ⟨z,rfl,q⟩
 obtain⟨t,rfl⟩:=l
 have fp:∀ b∈[f.heap.objs.size],iD X g j b:=fun b hb=>by
  have e:b=f.heap.objs.size:=by simpa using hb
  subst e
  exact h.fpOk (Ai _) (h.hok.fresh (Ai _))
 cases ha:z.cps.all (· < 128)
 ·refine wpAny_pyIter_wide ha ?_
  exact⟨f.heap.objs.size,[f.heap.objs.size],_,_,j,rfl,h.kept (t':=f.toks) fun b o e=>Af _ e,
   CG z _ "str_iterator" t (fun A s i c Q E a b d=>wpAny_pyNext_wide_item a b d) (fun A s i Q E a b c d=>wpAny_pyNext_wide_end a b c d) (fun A i s Q E a b=>wpAny_pyIter_striter_wide a b),⟨_,Ap _ rfl,rfl,rfl⟩,fp,q⟩
 ·refine wpAny_pyIter_ascii ha ?_
  exact⟨f.heap.objs.size,[f.heap.objs.size],_,_,j,rfl,h.kept (t':=f.toks) fun b o e=>Af _ e,
   CG z _ "str_ascii_iterator" t (fun A s i c Q E a b d=>wpAny_pyNext_ascii_item a b d) (fun A s i Q E a b c d=>wpAny_pyNext_ascii_end a b c d) (fun A i s Q E a b=>wpAny_pyIter_striter_ascii a b),⟨_,Ap _ rfl,rfl,rfl⟩,fp,q⟩
theorem _root_.L2.PI.of{r:V->Hp->(It->Hp->Prop)->Prop}{tl:TE}(hl:PE X l tl)(f:mZ X tg r):PI X tg l (fun b H R=>tl b H fun x c=>r x c R):=fun a s b H R I h=>
 aZ (hl a s b H _ I h) fun u e ⟨x,c,i,g,d⟩=>f a e b c x u R i g d
def wX(K:Ae)(r:W->Mm->(List W->(Mm->Prop)->Mm->Prop)->Prop):V->Hp->(It->Hp->Prop)->Prop:=fun x H d=>∃ (c:W) (M:Mm) (R:List W->(Mm->Prop)->Mm->Prop),AV K H M x c/\AM K H M/\r c M R/\
 ∀ J b ws keep a,Kp H M b a->AM K b a->iJ K b a J ws keep->R ws keep a->d J b
def jG:W->Mm->(List W->(Mm->Prop)->Mm->Prop)->Prop
 | .tup ws,M1,R=>R ws (fun _=>True) M1
 | .rl ws,M1,R=>R ws (fun _=>True) M1
 | .sc ws,M1,R=>R ws (fun _=>True) M1
 | .ref a,M1,R=>∃ ws,M1 a=some (.lst ws)/\R ws (fun M=>M a=some (.lst ws)) M1
 | _,_,_=>False
def d7:W->Mm->(List W->(Mm->Prop)->Mm->Prop)->Prop
 | .tup ws,M1,R=>R ws (fun _=>True) M1
 | .rl ws,M1,R=>R ws (fun _=>True) M1
 | .sc ws,M1,R=>R ws (fun _=>True) M1
 | .str z,M1,R=>R (z.cps.toList.map fun c=>W.str ⟨#[c]⟩) (fun _=>True) M1
 | .ref a,M1,R=>∃ ws,M1 a=some (.lst ws)/\R ws (fun M=>M a=some (.lst ws)) M1
 | _,_,_=>False
theorem DM:mZ X tg (wX X.K jG):=by
 rintro b s i H x u g I j ⟨l,M,R,d,c,h,k⟩
 have k:=fun J ws keep=>k J H ws keep M (Kp.refl c) c
 cases l <;> first | exact(show False from h).elim | skip
 case tup ws=>exact d.tupE fun a xs e f q=>VF b s i H _ u g I j ⟨a,e,⟨xs,bM.of f⟩,k _ _ _ (VD c f q) h⟩
 case rl ws=>obtain⟨a,xs,e,f,n,q⟩:=d.inv;exact wW b s i H _ u g I j ⟨a,e,⟨xs,a9.of f⟩,k _ _ _ (VC c f n q) h⟩
 case sc ws=>exact d.scE fun a xs e f q=>wW b s i H _ u g I j ⟨a,e,⟨xs,f.sq⟩,k _ _ _ (VB c f q) h⟩
 case ref a=>exact h.elim fun ws h=>c.lstE h.1 fun vs f q=>wW b s i H _ u g I j ⟨a,d.inv,⟨vs,a9.of f⟩,k _ _ _ VA h.2⟩
theorem VH{y:Str}{i:Pos}:mZ X (.Name y i) (wX X.K d7):=by
 rintro a s e H x u d I f ⟨g,M,R,c,b,h,k⟩
 cases g <;> first | exact(show False from h).elim | skip
 case str z=>exact VG a s e H _ u d I f ⟨z,c.inv,k _ _ _ _ _ (Kp.refl b) b VE h⟩
 all_goals exact DM a s e H x u d I f ⟨_,M,R,c,b,h,k⟩
def eF(r:W->Mm->(List W->(Mm->Prop)->Mm->Prop)->Prop)(tl:aS):hJ:=fun a M R=>tl a M fun w M1=>r w M1 R
theorem DN{r:W->Mm->(List W->(Mm->Prop)->Mm->Prop)->Prop}(hl:E3 X l tl)(p:mZ X tg (wX X.K r)):PI X tg l (hU X.K (eF r tl)):=(PI.of hl p).weak fun t H s z0=>z0.el fun i M R g m h k=>
 ⟨i,M,_,g,m,h,fun x q n M1 j b f c=>⟨n,M1,R,f,b,c,fun J o ws keep d e a it r=>k J o ws keep d (j.trans e) a it r⟩⟩
theorem sO(hl:E3 X l tl):PI X tg l (hU X.K (eF jG tl)):=DN hl DM
theorem gH{y:Str}{a:Pos}(hl:E3 X l tl):PI X (.Name y a) l (hU X.K (eF d7 tl)):=DN hl VH
def hV(lo:Int)(n:Nat):List W:=(Ce n).map fun i=>W.int (lo + (i:Nat))
def l8(ta:dS):hJ:=fun a M R=>ta a M fun ws M1=>∃ j:Int,ws=[.int j]/\-(2 ^ 62)<=j/\j < 2 ^ 62/\R (hV 0 j.toNat) (fun _=>True) M1
def sP(ta:dS):hJ:=fun a M R=>ta a M fun ws M1=>∃ i j:Int,ws=[.int i,.int j]/\(-(2 ^ 62)<=i/\i < 2 ^ 62/\-(2 ^ 62)<=j/\j < 2 ^ 62)/\R (hV i (j - i).toNat) (fun _=>True) M1
theorem oA{d:dS}{p pos:Pos}(l:Gl X "range")(q:X.mg "range" = none)(ha:A3 X [a] d)(hs:Bj [a] X.env=[(false,eval a X.env)]:=by rfl):PI X tg (.Call (.Name "range" p) [a] [] pos) (hU X.K (l8 d)):=
 (NX l q ha hs).weak fun w H u z0=>z0.el fun m M R g s h k=>⟨m,M,_,g,s,h,fun vs t ws M1 n b c ⟨j,e,f,i,r⟩=>by
  rw[e] at c
  obtain⟨v,e,o⟩:=c.one
  exact⟨j,gZ e o.inv,f,i,k _ _ _ _ _ n b DL r⟩⟩
theorem DO{g:dS}{p pos:Pos}(n:Gl X "range")(w:X.mg "range" = none)(ha:A3 X [a,b] g)(hs:Bj [a,b] X.env=[(false,eval a X.env),(false,eval b X.env)]:=by rfl)(c:Bj [b] X.env=[(false,eval b X.env)]:=by rfl) :
  PI X tg (.Call (.Name "range" p) [a,b] [] pos) (hU X.K (sP g)):=
 (NY n w ha hs c).weak fun A H z z0=>z0.el fun o M R m x h k=>⟨o,M,_,m,x,h,fun vs y ws M1 q d f ⟨i,j,e,l,r⟩=>by
  rw[e] at f
  obtain⟨v,u,e,s,t⟩:=f.two
  exact⟨i,j,by rw[e,show _=_ from s.inv,show _=_ from t.inv],l,k _ _ _ _ _ q d DL r⟩⟩
def m7(ws:List W)(keep:Mm->Prop)(g:eT)(tt:dO)(te:aS)(c:S3)(M1:Mm)(R:K3):Prop:=
 ∀ p,M1 p=none->∃ d:Nat->S3->List W->Mm->Prop,d 0 c [] M1/\(∀ vs i e acc M,i<=ws.length->M p=none->d i e acc M->keep (put M p (.fix vs)))/\
  (∀ vs i w e acc M,ws[i]? = some w->M p=none->d i e acc M->g w e (put M p (.fix vs)) fun a k=>tt a k fun b h=>
   if b=true then te a h fun y j=>j p=some (.fix vs)/\acc.length < Aj/\∃ f,Sub f (del j p)/\d (i + 1) a (acc ++ [y]) f
   else h p=some (.fix vs)/\∃ f,Sub f (del h p)/\d (i + 1) a acc f)/\
  ∀ e acc M,M p=none->d ws.length e acc M->R (.ref p) (put M p (.lst acc))
def sQ(js:List (Option Nat))(a:S3):S3:=js.map fun o=>o.bind fun j=>(a[j]?).join
theorem AS.cmap{K:Ae}{H:Hp}{M:Mm}{b:SV}{a:S3}(h:AS K H M b a):∀ js:List (Option Nat),AS K H M (cmap js b) (sQ js a)
 | []=>.nil
 | none :: r=>.cons (fun _ e=>nomatch e) (AS.cmap h r)
 | some j :: r=>.cons (fun w e=>by
   have e:(a[j]?).join=some w:=e
   cases q:a[j]? with
   | none=>rw[q] at e;cases e
   | some z=>
    rw[q] at e
    have e:z=some w:=e
    subst e
    obtain⟨v,c,d⟩:=h.get q
    exact⟨v,by show(b[j]?).join=some v;rw[c];rfl,d⟩) (AS.cmap h r)
def fX(wi:hJ)(g:eT)(tt:dO)(te:aS)(js:List (Option Nat)):aS:=fun a M R=>wi a M fun ws keep M1=>m7 ws keep g tt te (sQ js a) M1 R
theorem DP{wi:hJ}{g:eT}{tt:dO}{te:aS}{js:List (Option Nat)}{σ:SV}{H:Hp}{Q:VK}(h:up X.K (fX wi g tt te js) σ H Q):vW (hU X.K wi) (fun _=>gP X.K g) (fun _=>jX X.K tt) (fun _=>up X.K te) js σ H Q:=by
 obtain⟨τ,M,R,as,am,h,k⟩:=h
 refine⟨τ,M,_,as,am,h,fun J H1 ws keep M1 k1 t it F p V B=>?_⟩
 obtain⟨Pv,h0,hk,hs,hd⟩:=F p (t.nonM V)
 obtain⟨amp,kp⟩:=t.laid (o:=.fix []) (u:=.lst []) V dY
 have Z:=t.nonM V
 refine R9 ws.length (fun i E c q=>∃ j acc m,m p=none/\Kp H1 M1 q (put m p (.fix c))/\AM X.K q (put m p (.fix c))/\AS X.K q (put m p (.fix c)) E j/\aL X.K q (put m p (.fix c)) c acc/\Pv i j acc m) ?_ ?_ ?_
 ·exact⟨sQ js τ,[],M1,Z,kp,amp,((as.kp am k1).kp t kp).cmap js,.nil,h0⟩
 ·rintro E c q ⟨j,acc,m,O,A,d,I,L,N⟩
  refine⟨it.stop q _ A d (hk _ _ _ _ _ (Ai _) O N),?_⟩
  have hp':q p=some (.lst c):=d p _ bC
  refine k _ q _ (put m p (.lst acc)) (k1.trans ⟨fun a o n e=>?_,A.dom⟩) (fun a o e=>?_) (.ref p) (hd j acc m O N)
  ·obtain⟨x,y⟩:=A.fr a o n e
   exact⟨x,by rw[aP (dZ e V)] at y ⊢;exact y⟩
  ·by_cases ha:a=p
   ·subst ha;rw[bC] at e;cases e;exact⟨c,hp',L.go CQ⟩
   ·rw[aP ha] at e;exact(d a o (by rw[aP ha];exact e)).go CQ rfl
 ·rintro i E c q hi ⟨j,acc,m,O,A,d,I,L,N⟩
  have P:=hk c i j acc m (Ic hi) O N
  refine⟨it.go i q _ A d P hi,fun x H3 y=>?_⟩
  obtain⟨w,hw,k3,am3,ax⟩:=it.yld i q _ x H3 A d P hi y
  refine⟨w,j,_,_,ax,I.kp d k3,am3,hs c i w j acc m hw O N,fun σ4 H4 l U k4 z s h4=>⟨l,U,_,s,z,h4,fun b H5 v T D S=>?_⟩⟩
  have kk:Kp q (put m p (.fix c)) H5 v:=(k3.trans k4).trans T
  cases b with
  | false=>
   obtain⟨m5,C,sb,pv6⟩:v p=some (.fix c)/\∃ C,Sub C (del v p)/\Pv (i + 1) l acc C:=S
   have f:Sub (put C p (.fix c)) v:=by
    have:=(sb.trans Sub.del).put (a:=p) (o:=.fix c)
    rwa [TV m5] at this
   exact RY ⟨l,acc,C,sb.non pN,(A.trans kk).sub f,D.sub f,(s.kp z T).sub f,(L.kp d kk).sub f,pv6⟩
  | true=>
   have S:te l v fun y U=>U p=some (.fix c)/\acc.length < Aj/\∃ v,Sub v (del U p)/\Pv (i + 1) l (acc ++ [y]) v:=S
   refine RZ ⟨l,v,_,s.kp z T,D,S,fun y H6 wy C k6 r ay ⟨m6,hl,M7,sb,pv7⟩=>?_⟩
   have G:=kk.trans k6
   have hp6:H6 p=some (.lst c):=r p _ m6
   obtain⟨Y,W⟩:=r.write (o:=.fix (c ++ [y])) (u:=.lst (c ++ [y])) m6 dY
   have f:Sub (put M7 p (.fix (c ++ [y]))) (put C p (.fix (c ++ [y]))):=(sb.trans Sub.del).put
   refine⟨hp6,by rw[L.length];exact hl,l,acc ++ [wy],M7,sb.non pN,((A.trans G).trans W).sub f,Y.sub f,(((s.kp z T).kp D k6).kp r W).sub f,?_,pv7⟩
   exact(((L.kp d G).append (.cons ay .nil)).kp r W).sub f
variable {sc:Ke}{N':List Str}{js:List (Option Nat)}{iter elt:Expr}{ifs:List Expr}{wi:hJ}{g:eT}{tt:dO}
def iW:dO:=fun _ M Q=>Q true M
theorem m8:iF X [] (jX X.K iW):=R5.weak fun d H Q z0=>z0.el fun c M R b a h k=>k true H M (Kp.refl a) a h
theorem oB{c:Expr}{t:dO}(h:T3 X c t):iF X [c] (jX X.K t):=R6 h
theorem kZ(N':List Str)(js:List (Option Nat))(hi:PI X tg iter (hU X.K wi))
  (c:∀ B,PG (dN X sc N' B) tg (gP X.K g)) (ht:∀ B,iF (dN X sc N' B) ifs (jX X.K tt)) (d:∀ B,PE (dN X sc N' B) elt (up X.K te))
  (a:mP N' sc X.env.scope=true:=by kernel_rfl) (b:fA N' X.N sc js N'=true:=by kernel_rfl) (hc:X.calm=true:=by rfl) (hs:∀ x,Ho iter X.env x=pure x:=by intro _;rfl) :
  E3 X (.ListComp elt [⟨tg,iter,ifs,0⟩] sc pos) (fX wi g tt te js):=(R7 N' js hi c ht d a b hc hs).weak fun _ _ _ h=>DP h
end
def cF(N:List Str)(ws:List W):S3:=ws.map some ++ Bu (N.length - ws.length) none
def bK(R:K3):D3:={nx:=fun _ b=>∃ a,Sub a b/\R .non a,rt:=fun w b=>∃ a,Sub a b/\R w a}
section
variable {P:Bl}{w:Cb}{K:Ae}{mg:Str->Option Ac}{base:Heap}
theorem VI{x a:Str}{st:Stmt}{f:Addr}{fd:Bw}{N ps:List Str}{k:Nat}{sp:bX}(F:jT K x a st f fd)(S:nN N ps (eR st))(len:∀ ws M R,sp ws M R->ws.length=ps.length)
  (d:∀ (b:Ac) (A:Bv) (outer:List Env) (s:Ah) (H:Hp) (E:XK) (ws:List W) (M:Mm) (R:K3),cJ k (A.deeper (Mz a (eR st) s.heap.objs.size f b))->sp ws M R->
   ∃ t,j8 (lJ gB P w K mg base N a (eR st) f b A outer s H E).nox (gN st) t/\t (bK R) (cF N ws) M):e6 P w K mg base gB (k + 1) f fd ps (gO K sp):=by
 refine F.ok S (fun vs H Q E ⟨ws,M,R,m,g,h,_⟩=>by rw[g.length];exact len ws M R h) fun b A outer s H vs Q E u ⟨ws,M,R,m,g,h,n⟩=>?_
 obtain⟨t,ht,h'⟩:=d b A outer s H E ws M R u h
 refine⟨_,ht,cF N ws,M,bK R,?_,m,h',⟨fun y l q o i c p ⟨e,sb,r⟩=>n _ l _ e (i.sub sb) (c.sub sb) .non r,fun v l w o i c j ⟨e,sb,r⟩=>n v l w e (i.sub sb) (c.sub sb) (j.sub sb) r,fun _ _ _ _ _ _ _ z=>z.elim,fun _ _ _ _ _ _ _ z=>z.elim⟩⟩
 unfold L2.start cF
 rw[g.length]
 exact AS.start g _
def p9:bX:=fun ws M R=>∃ ns:List Int,ws=[.sc (ns.map W.int)]/\ns.length<=63/\(M=fun _=>none)/\∀ a,R (.bl true) a
theorem VJ{H:Hp}{a:Addr}{ns:List Int}(hl:ns.length<=63)(d:rQ H)(hs:a9 K H a (ns.map V.int)):gO K p9 [.ref a] H (fun v _=>v=.bl true) fun _ _ _=>False:=by
 have c:kP K H a (ns.map V.int):=by
  rcases hs with(e | ⟨o,e⟩) | e
  ·rcases d a with z | ⟨o,xs,z⟩
   ·rw[z] at e;cases e
   ·rw[z] at e;cases e
  ·exact .inl ⟨o,e⟩
  ·exact .inr e
 exact⟨[.sc (ns.map W.int)],fun _=>none,fun w _=>w=.bl true,fun a o e=>(nomatch e),.cons (.sc c (aL.int ns)) .nil,⟨ns,rfl,hl,rfl,fun _=>rfl⟩,fun v g w f _ _ b r=>by subst r;exact b.bl_inv⟩
end
section
variable {X:Cx}{a b c:Expr}{ta tb tc:aS}{pos:Pos}
def wY(r d:R3)(ta tb tc:aS):aS:=fun a M R=>ta a M fun x M1=>tb a M1 fun y e=>r x y e fun z b=>∃ k,z=.bl k/\if k=true then tc a b fun w c=>d y w c R else R (.bl false) b
def sR:aK:=fun _ _ _=>False
def DQ(M:Mm):W->String->Prop
 | .non,T=>T = "NoneType"
 | .bl _,T=>T = "bool"
 | .int _,T=>T = "int"
 | .str _,T=>T = "str"
 | .tup _,T=>T = "tuple"
 | .rl _,T=>T = "list"
 | .dk _,T=>T = "dict"
 | .ref a,T=>(T = "list"/\∃ ws,M a=some (.lst ws))\/(T = "dict"/\((∃ kvs,M a=some (.dK kvs))\/∃ kvs,M a=some (.dT kvs)))
 | _,_=>False
def DR:List (String×String×Bool):=[("int","int",true),("int","bool",false),("int","str",false),("int","tuple",false),("int","list",false),("bool","bool",true),("bool","int",true),("bool","str",false),("bool","list",false),("bool","tuple",false),("str","str",true),("str","int",false),("str","tuple",false),("str","list",false),("str","bool",false),("tuple","tuple",true),("tuple","list",false),("tuple","str",false),("tuple","int",false),("tuple","bool",false),("list","list",true),("list","tuple",false),("list","str",false),("list","int",false),("list","bool",false),("NoneType","list",false),("NoneType","tuple",false),("NoneType","int",false),("NoneType","str",false),("NoneType","bool",false),("dict","dict",true),("dict","list",false)]
def wZ(n T:String):Option Bool:=(DR.find? fun p=>p.1 == n && p.2.1 == T).map fun p=>p.2.2
def DS(K:Ae):List (String×String×Bool)->Prop
 | []=>True
 | p :: l=>Jx K (.type p.1) (.type p.2.1)=some p.2.2/\DS K l
theorem DT{K:Ae}:∀ {l:List (String×String×Bool)},DS K l->∀ p∈l,Jx K (.type p.1) (.type p.2.1)=some p.2.2
 | _ :: _,h,_,m=>by
  cases m with
  | head=>exact h.1
  | tail _ m=>exact DT h.2 _ m
theorem VL(K:Ae):∀ p∈DR,Jx K (.type p.1) (.type p.2.1)=some p.2.2:=by
 refine DT ?_
 refine⟨by kernel_rfl,by kernel_rfl,by kernel_rfl,by kernel_rfl,by kernel_rfl,by kernel_rfl,by kernel_rfl,by kernel_rfl,by kernel_rfl,by kernel_rfl,by kernel_rfl,by kernel_rfl,by kernel_rfl,by kernel_rfl,by kernel_rfl,by kernel_rfl,by kernel_rfl,by kernel_rfl,by kernel_rfl,by kernel_rfl,by kernel_rfl,by kernel_rfl,by kernel_rfl,by kernel_rfl,by kernel_rfl,by kernel_rfl,by kernel_rfl,by kernel_rfl,by kernel_rfl,by kernel_rfl,by kernel_rfl,by kernel_rfl,trivial⟩
theorem VM(K:Ae){n T:String}{b:Bool}(h:wZ n T=some b):Jx K (.type n) (.type T)=some b:=by
 obtain⟨p,c,e⟩:=Bn.mp h
 have a:=List.find?_some c
 have d:=VL K p (List.mem_of_find?_eq_some c)
 rw[Cs,beq_iff_eq,beq_iff_eq] at a
 rw[<-a.1,<-a.2,d,e]
def bY:List W->Mm->K3->Prop
 | [w,.ty T],M,R=>∃ n b,DQ M w n/\wZ n T=some b/\R (.bl b) M
 | _,_,_=>False
theorem sS:cU X (.builtin "isinstance") (gC X.K bY):=by
 rintro g s o H xs us Q I rs ⟨ws,M,R,l,m,h,k⟩
 match ws,h with
 | [w,.ty T],h=>
  obtain⟨v,u,rfl,d,p⟩:=m.two
  cases p
  obtain⟨n,b,c,hs,r⟩:=h
  have ty:gW X.K H v (.type n):=by
   cases w <;> first | exact(show False from c).elim | skip
   case non=>rw[show n=_ from c,show v=_ from d.inv];exact .non
   case bl b=>rw[show n=_ from c,show v=_ from d.inv];exact .bl b
   case int i=>rw[show n=_ from c,show v=_ from d.inv];exact .int i
   case str x=>rw[show n=_ from c,show v=_ from d.inv];exact .str x
   case tup=>obtain⟨a,xs,j,e,q⟩:=d.inv;rw[show n=_ from c,j];exact .tup e
   case rl=>obtain⟨a,xs,j,e,_,q⟩:=d.inv;rw[show n=_ from c,j];exact .lst e
   case dk=>obtain⟨a,xs,j,e,_,q⟩:=d.inv;rw[show n=_ from c,j];exact .dK e
   case ref a=>
    rw[show v=_ from d.inv]
    rcases c with⟨e,ws,h⟩ | ⟨e,h⟩
    ·subst e
     obtain⟨vs,f,_⟩:=l.lst h
     exact .lst f
    ·subst e
     rcases h with⟨kvs,h⟩ | ⟨kvs,h⟩
     ·obtain⟨ks,f,_⟩:=l _ _ h;exact .dK f
     ·obtain⟨ks,f,_⟩:=l _ _ h;exact .dT f
  exact SF g s o H _ us Q I rs ⟨v,T,_,b,rfl,ty,VM X.K hs,k.at l (.bl b) r⟩
def w5:W->List W->Mm->K3->Prop
 | .str z,[.str y],M,R=>(y.length == 0)=false/\z.length<=Aj/\R (.tup [.str (Dq z y).1,.str (Dq z y).2.1,.str (Dq z y).2.2]) M
 | _,_,_,_=>False
theorem m_partition:iS X "str.partition" (kQ X.K w5):=by
 rintro a s g H x xs v us Q I i rs ⟨e,ws,M,R,f,c,b,h,k⟩
 match e,ws,h with
 | .str z,[.str y],h=>
  obtain⟨u,rfl,j⟩:=b.one
  cases c;cases j
  exact SE a s g H _ _ v us Q I i rs ⟨z,y,rfl,rfl,h.1,h.2.1,fun p d=>laidT f k d (.cons (.str _) (.cons (.str _) (.cons (.str _) .nil))) h.2.2⟩
end
section
variable {X:Cx}{a b:Expr}{ta tb:aS}{pos:Pos}{es:List Expr}{t:dS}
theorem DU{K:Ae}{H:Hp}{M:Mm}{R:K3}{Q:VK}{p:Addr}{xs:List V}{ws:List W}(c:AM K H M)(k:Up K H M R Q)(b:H p=none)(d:aL K H M xs ws)(r:R (.rl ws) M):Q (.ref p) (aN H p (.lst xs)):=by
 obtain⟨a,e⟩:=c.tup (u:=.lst xs) b
 exact k _ _ _ _ e a (.rl dY (c.nonM b) (d.newT b)) r
def eV(t:dS):aS:=fun a M R=>t a M fun ws M1=>ws.length<=Aj/\R (.rl ws) M1
theorem fG(h:A3 X es t):E3 X (.List es pos) (eV t):=
 (BM h).weak fun j H Q z0=>z0.el fun e M R c g h k=>⟨e,M,_,c,g,h,fun xs i ws M1 f b a ⟨hl,r⟩=>⟨by rw[a.length];exact hl,fun p d=>DU b (k.kp f) d a r⟩⟩
theorem DV{f:Ac->Ac->Sem Ac}{r b:R3}(h:bB X f (cE X.K r))(k:∀ x y M R,b x y M R->r x y M fun w c=>frz w c R):bB X f (cE X.K b):=fun a s l H x y v u Q I m o ⟨g,j,M,R,i,e,d,h',n⟩=>
 h a s l H x y v u Q I m o ⟨g,j,M,_,i,e,d,k _ _ _ _ h',n.frz⟩
theorem VN{f:Ac}{r b:List W->Mm->K3->Prop}(h:cU X f (gC X.K r))(k:∀ x M R,b x M R->r x M fun w c=>frz w c R):cU X f (gC X.K b):=fun a s g H xs us Q I rs ⟨ws,M,R,e,d,h',i⟩=>
 h a s g H xs us Q I rs ⟨ws,M,_,e,d,k _ _ _ h',i.frz⟩
def cA:R3
 | .int i,.int j,M,R=>R (.int (i + j)) M
 | .tup xs,.tup ys,M,R=>xs≠[]/\xs.length + ys.length<=Aj/\R (.tup (xs ++ ys)) M
 | .ref a,.ref b,M,R=>∃ xs ys,M a=some (.lst xs)/\M b=some (.lst ys)/\xs.length + ys.length<=Aj/\R (.rl (xs ++ ys)) M
 | .rl xs,.ref b,M,R=>∃ ys,M b=some (.lst ys)/\xs.length + ys.length<=Aj/\R (.rl (xs ++ ys)) M
 | .ref a,.rl ys,M,R=>∃ xs,M a=some (.lst xs)/\xs.length + ys.length<=Aj/\R (.rl (xs ++ ys)) M
 | .rl xs,.rl ys,M,R=>xs.length + ys.length<=Aj/\R (.rl (xs ++ ys)) M
 | _,_,_,_=>False
theorem dG:bB X (Ft .Add) (cE X.K cA):=DV UD fun x y M R h=>by
 cases x <;> first | exact(show False from h).elim | (cases y <;> first | exact(show False from h).elim | skip)
 case int.int i j=>exact h
 case tup.tup i j=>exact h
 case ref.ref i j=>obtain⟨xs,ys,c,a,b,r⟩:=h;exact⟨xs,ys,c,a,b,aQ.frz r⟩
 case rl.ref i j=>obtain⟨ys,a,b,r⟩:=h;exact⟨ys,a,b,aQ.frz r⟩
 case ref.rl i j=>obtain⟨ys,a,b,r⟩:=h;exact⟨ys,a,b,aQ.frz r⟩
 case rl.rl i j=>exact⟨h.1,aQ.frz h.2⟩
def iK:R3
 | .int i,.int j,M,R=>(lH i j\/nP i j)/\R (.int (i * j)) M
 | .ref a,.int n,M,R=>∃ xs,M a=some (.lst xs)/\-(2 ^ 63)<=n/\n < 2 ^ 63/\xs.length * n.toNat<=Aj/\R (.rl (Bu n.toNat xs).flatten) M
 | .rl xs,.int n,M,R=>-(2 ^ 63)<=n/\n < 2 ^ 63/\xs.length * n.toNat<=Aj/\R (.rl (Bu n.toNat xs).flatten) M
 | _,_,_,_=>False
theorem l9:bB X (Ft .Mult) (cE X.K iK):=DV UI fun x y M R h=>by
 cases x <;> first | exact(show False from h).elim | (cases y <;> first | exact(show False from h).elim | skip)
 case int.int i j=>exact h
 case ref.int i j=>obtain⟨xs,d,a,b,c,r⟩:=h;exact⟨xs,d,a,b,c,aQ.frz r⟩
 case rl.int i j=>obtain⟨a,b,c,r⟩:=h;exact⟨a,b,c,aQ.frz r⟩
def k7:List W->Mm->K3->Prop
 | [.tup ws],M,R=>R (.rl ws) M
 | [.rl ws],M,R=>R (.rl ws) M
 | [.sc ws],M,R=>R (.rl ws) M
 | [.dk kvs],M,R=>R (.rl (kvs.map fun b=>wK b.1)) M
 | [.ref a],M,R=>(∃ ws,M a=some (.lst ws)/\R (.rl ws) M)\/∃ kvs,M a=some (.dK kvs)/\R (.rl (kvs.map fun b=>wK b.1)) M
 | _,_,_=>False
theorem w6(hc:X.calm=true):cU X (.type "list") (gC X.K k7):=VN (wN hc) fun x M R h=>by
 match x,h with
 | [.tup ws],h=>exact aQ.frz h
 | [.rl ws],h=>exact aQ.frz h
 | [.sc ws],h=>exact aQ.frz h
 | [.dk kvs],h=>exact aQ.frz h
 | [.ref a],h=>
  rcases h with⟨ws,e,r⟩ | ⟨kvs,e,r⟩
  ·exact .inl ⟨ws,e,aQ.frz r⟩
  ·exact .inr ⟨kvs,e,aQ.frz r⟩
def oC:W->Option Int->Option Int->Mm->K3->Prop
 | .rl ws,lo,hi,M,R=>R (.rl (cH ws lo hi)) M
 | .sc ws,lo,hi,M,R=>R (.rl (cH ws lo hi)) M
 | .ref a,lo,hi,M,R=>∃ ws,M a=some (.lst ws)/\R (.rl (cH ws lo hi)) M
 | .tup ws,lo,hi,M,R=>¬ (HT.sIx ws.length 0 lo=0/\HT.sIx ws.length ws.length hi=ws.length)/\R (.tup (cH ws lo hi)) M
 | _,_,_,_,_=>False
theorem VO{x:W}{l u:Option Int}{M:Mm}{R:K3}(h:oC x l u M R):mU x l u M fun w b=>frz w b R:=by
 cases x <;> first | exact(show False from h).elim | skip
 case tup ws=>exact h
 case rl ws=>exact aQ.frz h
 case sc ws=>exact aQ.frz h
 case ref a=>obtain⟨ws,e,r⟩:=h;exact⟨ws,e,aQ.frz r⟩
def mB(ta:aS)(tl c:lV):aS:=fun a M R=>ta a M fun x M1=>tl a M1 fun l b=>c a b fun u d=>oC x l u d R
theorem oE{lo hi:Option Expr}{tl m:lV}{w:Pos}(v:E3 X a ta)(hl:PO X lo (lW X.K tl))(y:PO X hi (lW X.K m)):E3 X (.Subscript a (.Slice lo hi none w) pos) (mB ta tl m):=
 (BY C7 v hl y).weak fun B H Q z0=>z0.el fun d M R f j h k=>⟨d,M,_,f,j,h,fun x A z M1 e b r s=>⟨d,M1,_,f.kp j e,b,s,fun l D q g c o=>⟨d,q,_,(f.kp j e).kp b g,c,o,fun u C t n i p=>
  ⟨z,t,_,i,(r.kp b g).kp c n,VO p,(((k.kp e).kp g).kp n).frz⟩⟩⟩⟩
variable {sc:Ke}{N':List Str}{js:List (Option Nat)}{tg iter elt:Expr}{ifs:List Expr}{wi:hJ}{g:eT}{tt:dO}{te:aS}
theorem VP{i:Nat}{x:Str}{f a:Pos}(t:X.N.Nodup)(c:X.N[i]? = some x)(p:Loc X.env.scope x)(N':List Str)(js:List (Option Nat))(hi:PI X tg iter (hU X.K wi))
  (n:∀ B,PG (dN X sc N' B) tg (gP X.K g)) (ht:∀ B,iF (dN X sc N' B) ifs (jX X.K tt)) (s:∀ B,PE (dN X sc N' B) elt (up X.K te))
  (m:mP N' sc X.env.scope=true:=by kernel_rfl) (q:fA N' X.N sc js N'=true:=by kernel_rfl) (hc:X.calm=true:=by rfl) (d:Ki (.ListComp elt [⟨tg,iter,ifs,0⟩] sc pos) (some (.Name x f)) a.line X.env=pure true:=by rfl)
  (hf:X.fn x=true\/X.env.scope.names.lookup x=some .local:=by first | exact .inl rfl | exact .inr rfl | assumption)
  (hs:∀ x,Ho iter X.env x=pure x:=by intro _;rfl):P3 X (.Assign [.Name x f] (.ListComp elt [⟨tg,iter,ifs,0⟩] sc pos) a) (bH i (cV (fX wi g tt te js))):=
 (R8 t c p N' js hi n ht s m q hc d hf hs).weak fun D z H z0=>z0.el fun o M A j l h k=>DP ⟨o,M,_,j,l,h,Up.frz fun y v w M1 e b u r=>k.nx _ _ _ _ e b ((j.kp l e).set u i) r⟩
end
def Pl:Nat->W->Prop
 | _,.non=>True
 | _,.int _=>True
 | _,.str x=>PyData.strOk x=true
 | n + 1,.tup ws=>∀ w∈ws,Pl n w
 | n + 1,.rl ws=>∀ w∈ws,Pl n w
 | _,_=>False
def der(M:Mm):W->W
 | .ref a=>match M a with
  | some (.lst ws)=>.rl ws
  | _=>.ref a
 | w=>w
section
variable {M:Mm}
theorem w9{n:Nat}(ih:∀ {w:W},Pl n w->∃ d,Snap M w d/\d.canLay0=true/\d.depth<=n):∀ {ws:List W},(∀ w∈ws,Pl n w)->∃ ds,iI M ws ds/\PyData.canLayAll0 ds=true/\PyData.depthAll ds<=n
 | [],_=>⟨[],.nil,rfl,by simp[PyData.depthAll]⟩
 | w :: ws,h=>by
  obtain⟨d,s,c,e⟩:=ih (h w Bi)
  obtain⟨ds,ss,cc,ee⟩:=w9 ih fun z hz=>h z (Bd _ hz)
  exact⟨d :: ds,.cons s ss,by simp[PyData.canLayAll0,c,cc],by simp only[PyData.depthAll];lia⟩
theorem VQ:∀ {n:Nat} {w:W},Pl n w->∃ d,Snap M w d/\d.canLay0=true/\d.depth<=n:=by
 intro n
 induction n with
 | zero=>
  intro w h
  cases w <;> first | exact(show False from h).elim | skip
  case non=>exact⟨_,.non,rfl,by simp[Jb]⟩
  case int i=>exact⟨_,.int i,rfl,by simp[Jb]⟩
  case str x=>exact⟨_,.str x,h,by simp[Jb]⟩
 | succ n ih=>
  intro w h
  cases w <;> first | exact(show False from h).elim | skip
  case non=>exact⟨_,.non,rfl,by simp[Jb]⟩
  case int i=>exact⟨_,.int i,rfl,by simp[Jb]⟩
  case str x=>exact⟨_,.str x,h,by simp[Jb]⟩
  case tup ws=>
   obtain⟨ds,s,c,e⟩:=w9 ih h
   exact⟨_,.tup s,by simpa [PyData.canLay0] using c,by simp only[Jb];lia⟩
  case rl ws=>
   obtain⟨ds,s,c,e⟩:=w9 ih h
   exact⟨_,.rl s,by simpa [PyData.canLay0] using c,by simp only[Jb];lia⟩
theorem DW{n:Nat}{w:W}(h:Pl n (der M w)):∃ d,Snap M w d/\Snap M (der M w) d/\d.canLay0=true/\d.depth<=n:=by
 obtain⟨d,s,c,e⟩:=VQ (M:=M) h
 refine⟨d,?_,s,c,e⟩
 cases w <;> first | exact s | skip
 case ref a=>
  cases q:M a with
  | none=>
   have e:der M (.ref a)=.ref a:=by simp[der,q]
   rw[e] at s;exact s
  | some o=>
   cases o with
   | lst ws=>
    have e:der M (.ref a)=.rl ws:=by simp[der,q]
    rw[e] at s
    cases s with
    | rl r=>exact .ref q r
   | dK _=>
    have e:der M (.ref a)=.ref a:=by simp[der,q]
    rw[e] at s;exact s
   | dT _=>
    have e:der M (.ref a)=.ref a:=by simp[der,q]
    rw[e] at s;exact s
   | fix _=>
    have e:der M (.ref a)=.ref a:=by simp[der,q]
    rw[e] at s;exact s
   | ins _ _ _=>
    have e:der M (.ref a)=.ref a:=by simp[der,q]
    rw[e] at s;exact s
theorem DX{n:Nat}(ih:∀ {x y:W} {dx dy:Mh},Pl n x->Pl n y->Snap M x dx->Snap M y dy->(Lf dx dy=true↔x=y)):∀ {xs ys:List W} {dx dy:List Mh},(∀ w∈xs,Pl n w)->(∀ w∈ys,Pl n w)->iI M xs dx->iI M ys dy->(Nr dx dy=true↔xs=ys):=by
 intro xs
 induction xs with
 | nil=>
  intro ys dx dy hx hy s1 s2
  cases s1
  cases s2 <;> simp[Nr]
 | cons x xs IH=>
  intro ys dx dy hx hy s1 s2
  cases s1 with
  | cons s1 r1=>
   cases s2 with
   | nil=>simp[Nr]
   | cons s2 r2=>
    rw[Nr,Cs,ih (hx x Bi) (hy _ Bi) s1 s2,IH (fun z hz=>hx z (Bd _ hz)) (fun z hz=>hy z (Bd _ hz)) r1 r2]
    simp
theorem VR:∀ {n:Nat} {x y:W} {dx dy:Mh},Pl n x->Pl n y->Snap M x dx->Snap M y dy->(Lf dx dy=true↔x=y):=by
 intro n
 induction n with
 | zero=>
  intro x y dx dy hx hy sx sy
  cases sx <;> first | exact(show False from hx).elim | skip
  all_goals cases sy <;> first | exact(show False from hy).elim | simp[Lf]
 | succ n ih=>
  intro x y dx dy hx hy sx sy
  cases sx <;> first | exact(show False from hx).elim | skip
  all_goals cases sy <;> first | exact(show False from hy).elim | skip
  all_goals first | (simp[Lf];done) | skip
  case tup.tup r1 _ _ r2=>rw[Lf,DX ih hx hy r1 r2];simp
  case rl.rl r1 _ _ r2=>rw[Lf,DX ih hx hy r1 r2];simp
theorem VS{neg:Bool}{x y:W}{R:K3}(n:Nat)(hn:n<=60)(hx:Pl n (der M x))(hy:Pl n (der M y))(h:∀ b:Bool,(b=true↔der M x=der M y)->R (.bl (if neg then !b else b)) M):pY neg x y M R:=by
 obtain⟨dx,s1,s1',c1,e1⟩:=DW hx
 obtain⟨dy,s2,s2',c2,e2⟩:=DW hy
 exact⟨dx,dy,s1,s2,⟨c1,by lia⟩,⟨c2,by lia⟩,h _ (VR hx hy s1' s2')⟩
theorem DY{neg:Bool}{x y:W}{R:K3}(n:Nat)(hn:n<=60)(hx:Pl n (der M x))(hy:Pl n (der M y))(h:∀ b:Bool,(b=true↔der M x=der M y)->R (.bl (if neg then !b else b)) M):rEq neg x y M R:=by
 have d:=VS n hn hx hy h
 cases x <;> first | exact d | skip
 case int i=>
  cases y <;> first | exact d | skip
  case int j=>exact h (decide (i=j)) (by simp[der])
 case str i=>
  cases y <;> first | exact d | skip
  case str j=>exact h (decide (i=j)) (by simp[der])
 case bl i=>
  cases y <;> first | exact d | skip
  case bl j=>exact(show False by cases n <;> exact hx).elim
end
theorem xA{M:Mm}{neg:Bool}{x y:W}{R:K3}(n:Nat)(hn:n<=60)(hx:Pl n (der M x))(e:der M y=der M x)(h:R (.bl (!neg)) M):rEq neg x y M R:=by
 refine DY n hn hx (by rw[e];exact hx) fun b hb=>?_
 have:b=true:=hb.mpr e.symm
 subst this
 cases neg <;> exact h
theorem sU{ws:List W}{keep:Mm->Prop}{g:eT}{tt:dO}{te:aS}{τ₀:S3}{M1:Mm}{R:K3}(St:S3->Prop)(tgt:W->S3)(Rel:W->Option W->Prop)(hl:ws.length<=Aj)(hk:∀ M,Sub M1 M->keep M)
  (h0:St τ₀) (ht:∀ w∈ws,St (tgt w)) (hg:∀ w∈ws,∀ τ M (C:S3->Mm->Prop),St τ->C (tgt w) M->g w τ M C)
  (hs:∀ w∈ws,∀ M (C:K3) (D:Mm->Prop),Sub M1 M->(∀ y,Rel w (some y)->C y M)->(Rel w none->D M)->tt (tgt w) M fun b M3=>if b=true then te (tgt w) M3 C else D M3)
  (r:∀ os,Iq Rel ws os->aQ (os.filterMap id) M1 R):m7 ws keep g tt te τ₀ M1 R:=by
 intro p hp
 refine⟨fun i τ acc M=>St τ/\(∃ os,Iq Rel (ws.take i) os/\acc=os.filterMap id)/\M=M1,⟨h0,⟨[],by simp;exact .nil,rfl⟩,rfl⟩,?_,?_,?_⟩
 ·rintro vs i τ acc M _ mp ⟨_,_,rfl⟩;exact hk _ (Sub.new hp)
 ·rintro vs i w τ acc M hw mp ⟨st,⟨os,po,rfl⟩,rfl⟩
  have hm:w∈ws:=Be hw
  have hi:i < ws.length:=(Ao.mp hw).1
  have htk:ws.take (i + 1)=ws.take i ++ [w]:=by rw[Ga,hw];rfl
  have snoc:∀ o,Rel w o->Iq Rel (ws.take (i + 1)) (os ++ [o]):=fun o ro=>by
   rw[htk]
   clear hw mp st htk
   revert os
   generalize ws.take i=l
   intro os po
   induction po with
   | nil=>exact .cons ro .nil
   | cons a b ih=>exact .cons a ih
  have hlen:(os.filterMap id).length < Aj:=by
   have h1:=List.length_filterMap_le id os
   have h2:=Eo po
   rw[Cf] at h2
   lia
  refine hg w hm τ _ _ st (hs w hm _ _ _ (Sub.new hp) (fun y hy=>⟨bC,hlen,M,?_,ht w hm,⟨_,snoc _ hy,?_⟩,rfl⟩) fun hn=>⟨bC,M,?_,ht w hm,⟨_,snoc _ hn,?_⟩,rfl⟩)
  ·rw[rY hp];exact Sub.refl _
  ·simp
  ·rw[rY hp];exact Sub.refl _
  ·simp
 ·rintro τ acc M mp ⟨_,⟨os,po,rfl⟩,rfl⟩
  rw[Ew] at po
  exact r os po p hp
def xB(rest:S3):S3->Prop:=fun τ=>∃ o,τ=o :: rest
theorem xC{ws:List W}{keep:Mm->Prop}{te:aS}{o:Option W}{rest:S3}{M1:Mm}{R:K3}(f:W->W)(hl:ws.length<=Aj)(hk:∀ M,Sub M1 M->keep M)
  (hs:∀ w∈ws,∀ M (C:K3),Sub M1 M->C (f w) M->te (some w :: rest) M C) (r:aQ (ws.map f) M1 R):m7 ws keep (bQ 0) iW te (o :: rest) M1 R:=by
 refine sU (xB rest) (fun w=>some w :: rest) (fun w o=>o=some (f w)) hl hk ⟨_,rfl⟩ (fun w _=>⟨_,rfl⟩) ?_ ?_ ?_
 ·rintro w _ τ M C ⟨o,rfl⟩ h;exact h
 ·intro w hw M C D sb h1 _
  show(if true=true then te (some w :: rest) M C else D M)
  rw[if_pos rfl]
  exact hs w hw M C sb (h1 _ rfl)
 ·intro os po
  have:os.filterMap id=ws.map f:=by
   clear r hs hl hk
   induction po with
   | nil=>rfl
   | cons a b ih=>subst a;simp[ih]
  rw[this];exact r
theorem oF{ws:List W}{keep:Mm->Prop}{tt:dO}{te:aS}{o:Option W}{rest:S3}{M1:Mm}{R:K3}(f:W->Option W)(hl:ws.length<=Aj)(hk:∀ M,Sub M1 M->keep M)
  (hs:∀ w∈ws,∀ M (C:K3) (D:Mm->Prop),Sub M1 M->(∀ y,f w=some y->C y M)->(f w=none->D M)->tt (some w :: rest) M fun b M3=>if b=true then te (some w :: rest) M3 C else D M3)
  (r:aQ (ws.filterMap f) M1 R):m7 ws keep (bQ 0) tt te (o :: rest) M1 R:=by
 refine sU (xB rest) (fun w=>some w :: rest) (fun w o=>o=f w) hl hk ⟨_,rfl⟩ (fun w _=>⟨_,rfl⟩) ?_ ?_ ?_
 ·rintro w _ τ M C ⟨o,rfl⟩ h;exact h
 ·intro w hw M C D sb h1 h2
  exact hs w hw M C D sb (fun y e=>h1 y e.symm) fun e=>h2 e.symm
 ·intro os po
  have:os.filterMap id=ws.filterMap f:=by
   clear r hs hl hk
   induction po with
   | nil=>rfl
   | @cons a b c d e _ ih=>
    subst e
    cases q:f a <;> simp[q,ih]
  rw[this];exact r
theorem xD{ws:List W}{keep:Mm->Prop}{te:aS}{o:Option W}{rest:S3}{M1:Mm}{R:K3}(P:W->W->Prop)(hl:ws.length<=Aj)(hk:∀ M,Sub M1 M->keep M)
  (hs:∀ w∈ws,∀ M (C:K3),Sub M1 M->(∀ y,P w y->C y M)->te (some w :: rest) M C) (r:∀ ys,Iq P ws ys->aQ ys M1 R):m7 ws keep (bQ 0) iW te (o :: rest) M1 R:=by
 refine sU (xB rest) (fun w=>some w :: rest) (fun w o=>∃ y,o=some y/\P w y) hl hk ⟨_,rfl⟩ (fun w _=>⟨_,rfl⟩) ?_ ?_ ?_
 ·rintro w _ τ M C ⟨o,rfl⟩ h;exact h
 ·intro w hw M C D sb h1 _
  show(if true=true then te (some w :: rest) M C else D M)
  rw[if_pos rfl]
  exact hs w hw M C sb fun y py=>h1 y ⟨y,rfl,py⟩
 ·intro os po
  have:∃ ys,os=ys.map some/\Iq P ws ys:=by
   clear r hs hl hk
   induction po with
   | nil=>exact⟨[],rfl,.nil⟩
   | cons a b ih=>
    obtain⟨y,rfl,py⟩:=a
    obtain⟨ys,rfl,h⟩:=ih
    exact⟨y :: ys,rfl,.cons py h⟩
  obtain⟨ys,rfl,py⟩:=this
  rw[List.filterMap_map]
  have:(ys.filterMap (id ∘ some))=ys:=by simp
  rw[this]
  exact r ys py
def VT(rest:S3):S3->Prop:=fun τ=>∃ o1 o2,τ=o1 :: o2 :: rest
def VU(rest:S3):W->S3
 | .tup [a,b]=>some a :: some b :: rest
 | _=>none :: none :: rest
abbrev DZ:eT:=kA 2 (fD (bQ 0) (fD (bQ 1) j9))
theorem VV{ws:List W}{keep:Mm->Prop}{tt:dO}{te:aS}{o1 o2:Option W}{rest:S3}{M1:Mm}{R:K3}(P:W->Option W->Prop)(hw:∀ w∈ws,∃ a b,w=.tup [a,b])(hl:ws.length<=Aj)(hk:∀ M,Sub M1 M->keep M)
  (hs:∀ a b,.tup [a,b]∈ws->∀ M (C:K3) (D:Mm->Prop),Sub M1 M->(∀ y,P (.tup [a,b]) (some y)->C y M)->(P (.tup [a,b]) none->D M)->tt (some a :: some b :: rest) M fun b' M3=>if b'=true then te (some a :: some b :: rest) M3 C else D M3)
  (r:∀ os,Iq P ws os->aQ (os.filterMap id) M1 R):m7 ws keep DZ tt te (o1 :: o2 :: rest) M1 R:=by
 refine sU (VT rest) (VU rest) P hl hk ⟨_,_,rfl⟩ (fun w hm=>?_) ?_ ?_ r
 ·obtain⟨a,b,rfl⟩:=hw w hm;exact⟨_,_,rfl⟩
 ·rintro w hm τ M C ⟨u1,u2,rfl⟩ h
  obtain⟨a,b,rfl⟩:=hw w hm
  exact⟨rfl,rfl,h⟩
 ·intro w hm M C D sb h1 h2
  obtain⟨a,b,rfl⟩:=hw w hm
  exact hs a b hm M C D sb h1 h2
theorem VW{ws:List W}{keep:Mm->Prop}{te:aS}{o1 o2:Option W}{rest:S3}{M1:Mm}{R:K3}(P:W->W->Prop)(hw:∀ w∈ws,∃ a b,w=.tup [a,b])(hl:ws.length<=Aj)(hk:∀ M,Sub M1 M->keep M)
  (hs:∀ a b,.tup [a,b]∈ws->∀ M (C:K3),Sub M1 M->(∀ y,P (.tup [a,b]) y->C y M)->te (some a :: some b :: rest) M C)
  (r:∀ ys,Iq P ws ys->aQ ys M1 R):m7 ws keep DZ iW te (o1 :: o2 :: rest) M1 R:=by
 refine VV (fun w o=>∃ y,o=some y/\P w y) hw hl hk (fun a b hm M C D sb h1 _=>?_) fun os po=>?_
 ·show(if true=true then te (some a :: some b :: rest) M C else D M)
  rw[if_pos rfl]
  exact hs a b hm M C sb fun y py=>h1 y ⟨y,rfl,py⟩
 ·have:∃ ys,os=ys.map some/\Iq P ws ys:=by
   clear r hs hl hk hw
   induction po with
   | nil=>exact⟨[],rfl,.nil⟩
   | cons a b ih=>
    obtain⟨y,rfl,py⟩:=a
    obtain⟨ys,rfl,h⟩:=ih
    exact⟨y :: ys,rfl,.cons py h⟩
  obtain⟨ys,rfl,py⟩:=this
  rw[List.filterMap_map]
  have:(ys.filterMap (id ∘ some))=ys:=by simp
  rw[this]
  exact r ys py
structure Df(K:Ae)(mg:Str->Option Ac)(x:Str)(st:Stmt)(ps:List Str)(f:Addr)(fd:Bw):Prop where
 fn:jT K x x st f fd
 at_:mg x=some (.ref f)
 bi:Binds K fd ps []
theorem eO:Cv "len" = some (.builtin "len"):=PySem.boot_len
theorem oG:Cv "list" = some (.type "list"):=by decide +kernel
theorem D0:Cv "tuple" = some (.type "tuple"):=by decide +kernel
theorem D1:Cv "int" = some (.type "int"):=by decide +kernel
theorem VX:Cv "bool" = some (.type "bool"):=by decide +kernel
theorem D2:Cv "dict" = some (.type "dict"):=by decide +kernel
theorem sW:Cv "isinstance" = some (.builtin "isinstance"):=by decide +kernel
theorem VY:Cv "all" = some (.builtin "all"):=by decide +kernel
theorem D4:Cv "sorted" = some (.builtin "sorted"):=by decide +kernel
theorem D5{α:Type}(x:α)(xs:List α):bU (x :: xs) 0=some x:=by simp[bU,iE]
theorem VZ{α:Type}(x y:α)(xs:List α):bU (x :: y :: xs) 1=some y:=jO (j:=1) rfl
theorem V0{α:Type}(x y z:α)(xs:List α):bU (x :: y :: z :: xs) 2=some z:=jO (j:=2) rfl
theorem oH{α:Type}{xs:List α}{i:Int}(h0:0<=i)(h1:i < xs.length):∃ x,bU xs i=some x/\xs[i.toNat]? = some x/\x∈xs:=by
 have hlt:i.toNat < xs.length:=by omega
 refine⟨xs[i.toNat],?_,An hlt,List.getElem_mem hlt⟩
 simp[bU,iE,h0,h1,hlt]
theorem V1{i j:Int}(h0:0 < j)(h1:j<=1000000000):pL i j:=⟨h0,Int.lt_of_le_of_lt h1 (by decide +kernel)⟩
theorem V2{i j:Int}(h0:0 < j)(h1:j<=1000000000):pL i j↔True:=iff_true_intro (V1 h0 h1)
def m9(x:Str):Prop:=PyData.strOk x=true
theorem eI{n:Nat}(h:n<=10000000):n<=Aj:=Bp h (by decide)
theorem iL{n:Nat}(h:n < 10000000):n < Aj:=Br h (by decide)
theorem cZ{w:W}{T n:String}{b:Bool}{M:Mm}{R:K3}(hn:∀ m,DQ M w m↔m=n)(hs:wZ n T=some b):bY [w,.ty T] M R↔R (.bl b) M:=
 ⟨fun⟨_,_,h1,h2,h3⟩=>by cases (hn _).mp h1;cases hs.symm.trans h2;exact h3,fun h=>⟨n,b,(hn n).mpr rfl,hs,h⟩⟩
theorem V3{M:Mm}{R:K3}:bY [W.non,.ty "list"] M R↔R (.bl false) M:=cZ (fun _=>Er) (by decide)
theorem V4{M:Mm}{R:K3}:bY [W.non,.ty "tuple"] M R↔R (.bl false) M:=cZ (fun _=>Er) (by decide)
theorem V5{M:Mm}{R:K3}:bY [W.non,.ty "int"] M R↔R (.bl false) M:=cZ (fun _=>Er) (by decide)
theorem V6{M:Mm}{R:K3}:bY [W.non,.ty "str"] M R↔R (.bl false) M:=cZ (fun _=>Er) (by decide)
theorem V7{M:Mm}{R:K3}:bY [W.non,.ty "bool"] M R↔R (.bl false) M:=cZ (fun _=>Er) (by decide)
theorem V8{b:Bool}{M:Mm}{R:K3}:bY [W.bl b,.ty "bool"] M R↔R (.bl true) M:=cZ (fun _=>Er) (by decide)
theorem V9{b:Bool}{M:Mm}{R:K3}:bY [W.bl b,.ty "int"] M R↔R (.bl true) M:=cZ (fun _=>Er) (by decide)
theorem WA{b:Bool}{M:Mm}{R:K3}:bY [W.bl b,.ty "str"] M R↔R (.bl false) M:=cZ (fun _=>Er) (by decide)
theorem WB{b:Bool}{M:Mm}{R:K3}:bY [W.bl b,.ty "list"] M R↔R (.bl false) M:=cZ (fun _=>Er) (by decide)
theorem WC{b:Bool}{M:Mm}{R:K3}:bY [W.bl b,.ty "tuple"] M R↔R (.bl false) M:=cZ (fun _=>Er) (by decide)
theorem WD{i:Int}{M:Mm}{R:K3}:bY [W.int i,.ty "int"] M R↔R (.bl true) M:=cZ (fun _=>Er) (by decide)
theorem WE{i:Int}{M:Mm}{R:K3}:bY [W.int i,.ty "bool"] M R↔R (.bl false) M:=cZ (fun _=>Er) (by decide)
theorem WG{i:Int}{M:Mm}{R:K3}:bY [W.int i,.ty "str"] M R↔R (.bl false) M:=cZ (fun _=>Er) (by decide)
theorem WH{i:Int}{M:Mm}{R:K3}:bY [W.int i,.ty "tuple"] M R↔R (.bl false) M:=cZ (fun _=>Er) (by decide)
theorem WI{i:Int}{M:Mm}{R:K3}:bY [W.int i,.ty "list"] M R↔R (.bl false) M:=cZ (fun _=>Er) (by decide)
theorem WJ{x:Str}{M:Mm}{R:K3}:bY [W.str x,.ty "str"] M R↔R (.bl true) M:=cZ (fun _=>Er) (by decide)
theorem WK{x:Str}{M:Mm}{R:K3}:bY [W.str x,.ty "int"] M R↔R (.bl false) M:=cZ (fun _=>Er) (by decide)
theorem WL{x:Str}{M:Mm}{R:K3}:bY [W.str x,.ty "tuple"] M R↔R (.bl false) M:=cZ (fun _=>Er) (by decide)
theorem WM{x:Str}{M:Mm}{R:K3}:bY [W.str x,.ty "list"] M R↔R (.bl false) M:=cZ (fun _=>Er) (by decide)
theorem WN{x:Str}{M:Mm}{R:K3}:bY [W.str x,.ty "bool"] M R↔R (.bl false) M:=cZ (fun _=>Er) (by decide)
theorem WO{ws:List W}{M:Mm}{R:K3}:bY [W.tup ws,.ty "tuple"] M R↔R (.bl true) M:=cZ (fun _=>Er) (by decide)
theorem WQ{ws:List W}{M:Mm}{R:K3}:bY [W.tup ws,.ty "list"] M R↔R (.bl false) M:=cZ (fun _=>Er) (by decide)
theorem WR{ws:List W}{M:Mm}{R:K3}:bY [W.tup ws,.ty "str"] M R↔R (.bl false) M:=cZ (fun _=>Er) (by decide)
theorem WS{ws:List W}{M:Mm}{R:K3}:bY [W.tup ws,.ty "int"] M R↔R (.bl false) M:=cZ (fun _=>Er) (by decide)
theorem WT{ws:List W}{M:Mm}{R:K3}:bY [W.tup ws,.ty "bool"] M R↔R (.bl false) M:=cZ (fun _=>Er) (by decide)
theorem WU{ws:List W}{M:Mm}{R:K3}:bY [W.rl ws,.ty "list"] M R↔R (.bl true) M:=cZ (fun _=>Er) (by decide)
theorem WV{ws:List W}{M:Mm}{R:K3}:bY [W.rl ws,.ty "tuple"] M R↔R (.bl false) M:=cZ (fun _=>Er) (by decide)
theorem WW{ws:List W}{M:Mm}{R:K3}:bY [W.rl ws,.ty "str"] M R↔R (.bl false) M:=cZ (fun _=>Er) (by decide)
theorem WX{ws:List W}{M:Mm}{R:K3}:bY [W.rl ws,.ty "int"] M R↔R (.bl false) M:=cZ (fun _=>Er) (by decide)
theorem WY{ws:List W}{M:Mm}{R:K3}:bY [W.rl ws,.ty "bool"] M R↔R (.bl false) M:=cZ (fun _=>Er) (by decide)
theorem WZ{p:Addr}{ws:List W}{M:Mm}{R:K3}:bY [.ref p,.ty "list"] (put M p (.lst ws)) R↔R (.bl true) (put M p (.lst ws)):=
 cZ (n:="list") (fun m=>Iff.intro (fun h=>h.elim And.left (fun h=>h.2.elim (fun⟨_,e⟩=>nomatch bC.symm.trans e) (fun⟨_,e⟩=>nomatch bC.symm.trans e))) (fun e=>Or.inl ⟨e,ws,bC⟩)) (by decide)
theorem W0{neg:Bool}{i j:Int}{M:Mm}{R:K3}:L3.rEq neg (.int i) (.int j) M R=R (.bl (if neg then !decide (i=j) else decide (i=j))) M:=rfl
theorem W5{neg:Bool}{i j:Str}{M:Mm}{R:K3}:L3.rEq neg (.str i) (.str j) M R=R (.bl (if neg then !decide (i=j) else decide (i=j))) M:=rfl
theorem W6{neg:Bool}{i j:Bool}{M:Mm}{R:K3}:L3.rEq neg (.bl i) (.bl j) M R=R (.bl (if neg then !decide (i=j) else decide (i=j))) M:=rfl
theorem W7{M:Mm}{a:Addr}{k:Str}{v:W}{kvs:List (aD×W)}{Q:Mm->Prop}(h:M a=some (.dK kvs))(hl:kvs.length < Aj)(q:Q (put M a (.dK (bZ kvs (Sum.inr k) v)))):p8 (.ref a) (.str k) v M Q:=.inr (.inl ⟨kvs,.inr k,rfl,h,hl,q⟩)
theorem sX{M:Mm}{a:Addr}{k:List aD}{v:W}{kvs:List (List aD×W)}{Q:Mm->Prop}(h:M a=some (.dT kvs))(hl:kvs.length < Aj)(q:Q (put M a (.dT (bZ kvs k v)))):p8 (.ref a) (.tup (k.map wK)) v M Q:=.inr (.inr ⟨kvs,k,rfl,h,hl,q⟩)
section
variable {X:Cx}{a b c:Expr}{ta tb tc:aS}{pos:Pos}
theorem W8{K:Ae}{r r':R3}{σ:SV}{H:Hp}{Q:VK}(h:up K (wY r r' ta tb tc) σ H Q):BG (cE K r) (cE K r') (up K ta) (up K tb) (up K tc) σ H Q:=by
 obtain⟨τ,M,R,as,am,h,k⟩:=h
 refine⟨τ,M,_,as,am,h,fun x H1 wx M1 k1 am1 ax h1=>⟨τ,M1,_,as.kp am k1,am1,h1,fun y H2 wy M2 k2 am2 ay h2=>⟨wx,wy,M2,_,am2,ax.kp am1 k2,ay,h2,fun z H3 wz M3 k3 am3 az ⟨c,e,h3⟩=>?_⟩⟩⟩
 subst e
 refine⟨c,az.bl_inv,?_⟩
 cases c with
 | false=>exact((k.kp k1).kp k2).kp k3 |>.at am3 (.bl false) h3
 | true=>exact⟨τ,M3,_,((as.kp am k1).kp am1 k2).kp am2 k3,am3,h3,fun w H4 ww M4 k4 am4 aw h4=>⟨wy,ww,M4,R,am4,(ay.kp am2 k3).kp am3 k4,aw,h4,(((k.kp k1).kp k2).kp k3).kp k4⟩⟩
theorem W9{op op':CmpOp}{r r':R3}(ho:bB X (Ck op) (cE X.K r))(ho':bB X (Ck op') (cE X.K r'))(ha:E3 X a ta)(hb:E3 X b tb)(hc:E3 X c tc)
  (hm:lastMarks [op,op'] [b,c]=false:=by with_unfolding_all rfl):T3 X (.Compare a [op,op'] [b,c] pos) (dC (wY r r' ta tb tc)):=
 (OP ho ho' ha hb hc hm).weak fun σ H Q z0=>z0.el fun τ M R as am h k=>W8 ⟨τ,M,_,as,am,h,fun v H' w M' k' am' av ⟨c,e,r⟩=>by
  subst e
  exact⟨c,av.bl_inv,k c H' M' k' am' r⟩⟩
end
def hW:Nat->List W->List W
 | _,[]=>[]
 | n,w :: r=>.tup [.int n,w] :: hW (n + 1) r
theorem qA:∀ {ws:List W} {n:Nat},(hW n ws).length=ws.length
 | [],_=>rfl
 | _ :: r,n=>by simp[hW,qA (ws:=r)]
theorem xE:∀ {ws:List W} {n i:Nat},(hW n ws)[i]? = (ws[i]?).map fun w=>W.tup [.int ((n + i:Nat):Int),w]
 | [],_,_=>by simp[hW]
 | w :: r,n,0=>by simp[hW]
 | w :: r,n,i + 1=>by
  rw[hW,Mp,Mp,xE]
  congr 2
  funext w
  congr 4
  lia
section
variable {X:Cx}{a b c:Expr}{ta tb tc:aS}{pos:Pos}
theorem D6{K:Ae}{H0:Hp}{M0:Mm}{p:Addr}{vs:List V}{ws:List W}{keep:Mm->Prop}(q0:aL K H0 M0 vs ws)(am0:AM K H0 M0)(st:∀ H M,Kp H0 M0 H M->AM K H M->keep M->a9 K H p vs):iJ K H0 M0 (v5 K p vs) (hW 0 ws) keep:=by
 refine⟨fun i H M k am kp hi=>⟨st H M k am kp,by rw[qA] at hi;rw[q0.length];exact hi⟩,fun H M k am kp=>⟨st H M k am kp,by rw[qA,q0.length];exact Ai _⟩,fun i H M x H' k am kp hi y=>?_⟩
 obtain⟨pp,u,hu,hn,rfl,rfl⟩:=y
 obtain⟨w,hw,av⟩:=(q0.kp am0 k).getV hu
 obtain⟨am2,k2⟩:=am.tup (u:=.tup [.int (i:Nat),u]) hn
 refine⟨.tup [.int ((i:Nat):Int),w],by rw[xE,hw];simp,k2,am2,.tup dY (.cons (.int _) (.cons (av.go (go_same hn)) .nil))⟩
def sY(ta:dS):hJ:=fun τ M R=>ta τ M fun ws M1=>match ws with
 | [.rl zs]=>R (hW 0 zs) (fun _=>True) M1
 | [.sc zs]=>R (hW 0 zs) (fun _=>True) M1
 | [.ref p]=>∃ zs,M1 p=some (.lst zs)/\False
 | _=>False
theorem D7{tA:dS}{p pos:Pos}{es:List Expr}{kx:Nat}{px:Pos}(hg:Gl X "enumerate")(hm:X.mg "enumerate" = none)(ha:A3 X [a] tA)(hs:Bj [a] X.env=[(false,eval a X.env)]:=by rfl):PI X (.Tuple es kx px) (.Call (.Name "enumerate" p) [a] [] pos) (hU X.K (sY tA)):=
 (S7 hg hm ha hs).weak fun σ H R' z0=>z0.el fun τ M R as am h k=>⟨τ,M,_,as,am,h,fun vs H1 ws M1 k1 am1 ax r=>by
  match ws,r with
  | [.rl zs],r=>
   obtain⟨v,rfl,av⟩:=ax.one
   cases av with
   | rl e n q=>exact⟨_,_,rfl,a9.of e,k _ _ _ _ _ k1 am1 (D6 q am1 fun H M k _ _=>a9.of (k.fr _ _ n e).1) r⟩
  | [.sc zs],r=>
   obtain⟨v,rfl,av⟩:=ax.one
   cases av with
   | sc e q=>exact⟨_,_,rfl,e.sq,k _ _ _ _ _ k1 am1 (D6 q am1 fun H M k _ _=>by
     refine kP.sq ?_
     rcases e with⟨o,e⟩ | e
     ·exact .inl ⟨o,(k.fr _ _ (am1.noFrz e) e).1⟩
     ·exact .inr e) r⟩
  | [.ref p],r=>obtain⟨_,_,f⟩:=r;exact f.elim⟩
def iM:List W->List W->List W
 | x :: xs,y :: ys=>.tup [x,y] :: iM xs ys
 | _,_=>[]
theorem mC:∀ {xs ys:List W},(iM xs ys).length=min xs.length ys.length
 | [],_=>by simp[iM]
 | _ :: _,[]=>by simp[iM]
 | _ :: xs,_ :: ys=>by simp[iM,mC (xs:=xs)]
theorem sZ:∀ {xs ys:List W} {i:Nat} {x y:W},xs[i]? = some x->ys[i]? = some y->(iM xs ys)[i]? = some (.tup [x,y])
 | [],_,_,_,_,h,_=>by simp at h
 | _ :: _,[],_,_,_,_,h=>by simp at h
 | _ :: xs,_ :: ys,0,_,_,h,h'=>by simp at h h';simp[iM,h,h']
 | _ :: xs,_ :: ys,i + 1,_,_,h,h'=>by simpa [iM] using sZ (xs:=xs) (ys:=ys) (i:=i) (by simpa using h) (by simpa using h')
end
theorem XA:jZ .non z0 z1=z1 false z0:=rfl
theorem XB:jZ (.bl b) z0 z1=z1 b z0:=rfl
theorem XC:jZ (.int i) z0 z1=z1 (i != 0) z0:=rfl
theorem XD:jZ (.str y) z0 z1=(Lq y<=Aj/\z1 ((↑(Lq y):Int) != 0) z0):=rfl
theorem XE:jZ (.tup ws) z0 z1=z1 (!List.isEmpty ws) z0:=rfl
theorem XF:jZ (.rl ws) z0 z1=z1 (!List.isEmpty ws) z0:=rfl
theorem XG:jZ (.sc ws) z0 z1=z1 (!List.isEmpty ws) z0:=rfl
theorem XH:∀ (z0:Mm) (z1:Bool->Mm->Prop) (kvs:List (L2.aD×W)),jZ (W.dk kvs) z0 z1=z1 (!List.isEmpty kvs) z0:=by intros;rfl
theorem XI:jZ (.ref p) z0 z1=((∃ ws,z0 p=some (MO.lst ws)/\z1 (!List.isEmpty ws) z0)\/∃ kvs,z0 p=some (MO.dK kvs)/\z1 (!List.isEmpty kvs) z0):=rfl
theorem XJ:∀ (z0:Mm) (z1:List W->(Mm->Prop)->Mm->Prop) (ws:List W),d7 (W.tup ws) z0 z1=z1 ws (fun(x:Mm)=>True) z0:=by intros;rfl
theorem XM:∀ (z0:Mm) (z1:List W->(Mm->Prop)->Mm->Prop) (ws:List W),d7 (W.rl ws) z0 z1=z1 ws (fun(x:Mm)=>True) z0:=by intros;rfl
theorem XN:∀ (z0:Mm) (z1:List W->(Mm->Prop)->Mm->Prop) (ws:List W),d7 (W.sc ws) z0 z1=z1 ws (fun(x:Mm)=>True) z0:=by intros;rfl
theorem XO:∀ (z0:Mm) (z1:List W->(Mm->Prop)->Mm->Prop) (z:PySem.Str),d7 (W.str z) z0 z1=z1 (Gk (fun(c:Nat)=>W.str {cps:=#[c]}) (Array.toList (PySem.Str.cps z))) (fun(x:Mm)=>True) z0:=by intros;rfl
theorem XQ:∀ (z0:Mm) (z1:List W->(Mm->Prop)->Mm->Prop) (a:PySem.Addr),d7 (W.ref a) z0 z1 = ∃ (ws:List W),z0 a=Option.some (MO.lst ws)/\z1 ws (fun(M:Mm)=>M a=Option.some (MO.lst ws)) z0:=by intros;rfl
theorem XR:∀ (z0:Mm) (z1:List W->(Mm->Prop)->Mm->Prop) (ws:List W),jG (W.tup ws) z0 z1=z1 ws (fun(x:Mm)=>True) z0:=by intros;rfl
theorem XS:∀ (z0:Mm) (z1:List W->(Mm->Prop)->Mm->Prop) (ws:List W),jG (W.rl ws) z0 z1=z1 ws (fun(x:Mm)=>True) z0:=by intros;rfl
theorem XT:∀ (z0:Mm) (z1:List W->(Mm->Prop)->Mm->Prop) (ws:List W),jG (W.sc ws) z0 z1=z1 ws (fun(x:Mm)=>True) z0:=by intros;rfl
theorem XU:∀ (z0:Mm) (z1:List W->(Mm->Prop)->Mm->Prop) (a:PySem.Addr),jG (W.ref a) z0 z1 = ∃ (ws:List W),z0 a=Option.some (MO.lst ws)/\z1 ws (fun(M:Mm)=>M a=Option.some (MO.lst ws)) z0:=by intros;rfl
theorem XW:lQ (.int i) (.int j) z0 z1=z1 (.int (i + j)) z0:=rfl
theorem XX:lQ (.tup xs) (.tup ys) z0 z1=(xs≠[]/\Bb xs + Bb ys<=Aj/\z1 (.tup (xs ++ ys)) z0):=rfl
theorem XY:lQ (.ref a) (.ref b) z0 z1 = ∃ xs,∃ ys,z0 a=some (MO.lst xs)/\z0 b=some (MO.lst ys)/\Bb xs + Bb ys<=Aj/\aQ (xs ++ ys) z0 z1:=rfl
theorem XZ:lQ (.rl xs) (.ref b) z0 z1 = ∃ ys,z0 b=some (MO.lst ys)/\Bb xs + Bb ys<=Aj/\aQ (xs ++ ys) z0 z1:=rfl
theorem X0:lQ (.ref a) (.rl ys) z0 z1 = ∃ xs,z0 a=some (MO.lst xs)/\Bb xs + Bb ys<=Aj/\aQ (xs ++ ys) z0 z1:=rfl
theorem X1:lQ (.rl xs) (.rl ys) z0 z1=(Bb xs + Bb ys<=Aj/\aQ (xs ++ ys) z0 z1):=rfl
theorem X2:cA (.int i) (.int j) z0 z1=z1 (.int (i + j)) z0:=rfl
theorem X3:cA (.tup xs) (.tup ys) z0 z1=(xs≠[]/\Bb xs + Bb ys<=Aj/\z1 (.tup (xs ++ ys)) z0):=rfl
theorem X4:cA (.ref a) (.ref b) z0 z1 = ∃ xs,∃ ys,z0 a=some (MO.lst xs)/\z0 b=some (MO.lst ys)/\Bb xs + Bb ys<=Aj/\z1 (.rl (xs ++ ys)) z0:=rfl
theorem X5:cA (.rl xs) (.ref b) z0 z1 = ∃ ys,z0 b=some (MO.lst ys)/\Bb xs + Bb ys<=Aj/\z1 (.rl (xs ++ ys)) z0:=rfl
theorem X6:cA (.ref a) (.rl ys) z0 z1 = ∃ xs,z0 a=some (MO.lst xs)/\Bb xs + Bb ys<=Aj/\z1 (.rl (xs ++ ys)) z0:=rfl
theorem X7:cA (.rl xs) (.rl ys) z0 z1=(Bb xs + Bb ys<=Aj/\z1 (.rl (xs ++ ys)) z0):=rfl
theorem X8:lS g (.int i) (.int j) z1 z2=z2 (g i j) z1:=rfl
theorem X9:nU C g (.int i) (.int j) z2 z3=(C i j/\z3 (g i j) z2):=rfl
theorem YA:lU (.int i) (.int j) z0 z1=z1 (.bl (decide (i < j))) z0:=rfl
theorem YB:j0 (.int i) z0 z1=z1 (.int (-i)) z0:=rfl
theorem YC:aV (.tup ws) (.int i) z0 z1 = ∃ w,L2.bU ws i=some w/\z1 w z0:=rfl
theorem YD:aV (.rl ws) (.int i) z0 z1 = ∃ w,L2.bU ws i=some w/\z1 w z0:=rfl
theorem YE:aV (.sc ws) (.int i) z0 z1 = ∃ w,L2.bU ws i=some w/\z1 w z0:=rfl
theorem YF:∀ (z0:W) (z1:Mm) (z2:K3) (kvs:List (L2.aD×W)),aV (W.dk kvs) z0 z1 z2 = ∃ (w:W),d6 z1 (W.dk kvs) z0 (Option.some w)/\z2 w z1:=by intros;rfl
theorem YG:∀ (z0:W) (z1:Mm) (z2:K3) (kvs:List (List L2.aD×W)),aV (W.dt kvs) z0 z1 z2 = ∃ (w:W),d6 z1 (W.dt kvs) z0 (Option.some w)/\z2 w z1:=by intros;rfl
theorem YH:aV (.str z) (.int i) z0 z1=(Lq z<=Aj/\∃ c,L2.bU (Array.toList (PySem.Str.cps z)) i=some c/\z1 (.str {cps:=#[c]}) z0):=rfl
theorem YI:aV (.ref a) (.int i) z0 z1=((∃ ws,∃ w,z0 a=some (MO.lst ws)/\L2.bU ws i=some w/\z1 w z0)\/∃ w,d6 z0 (.ref a) (.int i) (some w)/\z1 w z0):=rfl
theorem YJ:∀ (z0:W) (z1:Mm) (z2:K3) (a:PySem.Addr),(∀ (i:Int),z0=W.int i->False)->aV (W.ref a) z0 z1 z2 = ∃ (w:W),d6 z1 (W.ref a) z0 (Option.some w)/\z2 w z1:=by
 intro x M R a h;cases x <;> first | rfl | exact(h _ rfl).elim
theorem YK:cX [.tup ws] z0 z1=z1 (.int (↑(Bb ws):Int)) z0:=rfl
theorem YL:cX [.rl ws] z0 z1=z1 (.int (↑(Bb ws):Int)) z0:=rfl
theorem YM:cX [.sc ws] z0 z1=z1 (.int (↑(Bb ws):Int)) z0:=rfl
theorem YN:∀ (z0:Mm) (z1:K3) (kvs:List (L2.aD×W)),cX [W.dk kvs] z0 z1=z1 (W.int (↑(Bb kvs):Int)) z0:=by intros;rfl
theorem YO:cX [.str z] z0 z1=(Lq z<=Aj/\z1 (.int (↑(Lq z):Int)) z0):=rfl
theorem YQ:cX [.ref a] z0 z1=((∃ ws,z0 a=some (MO.lst ws)/\z1 (.int (↑(Bb ws):Int)) z0)\/∃ kvs,z0 a=some (MO.dK kvs)/\z1 (.int (↑(Bb kvs):Int)) z0):=rfl
theorem YR:kX [.tup ws] z0 z1=aQ ws z0 z1:=rfl
theorem YS:kX [.rl ws] z0 z1=aQ ws z0 z1:=rfl
theorem YT:kX [.sc ws] z0 z1=aQ ws z0 z1:=rfl
theorem YU:∀ (z0:Mm) (z1:K3) (kvs:List (L2.aD×W)),kX [W.dk kvs] z0 z1=aQ (Gk (fun(kv:L2.aD×W)=>wK (Dh kv)) kvs) z0 z1:=by intros;rfl
theorem YV:kX [.ref a] z0 z1=((∃ ws,z0 a=some (MO.lst ws)/\aQ ws z0 z1)\/∃ kvs,z0 a=some (MO.dK kvs)/\aQ (Gk (fun(kv:L2.aD×W)=>wK (Dh kv)) kvs) z0 z1):=rfl
theorem YW:k7 [.tup ws] z0 z1=z1 (.rl ws) z0:=rfl
theorem YX:k7 [.rl ws] z0 z1=z1 (.rl ws) z0:=rfl
theorem YY:k7 [.sc ws] z0 z1=z1 (.rl ws) z0:=rfl
theorem YZ:∀ (z0:Mm) (z1:K3) (kvs:List (L2.aD×W)),k7 [W.dk kvs] z0 z1=z1 (W.rl (Gk (fun(kv:L2.aD×W)=>wK (Dh kv)) kvs)) z0:=by intros;rfl
theorem Y0:k7 [.ref a] z0 z1=((∃ ws,z0 a=some (MO.lst ws)/\z1 (.rl ws) z0)\/∃ kvs,z0 a=some (MO.dK kvs)/\z1 (.rl (Gk (fun(kv:L2.aD×W)=>wK (Dh kv)) kvs)) z0):=rfl
theorem Y1:n5 [.tup ws] z0 z1=z1 (.tup ws) z0:=rfl
theorem Y2:n5 [.rl ws] z0 z1=z1 (.tup ws) z0:=rfl
theorem Y3:n5 [.ref a] z0 z1 = ∃ ws,z0 a=some (MO.lst ws)/\z1 (.tup ws) z0:=rfl
theorem Y4:oC (.rl ws) z0 z1 z2 z3=z3 (.rl (cH ws z0 z1)) z2:=rfl
theorem Y5:oC (.sc ws) z0 z1 z2 z3=z3 (.rl (cH ws z0 z1)) z2:=rfl
theorem Y6:oC (.ref a) z0 z1 z2 z3 = ∃ ws,z2 a=some (MO.lst ws)/\z3 (.rl (cH ws z0 z1)) z2:=rfl
theorem Y7:oC (.tup ws) z0 z1 z2 z3=(¬(HT.sIx (Bb ws) 0 z0=0/\HT.sIx (Bb ws) (Bb ws) z1=Bb ws)/\z3 (.tup (cH ws z0 z1)) z2):=rfl
theorem Y8:mU (.rl ws) z0 z1 z2 z3=aQ (cH ws z0 z1) z2 z3:=rfl
theorem Y9:mU (.sc ws) z0 z1 z2 z3=aQ (cH ws z0 z1) z2 z3:=rfl
theorem ZA:mU (.ref a) z0 z1 z2 z3 = ∃ ws,z2 a=some (MO.lst ws)/\aQ (cH ws z0 z1) z2 z3:=rfl
theorem ZC:mU (.tup ws) z0 z1 z2 z3=(¬(HT.sIx (Bb ws) 0 z0=0/\HT.sIx (Bb ws) (Bb ws) z1=Bb ws)/\z3 (.tup (cH ws z0 z1)) z2):=rfl
theorem ZD:fU (.ref l) [y] z0 z1 = ∃ ws,z0 l=some (MO.lst ws)/\Bb ws < Aj/\z1 .non (put z0 l (MO.lst (ws ++ [y]))):=rfl
theorem ZE:rPop (.ref l) [] z0 z1 = ∃ ws,∃ w,z0 l=some (MO.lst (ws ++ [w]))/\z1 w (put z0 l (MO.lst ws)):=rfl
theorem ZF:fB T (.str x_2) z1=(T = "str"):=rfl
theorem ZG:fB T (.int i) z1=(T = "int"):=rfl
theorem ZH:fB T (.rl ws) z1=(T = "list"):=rfl
theorem ZI:fB T (.sc ws) z1=(T = "list"):=rfl
theorem ZJ:∀ (T:String) (z1:Mm) (kvs:List (L2.aD×W)),fB T (W.dk kvs) z1=(T = "dict"):=by intros;rfl
theorem ZK:∀ (T:String) (z1:Mm) (kvs:List (List L2.aD×W)),fB T (W.dt kvs) z1=(T = "dict"):=by intros;rfl
theorem ZL:fB T (.ref p) z1=((T = "list"/\∃ ws,z1 p=some (MO.lst ws))\/T = "dict"/\((∃ kvs,z1 p=some (MO.dK kvs))\/∃ kvs,z1 p=some (MO.dT kvs))):=rfl
theorem ZM:pX (.int i) (.int j) z0 z1=((L2.lH i j\/L2.nP i j)/\z1 (.int (i * j)) z0):=rfl
theorem ZN:pX (.ref a) (.int n) z0 z1 = ∃ xs,z0 a=some (MO.lst xs)/\-2 ^ 63<=n/\n < 2 ^ 63/\Bb xs * Ka n<=Aj/\aQ (List.flatten (Bu (Ka n) xs)) z0 z1:=rfl
theorem ZO:pX (.rl xs) (.int n) z0 z1=(-2 ^ 63<=n/\n < 2 ^ 63/\Bb xs * Ka n<=Aj/\aQ (List.flatten (Bu (Ka n) xs)) z0 z1):=rfl
theorem ZP:iK (.int i) (.int j) z0 z1=((L2.lH i j\/L2.nP i j)/\z1 (.int (i * j)) z0):=rfl
theorem ZQ:iK (.ref a) (.int n) z0 z1 = ∃ xs,z0 a=some (MO.lst xs)/\-2 ^ 63<=n/\n < 2 ^ 63/\Bb xs * Ka n<=Aj/\z1 (.rl (List.flatten (Bu (Ka n) xs))) z0:=rfl
theorem ZR:iK (.rl xs) (.int n) z0 z1=(-2 ^ 63<=n/\n < 2 ^ 63/\Bb xs * Ka n<=Aj/\z1 (.rl (List.flatten (Bu (Ka n) xs))) z0):=rfl
section
variable {X:Cx}{a b c:Expr}{ta tb tc:aS}{pos:Pos}
theorem ZS{K:Ae}{H0:Hp}{M0:Mm}{p q:Addr}{vs us:List V}{ws zs:List W}(am0:AM K H0 M0)(e1:H0 p=some (.tup vs))(e2:H0 q=some (.tup us))(r1:aL K H0 M0 vs ws)(r2:aL K H0 M0 us zs):iJ K H0 M0 (rW K p q vs us) (iM ws zs) fun _=>True:=by
 have s1:∀ H M,Kp H0 M0 H M->bM K H p vs:=fun H M k=>bM.of (k.fr _ _ (am0.noTup e1) e1).1
 have s2:∀ H M,Kp H0 M0 H M->bM K H q us:=fun H M k=>bM.of (k.fr _ _ (am0.noTup e2) e2).1
 refine⟨fun i H M k am _ hi=>⟨s1 H M k,s2 H M k,?_,?_⟩,fun H M k am _=>⟨s1 H M k,s2 H M k,?_⟩,fun i H M x H' k am _ hi y=>?_⟩
 ·rw[mC] at hi;rw[r1.length];lia
 ·rw[mC] at hi;rw[r2.length];lia
 ·rw[mC,r1.length,r2.length];lia
 ·obtain⟨pp,u,v,hu,hv,hn,rfl,rfl⟩:=y
  obtain⟨w,hw,av⟩:=(r1.kp am0 k).getV hu
  obtain⟨z,hz,az⟩:=(r2.kp am0 k).getV hv
  obtain⟨am2,k2⟩:=am.tup (u:=.tup [u,v]) hn
  exact⟨.tup [w,z],sZ hw hz,k2,am2,.tup dY (.cons (av.go (go_same hn)) (.cons (az.go (go_same hn)) .nil))⟩
theorem ZT{K:Ae}{H0:Hp}{M0:Mm}{p q:Addr}{vs us:List V}{ws zs:List W}(am0:AM K H0 M0)(e1:H0 p=some (.lst vs))(n1:M0 p=none)(e2:H0 q=some (.lst us))(n2:M0 q=none)(r1:aL K H0 M0 vs ws)(r2:aL K H0 M0 us zs):iJ K H0 M0 (rV K p q vs us) (iM ws zs) fun _=>True:=by
 have s1:∀ H M,Kp H0 M0 H M->a9 K H p vs:=fun H M k=>a9.of (k.fr _ _ n1 e1).1
 have s2:∀ H M,Kp H0 M0 H M->a9 K H q us:=fun H M k=>a9.of (k.fr _ _ n2 e2).1
 refine⟨fun i H M k am _ hi=>⟨s1 H M k,s2 H M k,?_,?_⟩,fun H M k am _=>⟨s1 H M k,s2 H M k,?_⟩,fun i H M x H' k am _ hi y=>?_⟩
 ·rw[mC] at hi;rw[r1.length];lia
 ·rw[mC] at hi;rw[r2.length];lia
 ·rw[mC,r1.length,r2.length];lia
 ·obtain⟨pp,u,v,hu,hv,hn,rfl,rfl⟩:=y
  obtain⟨w,hw,av⟩:=(r1.kp am0 k).getV hu
  obtain⟨z,hz,az⟩:=(r2.kp am0 k).getV hv
  obtain⟨am2,k2⟩:=am.tup (u:=.tup [u,v]) hn
  exact⟨.tup [w,z],sZ hw hz,k2,am2,.tup dY (.cons (av.go (go_same hn)) (.cons (az.go (go_same hn)) .nil))⟩
def ZU:List W->Mm->(List W->(Mm->Prop)->Mm->Prop)->Prop
 | [.tup xs,.tup ys],M,R=>R (iM xs ys) (fun _=>True) M
 | [.rl xs,.rl ys],M,R=>R (iM xs ys) (fun _=>True) M
 | _,_,_=>False
def D8(ta:dS):hJ:=fun τ M R=>ta τ M fun ws M1=>ZU ws M1 R
theorem ZV{tA:dS}{p pos:Pos}{es:List Expr}{kx:Nat}{px:Pos}(hg:Gl X "zip")(hm:X.mg "zip" = none)(ha:A3 X [a,b] tA)(hs:Bj [a,b] X.env=[(false,eval a X.env),(false,eval b X.env)]:=by rfl)(hs2:Bj [b] X.env=[(false,eval b X.env)]:=by rfl) :
  PI X (.Tuple es kx px) (.Call (.Name "zip" p) [a,b] [] pos) (hU X.K (D8 tA)):=
 (TR hg hm ha hs hs2).weak fun σ H R' z0=>z0.el fun τ M R as am h k=>⟨τ,M,_,as,am,h,fun vs H1 ws M1 k1 am1 ax r=>by
  match ws,r with
  | [.tup xs,.tup ys],r=>
   obtain⟨v,u,e,av,au⟩:=ax.two
   obtain⟨a1,x1,f1,e1,q1⟩:=av.inv
   obtain⟨a2,x2,f2,e2,q2⟩:=au.inv
   exact⟨a1,a2,_,_,by rw[e,f1,f2],.inl ⟨bM.of e1,bM.of e2,k _ _ _ _ _ k1 am1 (ZS am1 e1 e2 q1 q2) r⟩⟩
  | [.rl xs,.rl ys],r=>
   obtain⟨v,u,e,av,au⟩:=ax.two
   obtain⟨a1,x1,f1,e1,n1,q1⟩:=av.inv
   obtain⟨a2,x2,f2,e2,n2,q2⟩:=au.inv
   exact⟨a1,a2,_,_,by rw[e,f1,f2],.inr ⟨a9.of e1,a9.of e2,k _ _ _ _ _ k1 am1 (ZT am1 e1 n1 e2 n2 q1 q2) r⟩⟩⟩
end
section
variable {X:Cx}
theorem aL.intsL{K:Ae}{H:Hp}{M:Mm}{ns:List Int}{vs:List V}(h:aL K H M vs (ns.map W.int)):vs=ns.map V.int:=h.ints
end
end L3
namespace PySem
namespace Rl
open PyProof.Rows L2 PySem.Spec
section
variable {prog:Bl}{w:Cb}{A:Bv}{E:Ac->Ah->Prop}{s:Ah}
end
end Rl
end PySem
namespace L2
open PySem PySem.Spec PyProof.Rows
section
variable {X:Cx}{a:Expr}{ta:TA}{p p2 pos pos2:Pos}
end
end L2
namespace L3
open PySem PySem.Spec PyProof.Rows L2
section
variable {X:Cx}{a:Expr}{ta:aS}{pos:Pos}
end
end L3
namespace PySem
namespace Dp
open PyProof.Rows L2 PySem.Spec
section
variable {prog:Bl}{w:Cb}{A:Bv}{E:Ac->Ah->Prop}{s:Ah}
theorem ZW:typeLookup (.type "list") "keys" = pure none:=by rw[Lo,Je];kernel_rfl
theorem keys_miss{a:Addr}{xs:Array Ac}{k:Nat}{Q:Option Ac->Ah->Prop}(hx:s.heap.get? a=some {cls:=.type "list",data:=.seq xs k})(hA:A.handled=none)
  (h:∀ h' tk,(∀ b o,s.heap.get? b=some o->h'.get? b=some o)->Q none {s with heap:=h',toks:=tk}):Ax (Bk prog w) A (getAttr? (.ref a) (Cz "keys")) Q E s:=by
 obtain⟨hp,g,d,tk,os⟩:=s
 have hT:∀ tk',(⟨hp,g,d,tk',os⟩:Ah).TypeIs (.ref a) "list":=fun _=>⟨_,hx,rfl⟩
 have f1:=sub_AttributeError
 have f3:=Mw.lookup
 have f4:=Mw.bind (.ref a)
 have f5:=am_list_getattr_none
 unfold getAttr? getAttrBy? getAttrBy
 repeat (any_goals (first | assumption | exact hT _ | ((with_reducible show Ax _ _ (call (Value.builtin "list.__getattribute__") _ _) _ _ _);refine Me Mw (hT _) am_entry_list_getattribute (F.args_list_getattribute_2 _ _) (meets_getattribute_miss_list a xs k #[] (Cz "keys") _ ZW (by decide +kernel) (by decide +kernel)) ⟨hx,hA,fun h' tk' e hx'=>?_⟩) | wp_step))
 obtain⟨t',u',he⟩:=hx'.there
 have hx2:=hx'.of.keeps
 show Ax _ _ (getattributeRaised _ _ _ _ _ _ _) _ _ _
 unfold getattributeRaised
 repeat (any_goals (first | assumption | wp_step))
 exact h _ _ hx2
theorem entry_loop:entryFor table "dict.update.loop" = some Hh.«dict.update.loop»:=entryFor_of_tree (by kernel_rfl)
theorem plain_loop:plainId "dict.update.loop" = true:=by decide +kernel
variable {K:Type}[DecidableEq K]{knd:KeyKind prog w K}
theorem ZX(kvs:List (K×Ac))(k:K)(v:Ac):(stored kvs k v).length<=kvs.length + 1:=by
 unfold stored
 split
 ·rw[Ab];lia
 ·rw[Av,Eb];exact Ai _
def all(kvs:List (K×Ac))(ps:List (K×Ac)):List (K×Ac):=ps.foldl (fun kvs p=>stored kvs p.1 p.2) kvs
theorem loop{d I l:Addr}{items:Array Ac}{ps:List (K×Ac)}{R:Result->Ah->Prop}(hh:A.handled=none)(hdI:d≠I)(hdl:d≠l)(hlI:l≠I)(hn:ps.length=items.size)(hz:items.size<=Aj) :
  ∀ (k i:Nat) (s:Ah) (kvs:List (K×Ac)),items.size - i=k->i<=items.size->kvs.length<=i->s.heap.IsListIter I l i->s.heap.IsList l items->s.heap.DictOf knd d kvs->
  (∀ (j:Nat) (p:K×Ac),ps[j]? = some p->∃ (a:Addr) (key:Ac),items[j]? = some (.ref a)/\a≠d/\a≠I/\s.heap.IsTuple a #[key,p.2]/\knd.is p.1 key=true)->
  (∀ h' tk,(∀ b o,b≠d->b≠I->s.heap.get? b=some o->h'.get? b=some o)->h'.DictOf knd d (all kvs (ps.drop i))->R (.ok (.ret .none)) {s with heap:=h',toks:=tk})->
  Jv (Bk prog w) A (.builtin "dict.update.loop" ⟨[.ref d,.ref I,Gv (i:Int),.none],[]⟩) R s:=by
 intro k
 induction k with
 | zero=>
  intro i s kvs hk hi hl hit hls hd hp hR
  have hin:i=items.size:=by lia
  refine Fw entry_loop ?_
  rw[Em plain_loop _]
  show Ax _ A.in1 (Ia (.ref I) >>= _) _ _ s
  have W:=Ms (prog:=prog) (w:=w) (A:=A.in1) hh I l hlI items
  refine Aa (W.done s _ _ (by rw[<-hin];exact⟨hit,hls⟩) fun h' tk hm=>?_)
  show Ax _ A.in1 (Builtin.Dict.addKeywords d [] >>= _) _ _ _
  have hd':h'.DictOf knd d kvs:=by
   obtain⟨o,es,ep,ho,rest⟩:=hd
   exact⟨o,es,ep,hm d o (by simp[hdI]) ho,rest⟩
  refine Aa (Ag (Ag (hR h' tk (fun b o _ hb e=>hm b o (by simp[hb]) e) ?_)))
  rw[Kh (by lia)]
  exact hd'
 | succ k ih=>
  intro i s kvs hk hi hl hit hls hd hp hR
  have hlt:i < items.size:=by lia
  refine Fw entry_loop ?_
  rw[Em plain_loop _]
  show Ax _ A.in1 (Ia (.ref I) >>= _) _ _ s
  have W:=Ms (prog:=prog) (w:=w) (A:=A.in1) hh I l hlI items
  refine Aa (W.item i s _ _ hlt ⟨hit,hls⟩ fun v h' tk hv hst hm=>?_)
  obtain⟨p,hpi⟩:∃ p,ps[i]? = some p:=⟨_,An (by lia)⟩
  obtain⟨a,key,ha,had,haI,hat,hkey⟩:=hp i p hpi
  rw[ha] at hv
  cases hv
  have hd':h'.DictOf knd d kvs:=by
   obtain⟨o,es,ep,ho,rest⟩:=hd
   exact⟨o,es,ep,hm d o (by simp[hdI]) ho,rest⟩
  have hat':h'.IsTuple a #[key,p.2]:=by
   obtain⟨o,ho,rest⟩:=hat
   exact⟨o,hm a o (by simp[haI]) ho,rest⟩
  show Ax _ A.in1 (Ip [Value.ref a] _ >>= _) _ _ _
  refine Aa (Ct (Aa (wpAny_tryCatch ?_)))
  unfold Builtin.Dict.pairItems
  obtain⟨o,ho,hc,n,hd2⟩:=hat'
  refine Aa (Kn (T:="tuple") ⟨o,ho,hc⟩ ?_)
  rw[if_pos (by decide)]
  refine Aa (Gg ho hd2 (Ag ?_))
  show Ax _ _ (Ip [key,p.2] (dictSet d key p.2)) _ _ _
  refine Ct (wpAny_dictSet_pairs hkey hd' (hsz:=by lia) fun h2 hd3 hs2=>?_)
  have e1:ps.drop i=p :: ps.drop (i + 1):=by rw[Hc (by lia)];congr 1;exact(Ao.mp hpi).2
  refine Ag ⟨Hx plain_loop _,?_⟩
  refine ih (i + 1) _ (stored kvs p.1 p.2) (by lia) hlt (by have:=ZX kvs p.1 p.2;lia) (hst.1.at fun o e=>(hs2.2 I (Bq hdI)).trans e) (hst.2.at fun o e=>(hs2.2 l (Bq hdl)).trans e) hd3 (fun j q hq=>?_) fun h3 tk3 hk3 hd4=>?_
  ·obtain⟨a,key,g1,g2,g3,⟨o,g4,g5⟩,g6⟩:=hp j q hq
   exact⟨a,key,g1,g2,g3,⟨o,(hs2.2 a g2).trans (hm a o (by simp[g3]) g4),g5⟩,g6⟩
  ·refine hR h3 tk3 (fun b o h1 h2 e=>hk3 b o h1 h2 ((hs2.2 b h1).trans (hm b o (by simp[h2]) e))) ?_
   rw[e1];exact hd4
theorem call_pairs{l:Addr}{items:Array Ac}{c:Nat}{ps:List (K×Ac)}{Q:Ac->Ah->Prop}(hh:A.handled=none)(hx:s.heap.get? l=some {cls:=.type "list",data:=.seq items c})(hn:ps.length=items.size)(hz:items.size<=Aj)
  (hp:∀ (j:Nat) (p:K×Ac),ps[j]? = some p->∃ (a:Addr) (key:Ac),items[j]? = some (.ref a)/\s.heap.IsTuple a #[key,p.2]/\knd.is p.1 key=true)
  (h:∀ h' tk,(∀ b o,s.heap.get? b=some o->h'.get? b=some o)->h'.DictOf knd s.heap.objs.size (all [] ps)->Q (.ref s.heap.objs.size) {s with heap:=h',toks:=tk}) :
  Ax (Bk prog w) A (call (.type "dict") [.ref l]) Q E s:=by
 refine callType_codes (Q₁:=fun obj s₁=>obj=.ref s.heap.objs.size/\s₁ = {s with heap:=s.heap.push {cls:=.type "dict",data:=.dict #[]}}) F.kt_called_dict (F.kt_typeCall_dict_1 _) F.entry_dict_init (kt_code_dict_new _ ⟨rfl,rfl⟩) ?_
 rintro obj s₁ ⟨rfl,rfl⟩
 have lt:l < s.heap.objs.size:=Ak hx
 have hnew:(s.heap.push {cls:=.type "dict",data:=.dict #[]}).DictOf knd s.heap.objs.size []:=Heap.DictOf.new s.heap
 have hx':(s.heap.push {cls:=.type "dict",data:=.dict #[]}).get? l=some {cls:=.type "list",data:=.seq items c}:=Af _ hx
 refine⟨hnew.typeIs,F.args_dict_init_2 _ _,?_⟩
 unfold Hh.«dict.__init__»
 refine Aa ?_
 unfold Builtin.Dict.selfAndRest
 refine Aa (Jd hnew.typeIs ?_)
 show Ax _ _ (pure (s.heap.objs.size,[Value.ref l])) _ _ _
 refine Ag ?_
 show Ax _ _ (Jf "dict.__init__" s.heap.objs.size (.ref l) [] .none) _ _ _
 unfold Jf
 refine Aa (Kn (T:="list") ⟨_,hx',rfl⟩ ?_)
 rw[if_pos (by decide)]
 refine Aa (keys_miss hx' hh fun h1 tk1 hk1=>?_)
 rw[if_pos (by decide)]
 have hx1:=hk1 _ _ hx'
 have hd1:h1.DictOf knd s.heap.objs.size []:=by
  obtain⟨o,es,ep,ho,rest⟩:=hnew
  exact⟨o,es,ep,hk1 _ o ho,rest⟩
 refine Aa (Ej (Aa (Jh (items:=items) ⟨_,hx1,rfl,c,rfl⟩ ?_)))
 have gI:(h1.push {cls:=.type "list_iterator",data:=.fields #[.ref l,.int 0 0]}).IsListIter h1.objs.size l 0:=⟨_,Ap _ rfl,rfl,rfl⟩
 have up:∀ b o,s.heap.get? b=some o->(h1.push {cls:=.type "list_iterator",data:=.fields #[.ref l,.int 0 0]}).get? b=some o:=fun b o e=>Af _ (hk1 b o (Af _ e))
 have l1:s.heap.objs.size < h1.objs.size:=by
  obtain⟨o,es,ep,ho,rest⟩:=hd1
  exact Ak ho
 refine Ag ⟨Hx plain_loop _,?_⟩
 refine loop (A:=A.in1) (knd:=knd) (d:=s.heap.objs.size) (I:=h1.objs.size) (l:=l) (items:=items) (ps:=ps) hh (Bf l1) (Dy lt) (Bf (Hi lt l1)) hn hz items.size 0 _ [] rfl (Co _) (Ai _) gI ⟨_,Af _ hx1,rfl,c,rfl⟩ (by
  obtain⟨o,es,ep,ho,rest⟩:=hd1
  exact⟨o,es,ep,Af _ ho,rest⟩) (fun j p hj=>?_) fun h2 tk2 hk2 hd2=>?_
 ·obtain⟨a,key,g1,⟨o,g2,g3⟩,g4⟩:=hp j p hj
  have la:=Ak g2
  exact⟨a,key,g1,Bf la,Bf (Hi la l1),⟨o,up a o g2,g3⟩,g4⟩
 ·exact⟨rfl,h h2 tk2 (fun b o e=>hk2 b o (Bf (Ak e)) (Bf (Hi (Ak e) l1)) (up b o e)) hd2⟩
end
end Dp
end PySem
namespace L3
open PySem PySem.Spec PyProof.Rows L2
section
variable {X:Cx}
def tB(kvs:List (aD×W))(ps:List (aD×W)):List (aD×W):=ps.foldl (fun kvs p=>bZ kvs p.1 p.2) kvs
def tD(ps:List (aD×W)):List W:=ps.map fun p=>.tup [wK p.1,p.2]
theorem D9{pins:List (Addr×Obj)}{σ:L2.St}{H:Hp}{M:Mm}{s:Ah}(I:L2.Inv X pins σ H s):∀ {ps:List (aD×W)} {vs:List V} {its:List Ac},aL X.K H M vs (tD ps)->aR vs its->
  ∃ (ks:List (aD×V)) (rs:List (aD×Ac)),bN X.K H M aD ks ps/\KV ks rs/\rs.length=its.length/\
   ∀ (j:Nat) (p:aD×Ac),rs[j]? = some p->∃ (a:Addr) (key:Ac),its[j]? = some (.ref a)/\s.heap.IsTuple a #[key,p.2]/\(dB X.prog X.w).is p.1 key=true
 | [],_,_,.nil,.nil=>⟨[],[],.nil,.nil,rfl,fun j p h=>by simp at h⟩
 | (k,w) :: ps,_,_,.cons x c,.cons d b=>by
  obtain⟨ks,rs,m,t,u,y⟩:=D9 I c b
  obtain⟨a,xs,l,e,q⟩:=x.inv
  rw[l] at d
  obtain⟨z,v,ex,a1,a2⟩:=q.two
  obtain⟨g,i,pl,_⟩:=I.tuple (bM.of e)
  rw[ex,a1.key] at i
  obtain⟨r,n,o,x1,x2⟩:=vals2 i
  rw[o] at pl
  refine⟨(k,v) :: ks,(k,n) :: rs,.cons ⟨rfl,a2⟩ m,.cons ⟨rfl,x2⟩ t,congrArg (· + 1) u,fun j p f=>?_⟩
  cases j with
  | zero=>rw[<-Dz f];exact⟨a,r,congrArg some d,pl,lL x1⟩
  | succ j=>exact y j p f
theorem EA{H:Hp}{M:Mm}:∀ {ps:List (aD×W)} {ks:List (aD×V)} {rs:List (aD×Ac)} {kvs:List (aD×W)} {d:List (aD×V)} {us:List (aD×Ac)},bN X.K H M aD ks ps->KV ks rs->bN X.K H M aD d kvs->KV d us->
  ∃ c:List (aD×V),bN X.K H M aD c (tB kvs ps)/\KV c (Dp.all us rs)/\c.length<=d.length + ps.length
 | [],_,_,_,d,_,.nil,.nil,e,f=>⟨d,e,f,Ai _⟩
 | p :: ps,_,_,_,d,_,.cons (a:=a) x r,.cons (b:=b) y t,e,f=>by
  obtain⟨k,w⟩:=p
  obtain⟨n,v⟩:=a
  obtain⟨m,u⟩:=b
  obtain⟨x1,x2⟩:=x
  obtain⟨j,h⟩:=y
  cases x1;cases j
  obtain⟨c,i,g,l⟩:=EA (kvs:=bZ _ k w) r t (sL e k x2) (f.put k h)
  have:=pJ d k v
  exact⟨c,i,g,by simp at l ⊢;lia⟩
def xF:List W->Mm->K3->Prop
 | [.rl ws],M,R=>∃ ps:List (aD×W),ws=tD ps/\ws.length<=Aj/\R (.dk (tB [] ps)) M
 | _,_,_=>False
theorem ZY(hc:X.calm=true):cU X (.type "dict") (gC X.K xF):=by
 rintro pins s σ H xs us Q I rs ⟨ws,M,R,l,i,h,k⟩
 match ws,h with
 | [.rl ws],h=>
  obtain⟨v,rfl,B⟩:=i.one
  obtain⟨ps,rfl,hz,r⟩:=h
  obtain⟨u,rfl,G⟩:=vals1 rs
  cases B with
  | rl f n q=>
   cases G
   obtain⟨z,its,c,y,hl,e⟩:=I.lstM f
   obtain⟨ks,d,x,J,L,E⟩:=D9 I q y
   obtain⟨g,m,t,A⟩:=EA x J .nil .nil
   refine Dp.call_pairs (knd:=dB X.prog X.w) (items:=its.toArray) (ps:=d) (I.ok.hd hc) e (by simpa using L) (by rw[Bc];lia) (fun j p F=>by simpa using E j p F) fun h' tk hk hd=>?_
   have D:ps.length<=Aj:=by simpa [tD] using hz
   have a:=I.hok.fresh (Ai _)
   refine⟨.ref s.heap.objs.size,aN H s.heap.objs.size (.dK g),I.laid (o:=.dK g) (t':=tk) hk (Ai _) ⟨by simp at A;lia,beq_eq_false_iff_ne.mpr (Bq (Bf I.big)),_,t,hd⟩,rfl,?_⟩
   obtain⟨b,C⟩:=l.tup (u:=.dK g) a
   exact k _ _ _ _ C b (.dk dY (l.nonM a) m.keys (m.vals.newT a)) r
end
section
variable {X:Cx}
end
def bR(f:Str)(w:W):List (Str×W)->List (Str×W)
 | []=>[(f,w)]
 | (k,x) :: r=>if k=f then(k,w) :: r else(k,x) :: bR f w r
section
variable {K:Ae}{H:Hp}{M:Mm}
theorem bN.look{f:Str}{w:W}:∀ {d:List (Str×V)} {fs:List (Str×W)},bN K H M Str d fs->fs.lookup f=some w->∃ v,d.lookup f=some v/\AV K H M v w
 | _,_,.nil,h=>by cases h
 | _,_,.cons (a:=(k,v)) (b:=(i,g)) r t,h=>by
  obtain⟨rfl,e⟩:=r
  by_cases hk:(f == k)=true
  ·simp only[Ci,hk] at h ⊢
   cases h
   exact⟨v,rfl,e⟩
  ·have c:(f == k)=false:=by simpa using hk
   simp only[Ci,c] at h ⊢
   exact bN.look t h
theorem bN.lookN{f:Str}:∀ {d:List (Str×V)} {fs:List (Str×W)},bN K H M Str d fs->fs.lookup f=none->d.lookup f=none
 | _,_,.nil,_=>rfl
 | _,_,.cons (a:=(k,v)) (b:=(g,e)) r t,h=>by
  obtain⟨rfl,i⟩:=r
  by_cases hk:(f == k)=true
  ·simp only[Ci,hk] at h
   cases h
  ·have c:(f == k)=false:=by simpa using hk
   simp only[Ci,c] at h ⊢
   exact bN.lookN t h
theorem bN.putF{f:Str}{v:V}{w:W}(d:AV K H M v w):∀ {e:List (Str×V)} {fs:List (Str×W)},bN K H M Str e fs->bN K H M Str (L2.putF f v e) (bR f w fs)
 | _,_,.nil=>.cons ⟨rfl,d⟩ .nil
 | _,_,.cons (a:=(k,g)) (b:=(i,h)) r t=>by
  obtain⟨rfl,c⟩:=r
  show bN K H M Str (if k=f then(k,v) :: _ else(k,g) :: L2.putF f v _) (if k=f then(k,w) :: _ else(k,h) :: bR f w _)
  by_cases hk:k=f
  ·rw[if_pos hk,if_pos hk];exact .cons ⟨rfl,d⟩ t
  ·rw[if_neg hk,if_neg hk];exact .cons ⟨rfl,c⟩ (bN.putF d t)
theorem bN.len{κ:Type}{a:List (κ×V)}{fs:List (κ×W)}(h:bN K H M κ a fs):a.length=fs.length:=by
 have:=congrArg Bb h.keys
 simpa using this
end
section
variable {X:Cx}{C:Addr}{f m:Str}{pos apos cpos:Pos}{ta tv:aS}{o e value:Expr}{es:List Expr}{t:dS}{sp:bX}
def bT(C:Addr)(ta:aS)(f:Str):aS:=fun b M R=>ta b M fun x M1=>∃ a c fs w,x=.ref a/\M1 a=some (.ins C c fs)/\fs.lookup f=some w/\R w M1
theorem dP(c:gA X.K C)(n:fS X.K C f)(j:E3 X o ta)(hb:Ja o f X.env (eval o X.env)=eval o X.env:=by rfl):E3 X (.Attribute o f pos) (bT C ta f):=
 (O6 j hb).weak fun σ H Q z0=>z0.el fun A M R d t h k=>⟨A,M,_,d,t,h,fun x D B M1 z b u ⟨a,s,fs,w,e,l,p,r⟩=>by
  subst e
  obtain rfl:=u.inv
  obtain⟨g,m,q⟩:=b a _ l
  obtain⟨v,i,y⟩:=q.look p
  exact⟨a,C,s,g,v,rfl,m,c,n,i,k _ _ _ _ z b y r⟩⟩
def gQ(C:Addr)(ta:aS)(f:Str)(tv:aS):aK:=fun D b M=>tv b M fun y M1=>ta b M1 fun x c=>∃ a d fs,x=.ref a/\c a=some (.ins C d fs)/\fs.length < 1000/\D.nx b (put c a (.ins C d (bR f y fs)))
theorem kB(c:gA X.K C)(n:fS X.K C f)(ha:E3 X o ta)(F:E3 X value tv)(hs:Ki value (some (.Attribute o f apos)) pos.line X.env=pure false:=by rfl):P3 X (.Assign [.Attribute o f apos] value pos) (gQ C ta f tv):=
 (O7 ha F hs).weak fun D σ H z0=>z0.el fun v M J e m h k=>⟨v,M,_,e,m,h,fun y I G M1 p d B w=>⟨v,M1,_,e.kp m p,d,w,fun x N L O i b A ⟨a,l,fs,z,j,hl,r⟩=>by
  subst z
  obtain rfl:=A.inv
  obtain⟨t,E,q⟩:=b a _ j
  refine⟨a,C,l,t,rfl,E,c,n,by rw[q.len];exact hl,?_⟩
  obtain⟨g,s⟩:=b.write (o:=.ins C l (bR f G fs)) (u:=.ins C l (L2.putF f y t)) j ⟨_,dY,((q.putF (B.kp d i))).go (nR b j)⟩
  exact k.nx _ _ _ _ ((p.trans i).trans s) g (((e.kp m p).kp d i).kp b s) r⟩⟩
variable {k:Nat}{g:Addr}{fd:Bw}{ps:List Str}
def eW(C:Addr)(m:Str)(sp:bX)(ta:aS)(t:dS):aS:=fun b M R=>ta b M fun x M1=>∃ a d fs,x=.ref a/\M1 a=some (.ins C d fs)/\fs.lookup m=none/\t b M1 fun ws c=>sp (.ref a :: ws) c R
theorem ZZ{σ:SV}{H:Hp}{Q:VK}(h:up X.K (eW C m sp ta t) σ H Q):vH C m (gO X.K sp) [] E0 (up X.K ta) (nS X.K t) σ H Q:=by
 obtain⟨i,M,R,e,f,h,k⟩:=h
 refine⟨i,M,_,e,f,h,fun x z A M1 g b s ⟨a,r,fs,l,p,y,j⟩=>?_⟩
 subst l
 obtain rfl:=s.inv
 obtain⟨o,u,q⟩:=b a _ p
 refine⟨a,r,o,rfl,u,q.lookN y,i,M1,_,e.kp f g,b,j,fun vs B ws w n c d v=>⟨.ref a :: ws,w,R,c,?_,v,k.kp (g.trans n)⟩⟩
 rw[Gf]
 exact .cons (.ref a) d
theorem mD{pl:Sem Bool}(c:gA X.K C)(j:nM X.K C m g)(F:e6 X.prog X.w X.K X.mg X.base gB k g fd ps (gO X.K sp))(l:cJ k X.A)(hb:Binds X.K fd ps [])(i:E3 X o ta)(ha:A3 X (e :: es) t)
  (a:Bj (e :: es) X.env=(false,eval e X.env) :: Bj es X.env:=by rfl) (b:(Hl pos (Bj es X.env)).any (·.1)=false:=by rfl)
  (ht:eval (.Call (.Attribute o m apos) (e :: es) [] pos) X.env=(do
   let d <-eval o X.env
   Oj apos.atName
   let (f,first) <-Ip [d] (Om d m pl)
   callWith pos f first (Hl pos (Bj (e :: es) X.env)) (Oh pos (Li [] X.env))):=by rfl) :
  E3 X (.Call (.Attribute o m apos) (e :: es) [] pos) (eW C m sp ta t):=(PM (pl:=pl) i c j F l hb .nil pK ha a b ht).weak fun _ _ _ h=>ZZ h
theorem xG{pl:Sem Bool}(c:gA X.K C)(j:nM X.K C m g)(F:e6 X.prog X.w X.K X.mg X.base gB k g fd ps (gO X.K sp))(B:cJ k X.A)(hb:Binds X.K fd ps [])(i:E3 X o ta)
  (ht:eval (.Call (.Attribute o m apos) [] [] pos) X.env=(do
   let d <-eval o X.env
   Oj apos.atName
   let (f,first) <-Ip [d] (Om d m pl)
   callWith pos f first (Hl pos (Bj [] X.env)) (Oh pos (Li [] X.env))):=by rfl) :
  E3 X (.Call (.Attribute o m apos) [] [] pos) (eW C m sp ta aE):=(PN (pl:=pl) i c j F B hb .nil pK ht).weak fun σ H Q h=>by
 obtain⟨y,M,R,l,t,h,k⟩:=h
 refine⟨y,M,_,l,t,h,fun x E G M1 v b u ⟨a,s,fs,n,r,D,e⟩=>?_⟩
 subst n
 obtain rfl:=u.inv
 obtain⟨p,z,q⟩:=b a _ r
 exact⟨a,s,p,rfl,z,q.lookN D,[.ref a],M1,R,b,.cons (.ref a) .nil,e,k.kp v⟩
def oI(C:Addr)(sp:bX)(t:dS):aS:=fun c M R=>t c M fun ws M1=>∀ a b,M1 a=none->M1 b=none->b≠a->sp (.ref a :: ws) (put M1 a (.ins C b [])) fun w d=>w=.non/\R (.ref a) d
theorem AM.made{K:Ae}{H:Hp}{M:Mm}{x a:Addr}(g:AM K H M)(e:H x=none)(hd:H a=none)(ne:a≠x):AM K (aN (aN H a (.own x)) x (.ins C a [])) (put M x (.ins C a []))/\Kp H M (aN (aN H a (.own x)) x (.ins C a [])) (put M x (.ins C a [])):=by
 obtain⟨d,h⟩:=g.tup (u:=.own x) hd
 have b:aN H a (.own x) x=none:=by rw[bL (Bq ne)];exact e
 obtain⟨c,f⟩:=d.laid (o:=.ins C a []) (u:=.ins C a []) b ⟨[],dY,.nil⟩
 exact⟨c,h.trans f⟩
theorem EB{H:Hp}{M:Mm}{R:K3}{Q:VK}{vs:List V}{ws:List W}(c:AM X.K H M)(f:aL X.K H M vs ws)(h:∀ a b,M a=none->M b=none->b≠a->sp (.ref a :: ws) (put M a (.ins C b [])) fun w j=>w=.non/\R (.ref a) j)(k:Up X.K H M R Q) :
  ∀ x b,H x=none->H b=none->b≠x->gO X.K sp (.ref x :: (vs ++ [])) (aN (aN H b (.own x)) x (.ins C b [])) (fun v g=>v=.non/\Q (.ref x) g) E0:=by
 intro x b i hd ne
 obtain⟨e,l⟩:=c.made (C:=C) i hd ne
 refine⟨.ref x :: ws,_,_,e,?_,h x b (c.nonM i) (c.nonM hd) ne,fun v g w j m d n r=>?_⟩
 ·rw[Gf];exact .cons (.ref x) (f.kp c l)
 ·obtain⟨rfl,r⟩:=r
  obtain rfl:=n.inv
  exact⟨rfl,k _ _ _ _ (l.trans m) d (.ref x) r⟩
theorem Z0{x:Str}{p:Pos}(M:Mk X.K C g)(F:e6 X.prog X.w X.K X.mg X.base gB k g fd ps (gO X.K sp))(n:cJ (k + 1) X.A)(j:Gl X x)(m:X.mg x=some (.ref C))(hb:Binds X.K fd ps [])(ha:A3 X (e :: es) t)
  (a:(x == ("__debug__" : Str))=false:=by decide) (l:Bj (e :: es) X.env=(false,eval e X.env) :: Bj es X.env:=by rfl) (d:(Hl pos (Bj es X.env)).any (·.1)=false:=by rfl) :
  E3 X (.Call (.Name x p) (e :: es) [] pos) (oI C sp t):=(PQ M F n j m hb .nil pK ha a l d).weak fun σ H Q z0=>z0.el fun o M R f q h k=>⟨o,M,_,f,q,h,fun vs s ws M1 r c b i=>EB c b i (k.kp r)⟩
theorem Z1{x:Str}{p:Pos}(M:Mk X.K C g)(F:e6 X.prog X.w X.K X.mg X.base gB k g fd ps (gO X.K sp))(d:cJ (k + 1) X.A)(b:Gl X x)(c:X.mg x=some (.ref C))(hb:Binds X.K fd ps [])
  (a:(x == ("__debug__" : Str))=false:=by decide):E3 X (.Call (.Name x p) [] [] pos) (oI C sp aE):=(PR M F d b c hb .nil pK a).weak fun σ H Q z0=>z0.el fun i M R f e h k=>EB e .nil h k
end
end L3
namespace L2
open PySem PySem.Spec PyProof.Rows
section
variable {prog:Bl}{w:Cb}{K:Type}[DecidableEq K]{knd:HeapKind prog w K}{A:Bv}{E:Ac->Ah->Prop}{s:Ah}{d a:Addr}{k:K}{xs:List (K×Addr×Ac)}
theorem Z2{y:Ac}{Q:Ac->Ah->Prop}(t:knd.room A)(b:knd.is s.heap k a)(z:s.heap.DictOfH knd d xs)(hsz:xs.length<=Aj)
  (u:∀ p,Ni xs k=some p->Q p.2 {s with toks:=s.toks + knd.draws k})
  (v:Ni xs k=none->∀ h',h'.DictOfH knd d (Nq xs k a y)->Dx d s.heap h'->Q y {s with heap:=h',toks:=s.toks + knd.draws k}) :
  Ax (Bk prog w) A (dictSetDefault d (.ref a) y) Q E s:=by
 obtain⟨o,es,ep,c,hc,hd,l,h,m⟩:=z
 unfold dictSetDefault
 refine Ct (Aa (knd.pyHash t b (Aa (wpAny_dictFind_heap (s:={s with toks:=s.toks + knd.draws k}) t b c hd l h m (fun g=>?_) fun j p r=>?_))))
 ·have hk:=atKey_none_of_get g
  have f:k∉xs.map (·.1):=not_mem_keys_of_get g
  refine Aa (Ej (Aa (wpAny_updateDictKeys (hz:=by have e:=Nx l;lia) (s:={s with toks:=s.toks + knd.draws k}) c hd (Ag (v hk _ ⟨_,_,ep + 1,Fd _ c (Obj.isFreed_of_dict (Ky hd _)),
   hc.mapDictKeys _,Ky hd _,?_,fun x i=>?_,?_⟩ (Ca ..))))))
  ·rw[storedH_new hk]
   simp[l,entryOfKey]
  ·rw[storedH_new hk] at i
   rcases Bo.mp i with q | q
   ·exact knd.keeps (h x q) c hd (Ca ..)
   ·obtain rfl:=Ba.mp q
    exact knd.keeps b c hd (Ca ..)
  ·rw[storedH_new hk,Bs,Gd]
   refine⟨m,by simp,fun x i y n=>?_⟩
   simp only[Ar,Kg,Ba] at n
   subst n
   exact fun e=>f (e ▸ i)
 ·refine Aa (Ji (s:={s with toks:=s.toks + knd.draws k}) c hd ?_)
  rw[entry_at l j,r]
  exact Aa (Ej (Ag (u p (atKey_of_get m r))))
theorem EC:∀ {xs:List (K×Addr×Ac)} {j:Nat} {p:Addr×Ac},(xs.map (·.1)).Nodup->xs[j]? = some (k,p)->xs.eraseIdx j=xs.filter fun x=>decide (x.1≠k)
 | [],j,p,_,h=>by simp at h
 | x :: r,0,p,a,h=>by
  have e:x=(k,p):=by simpa using h
  subst e
  rw[Ar,Dr] at a
  rw[List.eraseIdx_zero,List.tail_cons,List.filter_cons_of_neg (by simp)]
  refine(List.filter_eq_self.mpr fun y c=>?_).symm
  rw[decide_eq_true_eq]
  exact fun e=>a.1 (Aw.mpr ⟨y,c,e⟩)
 | x :: r,j + 1,p,a,h=>by
  rw[Ar,Dr] at a
  have b:r[j]? = some (k,p):=by simpa using h
  have d:x.1≠k:=fun e=>a.1 (Aw.mpr ⟨(k,p),Be b,e.symm⟩)
  rw[List.eraseIdx_cons_succ,EC a.2 b,List.filter_cons_of_pos (by simpa using d)]
theorem Z3{v:Ac}{b:Addr}{Q:Option Ie->Ah->Prop}(u:knd.room A)(c:knd.is s.heap k a)(z:s.heap.DictOfH knd d xs)(hsz:xs.length<=Aj)(i:Ni xs k=some (b,v))
  (h:∀ h',h'.DictOfH knd d (xs.filter fun x=>decide (x.1≠k))->Dx d s.heap h'->Q (some ⟨knd.hash k,.ref b,v⟩) {s with heap:=h',toks:=s.toks + knd.draws k}) :
  Ax (Bk prog w) A (Builtin.Dict.takeOut d (.ref a)) Q E s:=by
 obtain⟨o,es,ep,g,hc,hd,m,f,n⟩:=z
 unfold Builtin.Dict.takeOut
 refine Ct (Aa (knd.pyHash u c (Aa (wpAny_dictFind_heap (s:={s with toks:=s.toks + knd.draws k}) u c g hd m f n (fun r=>?_) fun j p q=>?_))))
 ·rw[atKey_none_of_get r] at i;cases i
 ·rw[atKey_of_get n q] at i
  cases i
  have t:=EC n q
  refine Aa (Ji (s:={s with toks:=s.toks + knd.draws k}) g hd ?_)
  rw[entry_at m j,q]
  refine Aa (wpAny_updateDictKeys (hz:=by have e:=Nx m;lia) (s:={s with toks:=s.toks + knd.draws k}) g hd (Ag (h _ ⟨_,_,ep + 1,Fd _ g (Obj.isFreed_of_dict (Ky hd _)),
   hc.mapDictKeys _,Ky hd _,?_,fun x y=>knd.keeps (f x (Fp.mp y).1) g hd (Ca ..),?_⟩ (Ca ..))))
  ·rw[<-t]
   have B:(xs.eraseIdx j).map (entryOfKey knd)=(xs.map (entryOfKey knd)).eraseIdx j:=by simp[List.eraseIdx_eq_take_drop_succ,Ma,Od]
   rw[B,<-m]
   obtain⟨l⟩:=es
   simp
  ·exact n.sublist (List.filter_sublist.map _)
end
section
variable {X:Cx}{pins:List (Addr×Obj)}{σ:St}{H:Hp}{s:Ah}{a b:Addr}{v:V}{r:Ac}{A:Bv}{E:Ac->Ah->Prop}{kvs:List (List aD×V)}{k:List aD}
theorem KT.drop{xs:List (List aD×Addr×Ac)}(a:KT H kvs xs)(k:List aD):KT H (mM kvs k) (xs.filter fun x=>decide (x.1≠k)):=by
 induction a with
 | nil=>exact .nil
 | @cons p q ps c h t b=>
  unfold mM at b ⊢
  rw[Ff,Ff,<-h.1]
  split
  ·exact .cons h b
  ·exact b
theorem Z4{Q:Ac->Ah->Prop}(P:A.units + 1 < Gh)(I:Inv X pins σ H s)(e:H a=some (.dT kvs))(eb:H b=some (.tup (k.map kV)))(K:RelV v r)(hl:kvs.length < Aj)
  (J:∀ i x h,fT kvs k=some i->Inv X pins σ H h->RelV i x->Q x h) (U:fT kvs k=none->∀ h,Inv X pins σ (aN H a (.dT (eJ kvs k v))) h->Q r h) :
  Ax (Bk X.prog X.w) A (call (.builtin "dict.setdefault") [.ref a,.ref b,r]) Q E s:=by
 obtain⟨z,hd,xs,g,B⟩:=vO I.hok e
 have hz:xs.length<=Aj:=by rw[<-Eo g];exact z
 have f:=g.val k
 refine Lw PySem.F.slot_dict_setdefault B.typeIs PySem.F.entry_dict_setdefault (PySem.F.args_dict_setdefault_3 _ _ _)
  (S:=fun A R d=>(Gn (dB X.prog X.w)).room A.in1/\(Gn (dB X.prog X.w)).is d.heap k b/\d.heap.DictOfH (Gn (dB X.prog X.w)) a xs/\
   (∀ p,Ni xs k=some p->R (.ok (.ret p.2)) {d with toks:=d.toks + (k.length + 1)})/\
   (Ni xs k=none->∀ h',h'.DictOfH (Gn (dB X.prog X.w)) a (Nq xs k b r)->Dx a d.heap h'->R (.ok (.ret r)) {d with heap:=h',toks:=d.toks + (k.length + 1)}))
  (.of_wp fun A R d ⟨V,j,C,T,O⟩=>?_) ⟨Fi P,jR I.hok eb,B,fun p o=>?_,fun n h' m hs=>?_⟩
 ·unfold Hh.«dict.setdefault»
  refine Aa ?_
  unfold Builtin.Dict.keyAndDefault
  refine Aa (Jd C.typeIs ?_)
  refine Ag ?_
  dsimp only
  rw[if_neg (by rw[hd];exact Am)]
  exact Aa (Z2 V j C hz (fun p o=>Ag ⟨_,rfl,T p o⟩) fun n h' t u=>Ag ⟨_,rfl,O n h' t u⟩)
 ·rw[o] at f
  cases q:fT kvs k with
  | none=>rw[q] at f;exact(show False from f).elim
  | some i=>rw[q] at f;exact J i _ _ q (I.tok _) f
 ·rw[n] at f
  have q:fT kvs k=none:=by
   cases q:fT kvs k with
   | none=>rfl
   | some i=>rw[q] at f;exact(show False from f).elim
  have l:(eJ kvs k v).length<=Aj:=by have:=pJ kvs k v;lia
  obtain⟨j,es,ep,D,G,M,N,_,L⟩:=m
  refine U q _ (rP (t':=s.toks + (k.length + 1)) I (by rw[e];exact True.intro) hs ⟨j,D⟩ ⟨l,hd,_,(g.put k eb K).keeps fun c ys y=>?_,j,es,ep,D,G,M,N,L⟩)
  rw[bL (u7 y e (fun z=>nomatch z))]
  exact y
theorem Z5{Q:Ac->Ah->Prop}(hu:A.units + 1 < Gh)(I:Inv X pins σ H s)(e:H a=some (.dT kvs))(eb:H b=some (.tup (k.map kV)))(l:fT kvs k=some v)
  (h:∀ w' s',Inv X pins σ (aN H a (.dT (mM kvs k))) s'->RelV v w'->Q w' s'):Ax (Bk X.prog X.w) A (call (.builtin "dict.pop") [.ref a,.ref b]) Q E s:=by
 obtain⟨z,hd,xs,rel,dd⟩:=vO I.hok e
 have hz:xs.length<=Aj:=by rw[<-Eo rel];exact z
 obtain⟨w',hw,rw'⟩:=fM.some_of (v:=v) (o:=(Ni xs k).map (·.2)) (by rw[<-l];exact rel.val k)
 obtain⟨⟨c,w2⟩,hc,rfl⟩:=Bn.mp hw
 refine Lw PySem.F.slot_dict_pop dd.typeIs PySem.F.entry_dict_pop (PySem.F.args_dict_pop_2 _ _)
  (S:=fun A R s1=>(Gn (dB X.prog X.w)).room A.in1/\(Gn (dB X.prog X.w)).is s1.heap k b/\s1.heap.DictOfH (Gn (dB X.prog X.w)) a xs/\
   ∀ h',h'.DictOfH (Gn (dB X.prog X.w)) a (xs.filter fun x=>decide (x.1≠k))->Dx a s1.heap h'->R (.ok (.ret w2)) {s1 with heap:=h',toks:=s1.toks + (k.length + 1)})
  (.of_wp fun A R s1 ⟨q0,q1,q2,q3⟩=>?_) ⟨Fi hu,jR I.hok eb,dd,fun h' dd' hs=>?_⟩
 ·unfold Hh.«dict.pop»
  refine Aa ?_
  unfold Builtin.Dict.keyAndDefault
  refine Aa (Jd q2.typeIs ?_)
  refine Ag ?_
  dsimp only
  rw[if_neg (show ¬ ((keyPart (Value.ref b)).isSome=true) from Am)]
  obtain⟨o,es,ep,ho,hc',hd',he,his,hn⟩:=id q2
  have hne:es.isEmpty=false:=by
   have h1:=Nx he
   cases xs with
   | nil=>cases hc
   | cons x r=>rw[Array.isEmpty_eq_false_iff];intro z;rw[z] at h1;simp at h1
  refine Aa (Ji ho hd' ?_)
  refine Aa (Ag ?_)
  rw[hne,if_neg Am]
  refine Aa (Z3 q0 q1 q2 hz hc fun h' hm' hs'=>?_)
  rw[if_neg (by simp)]
  exact Aa (wpAny_letGo (Ag ⟨_,rfl,q3 h' hm' hs'⟩))
 ·obtain⟨q1,es,ep,hq,g2,g3,g4,_,g5⟩:=dd'
  refine h w2 _ (rP (t':=s.toks + (k.length + 1)) I (by rw[e];exact True.intro) hs ⟨q1,hq⟩ ⟨Bp (RB kvs k) z,hd,_,(rel.drop k).keeps fun c ys ec=>?_,q1,es,ep,hq,g2,g3,g4,g5⟩) rw'
  rw[bL (u7 ec e (fun z=>nomatch z))]
  exact ec
end
end L2
namespace L3
open PySem PySem.Spec PyProof.Rows L2
section
variable {X:Cx}
def tE:W->List W->Mm->K3->Prop
 | d,[y],M,R=>∃ o,d6 M d y o/\R (o.getD .non) M
 | d,[y,v],M,R=>∃ o,d6 M d y o/\R (o.getD v) M
 | _,_,_,_=>False
theorem xH(l:X.A.units + 1 < Gh):iS X "dict.get" (kQ X.K tE):=by
 rintro pins s σ H x xs v us Q I B rs ⟨F,ws,M,R,e,C,j,h,k⟩
 match ws,h with
 | [y],h=>
  obtain⟨z,rfl,w⟩:=j.one
  obtain⟨o,g,r⟩:=h
  obtain⟨a,rfl,m⟩:=sM e C w g
  cases B
  obtain⟨u,rfl,i⟩:=rs.one
  rcases m with⟨rfl,c⟩ | ⟨D,E,rfl,c,q⟩
  ·exact B8 l I c i fun p t d b=>⟨_,H,d,b,k.at e .non r⟩
  ·exact B8 l I c i fun p t d b=>⟨_,H,d,b,k.at e q r⟩
 | [y,G],h=>
  obtain⟨z,z1,rfl,w,n⟩:=j.two
  obtain⟨o,g,r⟩:=h
  obtain⟨a,rfl,m⟩:=sM e C w g
  cases B
  obtain⟨u,J,rfl,i,f⟩:=vals2 rs
  rcases m with⟨rfl,c⟩ | ⟨D,E,rfl,c,q⟩
  ·exact B9 l I c i f fun p t d b=>⟨_,H,d,b,k.at e n r⟩
  ·exact B9 l I c i f fun p t d b=>⟨_,H,d,b,k.at e q r⟩
def qB:W->List W->Mm->K3->Prop
 | .ref a,[.tup ks,v],M,R=>∃ kvs k,M a=some (.dT kvs)/\ks=k.map wK/\kvs.length < Aj/\(∀ w,bD kvs k=some w->R w M)/\(bD kvs k=none->R v (put M a (.dT (bZ kvs k v))))
 | _,_,_,_=>False
theorem ED(N:X.A.units + 1 < Gh):iS X "dict.setdefault" (kQ X.K qB):=by
 rintro pins s σ H x xs v us Q I y rs ⟨B,ws,M,R,f,J,n,h,k⟩
 match B,ws,h with
 | .ref a,[.tup ks,L],h=>
  obtain⟨z,z1,rfl,F,d⟩:=n.two
  obtain⟨kvs,i,e,rfl,hl,w,T⟩:=h
  obtain rfl:=J.inv
  cases y
  obtain⟨u,W,rfl,O,g⟩:=vals2 rs
  obtain⟨G,E,q⟩:=f _ _ e
  cases F with
  | @tup b vs _ eb P=>
   cases (show u=Value.ref b from O)
   rw[P.keys] at eb
   have t:=sJ q i
   refine Z4 N I E eb g (by rw[q.len];exact hl) (fun V U C c m l=>?_) fun c C m=>?_
   ·rcases t with⟨_,l2⟩ | ⟨S,r,l1,l2,p⟩
    ·rw[l2] at c;cases c
    ·rw[l2] at c;cases c
     exact⟨_,H,m,l,k.at f p (w r l1)⟩
   ·rcases t with⟨l1,l2⟩ | ⟨S,r,l1,l2,p⟩
    ·obtain⟨j,D⟩:=f.write (o:=.dT (bZ kvs i L)) (u:=.dT (eJ G i z1)) e ⟨_,dY,(sL q i d).go (nR f e)⟩
     exact⟨_,_,m,g,k _ _ _ _ D j (d.wr f e) (T l1)⟩
    ·rw[l2] at c;cases c
def iX{κ:Type}[DecidableEq κ](kvs:List (κ×W))(k:κ):List (κ×W):=kvs.filter fun a=>decide (a.1≠k)
theorem Z6{κ:Type}[DecidableEq κ]{K:Ae}{H:Hp}{M:Mm}{b:List (κ×V)}{kvs:List (κ×W)}(h:bN K H M κ b kvs)(k:κ):bN K H M κ (mM b k) (iX kvs k):=by
 induction h with
 | nil=>exact .nil
 | @cons p q ps c r t a=>
  unfold mM iX at a ⊢
  rw[Ff,Ff,<-r.1]
  split
  ·exact .cons r a
  ·exact a
def EE:W->List W->Mm->K3->Prop
 | .ref a,[.tup ks],M,R=>∃ kvs k w,M a=some (.dT kvs)/\ks=k.map wK/\bD kvs k=some w/\R w (put M a (.dT (iX kvs k)))
 | _,_,_,_=>False
theorem Z7(D:X.A.units + 1 < Gh):iS X "dict.pop" (kQ X.K EE):=by
 rintro pins s σ H x xs v us Q I j rs ⟨n,ws,M,R,d,C,i,h,k⟩
 match n,ws,h with
 | .ref a,[.tup ks],h=>
  obtain⟨z,rfl,y⟩:=i.one
  obtain⟨kvs,c,w,e,rfl,l,r⟩:=h
  obtain rfl:=C.inv
  cases j
  obtain⟨u,rfl,E⟩:=rs.one
  obtain⟨B,t,q⟩:=d _ _ e
  cases y with
  | @tup b vs _ eb F=>
   cases (show u=Value.ref b from E)
   rw[F.keys] at eb
   rcases sJ q c with⟨l1,l2⟩ | ⟨O,N,l1,l2,m⟩
   ·rw[l1] at l;cases l
   ·rw[l1] at l;cases l
    obtain⟨f,p⟩:=d.write (o:=.dT (iX kvs c)) (u:=.dT (mM B c)) e ⟨_,dY,(Z6 q c).go (nR d e)⟩
    exact Z5 D I t eb l2 fun J L G g=>⟨_,_,G,g,k _ _ _ _ p f (m.wr d e) r⟩
end
end L3
namespace L2
open PySem PySem.Spec PyProof.Rows
section
variable {X:Cx}{pins:List (Addr×Obj)}{σ:St}{H:Hp}{s:Ah}{a b:Addr}{v:V}{r:Ac}{A:Bv}{E:Ac->Ah->Prop}{es:List (v7×Addr×V)}{tl:List Int}{x:v7}
end
end L2
namespace L3
open PySem PySem.Spec PyProof.Rows L2
section
variable {K:Ae}{H:Hp}{M:Mm}
theorem Z8(k:aD):AV K H M (kV k) (wK k):=by cases k <;> first | exact .int _ | exact .str _
theorem EF:∀ ks:List aD,aL K H M (ks.map kV) (ks.map wK)
 | []=>.nil
 | k :: r=>.cons (Z8 k) (EF r)
end
section
variable {X:Cx}
end
end L3
namespace L2
open PySem PySem.Spec PyProof.Rows
section
variable {X:Cx}{pins:List (Addr×Obj)}{σ:St}{H:Hp}{s:Ah}{a d:Addr}{es:List (v7×Addr×V)}{tl:List Int}{A:Bv}{E:Ac->Ah->Prop}
end
end L2
namespace L3
open PySem PySem.Spec PyProof.Rows L2
section
variable {X:Cx}
end
end L3
namespace PySem
namespace Tr
open AutoSeq1 (wpAny_loadPart')
section
variable {prog:Bl}{w:Cb}{A:Bv}{E:Ac->Ah->Prop}{s:Ah}
end
end Tr
end PySem
namespace L2
open PySem PySem.Spec PyProof.Rows
section
variable {X:Cx}{a:Expr}{ta:TA}{p p2 pos pos2:Pos}
end
end L2
namespace L3
open PySem PySem.Spec PyProof.Rows L2
section
variable {X:Cx}{a:Expr}{ta:aS}
end
end L3
namespace PySem
namespace Zd
open PyProof.Rows L2 PySem.Spec Zt
section
variable {prog:Bl}{w:Cb}{A:Bv}{E:Ac->Ah->Prop}{s:Ah}
variable {z TI TO i1 i2 l1 l2:Addr}{xs ys:Array Ac}{S1 S2:Nat->Heap->Prop}
abbrev TK(prog:Bl)(w:Cb):=Gn (dB prog w)
def allH(es:List (List aD×Addr×Ac))(ps:List (List aD×Addr×Ac)):List (List aD×Addr×Ac):=ps.foldl (fun es p=>Nq es p.1 p.2.1 p.2.2) es
theorem EG(es:List (List aD×Addr×Ac))(k:List aD)(a:Addr)(v:Ac):(Nq es k a v).length<=es.length + 1:=by
 unfold Nq
 split
 ·rw[Ab];omega
 ·rw[Av,Eb];exact Ai _
theorem qC{h h':Heap}{k:List aD}{a:Addr}(x:(TK prog w).is h k a)(e:∀ o,h.get? a=some o->h'.get? a=some o):(TK prog w).is h' k a:=by
 obtain⟨o,items,n,b,r⟩:=x
 exact⟨o,items,n,e o b,r⟩
end
end Zd
end PySem
namespace PySem
namespace Zd
open PyProof.Rows L2 PySem.Spec Zt
open Sem (wp)
section
variable {prog:Bl}{w:Cb}{A:Bv}{E:Ac->Ah->Prop}{s:Ah}
end
end Zd
end PySem
namespace L2
open PySem PySem.Spec PyProof.Rows
def nA(ks:List (List aD×V))(ps:List (List aD×V)):List (List aD×V):=ps.foldl (fun k p=>eJ k p.1 p.2) ks
theorem Z9{H:Hp}{a:List (List aD×Addr×V)}{ps:List (List aD×Addr×Ac)}(h:Iq (fun(q:List aD×Addr×V) (p:List aD×Addr×Ac)=>q.1=p.1/\q.2.1=p.2.1/\RelV q.2.2 p.2.2) a ps) :
  ∀ {kvs:List (List aD×V)} {es:List (List aD×Addr×Ac)},(∀ q∈a,H q.2.1=some (.tup (q.1.map kV)))->KT H kvs es->KT H (nA kvs (a.map fun q=>(q.1,q.2.2))) (Zd.allH es ps):=by
 induction h with
 | nil=>intro kvs es _ k;exact k
 | @cons q p a ps r t c=>
  intro kvs es b k
  obtain⟨e,g,i⟩:=q
  obtain⟨f,p2,j⟩:=p
  obtain⟨rfl,rfl,d⟩:=r
  exact c (fun z hz=>b z (Bd _ hz)) (k.put e (b _ Bi) d)
theorem EH:∀ (ps:List (List aD×V)) (ks:List (List aD×V)),(nA ks ps).length<=ks.length + ps.length
 | [],ks=>Ai _
 | p :: ps,ks=>by
  have a:=EH ps (eJ ks p.1 p.2)
  have b:=pJ ks p.1 p.2
  show(nA (eJ ks p.1 p.2) ps).length<=ks.length + (ps.length + 1)
  omega
section
variable {X:Cx}{a b:Expr}{ta:TA}{p p2 pos pos2:Pos}
end
end L2
namespace L3
open PySem PySem.Spec PyProof.Rows L2
def oJ(kvs:List (List aD×W))(ps:List (List aD×W)):List (List aD×W):=ps.foldl (fun kvs p=>bZ kvs p.1 p.2) kvs
section
variable {X:Cx}{a b:Expr}{ta:dS}
end
structure Dm(K:Ae)(C:Addr)(x qual:Str)(st:Stmt)(ps:List Str)(f:Addr)(fd:Bw):Prop where
 fn:jT K x qual st f fd
 me:nM K C x f
 bi:Binds K fd ps []
structure Di(K:Ae)(C:Addr)(x qual:Str)(st:Stmt)(ps:List Str)(f:Addr)(fd:Bw):Prop where
 fn:jT K x qual st f fd
 mak:Mk K C f
 bi:Binds K fd ps []
theorem zaa{A:Bv}{k:Nat}(a:cJ k A):A.units + 2 < Gh:=by have:=a.un;omega
end L3
namespace L2
open PySem PySem.Spec PyProof.Rows
def gJ(a b:Int×Int):Bool:=decide (a.1 < b.1) || (decide (a.1=b.1) && decide (a.2 < b.2))
section
variable {prog:Bl}{w:Cb}{A:Bv}{E:Ac->Ah->Prop}{s:Ah}
theorem zab{a b:Addr}{oa ob:Obj}{xs ys:Array Ac}{I nb:Nat}{x1 x2 c d:Int}{p m x n:Tok}{Q:Ac->Ah->Prop}(J:A.units + 1 < Gh)(g:s.heap.get? a=some oa)(C:oa.cls=.type "tuple")(r:oa.data=.seq xs I)(l:s.heap.get? b=some ob)(B:ob.cls=.type "tuple")(t:ob.data=.seq ys nb)
  (ex:xs.toList=[.int x1 p,.int x2 m]) (G:ys.toList=[.int c x,.int d n]) (h:Q (.bool (gJ (x1,x2) (c,d))) s):Ax (Bk prog w) A (Ck .Lt (.ref a) (.ref b)) Q E s:=by
 have k:s.TypeIs (.ref a) "tuple":=⟨oa,g,C⟩
 have j:s.TypeIs (.ref b) "tuple":=⟨ob,l,B⟩
 show Ax _ _ (richCompare .Lt (.ref a) (.ref b)) Q E s
 refine wpAny_richCompare_same_room (op:=.Lt) k j PySem.F.slot_tuple_lt (De PySem.F.slot_tuple_lt k PySem.F.entry_tuple_lt ?_ (PySem.F.args_tuple_lt_2 _ _)) (Hk J)
 show Ax _ _ (isInstance (.ref b) (.type "tuple") >>= _) _ _ s
 refine Aa (Jt j isSubtype_tuple_tuple ?_)
 simp only[Ks,Cq,if_false]
 refine Aa (Mb g r ?_)
 refine Aa (Mb l t ?_)
 refine Aa ?_
 rw[ex,G]
 show Ax _ _ (forIn [(Value.int x1 p,Value.int c x),(Value.int x2 m,Value.int d n)] _ _) _ _ s
 have hsz:xs.size=2/\ys.size=2:=by
  have D:=congrArg Bb ex
  have H:=congrArg Bb G
  simp at D H
  exact⟨D,H⟩
 refine wpAny_forIn_list _
  (fun rest q o=>q.1=none/\o=s/\(rest=[(Value.int x1 p,Value.int c x),(Value.int x2 m,Value.int d n)]\/(rest=[(Value.int x2 m,Value.int d n)]/\x1=c)\/(rest=[]/\x1=c/\x2=d)))
  _ ?_ ?_ _ _ ⟨rfl,rfl,.inl rfl⟩
 ·rintro⟨u,v⟩ rest q o ⟨y,rfl,hc⟩
  rcases hc with z | ⟨z,f⟩ | ⟨z,_⟩
  ·simp only[Cy,Dl] at z
   obtain⟨⟨rfl,rfl⟩,rfl⟩:=z
   refine Aa (Ju ?_)
   by_cases f:x1=c
   ·rw[show(x1 == c)=true by simpa using f]
    simp only[Ks,Cq,if_false]
    exact Ag ⟨rfl,rfl,by simp[f]⟩
   ·rw[show(x1 == c)=false by simpa using f]
    simp only[Np,if_true]
    have e:gJ (x1,x2) (c,d)=decide (x1 < c):=by simp[gJ,f]
    rw[e] at h
    refine Aa (Ej (Aa (Mi ?_)))
    exact Aa (Ag (Ag (Ag ⟨_,rfl,(fun e=>nomatch e),h⟩)))
  ·simp only[Cy,Dl] at z
   obtain⟨⟨rfl,rfl⟩,rfl⟩:=z
   refine Aa (Ju ?_)
   by_cases i:x2=d
   ·rw[show(x2 == d)=true by simpa using i]
    simp only[Ks,Cq,if_false]
    exact Ag ⟨rfl,rfl,by simp[f,i]⟩
   ·rw[show(x2 == d)=false by simpa using i]
    simp only[Np,if_true]
    have e:gJ (x1,x2) (c,d)=decide (x2 < d):=by simp[gJ,f]
    rw[e] at h
    refine Aa (Ej (Aa (Mi ?_)))
    exact Aa (Ag (Ag (Ag ⟨_,rfl,(fun e=>nomatch e),h⟩)))
  ·cases z
 ·rintro⟨L,K⟩ o ⟨y,rfl,hc⟩
  simp only at y
  subst y
  rcases hc with z | ⟨z,_⟩ | ⟨_,f,i⟩
  ·cases z
  ·cases z
  ·refine Ag ⟨_,rfl,(fun e=>nomatch e),?_⟩
   subst f;subst i
   have e:gJ (x1,x2) (x1,x2)=decide (xs.size < ys.size):=by rw[hsz.1,hsz.2];simp[gJ]
   rw[e] at h
   exact h
theorem zac{a b:Addr}{oa ob:Obj}{xs ys:Array Ac}{I nb:Nat}{x1 x2 c d:Int}{p m x n:Tok}{Q:Ac->Ah->Prop}(J:A.units + 1 < Gh)(g:s.heap.get? a=some oa)(C:oa.cls=.type "tuple")(r:oa.data=.seq xs I)(l:s.heap.get? b=some ob)(B:ob.cls=.type "tuple")(t:ob.data=.seq ys nb)
  (ex:xs.toList=[.int x1 p,.int x2 m]) (G:ys.toList=[.int c x,.int d n]) (h:Q (.bool (gJ (c,d) (x1,x2))) s):Ax (Bk prog w) A (Ck .Gt (.ref a) (.ref b)) Q E s:=by
 have k:s.TypeIs (.ref a) "tuple":=⟨oa,g,C⟩
 have j:s.TypeIs (.ref b) "tuple":=⟨ob,l,B⟩
 show Ax _ _ (richCompare .Gt (.ref a) (.ref b)) Q E s
 refine wpAny_richCompare_same_room (op:=.Gt) k j PySem.F.slot_tuple_gt (De PySem.F.slot_tuple_gt k PySem.F.entry_tuple_gt ?_ (PySem.F.args_tuple_gt_2 _ _)) (Hk J)
 show Ax _ _ (isInstance (.ref b) (.type "tuple") >>= _) _ _ s
 refine Aa (Jt j isSubtype_tuple_tuple ?_)
 simp only[Ks,Cq,if_false]
 refine Aa (Mb g r ?_)
 refine Aa (Mb l t ?_)
 refine Aa ?_
 rw[ex,G]
 show Ax _ _ (forIn [(Value.int x1 p,Value.int c x),(Value.int x2 m,Value.int d n)] _ _) _ _ s
 have hsz:xs.size=2/\ys.size=2:=by
  have D:=congrArg Bb ex
  have H:=congrArg Bb G
  simp at D H
  exact⟨D,H⟩
 refine wpAny_forIn_list _
  (fun rest q o=>q.1=none/\o=s/\(rest=[(Value.int x1 p,Value.int c x),(Value.int x2 m,Value.int d n)]\/(rest=[(Value.int x2 m,Value.int d n)]/\x1=c)\/(rest=[]/\x1=c/\x2=d)))
  _ ?_ ?_ _ _ ⟨rfl,rfl,.inl rfl⟩
 ·rintro⟨u,v⟩ rest q o ⟨y,rfl,hc⟩
  rcases hc with z | ⟨z,f⟩ | ⟨z,_⟩
  ·simp only[Cy,Dl] at z
   obtain⟨⟨rfl,rfl⟩,rfl⟩:=z
   refine Aa (Ju ?_)
   by_cases f:x1=c
   ·rw[show(x1 == c)=true by simpa using f]
    simp only[Ks,Cq,if_false]
    exact Ag ⟨rfl,rfl,by simp[f]⟩
   ·rw[show(x1 == c)=false by simpa using f]
    simp only[Np,if_true]
    have e:gJ (c,d) (x1,x2)=decide (c < x1):=by simp[gJ,Bq f]
    rw[e] at h
    refine Aa (Ej (Aa (PyProof.Rows.gt_int ?_)))
    exact Aa (Ag (Ag (Ag ⟨_,rfl,(fun e=>nomatch e),h⟩)))
  ·simp only[Cy,Dl] at z
   obtain⟨⟨rfl,rfl⟩,rfl⟩:=z
   refine Aa (Ju ?_)
   by_cases i:x2=d
   ·rw[show(x2 == d)=true by simpa using i]
    simp only[Ks,Cq,if_false]
    exact Ag ⟨rfl,rfl,by simp[f,i]⟩
   ·rw[show(x2 == d)=false by simpa using i]
    simp only[Np,if_true]
    have e:gJ (c,d) (x1,x2)=decide (d < x2):=by simp[gJ,f]
    rw[e] at h
    refine Aa (Ej (Aa (PyProof.Rows.gt_int ?_)))
    exact Aa (Ag (Ag (Ag ⟨_,rfl,(fun e=>nomatch e),h⟩)))
  ·cases z
 ·rintro⟨L,K⟩ o ⟨y,rfl,hc⟩
  simp only at y
  subst y
  rcases hc with z | ⟨z,_⟩ | ⟨_,f,i⟩
  ·cases z
  ·cases z
  ·refine Ag ⟨_,rfl,(fun e=>nomatch e),?_⟩
   subst f;subst i
   have e:gJ (x1,x2) (x1,x2)=decide (xs.size > ys.size):=by rw[hsz.1,hsz.2];simp[gJ]
   rw[e] at h
   exact h
end
section
variable {X:Cx}
def rInsert:V->List V->Hp->VK->Prop:=fun x vs H Q=>∃ l xs y i,x=.ref l/\vs=[.int (i:Nat),y]/\H l=some (.lst xs)/\xs.length < Aj/\i<=xs.length/\Q .non (aN H l (.lst (xs.take i ++ y :: xs.drop i)))
theorem aR.splitAt:∀ {xs:List V} {us:List Ac} (i:Nat),aR xs us->aR (xs.take i) (us.take i)/\aR (xs.drop i) (us.drop i)
 | _,_,0,h=>⟨.nil,h⟩
 | _,_,i + 1,.nil=>⟨.nil,.nil⟩
 | _,_,i + 1,.cons r t=>by
  obtain⟨a,b⟩:=aR.splitAt i t
  exact⟨.cons r a,b⟩
theorem zad:vM X "list.insert" rInsert:=by
 intro pins s σ H x vs v us Q I t k h
 obtain⟨l,xs,y,i,rfl,rfl,g,hz,hi,q⟩:=h
 cases t
 obtain⟨A,d,rfl,o,u⟩:=vals2 k
 obtain⟨tk,rfl⟩:=o
 obtain⟨z,its,n,r,hl,e⟩:=I.lstM g
 have f:its.length=xs.length:=r.length.symm
 have hs:Aj=16777216:=Hn
 have a:¬ (!Builtin.List.listFitsIndex ((i:Nat):Int))=true:=by
  have b:Builtin.List.listFitsIndex ((i:Nat):Int)=true:=by
   unfold Builtin.List.listFitsIndex
   rw[Cs,decide_eq_true_eq,decide_eq_true_eq]
   lia
  rw[b];decide
 have c:its.toArray.size<=Aj:=by rw[Bc];lia
 generalize m:((i:Nat):Int)=j at a e ⊢
 have w:=PySem.AutoSeq1.list_insert_list_int_val_1 l its.toArray n j tk d a c
 refine Me F.slot_list_insert ⟨_,e,rfl⟩ F.entry_list_insert (F.args_list_insert_3 _ _ _) w ⟨e,?_⟩
 obtain⟨b,p⟩:=aR.splitAt i r
 refine⟨.non,_,I.lset (its':=its.take i ++ d :: its.drop i) g e ?_ (b.append (.cons u p)) ?_,rfl,q⟩
 ·have hk:(if j < 0 then(j + (its.toArray.size:Int)).toNat else min j.toNat its.toArray.size)=i:=by
   rw[<-m,if_neg (by lia),Cm,Bc];lia
  show(its.toArray.extract 0 (if j < 0 then(j + (its.toArray.size:Int)).toNat else min j.toNat its.toArray.size)).push d ++ its.toArray.extract (if j < 0 then(j + (its.toArray.size:Int)).toNat else min j.toNat its.toArray.size)=_
  rw[hk]
  apply Array.toList_inj.mp
  simp[Bz,Array.toList_push]
  rw[Dw (by rw[Gs];lia)]
 ·rw[Av,Bt,Cf,Gs]
  lia
end
end L2
namespace L3
open PySem PySem.Spec PyProof.Rows L2
section
variable {X:Cx}
def xI:R3:=fun x y M R=>∃ a b c d:Int,x=.tup [.int a,.int b]/\y=.tup [.int c,.int d]/\R (.bl (gJ (a,b) (c,d))) M
def EI:R3:=fun x y M R=>∃ a b c d:Int,x=.tup [.int a,.int b]/\y=.tup [.int c,.int d]/\R (.bl (gJ (c,d) (a,b))) M
theorem tF{c:List (Addr×Obj)}{g:SV}{H:Hp}{M:Mm}{s:Ah}{x:V}{v:Ac}{a b:Int}(I:Inv X c g H s)(B:RelV x v)(j:AV X.K H M x (.tup [.int a,.int b])):∃ p o its n t u,v=.ref p/\s.heap.get? p=some o/\o.cls=.type "tuple"/\o.data=.seq its n/\its.toList=[.int a t,.int b u]:=by
 cases j with
 | @tup p xs _ e q=>
  cases (show v=Value.ref p from B)
  obtain⟨y,z,rfl,C,D⟩:=q.two
  obtain rfl:=C.inv
  obtain rfl:=D.inv
  obtain⟨_,its,r,o,f,k,m,A⟩:=(show cN X.prog X.w H s.heap p (.tup [.int a,.int b]) from I.hok p _ e)
  obtain⟨F,E,rfl,h,i⟩:=vals2 r
  obtain⟨l,rfl⟩:=h
  obtain⟨d,rfl⟩:=i
  exact⟨p,o,_,m,l,d,rfl,f,k,A,by simp⟩
theorem EJ(f:X.A.units + 1 < Gh):bB X (Ck .Lt) (cE X.K xI):=by
 rintro e s G H x y v u Q I j g ⟨O,T,M,R,h,D,l,⟨a,b,c,d,rfl,rfl,r⟩,k⟩
 obtain⟨p,o,its,n,J,P,rfl,i,E,F,w⟩:=tF I j D
 obtain⟨L,N,its',S,z,B,rfl,t,C,m,q⟩:=tF I g l
 exact zab f i E F t C m w q ⟨.bl _,H,I,rfl,k.at h (.bl _) r⟩
theorem zae(f:X.A.units + 1 < Gh):bB X (Ck .Gt) (cE X.K EI):=by
 rintro e s G H x y v u Q I j g ⟨O,T,M,R,h,D,l,⟨a,b,c,d,rfl,rfl,r⟩,k⟩
 obtain⟨p,o,its,n,J,P,rfl,i,E,F,w⟩:=tF I j D
 obtain⟨L,N,its',S,z,B,rfl,t,C,m,q⟩:=tF I g l
 exact zac f i E F t C m w q ⟨.bl _,H,I,rfl,k.at h (.bl _) r⟩
def EK:W->List W->Mm->K3->Prop
 | .ref l,[.int i,y],M,R=>∃ ws,M l=some (.lst ws)/\ws.length < Aj/\0<=i/\i<=ws.length/\R .non (put M l (.lst (ws.take i.toNat ++ y :: ws.drop i.toNat)))
 | _,_,_,_=>False
theorem EL{K:Ae}{H:Hp}{M:Mm}:∀ {vs:List V} {ws:List W} (i:Nat),aL K H M vs ws->aL K H M (vs.take i) (ws.take i)/\aL K H M (vs.drop i) (ws.drop i)
 | _,_,0,h=>⟨.nil,h⟩
 | _,_,i + 1,.nil=>⟨.nil,.nil⟩
 | _,_,i + 1,.cons r t=>by
  obtain⟨b,a⟩:=EL i t
  exact⟨.cons r b,a⟩
theorem zaf:iS X "list.insert" (kQ X.K EK):=by
 rintro a s g H x xs v us Q I m rs ⟨t,ws,M,R,c,j,b,h,k⟩
 match t,ws,h with
 | .ref l,[.int i,y],h=>
  obtain⟨u,z,rfl,w,p⟩:=b.two
  obtain rfl:=j.inv
  obtain rfl:=w.inv
  obtain⟨ws,e,hl,o,A,r⟩:=h
  obtain⟨i,rfl⟩:=Int.eq_ofNat_of_zero_le o
  obtain⟨vs,f,q⟩:=c.lst e
  obtain⟨n,d⟩:=EL i q
  rw[Cm] at r
  exact zad a s g H _ _ v us Q I m rs ⟨l,vs,z,i,rfl,rfl,f,by rw[q.length];exact hl,by rw[q.length];lia,wB c k e (n.append (.cons p d)) .non r⟩
end
end L3
namespace Rg
open PySem PySem.Spec PyProof.Rows L2 L3
structure aY where
 name:Str
 parts:List Str
 cost:Int
def zag(t:Str):Prop:=∀ c∈cs t,c < 128
structure zah(t:Str):Prop where
 len:t.length<=20
 nm:jV t=true
 hd:∃ c r,cs t=c :: r/\c∈cs mQ
 asc:zag t
structure xJ(t:Str):Prop where
 len:t.length<=20
 ne:cs t≠[]
 sm:∀ c∈cs t,c∈cs pM
theorem xJ.nm{t:Str}(h:xJ t):jV t=false:=SQ h.ne h.sm
structure zai(hs ws:List Str)(r:aY):Prop where
 name:r.name∈hs
 parts:∀ t∈r.parts,t∈ws\/t∈hs
 few:r.parts.length<=4
 lo:0<=r.cost
 hi:r.cost < 10 ^ 60
structure xK(rs:List aY):Prop where
 ne:rs≠[]
 few:rs.length<=60
 ex:∃ hs ws:List Str,hs.length<=12/\(∀ t∈hs,zah t)/\(∀ t∈ws,xJ t)/\(∀ r∈rs,zai hs ws r)/\∀ t∈hs,∃ r∈rs,r.name=t
def hX(acc:List Str)(t:Str):List Str:=if t∈acc then acc else acc ++ [t]
def qD(acc:List Str)(rs:List aY):List Str:=(rs.map aY.name).foldl hX acc
def namesOf(rs:List aY):List Str:=qD [] rs
theorem zaj{acc:List Str}{t u:Str}:u∈hX acc t↔u∈acc\/u=t:=by
 unfold hX
 split
 ·rename_i h
  constructor
  ·exact .inl
  ·rintro(q | q)
   ·exact q
   ·rw[q];exact h
 ·rw[Bo,Ba]
theorem zak{acc:List Str}{t:Str}:(hX acc t).length<=acc.length + 1:=by
 unfold hX
 split
 ·lia
 ·rw[Av];exact Ai _
theorem xM:∀ {ts acc:List Str} {u:Str},u∈ts.foldl hX acc↔u∈acc\/u∈ts
 | [],acc,u=>by simp
 | t :: r,acc,u=>by
  rw[Ge,xM,zaj,Az]
  constructor
  ·rintro((h | h) | h)
   ·exact .inl h
   ·exact .inr (.inl h)
   ·exact .inr (.inr h)
  ·rintro(h | h | h)
   ·exact .inl (.inl h)
   ·exact .inl (.inr h)
   ·exact .inr h
theorem EM{rs:List aY}{u:Str}:u∈namesOf rs↔∃ r∈rs,r.name=u:=by
 unfold namesOf qD
 rw[xM]
 simp
theorem xN:∀ (ts acc:List Str),(ts.foldl hX acc).length<=acc.length + ts.length
 | [],acc=>by simp
 | t :: r,acc=>by
  rw[Ge,Bt]
  have:=xN r (hX acc t)
  have:=zak (acc:=acc) (t:=t)
  lia
theorem zal{rs:List aY}(g:xK rs){r:aY}(c:r∈rs):0<=r.cost/\∀ t∈r.parts,t.length<=1000/\(jV t=true->t∈namesOf rs):=by
 obtain⟨hs,ws,_,d,hw,b,a⟩:=g.ex
 refine⟨(b r c).lo,fun t ht=>?_⟩
 rcases(b r c).parts t ht with q | q
 ·have:=hw t q
  exact⟨by have:=this.len;lia,fun n=>by rw[this.nm] at n;cases n⟩
 ·have:=d t q
  exact⟨by have:=this.len;lia,fun _=>EM.mpr (a t q)⟩
def cB(r:aY):W:=.tup [.str r.name,.tup (r.parts.map W.str),.int r.cost]
def eX(rs:List aY):W:=.rl (rs.map cB)
abbrev aH:=Int×Int
def cC(a b:aH):Bool:=decide (a.1 < b.1) || (decide (a.1=b.1) && decide (a.2 < b.2))
theorem oK{a b:aH}:cC a b=true↔a.1 < b.1\/a.1=b.1/\a.2 < b.2:=by simp[cC]
def Le(a b:aH):Prop:=a.1 < b.1\/a.1=b.1/\a.2<=b.2
theorem xO{a b:aH}:Le a b↔¬ cC b a=true:=by
 rw[oK];unfold Le;lia
theorem Le.refl(a:aH):Le a a:=.inr ⟨rfl,Nu _⟩
theorem Le.trans{a b c:aH}(h:Le a b)(h':Le b c):Le a c:=by unfold Le at *;lia
theorem Le.of_lt{a b:aH}(h:cC a b=true):Le a b:=by rw[oK] at h;unfold Le;lia
theorem Le.antisymm{a b:aH}(h:Le a b)(h':Le b a):a=b:=by
 unfold Le at *
 exact Prod.ext (by lia) (by lia)
theorem qE{a:aH}:¬ cC a a=true:=by rw[oK];lia
theorem qF{a b c:aH}(h:cC a b=true)(h':Le b c):cC a c=true:=by rw[oK] at *;unfold Le at h';lia
def dQ(a b:aH):aH:=(a.1 + b.1,a.2 + b.2)
theorem zam{a b c d:aH}(h:Le a b)(h':Le c d):Le (dQ a c) (dQ b d):=by unfold Le dQ at *;simp only;lia
section
variable {κ β:Type}[DecidableEq κ]
def aF(t:List (κ×β))(k:κ):Option β:=(t.find? fun e=>decide (e.1=k)).map (·.2)
def cT(t:List (κ×β))(k:κ)(v:β):List (κ×β):=if (t.any fun e=>decide (e.1=k))=true then t.map (fun e=>if e.1=k then(e.1,v) else e) else t ++ [(k,v)]
theorem dW(e:κ×β)(t:List (κ×β))(k:κ):aF (e :: t) k=if e.1=k then some e.2 else aF t k:=by
 unfold aF
 rw[Fq]
 by_cases h:e.1=k
 ·rw[decide_eq_true h,if_pos h];rfl
 ·rw[decide_eq_false h,if_neg h]
theorem nB(t:List (κ×β))(k:κ):(t.any fun e=>decide (e.1=k))=(aF t k).isSome:=by
 induction t with
 | nil=>rfl
 | cons e t a=>
  rw[Gq,dW,a]
  by_cases h:e.1=k
  ·rw[decide_eq_true h,if_pos h];rfl
  ·rw[decide_eq_false h,if_neg h];rfl
theorem xP(t:List (κ×β))(k j:κ)(v:β):aF (t ++ [(k,v)]) j=(aF t j).or (if k=j then some v else none):=by
 induction t with
 | nil=>rw[Lb,dW];rfl
 | cons e t a=>
  rw[List.cons_append,dW,dW,a]
  split <;> rfl
theorem zan(t:List (κ×β))(k j:κ)(v:β)(h:(aF t k).isSome=true):aF (t.map (fun e=>if e.1=k then(e.1,v) else e)) j=if k=j then some v else aF t j:=by
 induction t with
 | nil=>cases h
 | cons e t c=>
  rw[Ar,dW,dW]
  rw[dW] at h
  by_cases hk:e.1=k
  ·rw[if_pos hk]
   by_cases b:k=j
   ·rw[if_pos (by rw[hk,b]:(e.1,v).1=j),if_pos b]
   ·rw[if_neg (by rw[hk];exact b),if_neg b,if_neg (by rw[hk];exact b)]
    by_cases ht:(aF t k).isSome=true
    ·rw[c ht,if_neg b]
    ·have:∀ {t:List (κ×β)},¬ (aF t k).isSome=true->t.map (fun e=>if e.1=k then(e.1,v) else e)=t:=by
      intro t
      induction t with
      | nil=>intro _;rfl
      | cons a t c=>
       intro h
       rw[dW] at h
       by_cases ha:a.1=k
       ·rw[if_pos ha] at h;exact absurd rfl h
       ·rw[if_neg ha] at h
        rw[Ar,if_neg ha,c h]
     rw[this ht]
  ·rw[if_neg hk] at h ⊢
   by_cases b:e.1=j
   ·rw[if_pos b,if_pos b,if_neg (fun z=>hk (by rw[b,z]))]
   ·rw[if_neg b,if_neg b]
    exact c h
theorem k9(t:List (κ×β))(k j:κ)(v:β):aF (cT t k v) j=if k=j then some v else aF t j:=by
 unfold cT
 rw[nB]
 split
 ·rename_i h
  exact zan t k j v h
 ·rename_i h
  rw[xP]
  by_cases a:k=j
  ·subst a
   rw[if_pos rfl,if_pos rfl]
   cases e:aF t k with
   | none=>rfl
   | some z=>rw[e] at h;exact absurd rfl h
  ·rw[if_neg a,if_neg a,Option.or_none]
theorem tG(t:List (κ×β))(k:κ)(v:β):(cT t k v).length<=t.length + 1:=by
 unfold cT
 split
 ·rw[Ab];lia
 ·simp
def eP{a:Type}(t:List (κ×List a))(k:κ)(v:a):List (κ×List a):=cT t k ((aF t k).getD [] ++ [v])
theorem qG{a:Type}(t:List (κ×List a))(k j:κ)(v:a):(aF (eP t k v) j).getD []=if k=j then(aF t j).getD [] ++ [v] else(aF t j).getD []:=by
 unfold eP
 rw[k9]
 by_cases h:k=j
 ·subst h;rw[if_pos rfl,if_pos rfl];rfl
 ·rw[if_neg h,if_neg h]
end
section
variable {α:Type}
def dH(c:aH)(x:α):List (aH×List α)->List (aH×List α)
 | []=>[(c,[x])]
 | (d,xs) :: r=>if cC c d=true then(d,xs) :: dH c x r else if d=c then(d,xs ++ [x]) :: r else(c,[x]) :: (d,xs) :: r
def aW:List (aH×List α)->List (aH×α)
 | []=>[]
 | (d,xs) :: r=>xs.map (fun x=>(d,x)) ++ aW r
theorem tH(c:aH)(x:α):∀ q:List (aH×List α),(aW (dH c x q)).length=(aW q).length + 1
 | []=>rfl
 | (d,xs) :: r=>by
  rw[dH]
  split
  ·rw[aW,aW,Av,Av,tH c x r];lia
  ·split
   ·rw[aW,aW,Av,Av,Bs,Av];simp;lia
   ·simp[aW]
def gK:List (aH×List α)->Prop
 | []=>True
 | (d,xs) :: r=>xs≠[]/\(∀ e∈r,cC e.1 d=true)/\gK r
theorem EN(c:aH)(x:α):∀ q:List (aH×List α),∀ e∈dH c x q,e.1=c\/∃ a∈q,a.1=e.1
 | [],e,h=>by simp[dH] at h;exact .inl (by rw[h])
 | (d,xs) :: r,e,h=>by
  rw[dH] at h
  split at h
  ·rcases Az.mp h with z | z
   ·exact .inr ⟨(d,xs),by simp,by rw[z]⟩
   ·rcases EN c x r e z with q | ⟨a,f,b⟩
    ·exact .inl q
    ·exact .inr ⟨a,Bd _ f,b⟩
  ·split at h
   ·rcases Az.mp h with z | z
    ·exact .inr ⟨(d,xs),by simp,by rw[z]⟩
    ·exact .inr ⟨e,Bd _ z,rfl⟩
   ·rcases Az.mp h with z | z
    ·exact .inl (by rw[z])
    ·exact .inr ⟨e,z,rfl⟩
theorem xQ(c:aH)(x:α):∀ {q:List (aH×List α)},gK q->gK (dH c x q)
 | [],_=>⟨by simp,by simp,trivial⟩
 | (d,xs) :: r,h=>by
  obtain⟨f,b,i⟩:=h
  rw[dH]
  split
  ·rename_i a
   refine⟨f,fun e j=>?_,xQ c x i⟩
   rcases EN c x r e j with z | ⟨l,z1,z2⟩
   ·rw[z];exact a
   ·rw[<-z2];exact b l z1
  ·rename_i a
   split
   ·rename_i hd
    subst hd
    exact⟨by simp,b,i⟩
   ·rename_i hd
    have g:cC d c=true:=by
     have k:¬ (c.1 < d.1\/c.1=d.1/\c.2 < d.2):=by rw[<-oK];exact a
     rw[oK]
     by_cases f:d.1=c.1
     ·refine .inr ⟨f,?_⟩
      have:d.2≠c.2:=fun b=>hd (Prod.ext f b)
      lia
     ·left;lia
    refine⟨by simp,fun e j=>?_,f,b,i⟩
    rcases Az.mp j with z | z
    ·rw[z];exact g
    ·exact qF (b e z) (Le.of_lt g)
def gR:List (aH×List α)->Option (aH×α×List (aH×List α))
 | []=>none
 | [(d,xs)]=>match xs.getLast? with
  | none=>none
  | some x=>some (d,x,if xs.dropLast.isEmpty then [] else [(d,xs.dropLast)])
 | e :: a :: r=>match gR (a :: r) with
  | none=>none
  | some (d,x,q)=>some (d,x,e :: q)
theorem nC:∀ {q:List (aH×List α)},gK q->q≠[]->∃ d x f,gR q=some (d,x,f)/\gK f/\(∀ e,e∈aW q↔e=(d,x)\/e∈aW f)/\(aW q).length=(aW f).length + 1/\(∀ e∈q,Le d e.1)/\∀ e∈f,∃ v∈q,v.1=e.1
 | [],_,h=>absurd rfl h
 | [(d,xs)],h,_=>by
  obtain⟨i,_,_⟩:=h
  rcases Gy xs with z | ⟨ys,y,z⟩
  ·exact absurd z i
  ·rw[Gz] at z
   subst z
   refine⟨d,y,if ys.isEmpty then [] else [(d,ys)],by simp[gR],?_,fun e=>?_,?_,fun e g=>?_,fun e g=>?_⟩
   ·cases ys with
    | nil=>trivial
    | cons a b=>exact⟨by simp,by simp,trivial⟩
   ·cases ys with
    | nil=>simp[aW]
    | cons a b=>simp[aW];constructor <;> (intro h;rcases h with h | h | h <;> simp[h])
   ·cases ys with
    | nil=>simp[aW]
    | cons a b=>simp[aW]
   ·rw[Ba.mp g];exact Le.refl _
   ·cases ys with
    | nil=>cases g
    | cons a b=>simp at g;exact⟨(d,a :: b ++ [y]),by simp,by rw[g]⟩
 | e :: n :: r,h,_=>by
  obtain⟨i,m,p⟩:=h
  obtain⟨d,x,f,w,u,s,t,o,l⟩:=nC p (by simp)
  refine⟨d,x,e :: f,by rw[gR,w],⟨i,fun z hz=>?_,u⟩,fun z=>?_,?_,fun z hz=>?_,fun z hz=>?_⟩
  ·obtain⟨j,c,k⟩:=l z hz
   rw[<-k];exact m j c
  ·rw[aW,Bo,s,aW,Bo]
   constructor
   ·rintro(h | h | h)
    ·exact .inr (.inl h)
    ·exact .inl h
    ·exact .inr (.inr h)
   ·rintro(h | h | h)
    ·exact .inr (.inl h)
    ·exact .inl h
    ·exact .inr (.inr h)
  ·rw[aW,Av,t,aW,Av];lia
  ·rcases Az.mp hz with q | q
   ·rw[q]
    have:=o n Bi
    exact this.trans (Le.of_lt (m n Bi))
   ·exact o z q
  ·rcases Az.mp hz with q | q
   ·exact⟨e,Bi,by rw[q]⟩
   ·obtain⟨j,c,k⟩:=l z q
    exact⟨j,Bd _ c,k⟩
theorem EO{q:List (aH×List α)}{e:aH×α}(h:e∈aW q):∃ b∈q,b.1=e.1:=by
 induction q with
 | nil=>cases h
 | cons b r a=>
  obtain⟨d,xs⟩:=b
  rw[aW] at h
  rcases Bo.mp h with z | z
  ·obtain⟨x,_,rfl⟩:=Aw.mp z
   exact⟨(d,xs),Bi,rfl⟩
  ·obtain⟨b,hb,c⟩:=a z
   exact⟨b,Bd _ hb,c⟩
end
section
variable {α:Type}
theorem ER(c:aH)(x:α):∀ q:List (aH×List α),(aW (dH c x q)).Perm ((c,x) :: aW q)
 | []=>.refl _
 | (d,xs) :: r=>by
  rw[dH]
  split
  ·rw[aW,aW]
   exact(Cw _ (ER c x r)).trans Mj
  ·split
   ·rename_i hd
    subst hd
    rw[aW,aW,Bs,Cd]
    exact Mj
   ·exact .refl _
theorem xR:∀ {q c:List (aH×List α)} {d:aH} {x:α},gK q->gR q=some (d,x,c)->(aW q).Perm ((d,x) :: aW c)
 | [],c,d,x,_,h=>by cases h
 | [(j,xs)],c,d,x,hf,h=>by
  obtain⟨f,_,_⟩:=hf
  rcases Gy xs with z | ⟨ys,y,z⟩
  ·exact absurd z f
  ·rw[Gz] at z
   subst z
   simp[gR] at h
   obtain⟨rfl,rfl,rfl⟩:=h
   cases ys with
   | nil=>exact .refl _
   | cons a b=>
    rw[if_neg (by simp)]
    simp only[aW,Gf,Bs,Ar,Kg]
    exact List.perm_append_singleton _ _
 | e :: l :: r,c,d,x,hf,h=>by
  obtain⟨_,_,i⟩:=hf
  rw[gR] at h
  split at h
  ·cases h
  ·rename_i m x1 n k
   simp only[Eg,Dl] at h
   obtain⟨rfl,rfl,rfl⟩:=h
   have g:=xR i k
   obtain⟨j,xs⟩:=e
   rw[aW,aW]
   exact(Cw _ g).trans Mj
end
structure Sr where
 rs:List aY
 own:Str->Bool
 places:List Int
 steps:Str->Int->List (Int×Int)
 wt:Nat->Int
structure qH(G:Sr):Prop where
 wt:∀ n,0<=G.wt n
 pr:∀ t p e c,(e,c)∈G.steps t p->0<=c
abbrev K4:=Nat×Nat×Int×Int
abbrev b5:=Str×Int×Int
abbrev bS:=Nat×List Int×aH
def bJ(n:Nat)(a:List Int):K4:=(n,a.length,a.headD 0,a.getLastD 0)
def lA(y:bS):K4:=bJ y.1 y.2.1
abbrev fH:=List (b5×aH×Nat×List Int)
structure SS where
 q:List (aH×List (Nat×List Int))
 reached:List (K4×aH)
 best:fH
 ends:List ((Str×Int)×List (Int×aH))
 begun:List ((Str×Int)×List bS)
def reach(st:SS)(n:Nat)(a:List Int)(c:aH):SS:=match aF st.reached (bJ n a) with
 | some d=>if cC c d=true then {st with reached:=cT st.reached (bJ n a) c,q:=dH c (n,a) st.q} else st
 | none=>{st with reached:=cT st.reached (bJ n a) c,q:=dH c (n,a) st.q}
inductive GI(G:Sr)(B:fH):Nat->List Int->aH->Prop
 | start {n:Nat} {r:aY} {p:Int}:G.rs[n]? = some r->p∈G.places->GI G B n [p] (G.wt n,1)
 | word {n:Nat} {r:aY} {cut:List Int} {c:aH} {part:Str} {e pr:Int}:GI G B n cut c->G.rs[n]? = some r->r.parts[cut.length - 1]? = some part->G.own part=false->(e,pr)∈G.steps part (cut.getLastD 0)->GI G B n (cut ++ [e]) (c.1 + pr,c.2)
 | name {n:Nat} {r:aY} {cut:List Int} {c m:aH} {part:Str} {e:Int} {k:Nat×List Int}:GI G B n cut c->G.rs[n]? = some r->r.parts[cut.length - 1]? = some part->G.own part=true->aF B (part,cut.getLastD 0,e)=some (m,k)->GI G B n (cut ++ [e]) (dQ c m)
theorem GI.mono{G:Sr}{B j:fH}(h:∀ f v,aF B f=some v->aF j f=some v){n:Nat}{e:List Int}{c:aH}(g:GI G B n e c):GI G j n e c:=by
 induction g with
 | start a b=>exact .start a b
 | word _ a b c d i=>exact .word i a b c d
 | name _ a b c d i=>exact .name i a b c (h _ _ d)
theorem GI.ne{G:Sr}{B:fH}{n:Nat}{a:List Int}{c:aH}(g:GI G B n a c):a≠[]:=by cases g <;> simp
def qk(e:aH×(Nat×List Int)):aH×K4:=(e.1,bJ e.2.1 e.2.2)
def eY(st:SS)(k:K4)(c:aH):Prop:=∃ d,aF st.reached k=some d/\Le d c
structure eZ(G:Sr)(st:SS)(P:List bS)(cur:aH):Prop where
 fall:gK st.q
 item:∀ e∈aW st.q,GI G st.best e.2.1 e.2.2 e.1
 ge:∀ e∈aW st.q,∃ d,aF st.reached (bJ e.2.1 e.2.2)=some d/\Le d e.1
 nd:((aW st.q).map qk).Nodup
 once:(P.map lA).Nodup
 pr:∀ y∈P,aF st.reached (lA y)=some y.2.2/\Le y.2.2 cur/\GI G st.best y.1 y.2.1 y.2.2
 fresh:∀ e∈aW st.q,∀ y∈P,lA y=bJ e.2.1 e.2.2->cC y.2.2 e.1=true
 curq:∀ e∈aW st.q,Le cur e.1
 hit:∀ k d,aF st.reached k=some d->(∃ e∈aW st.q,e.1=d/\bJ e.2.1 e.2.2=k)\/∃ y∈P,lA y=k/\y.2.2=d
structure jH(st st':SS):Prop where
 best:st'.best=st.best
 ends:st'.ends=st.ends
 begun:st'.begun=st.begun
 le:∀ k c,eY st k c->eY st' k c
theorem jH.refl(st:SS):jH st st:=⟨rfl,rfl,rfl,fun _ _ h=>h⟩
theorem jH.trans{a b c:SS}(x:jH a b)(y:jH b c):jH a c:=⟨y.best.trans x.best,y.ends.trans x.ends,y.begun.trans x.begun,fun k c h=>y.le k c (x.le k c h)⟩
theorem zao{G:Sr}{st:SS}{P:List bS}{cur:aH}{n:Nat}{a:List Int}{c:aH}(I:eZ G st P cur)(g:GI G st.best n a c)(hc:Le cur c) :
  eZ G (reach st n a c) P cur/\jH st (reach st n a c)/\eY (reach st n a c) (bJ n a) c:=by
 have push:(∀ d,aF st.reached (bJ n a)=some d->cC c d=true)->eZ G {st with reached:=cT st.reached (bJ n a) c,q:=dH c (n,a) st.q} P cur/\jH st {st with reached:=cT st.reached (bJ n a) c,q:=dH c (n,a) st.q}/\eY {st with reached:=cT st.reached (bJ n a) c,q:=dH c (n,a) st.q} (bJ n a) c:=by
  intro j
  have s:=ER c (n,a) st.q
  have o:∀ e,e∈aW (dH c (n,a) st.q)↔e=(c,(n,a))\/e∈aW st.q:=fun e=>by rw[s.mem_iff,Az]
  have p:∀ y∈P,lA y≠bJ n a:=fun y l e=>by
   obtain⟨b,f,_⟩:=I.pr y l
   rw[e] at b
   have:=qF (j _ b) (f.trans hc)
   exact qE this
  have le:∀ k d,eY st k d->eY {st with reached:=cT st.reached (bJ n a) c,q:=dH c (n,a) st.q} k d:=fun k d h=>by
   obtain⟨z,b,f⟩:=h
   by_cases e:bJ n a=k
   ·subst e
    exact⟨c,by show aF (cT _ _ _) _=_;rw[k9,if_pos rfl],(Le.of_lt (j z b)).trans f⟩
   ·exact⟨z,by show aF (cT _ _ _) _=_;rw[k9,if_neg e];exact b,f⟩
  refine⟨⟨xQ _ _ I.fall,fun e i=>?_,fun e i=>?_,?_,I.once,fun y l=>?_,fun e i y l m=>?_,fun e i=>?_,fun k d hd=>?_⟩,⟨rfl,rfl,rfl,le⟩,c,by show aF (cT _ _ _) _=_;rw[k9,if_pos rfl],Le.refl c⟩
  ·rcases(o e).mp i with z | z
   ·rw[z];exact g
   ·exact I.item e z
  ·show ∃ d,aF (cT _ _ _) _=_/\_
   rw[k9]
   rcases(o e).mp i with z | z
   ·rw[z,if_pos rfl];exact⟨c,rfl,Le.refl _⟩
   ·obtain⟨d,b,f⟩:=I.ge e z
    by_cases m:bJ n a=bJ e.2.1 e.2.2
    ·rw[if_pos m]
     rw[<-m] at b
     exact⟨c,rfl,(Le.of_lt (j d b)).trans f⟩
    ·rw[if_neg m];exact⟨d,b,f⟩
  ·rw[(s.map qk).nodup_iff,Ar,Dr]
   refine⟨fun z=>?_,I.nd⟩
   obtain⟨e,i,eq⟩:=Aw.mp z
   obtain⟨d,b,f⟩:=I.ge e i
   unfold qk at eq
   rw[Dl] at eq
   rw[eq.2] at b
   rw[eq.1] at f
   exact qE (qF (j d b) f)
  ·obtain⟨b,f,r⟩:=I.pr y l
   refine⟨?_,f,r⟩
   show aF (cT _ _ _) _=_
   rw[k9,if_neg (Bq (p y l))];exact b
  ·rcases(o e).mp i with z | z
   ·rw[z] at m;exact absurd m (p y l)
   ·exact I.fresh e z y l m
  ·rcases(o e).mp i with z | z
   ·rw[z];exact hc
   ·exact I.curq e z
  ·have hd:aF (cT st.reached (bJ n a) c) k=some d:=hd
   rw[k9] at hd
   by_cases e:bJ n a=k
   ·rw[if_pos e] at hd
    cases hd
    exact .inl ⟨(c,(n,a)),(o _).mpr (.inl rfl),rfl,e⟩
   ·rw[if_neg e] at hd
    rcases I.hit k d hd with⟨x,b,f,r⟩ | h
    ·exact .inl ⟨x,(o _).mpr (.inr b),f,r⟩
    ·exact .inr h
 unfold reach
 cases h:aF st.reached (bJ n a) with
 | none=>exact push fun d e=>by rw[h] at e;cases e
 | some d=>
  simp only
  split
  ·rename_i hl
   exact push fun d' e=>by rw[h] at e;cases e;exact hl
  ·rename_i hl
   exact⟨I,jH.refl st,d,h,xO.mpr hl⟩
theorem qI{G:Sr}{P:List bS}{cur:aH}{α:Type}(f:α->Nat×List Int×aH):∀ (xs:List α) {st:SS},eZ G st P cur->(∀ x∈xs,GI G st.best (f x).1 (f x).2.1 (f x).2.2/\Le cur (f x).2.2)->
  eZ G (xs.foldl (fun st x=>reach st (f x).1 (f x).2.1 (f x).2.2) st) P cur/\jH st (xs.foldl (fun st x=>reach st (f x).1 (f x).2.1 (f x).2.2) st)/\∀ x∈xs,eY (xs.foldl (fun st x=>reach st (f x).1 (f x).2.1 (f x).2.2) st) (bJ (f x).1 (f x).2.1) (f x).2.2
 | [],st,I,_=>⟨I,jH.refl st,fun x l=>nomatch l⟩
 | x :: xs,st,I,h=>by
  obtain⟨d,j⟩:=h x Bi
  obtain⟨k,b,g⟩:=zao I d j
  obtain⟨e,c,i⟩:=qI f xs k fun y a=>by
   have:=h y (Bd _ a)
   rw[b.best];exact this
  refine⟨e,b.trans c,fun y a=>?_⟩
  rcases Az.mp a with z | z
  ·rw[z];exact c.le _ _ g
  ·exact i y z
def cD(G:Sr)(n:Nat):Str:=match G.rs[n]? with
 | some r=>r.name
 | none=>""
def dA(G:Sr)(n:Nat)(a:List Int):Option Str:=match G.rs[n]? with
 | some r=>r.parts[a.length - 1]?
 | none=>none
def cI(G:Sr)(n:Nat)(a:List Int):b5:=(cD G n,a.headD 0,a.getLastD 0)
def settle(G:Sr)(st:SS)(n:Nat)(a:List Int)(c:aH):SS:=match aF st.best (cI G n a) with
 | some _=>st
 | none=>((aF st.begun (cD G n,a.headD 0)).getD []).foldl (fun st y=>reach st y.1 (y.2.1 ++ [a.getLastD 0]) (dQ y.2.2 c)) {st with best:=st.best ++ [(cI G n a,c,n,a)],ends:=eP st.ends (cD G n,a.headD 0) (a.getLastD 0,c)}
def fI(st:SS)(n:Nat)(a:List Int)(c:aH)(b:Str):SS:=((aF st.ends (b,a.getLastD 0)).getD []).foldl (fun st z=>reach st n (a ++ [z.1]) (dQ c z.2)) {st with begun:=eP st.begun (b,a.getLastD 0) (n,a,c)}
def fP(G:Sr)(st:SS)(n:Nat)(b:List Int)(c:aH)(a:Str):SS:=(G.steps a (b.getLastD 0)).foldl (fun st z=>reach st n (b ++ [z.1]) (c.1 + z.2,c.2)) st
def process(G:Sr)(st:SS)(n:Nat)(b:List Int)(c:aH):SS:=match dA G n b with
 | none=>settle G st n b c
 | some a=>if G.own a=true then fI st n b c a else fP G st n b c a
structure Ob(G:Sr)(st:SS)(P:List bS)(cur:aH):Prop where
 zero:Le (0,0) cur
 fin:∀ y∈P,dA G y.1 y.2.1=none->∃ m k,aF st.best (cI G y.1 y.2.1)=some (m,k)/\Le m y.2.2
 wrd:∀ y∈P,∀ part,dA G y.1 y.2.1=some part->G.own part=false->∀ z∈G.steps part (y.2.1.getLastD 0),eY st (bJ y.1 (y.2.1 ++ [z.1])) (y.2.2.1 + z.2,y.2.2.2)
 nam:∀ y∈P,∀ part,dA G y.1 y.2.1=some part->G.own part=true->y∈(aF st.begun (part,y.2.1.getLastD 0)).getD []
 pair:∀ key,∀ y∈(aF st.begun key).getD [],∀ z∈(aF st.ends key).getD [],eY st (bJ y.1 (y.2.1 ++ [z.1])) (dQ y.2.2 z.2)
 bgn:∀ key,∀ y∈(aF st.begun key).getD [],y∈P/\dA G y.1 y.2.1=some key.1/\G.own key.1=true/\y.2.1.getLastD 0=key.2/\Le (0,0) y.2.2
 ends:∀ nm b e m,(e,m)∈(aF st.ends (nm,b)).getD []↔∃ k,aF st.best (nm,b,e)=some (m,k)
 bst:∀ f m n cut,aF st.best f=some (m,n,cut)->dA G n cut=none/\f=cI G n cut/\Le (0,0) m/\Le m cur
 ord:∀ pre e post,st.best=pre ++ e :: post->GI G pre e.2.2.1 e.2.2.2 e.2.1/\aF pre e.1=none
theorem zap{a b:aH}(h:Le (0,0) b):Le a (dQ a b):=by unfold Le dQ at *;simp only at *;lia
theorem zaq{a b:aH}(h:Le (0,0) b):Le a (dQ b a):=by unfold Le dQ at *;simp only at *;lia
theorem zar{G:Sr}{st:SS}{P:List bS}{cur c:aH}{n:Nat}{f:List Int}{t:List (aH×List (Nat×List Int))}(I:eZ G st P cur)(ht:gR st.q=some (c,(n,f),t))(D:aF st.reached (bJ n f)=some c):eZ G {st with q:=t} (P ++ [(n,f,c)]) c/\Le cur c/\GI G st.best n f c:=by
 have p:st.q≠[]:=fun e=>by rw[e] at ht;cases ht
 obtain⟨d,x,K,s,E,v,L,H,_⟩:=nC I.fall p
 rw[ht] at s
 simp only[Eg,Dl] at s
 obtain⟨rfl,rfl,rfl⟩:=s
 have J:=xR I.fall ht
 have i:(c,(n,f))∈aW st.q:=(v _).mpr (.inl rfl)
 have sub:∀ e∈aW t,e∈aW st.q:=fun e g=>(v e).mpr (.inr g)
 have o:=I.curq _ i
 have r:=I.nd
 rw[(J.map qk).nodup_iff,Ar,Dr] at r
 have l:∀ e∈aW t,Le c e.1:=fun e g=>by
  obtain⟨b,hb,eb⟩:=EO (sub e g)
  rw[<-eb];exact H b hb
 have A:∀ y∈P,lA y≠bJ n f:=fun y m e=>by
  have h:=I.fresh _ i y m e
  obtain⟨j,_,_⟩:=I.pr y m
  rw[e,D] at j
  cases j
  exact qE h
 refine⟨⟨E,fun e g=>I.item e (sub e g),fun e g=>I.ge e (sub e g),r.2,?_,fun y m=>?_,fun e g y m C=>?_,l,fun k d hd=>?_⟩,o,I.item _ i⟩
 ·rw[Bs,Gd]
  refine⟨I.once,by simp,fun a ha b hb e=>?_⟩
  obtain⟨y,m,rfl⟩:=Aw.mp ha
  rw[List.map_singleton,Ba] at hb
  exact A y m (by rw[e,hb];rfl)
 ·rcases Bo.mp m with z | z
  ·obtain⟨h,j,u⟩:=I.pr y z
   exact⟨h,j.trans o,u⟩
  ·rw[Ba.mp z]
   exact⟨D,Le.refl _,I.item _ i⟩
 ·rcases Bo.mp m with z | z
  ·exact I.fresh e (sub e g) y z C
  ·have B:=Ba.mp z
   subst B
   have h:=l e g
   have p:e.1≠c:=fun s=>r.1 (Aw.mpr ⟨e,g,by
    have w:bJ n f=bJ e.2.1 e.2.2:=C
    show(e.1,bJ e.2.1 e.2.2)=(c,bJ n f)
    rw[s,w]⟩)
   show cC c e.1=true
   cases F:cC c e.1 with
   | true=>rfl
   | false=>exact absurd (Le.antisymm (xO.mpr (by rw[F];decide)) h) p
 ·rcases I.hit k d hd with⟨e,h,j,u⟩ | ⟨y,h,j⟩
  ·rcases(v e).mp h with z | z
   ·subst z
    exact .inr ⟨(n,f,c),Dc _ (Ba.mpr rfl),u,j⟩
   ·exact .inl ⟨e,z,j,u⟩
  ·exact .inr ⟨y,Ep _ h,j⟩
theorem zas{G:Sr}{st:SS}{P:List bS}{cur c d:aH}{n:Nat}{a:List Int}{w:List (aH×List (Nat×List Int))}(I:eZ G st P cur)(ht:gR st.q=some (c,(n,a),w))(D:aF st.reached (bJ n a)=some d)(hd:cC d c=true):eZ G {st with q:=w} P c/\Le cur c:=by
 have r:st.q≠[]:=fun e=>by rw[e] at ht;cases ht
 obtain⟨H,x,J,t,B,p,K,E,_⟩:=nC I.fall r
 rw[ht] at t
 simp only[Eg,Dl] at t
 obtain⟨rfl,rfl,rfl⟩:=t
 have F:=xR I.fall ht
 have v:(c,(n,a))∈aW st.q:=(p _).mpr (.inl rfl)
 have sub:∀ e∈aW w,e∈aW st.q:=fun e f=>(p e).mpr (.inr f)
 have i:=I.curq _ v
 have m:=I.nd
 rw[(F.map qk).nodup_iff,Ar,Dr] at m
 refine⟨⟨B,fun e f=>I.item e (sub e f),fun e f=>I.ge e (sub e f),m.2,I.once,fun y A=>?_,fun e f y A C=>I.fresh e (sub e f) y A C,fun e f=>?_,fun k u o=>?_⟩,i⟩
 ·obtain⟨s,j,l⟩:=I.pr y A
  exact⟨s,j.trans i,l⟩
 ·obtain⟨b,hb,eb⟩:=EO (sub e f)
  rw[<-eb];exact E b hb
 ·rcases I.hit k u o with⟨e,s,j,l⟩ | h
  ·rcases(p e).mp s with z | z
   ·subst z
    have l:bJ n a=k:=l
    have j:c=u:=j
    have g:aF st.reached k=some u:=o
    rw[<-l,D] at g
    cases g
    rw[<-j] at hd
    exact absurd hd qE
   ·exact .inl ⟨e,z,j,l⟩
  ·exact .inr h
theorem Ob.later{G:Sr}{st:SS}{P:List bS}{cur c:aH}(o:Ob G st P cur)(h:Le cur c)(b:List (aH×List (Nat×List Int))):Ob G {st with q:=b} P c:=
 ⟨o.zero.trans h,o.fin,o.wrd,o.nam,o.pair,o.bgn,o.ends,fun f m n a e=>let ⟨h1,h2,h3,h4⟩:=o.bst f m n a e;⟨h1,h2,h3,h4.trans h⟩,o.ord⟩
theorem GI.rule{G:Sr}{B:fH}{n:Nat}{b:List Int}{c:aH}(g:GI G B n b c):∃ r,G.rs[n]? = some r:=by
 cases g with
 | start a _=>exact⟨_,a⟩
 | word _ a _ _ _=>exact⟨_,a⟩
 | name _ a _ _ _=>exact⟨_,a⟩
theorem part_of{G:Sr}{n:Nat}{a:List Int}{r:aY}(h:G.rs[n]? = some r):dA G n a=r.parts[a.length - 1]?:=by unfold dA;rw[h]
theorem iY{α:Type}{P:List α}{x y:α}(h:y∈P ++ [x]):y∈P\/y=x:=by
 rcases Bo.mp h with z | z
 ·exact .inl z
 ·exact .inr (Ba.mp z)
theorem zat{G:Sr}(ok:qH G){st:SS}{P:List bS}{c:aH}{n:Nat}{i:List Int}{a:Str}(I:eZ G st (P ++ [(n,i,c)]) c)(o:Ob G st P c)(g:GI G st.best n i c)(v:dA G n i=some a)(A:G.own a=false) :
  eZ G (fP G st n i c a) (P ++ [(n,i,c)]) c/\Ob G (fP G st n i c a) (P ++ [(n,i,c)]) c/\∀ k d,eY st k d->eY (fP G st n i c a) k d:=by
 obtain⟨r,t⟩:=g.rule
 rw[part_of t] at v
 obtain⟨C,j,B⟩:=qI (fun z:Int×Int=>(n,i ++ [z.1],(c.1 + z.2,c.2))) (G.steps a (i.getLastD 0)) I fun z hz=>⟨.word g t v A hz,by
  have:=ok.pr _ _ _ _ hz
  show Le c (c.1 + z.2,c.2)
  unfold Le;simp only;lia⟩
 refine⟨C,⟨o.zero,fun y p x=>?_,fun y p pt l s z hz=>?_,fun y p pt l s=>?_,fun key y p z hz=>?_,fun key y p=>?_,fun nm b e m=>?_,fun f m D w e=>?_,fun pre e u h=>?_⟩,j.le⟩
 ·rcases iY p with z | z
  ·obtain⟨m,k,l,s⟩:=o.fin y z x
   exact⟨m,k,by rw[show(fP G st n i c a).best=st.best from j.best];exact l,s⟩
  ·subst z
   rw[part_of t,v] at x;cases x
 ·rcases iY p with q | q
  ·exact j.le _ _ (o.wrd y q pt l s z hz)
  ·subst q
   rw[part_of t,v] at l
   cases l
   exact B z hz
 ·rcases iY p with q | q
  ·rw[show(fP G st n i c a).begun=st.begun from j.begun]
   exact o.nam y q pt l s
  ·subst q
   rw[part_of t,v] at l
   cases l
   rw[A] at s;cases s
 ·rw[show(fP G st n i c a).begun=st.begun from j.begun] at p
  rw[show(fP G st n i c a).ends=st.ends from j.ends] at hz
  exact j.le _ _ (o.pair key y p z hz)
 ·rw[show(fP G st n i c a).begun=st.begun from j.begun] at p
  obtain⟨l,s⟩:=o.bgn key y p
  exact⟨Ep _ l,s⟩
 ·rw[show(fP G st n i c a).ends=st.ends from j.ends,show(fP G st n i c a).best=st.best from j.best]
  exact o.ends nm b e m
 ·rw[show(fP G st n i c a).best=st.best from j.best] at e
  exact o.bst f m D w e
 ·rw[show(fP G st n i c a).best=st.best from j.best] at h
  exact o.ord pre e u h
theorem zau{G:Sr}{st:SS}{P:List bS}{c:aH}{n:Nat}{a:List Int}{i:Str}(I:eZ G st (P ++ [(n,a,c)]) c)(o:Ob G st P c)(g:GI G st.best n a c)(D:dA G n a=some i)(x:G.own i=true) :
  eZ G (fI st n a c i) (P ++ [(n,a,c)]) c/\Ob G (fI st n a c i) (P ++ [(n,a,c)]) c/\∀ k d,eY st k d->eY (fI st n a c i) k d:=by
 obtain⟨r,E⟩:=g.rule
 have s:=D
 rw[part_of E] at D
 obtain⟨J,u,H⟩:=qI (G:=G) (P:=P ++ [(n,a,c)]) (cur:=c) (st:={st with begun:=eP st.begun (i,a.getLastD 0) (n,a,c)}) (fun z:Int×aH=>(n,a ++ [z.1],dQ c z.2)) ((aF st.ends (i,a.getLastD 0)).getD []) ⟨I.fall,I.item,I.ge,I.nd,I.once,I.pr,I.fresh,I.curq,I.hit⟩ fun z hz=>by
  obtain⟨k,hk⟩:=(o.ends i (a.getLastD 0) z.1 z.2).mp hz
  exact⟨.name g E D x hk,zap (o.bst _ _ _ _ hk).2.2.1⟩
 have hb:(fI st n a c i).best=st.best:=u.best
 have F:(fI st n a c i).ends=st.ends:=u.ends
 have K:(fI st n a c i).begun=eP st.begun (i,a.getLastD 0) (n,a,c):=u.begun
 have j:∀ key y,y∈(aF (fI st n a c i).begun key).getD []↔y∈(aF st.begun key).getD []\/(i,a.getLastD 0)=key/\y=(n,a,c):=fun key y=>by
  rw[K,qG]
  by_cases h:(i,a.getLastD 0)=key
  ·rw[if_pos h,Bo,Ba]
   exact⟨fun z=>z.imp id fun q=>⟨h,q⟩,fun z=>z.imp id fun q=>q.2⟩
  ·rw[if_neg h]
   exact⟨.inl,fun z=>z.elim id fun q=>absurd q.1 h⟩
 refine⟨J,⟨o.zero,fun y p C=>?_,fun y p pt l t z hz=>?_,fun y p pt l t=>?_,fun key y p z hz=>?_,fun key y p=>?_,fun nm b e m=>?_,fun f m L w e=>?_,fun pre e v h=>?_⟩,u.le⟩
 ·rcases iY p with z | z
  ·rw[hb];exact o.fin y z C
  ·subst z
   rw[s] at C;cases C
 ·rcases iY p with q | q
  ·exact u.le _ _ (o.wrd y q pt l t z hz)
  ·subst q
   rw[s] at l
   cases l
   rw[x] at t;cases t
 ·rw[j]
  rcases iY p with q | q
  ·exact .inl (o.nam y q pt l t)
  ·subst q
   rw[s] at l
   cases l
   exact .inr ⟨rfl,rfl⟩
 ·rw[F] at hz
  rcases(j key y).mp p with q | ⟨A,B⟩
  ·exact u.le _ _ (o.pair key y q z hz)
  ·subst B
   rw[<-A] at hz
   exact H z hz
 ·rcases(j key y).mp p with q | ⟨A,B⟩
  ·obtain⟨l,t⟩:=o.bgn key y q
   exact⟨Ep _ l,t⟩
  ·subst B
   rw[<-A]
   exact⟨Dc _ (Ba.mpr rfl),s,x,rfl,o.zero⟩
 ·rw[F,hb];exact o.ends nm b e m
 ·rw[hb] at e;exact o.bst f m L w e
 ·rw[hb] at h;exact o.ord pre e v h
theorem zav{G:Sr}{st:SS}{P:List bS}{c:aH}{n:Nat}{a:List Int}(I:eZ G st (P ++ [(n,a,c)]) c)(o:Ob G st P c)(g:GI G st.best n a c)(D:dA G n a=none) :
  eZ G (settle G st n a c) (P ++ [(n,a,c)]) c/\Ob G (settle G st n a c) (P ++ [(n,a,c)]) c/\∀ k d,eY st k d->eY (settle G st n a c) k d:=by
 unfold settle
 cases hf:aF st.best (cI G n a) with
 | some v=>
  obtain⟨m,k⟩:=v
  obtain⟨_,_,_,T⟩:=o.bst _ _ _ _ hf
  refine⟨I,⟨o.zero,fun y j H=>?_,fun y j pt i l z hz=>?_,fun y j pt i l=>?_,o.pair,fun key y j=>?_,o.ends,o.bst,o.ord⟩,fun _ _ h=>h⟩
  ·rcases iY j with z | z
   ·exact o.fin y z H
   ·subst z;exact⟨m,k,hf,T⟩
  ·rcases iY j with q | q
   ·exact o.wrd y q pt i l z hz
   ·subst q;rw[D] at i;cases i
  ·rcases iY j with q | q
   ·exact o.nam y q pt i l
   ·subst q;rw[D] at i;cases i
  ·obtain⟨i,l⟩:=o.bgn key y j
   exact⟨Ep _ i,l⟩
 | none=>
  simp only
  have new:∀ f,aF (st.best ++ [(cI G n a,c,n,a)]) f=if cI G n a=f then some (c,n,a) else aF st.best f:=fun f=>by
   rw[xP]
   by_cases h:cI G n a=f
   ·subst h;rw[if_pos rfl,if_pos rfl,hf];rfl
   ·rw[if_neg h,if_neg h,Option.or_none]
  have mono:∀ f v,aF st.best f=some v->aF (st.best ++ [(cI G n a,c,n,a)]) f=some v:=fun f v h=>by
   rw[new,if_neg (fun e=>by rw[<-e,hf] at h;cases h)];exact h
  obtain⟨s,r⟩:∃ z:SS,z = {st with best:=st.best ++ [(cI G n a,c,n,a)],ends:=eP st.ends (cD G n,a.headD 0) (a.getLastD 0,c)}:=⟨_,rfl⟩
  have b1:s.best=st.best ++ [(cI G n a,c,n,a)]:=by rw[r]
  have S:s.ends=eP st.ends (cD G n,a.headD 0) (a.getLastD 0,c):=by rw[r]
  have O:s.begun=st.begun:=by rw[r]
  have W:s.reached=st.reached:=by rw[r]
  have q0:s.q=st.q:=by rw[r]
  have Y:eZ G s (P ++ [(n,a,c)]) c:=by
   rw[r]
   exact⟨I.fall,fun e X=>(I.item e X).mono mono,I.ge,I.nd,I.once,fun y j=>let ⟨i,l,J⟩:=I.pr y j;⟨i,l,J.mono mono⟩,I.fresh,I.curq,I.hit⟩
  rw[<-r]
  obtain⟨L,x,K⟩:=qI (fun y:bS=>(y.1,y.2.1 ++ [a.getLastD 0],dQ y.2.2 c)) ((aF st.begun (cD G n,a.headD 0)).getD []) Y fun y j=>by
   obtain⟨i,l,J,V,U⟩:=o.bgn _ y j
   obtain⟨_,_,M⟩:=I.pr y (Ep _ i)
   obtain⟨ry,w⟩:=M.rule
   rw[part_of w] at l
   refine⟨.name (k:=(n,a)) (by rw[b1];exact M.mono mono) w l J ?_,zaq U⟩
   rw[b1,new,if_pos (by show(cD G n,a.headD 0,a.getLastD 0)=(cD G n,y.2.1.getLastD 0,a.getLastD 0);rw[V])]
  obtain⟨t,C⟩:∃ z,z=((aF st.begun (cD G n,a.headD 0)).getD []).foldl (fun st y=>reach st y.1 (y.2.1 ++ [a.getLastD 0]) (dQ y.2.2 c)) s:=⟨_,rfl⟩
  rw[<-C] at L x K ⊢
  have B:t.best=st.best ++ [(cI G n a,c,n,a)]:=x.best.trans b1
  have E:t.ends=eP st.ends (cD G n,a.headD 0) (a.getLastD 0,c):=x.ends.trans S
  have N:t.begun=st.begun:=x.begun.trans O
  have le:∀ k d,eY st k d->eY t k d:=fun k d h=>x.le k d (by
   obtain⟨z,i,l⟩:=h
   exact⟨z,by rw[W];exact i,l⟩)
  have u:∀ key z,z∈(aF t.ends key).getD []↔z∈(aF st.ends key).getD []\/(cD G n,a.headD 0)=key/\z=(a.getLastD 0,c):=fun key z=>by
   rw[E,qG]
   by_cases h:(cD G n,a.headD 0)=key
   ·rw[if_pos h,Bo,Ba]
    exact⟨fun z=>z.imp id fun q=>⟨h,q⟩,fun z=>z.imp id fun q=>q.2⟩
   ·rw[if_neg h]
    exact⟨.inl,fun z=>z.elim id fun q=>absurd q.1 h⟩
  refine⟨L,⟨o.zero,fun y j H=>?_,fun y j pt i l z hz=>?_,fun y j pt i l=>?_,fun key y j z hz=>?_,fun key y j=>?_,fun nm b e m=>?_,fun f m Z F e=>?_,fun pre e A h=>?_⟩,le⟩
  ·rw[B]
   rcases iY j with z | z
   ·obtain⟨m,k,i,l⟩:=o.fin y z H
    exact⟨m,k,mono _ _ i,l⟩
   ·subst z
    exact⟨c,(n,a),by rw[new,if_pos rfl],Le.refl _⟩
  ·rcases iY j with q | q
   ·exact le _ _ (o.wrd y q pt i l z hz)
   ·subst q;rw[D] at i;cases i
  ·rw[N]
   rcases iY j with q | q
   ·exact o.nam y q pt i l
   ·subst q;rw[D] at i;cases i
  ·rw[N] at j
   rcases(u key z).mp hz with q | ⟨Q,R⟩
   ·exact le _ _ (o.pair key y j z q)
   ·subst R
    rw[<-Q] at j
    exact K y j
  ·rw[N] at j
   obtain⟨i,l⟩:=o.bgn key y j
   exact⟨Ep _ i,l⟩
  ·rw[u,B,new,o.ends]
   by_cases h:cI G n a=(nm,b,e)
   ·rw[if_pos h]
    unfold cI at h
    simp only[Dl] at h
    obtain⟨rfl,rfl,rfl⟩:=h
    constructor
    ·rintro(⟨k,hk⟩ | ⟨_,hk⟩)
     ·rw[show(cD G n,a.headD 0,a.getLastD 0)=cI G n a from rfl,hf] at hk;cases hk
     ·cases hk;exact⟨(n,a),rfl⟩
    ·rintro⟨k,hk⟩
     cases hk
     exact .inr ⟨rfl,rfl⟩
   ·rw[if_neg h]
    constructor
    ·rintro(hk | ⟨i,l⟩)
     ·exact hk
     ·cases i;cases l;exact absurd rfl h
    ·exact .inl
  ·rw[B,new] at e
   by_cases h:cI G n a=f
   ·rw[if_pos h] at e
    cases e
    exact⟨D,h.symm,o.zero,Le.refl _⟩
   ·rw[if_neg h] at e
    exact o.bst f m Z F e
  ·rw[B] at h
   rcases Gy A with z | ⟨ps,p,z⟩
   ·subst z
    have h':=Mq h rfl
    have l:=h'.2
    simp only[Cy,and_true] at l
    rw[<-h'.1,<-l]
    exact⟨g,hf⟩
   ·rw[Gz] at z
    subst z
    rw[show pre ++ e :: (ps ++ [p])=(pre ++ e :: ps) ++ [p] by simp] at h
    have h':=Mq h rfl
    exact o.ord pre e ps h'.1
theorem zaw{G:Sr}(ok:qH G){st:SS}{P:List bS}{c:aH}{n:Nat}{a:List Int}(I:eZ G st (P ++ [(n,a,c)]) c)(o:Ob G st P c)(g:GI G st.best n a c) :
  eZ G (process G st n a c) (P ++ [(n,a,c)]) c/\Ob G (process G st n a c) (P ++ [(n,a,c)]) c/\∀ k d,eY st k d->eY (process G st n a c) k d:=by
 unfold process
 cases e:dA G n a with
 | none=>exact zav I o g e
 | some b=>
  simp only
  cases f:G.own b with
  | true=>rw[if_pos rfl];exact zau I o g e f
  | false=>rw[if_neg (by decide)];exact zat ok I o g e f
inductive DI(G:Sr):Nat->List Int->aH->Prop
 | start {n:Nat} {r:aY} {p:Int}:G.rs[n]? = some r->p∈G.places->DI G n [p] (G.wt n,1)
 | word {n:Nat} {r:aY} {cut:List Int} {c:aH} {part:Str} {e pr:Int}:DI G n cut c->G.rs[n]? = some r->r.parts[cut.length - 1]? = some part->G.own part=false->(e,pr)∈G.steps part (cut.getLastD 0)->DI G n (cut ++ [e]) (c.1 + pr,c.2)
 | name {n n':Nat} {r:aY} {cut cut':List Int} {c m:aH} {part:Str}:DI G n cut c->G.rs[n]? = some r->r.parts[cut.length - 1]? = some part->G.own part=true->DI G n' cut' m->dA G n' cut'=none->cD G n'=part->cut'.headD 0=cut.getLastD 0->DI G n (cut ++ [cut'.getLastD 0]) (dQ c m)
theorem DI.ne{G:Sr}{n:Nat}{a:List Int}{c:aH}(h:DI G n a c):a≠[]:=by cases h <;> simp
theorem ES{n:Nat}{a b:List Int}{e:Int}(h:bJ n a=bJ n b)(ha:a≠[])(hb:b≠[]):bJ n (a ++ [e])=bJ n (b ++ [e]):=by
 unfold bJ at *
 simp only[Dl,true_and] at h
 obtain⟨d,c,f⟩:=h
 have hl:∀ l:List Int,(l ++ [e]).getLastD 0=e:=fun l=>by simp[Jl]
 rw[hl,hl,Av,Av,d]
 cases a with
 | nil=>exact absurd rfl ha
 | cons x a=>
  cases b with
  | nil=>exact absurd rfl hb
  | cons y b=>
   simp only[List.headD_cons] at c
   subst c
   rfl
theorem tI{G:Sr}{n c:Nat}{a b:List Int}(h:bJ n a=bJ c b):n=c/\dA G n a=dA G c b/\cI G n a=cI G c b/\a.getLastD 0=b.getLastD 0:=by
 unfold bJ at h
 simp only[Dl] at h
 obtain⟨rfl,f,e,d⟩:=h
 refine⟨rfl,?_,?_,d⟩
 ·unfold dA;rw[f]
 ·unfold cI;rw[e,d]
def xS(G:Sr)(st:SS):Prop:=∀ n r p,G.rs[n]? = some r->p∈G.places->eY st (bJ n [p]) (G.wt n,1)
theorem zax{G:Sr}{st:SS}{P:List bS}{cur:aH}(I:eZ G st P cur)(o:Ob G st P cur)(hi:xS G st)(V:st.q=[]){n:Nat}{f:List Int}{c:aH}(h:DI G n f c):eY st (bJ n f) c:=by
 have done:∀ {n:Nat} {f:List Int} {c:aH},eY st (bJ n f) c->∃ y∈P,lA y=bJ n f/\Le y.2.2 c:=fun {n f c} h=>by
  obtain⟨d,v,D⟩:=h
  rcases I.hit _ _ v with⟨e,T,_⟩ | ⟨y,t,X,e2⟩
  ·rw[V] at T;cases T
  ·exact⟨y,t,X,by rw[e2];exact D⟩
 induction h with
 | start a b=>exact hi _ _ _ a b
 | @word n r f c g e pr hd M K H hs E=>
  obtain⟨y,t,B,u⟩:=done E
  obtain⟨x,p,_,i⟩:=tI (G:=G) B
  have l:=(I.pr y t).2.2.ne
  have:=o.wrd y t g (by rw[p,part_of M];exact K) H (e,pr) (by rw[i];exact hs)
  obtain⟨d,v,D⟩:=this
  refine⟨d,?_,D.trans ?_⟩
  ·have k:bJ n y.2.1=bJ n f:=by rw[<-B];unfold lA;rw[x]
   rw[<-ES k l hd.ne,<-x];exact v
  ·unfold Le at u ⊢;simp only at *;lia
 | @name n Y r f j c m g hd M K H Z z R Q E O=>
  obtain⟨y,t,B,u⟩:=done E
  obtain⟨x,p,_,i⟩:=tI (G:=G) B
  obtain⟨W,J,k,w⟩:=done O
  obtain⟨hn',C,s,_⟩:=tI (G:=G) k
  obtain⟨S,U,hb,F⟩:=o.fin W J (by rw[C];exact z)
  rw[s] at hb
  have L:aF st.best (g,f.getLastD 0,j.getLastD 0)=some (S,U):=by
   have:cI G Y j=(g,f.getLastD 0,j.getLastD 0):=by unfold cI;rw[R,Q]
   rw[<-this];exact hb
  have hz:=(o.ends g (f.getLastD 0) (j.getLastD 0) S).mpr ⟨U,L⟩
  have A:=o.nam y t g (by rw[p,part_of M];exact K) H
  rw[i] at A
  have l:=(I.pr y t).2.2.ne
  obtain⟨d,v,D⟩:=o.pair _ y A _ hz
  refine⟨d,?_,D.trans (zam u (F.trans w))⟩
  have N:bJ n y.2.1=bJ n f:=by rw[<-B];unfold lA;rw[x]
  rw[<-ES N l hd.ne,<-x];exact v
theorem zay{G:Sr}{st:SS}{P:List bS}{cur:aH}(I:eZ G st P cur)(o:Ob G st P cur)(hi:xS G st)(i:st.q=[]){n:Nat}{a:List Int}{c:aH}(h:DI G n a c)(hf:dA G n a=none):∃ m k,aF st.best (cI G n a)=some (m,k)/\Le m c:=by
 obtain⟨d,t,r⟩:=zax I o hi i h
 rcases I.hit _ _ t with⟨e,g,_⟩ | ⟨y,p,j,s⟩
 ·rw[i] at g;cases g
 ·obtain⟨_,f,b,_⟩:=tI (G:=G) j
  obtain⟨m,k,hb,l⟩:=o.fin y p (by rw[f];exact hf)
  rw[b] at hb
  exact⟨m,k,hb,l.trans (by rw[s];exact r)⟩
theorem xT{G:Sr}{B:fH}(h:∀ f m n e,aF B f=some (m,n,e)->DI G n e m/\dA G n e=none/\f=cI G n e){n:Nat}{e:List Int}{c:aH}(g:GI G B n e c):DI G n e c:=by
 induction g with
 | start a b=>exact .start a b
 | word _ a b c d i=>exact .word i a b c d
 | name t r p v hb i=>
  rename_i k
  obtain⟨x,l⟩:=k
  obtain⟨u,q,j⟩:=h _ _ _ _ hb
  unfold cI at j
  simp only[Dl] at j
  obtain⟨o,w,s⟩:=j
  rw[s]
  exact .name i r p v u q o.symm w.symm
theorem ET{κ c:Type}[DecidableEq κ]{t:List (κ×c)}{k:κ}{v:c}(h:aF t k=some v):∃ a b,t=a ++ (k,v) :: b:=by
 induction t with
 | nil=>cases h
 | cons e t d=>
  rw[dW] at h
  by_cases hk:e.1=k
  ·rw[if_pos hk] at h
   cases h
   exact⟨[],t,by rw[<-hk];rfl⟩
  ·rw[if_neg hk] at h
   obtain⟨a,b,rfl⟩:=d h
   exact⟨e :: a,b,rfl⟩
theorem EU{G:Sr}{st:SS}{P:List bS}{cur:aH}(o:Ob G st P cur):∀ (k:Nat) (pre:fH) (e:b5×aH×Nat×List Int) (c:fH),pre.length=k->st.best=pre ++ e :: c->DI G e.2.2.1 e.2.2.2 e.2.1:=by
 intro k
 induction k using Nat.strongRecOn with
 | _ k u=>
  intro pre e c hk hb
  obtain⟨g,_⟩:=o.ord pre e c hb
  refine xT (B:=pre) (fun f m n d hf=>?_) g
  obtain⟨a,b,p⟩:=ET hf
  have i:st.best=a ++ (f,m,n,d) :: (b ++ e :: c):=by rw[hb,p];simp
  have l:a.length < k:=by rw[<-hk,p];simp
  have hd:=u a.length l a _ _ rfl i
  have j:=(o.ord a _ _ i).2
  have q:aF st.best f=some (m,n,d):=by
   rw[i]
   have:∀ {a:fH} {x:b5×aH×Nat×List Int} {r:fH},aF a x.1=none->aF (a ++ x :: r) x.1=some x.2:=by
    intro a
    induction a with
    | nil=>intro x r _;rw[Lb,dW,if_pos rfl]
    | cons y a s=>
     intro x r h
     rw[dW] at h
     rw[List.cons_append,dW]
     by_cases t:y.1=x.1
     ·rw[if_pos t] at h;cases h
     ·rw[if_neg t] at h ⊢
      exact s h
   exact this (x:=(f,m,n,d)) j
  obtain⟨w,v,_⟩:=o.bst f m n d q
  exact⟨hd,w,v⟩
theorem tJ{G:Sr}{st:SS}{P:List bS}{cur:aH}(o:Ob G st P cur){f:b5}{m:aH}{n:Nat}{c:List Int}(h:aF st.best f=some (m,n,c)):DI G n c m/\dA G n c=none/\f=cI G n c:=by
 obtain⟨a,b,d⟩:=ET h
 obtain⟨g,e,_⟩:=o.bst f m n c h
 exact⟨EU o a.length a _ b rfl d,g,e⟩
theorem EV(st:SS)(n:Nat)(a:List Int)(c:aH):∃ j,j<=1/\(aW (reach st n a c).q).length=(aW st.q).length + j/\(reach st n a c).reached.length<=st.reached.length + j:=by
 have push:∃ j,j<=1/\(aW (dH c (n,a) st.q)).length=(aW st.q).length + j/\(cT st.reached (bJ n a) c).length<=st.reached.length + j:=⟨1,Ai _,tH _ _ _,tG _ _ _⟩
 unfold reach
 cases aF st.reached (bJ n a) with
 | none=>exact push
 | some d=>
  simp only
  split
  ·exact push
  ·exact⟨0,by lia,rfl,by lia⟩
theorem qJ{α:Type}(f:α->Nat×List Int×aH):∀ (xs:List α) (st:SS),∃ j,j<=xs.length/\(aW (xs.foldl (fun st x=>reach st (f x).1 (f x).2.1 (f x).2.2) st).q).length=(aW st.q).length + j/\(xs.foldl (fun st x=>reach st (f x).1 (f x).2.1 (f x).2.2) st).reached.length<=st.reached.length + j
 | [],st=>⟨0,Ai _,rfl,Ai _⟩
 | x :: xs,st=>by
  obtain⟨b,i,d,h⟩:=EV st (f x).1 (f x).2.1 (f x).2.2
  obtain⟨a,g,c,e⟩:=qJ f xs (reach st (f x).1 (f x).2.1 (f x).2.2)
  refine⟨b + a,by rw[Bt];lia,?_,?_⟩
  ·rw[Ge,c,d];lia
  ·rw[Ge];lia
def f6(G:Sr)(S:Nat)(st:SS)(y:bS):Nat:=match dA G y.1 y.2.1 with
 | none=>0
 | some a=>if G.own a=true then((aF st.ends (a,y.2.1.getLastD 0)).getD []).length else S
structure Cn(G:Sr)(S I0:Nat)(st:SS)(P:List bS)(T:Nat):Prop where
 put:(aW st.q).length + T<=I0 + (P.map (f6 G S st)).sum
 rch:st.reached.length<=(aW st.q).length + T
 bnd:∀ key,((aF st.begun key).getD []).Nodup
 enn:∀ key,(((aF st.ends key).getD []).map Dh).Nodup
theorem tK(f:bS->Nat)(P:List bS)(x:bS):((P ++ [x]).map f).sum=(P.map f).sum + f x:=by simp
theorem xU{G:Sr}{S:Nat}{st st':SS}(h:st'.ends=st.ends):f6 G S st'=f6 G S st:=by
 funext y;unfold f6;rw[h]
theorem zaz{G:Sr}{S h T:Nat}{st:SS}{P:List bS}{c:aH}{n:Nat}{a:List Int}{b:Str}(C:Cn G S h st P T)(w:∀ t p,(G.steps t p).length<=S)(s:dA G n a=some b)(m:G.own b=false):Cn G S h (fP G st n a c b) (P ++ [(n,a,c)]) T:=by
 obtain⟨j,D,y,A⟩:=qJ (fun z:Int×Int=>(n,a ++ [z.1],(c.1 + z.2,c.2))) (G.steps b (a.getLastD 0)) st
 have keep:∀ (xs:List (Int×Int)) (st:SS),(xs.foldl (fun st z=>reach st n (a ++ [z.1]) (c.1 + z.2,c.2)) st).ends=st.ends/\(xs.foldl (fun st z=>reach st n (a ++ [z.1]) (c.1 + z.2,c.2)) st).begun=st.begun:=by
  intro xs
  induction xs with
  | nil=>intro st;exact⟨rfl,rfl⟩
  | cons x xs l=>
   intro st
   rw[Ge]
   obtain⟨r,B⟩:=l (reach st n (a ++ [x.1]) (c.1 + x.2,c.2))
   have i:(reach st n (a ++ [x.1]) (c.1 + x.2,c.2)).ends=st.ends/\(reach st n (a ++ [x.1]) (c.1 + x.2,c.2)).begun=st.begun:=by
    unfold reach
    split
    ·split <;> exact⟨rfl,rfl⟩
    ·exact⟨rfl,rfl⟩
   exact⟨r.trans i.1,B.trans i.2⟩
 obtain⟨o,u⟩:=keep (G.steps b (a.getLastD 0)) st
 have d:(fP G st n a c b).ends=st.ends:=o
 have e:(fP G st n a c b).begun=st.begun:=u
 have f:(aW (fP G st n a c b).q).length=(aW st.q).length + j:=y
 have v:(fP G st n a c b).reached.length<=st.reached.length + j:=A
 have hs:=w b (a.getLastD 0)
 have k:=C.put
 have g:=C.rch
 refine⟨?_,by lia,fun key=>by rw[e];exact C.bnd key,fun key=>by rw[d];exact C.enn key⟩
 rw[xU d,tK,f]
 have:f6 G S st (n,a,c)=S:=by
  unfold f6
  rw[s]
  simp only
  rw[if_neg (by rw[m];decide)]
 lia
theorem zaA(st:SS)(n:Nat)(a:List Int)(c:aH):(reach st n a c).ends=st.ends/\(reach st n a c).begun=st.begun/\(reach st n a c).best=st.best:=by
 unfold reach
 split
 ·split <;> exact⟨rfl,rfl,rfl⟩
 ·exact⟨rfl,rfl,rfl⟩
theorem xV{α:Type}(f:α->Nat×List Int×aH):∀ (xs:List α) (st:SS),(xs.foldl (fun st x=>reach st (f x).1 (f x).2.1 (f x).2.2) st).ends=st.ends/\(xs.foldl (fun st x=>reach st (f x).1 (f x).2.1 (f x).2.2) st).begun=st.begun/\(xs.foldl (fun st x=>reach st (f x).1 (f x).2.1 (f x).2.2) st).best=st.best
 | [],st=>⟨rfl,rfl,rfl⟩
 | x :: xs,st=>by
  rw[Ge]
  obtain⟨g,e,d⟩:=xV f xs (reach st (f x).1 (f x).2.1 (f x).2.2)
  obtain⟨c,b,a⟩:=zaA st (f x).1 (f x).2.1 (f x).2.2
  exact⟨g.trans c,e.trans b,d.trans a⟩
theorem zaB{G:Sr}{S t T:Nat}{st:SS}{P:List bS}{cur c:aH}{n:Nat}{f:List Int}{d:Str}(C:Cn G S t st P T)(o:Ob G st P cur)(l:(n,f,c)∉P)(A:dA G n f=some d)(y:G.own d=true):Cn G S t (fI st n f c d) (P ++ [(n,f,c)]) T:=by
 obtain⟨i,g⟩:∃ z:SS,z = {st with begun:=eP st.begun (d,f.getLastD 0) (n,f,c)}:=⟨_,rfl⟩
 obtain⟨j,D,v,x⟩:=qJ (fun z:Int×aH=>(n,f ++ [z.1],dQ c z.2)) ((aF st.ends (d,f.getLastD 0)).getD []) i
 obtain⟨s,u,_⟩:=xV (fun z:Int×aH=>(n,f ++ [z.1],dQ c z.2)) ((aF st.ends (d,f.getLastD 0)).getD []) i
 have k:(fI st n f c d).ends=st.ends:=by
  have:(fI st n f c d).ends=i.ends:=by rw[g] at s ⊢;exact s
  rw[this,g]
 have m:(fI st n f c d).begun=eP st.begun (d,f.getLastD 0) (n,f,c):=by
  have:(fI st n f c d).begun=i.begun:=by rw[g] at u ⊢;exact u
  rw[this,g]
 have p:(aW (fI st n f c d).q).length=(aW st.q).length + j:=by rw[g] at v;exact v
 have B:(fI st n f c d).reached.length<=st.reached.length + j:=by rw[g] at x;exact x
 have w:=C.put
 have r:=C.rch
 refine⟨?_,by lia,fun key=>?_,fun key=>by rw[k];exact C.enn key⟩
 ·rw[xU k,tK,p]
  have:f6 G S st (n,f,c)=((aF st.ends (d,f.getLastD 0)).getD []).length:=by
   unfold f6
   rw[A]
   simp only
   rw[if_pos y]
  lia
 ·rw[m,qG]
  split
  ·rename_i h
   rw[Gd]
   refine⟨C.bnd key,by simp,fun a ha b hb e=>?_⟩
   rw[Ba] at hb
   rw[e,hb] at ha
   exact l (o.bgn key _ ha).1
  ·exact C.bnd key
theorem len_sub{α:Type}[DecidableEq α]:∀ {a b:List α},a.Nodup->(∀ x∈a,x∈b)->a.length<=b.length
 | [],b,_,_=>Co _
 | x :: a,b,d,hs=>by
  rw[Dr] at d
  have f:=hs x Bi
  have h:=len_sub (a:=a) (b:=b.erase x) d.2 fun y g=>by
   have c:y≠x:=fun e=>d.1 (by rw[<-e];exact g)
   exact(List.mem_erase_of_ne c).mpr (hs y (Bd _ g))
  rw[List.length_erase_of_mem f] at h
  have:=My f
  rw[Bt];lia
theorem EW{f g:bS->Nat}{p:bS->Bool}:∀ {P:List bS},(∀ y∈P,g y=f y + if p y=true then 1 else 0)->(P.map g).sum=(P.map f).sum + (P.filter p).length
 | [],_=>rfl
 | y :: P,h=>by
  have a:=EW (P:=P) fun z hz=>h z (Bd _ hz)
  rw[Ar,Ar,List.sum_cons,List.sum_cons,a,h y Bi,Ff]
  split <;> simp <;> lia
theorem zaC{G:Sr}{S H T:Nat}{st:SS}{P:List bS}{cur c:aH}{n:Nat}{d:List Int}(C:Cn G S H st P T)(o:Ob G st P cur)(M:dA G n d=none):Cn G S H (settle G st n d c) (P ++ [(n,d,c)]) T:=by
 have g:∀ st',f6 G S st' (n,d,c)=0:=fun st'=>by unfold f6;rw[M]
 have J:=C.put
 have B:=C.rch
 unfold settle
 cases hf:aF st.best (cI G n d) with
 | some v=>
  simp only
  refine⟨?_,C.rch,C.bnd,C.enn⟩
  rw[tK,g];lia
 | none=>
  simp only
  obtain⟨l,f⟩:∃ z:SS,z = {st with best:=st.best ++ [(cI G n d,c,n,d)],ends:=eP st.ends (cD G n,d.headD 0) (d.getLastD 0,c)}:=⟨_,rfl⟩
  rw[<-f]
  obtain⟨j,u,x,A⟩:=qJ (fun y:bS=>(y.1,y.2.1 ++ [d.getLastD 0],dQ y.2.2 c)) ((aF st.begun (cD G n,d.headD 0)).getD []) l
  obtain⟨F,I,_⟩:=xV (fun y:bS=>(y.1,y.2.1 ++ [d.getLastD 0],dQ y.2.2 c)) ((aF st.begun (cD G n,d.headD 0)).getD []) l
  obtain⟨r,s⟩:∃ z,z=((aF st.begun (cD G n,d.headD 0)).getD []).foldl (fun st y=>reach st y.1 (y.2.1 ++ [d.getLastD 0]) (dQ y.2.2 c)) l:=⟨_,rfl⟩
  rw[<-s] at x A F I ⊢
  have E:r.ends=eP st.ends (cD G n,d.headD 0) (d.getLastD 0,c):=by rw[F,f]
  have N:r.begun=st.begun:=by rw[I,f]
  have V:(aW l.q).length=(aW st.q).length:=by rw[f]
  have W:l.reached.length=st.reached.length:=by rw[f]
  obtain⟨w,i⟩:∃ w:bS->Bool,w=fun y=>decide (dA G y.1 y.2.1=some (cD G n)/\G.own (cD G n)=true/\y.2.1.getLastD 0=d.headD 0):=⟨_,rfl⟩
  have t:(P.map (f6 G S r)).sum=(P.map (f6 G S st)).sum + (P.filter w).length:=EW fun y K=>by
   unfold f6
   cases m:dA G y.1 y.2.1 with
   | none=>rw[i];simp[m]
   | some p=>
    simp only
    cases D:G.own p with
    | false=>
     rw[i]
     simp only[m,Eg]
     rw[if_neg (by decide),if_neg (by decide),if_neg (by rw[decide_eq_true_eq];rintro⟨u,x,_⟩;rw[<-u,D] at x;cases x)]
     rfl
    | true=>
     rw[if_pos rfl,if_pos rfl,E,qG]
     by_cases h:(cD G n,d.headD 0)=(p,y.2.1.getLastD 0)
     ·rw[if_pos h]
      simp only[Dl] at h
      rw[i]
      simp only[m,Eg]
      rw[if_pos (by rw[decide_eq_true_eq];exact⟨h.1.symm,by rw[h.1];exact D,h.2.symm⟩)]
      simp
     ·rw[if_neg h]
      rw[i]
      simp only[m,Eg]
      rw[if_neg (by rw[decide_eq_true_eq];rintro⟨u,_,A⟩;exact h (by rw[u,A]))]
      lia
  have R:((aF st.begun (cD G n,d.headD 0)).getD []).length<=(P.filter w).length:=len_sub (C.bnd _) fun y K=>by
   obtain⟨O,U,L,Q,_⟩:=o.bgn _ y K
   rw[Fp,i]
   exact⟨O,decide_eq_true ⟨U,L,Q⟩⟩
  refine⟨?_,by lia,fun key=>by rw[N];exact C.bnd key,fun key=>?_⟩
  ·rw[tK,g,t];lia
  ·rw[E,qG]
   split
   ·rename_i h
    rw[Bs,Gd]
    refine⟨C.enn key,by simp,fun a ha b hb e=>?_⟩
    obtain⟨z,hz,rfl⟩:=Aw.mp ha
    rw[List.map_singleton,Ba] at hb
    rw[<-h] at hz
    obtain⟨k,hk⟩:=(o.ends _ _ z.1 z.2).mp hz
    rw[e,hb] at hk
    have:aF st.best (cI G n d)=some (z.2,k):=hk
    rw[hf] at this;cases this
   ·exact C.enn key
def nD(G:Sr)(st:SS):SS:=match gR st.q with
 | none=>st
 | some (c,(n,a),b)=>match aF st.reached (bJ n a) with
  | some d=>if cC d c=true then {st with q:=b} else process G {st with q:=b} n a c
  | none=>{st with q:=b}
structure All(G:Sr)(S I0:Nat)(st:SS)(P:List bS)(cur:aH)(T:Nat):Prop where
 inv:eZ G st P cur
 ob:Ob G st P cur
 ini:xS G st
 cn:Cn G S I0 st P T
theorem Cn.q{G:Sr}{S b T:Nat}{st:SS}{P:List bS}{a:List (aH×List (Nat×List Int))}(C:Cn G S b st P T)(h:(aW st.q).length=(aW a).length + 1):Cn G S b {st with q:=a} P (T + 1):=by
 have d:=C.put
 have c:=C.rch
 refine⟨?_,?_,C.bnd,C.enn⟩
 ·show(aW a).length + (T + 1)<=_
  rw[xU (st':={st with q:=a}) (st:=st) rfl]
  lia
 ·show st.reached.length<=(aW a).length + (T + 1)
  lia
theorem zaD{G:Sr}{S g T:Nat}{st:SS}{P:List bS}{cur c:aH}{n:Nat}{a:List Int}(C:Cn G S g st P T)(o:Ob G st P cur)(h:∀ t p,(G.steps t p).length<=S)(d:(n,a,c)∉P):Cn G S g (process G st n a c) (P ++ [(n,a,c)]) T:=by
 unfold process
 cases e:dA G n a with
 | none=>exact zaC C o e
 | some b=>
  simp only
  cases f:G.own b with
  | true=>rw[if_pos rfl];exact zaB C o d e f
  | false=>rw[if_neg (by decide)];exact zaz C h e f
theorem zaE{G:Sr}(ok:qH G){S m T:Nat}{st:SS}{P:List bS}{cur:aH}(A:All G S m st P cur T)(z:∀ t p,(G.steps t p).length<=S)(w:st.q≠[]):∃ v a,All G S m (nD G st) v a (T + 1):=by
 obtain⟨c,x,l,f,H,F,u,I,_⟩:=nC A.inv.fall w
 obtain⟨n,i⟩:=x
 have e:(c,(n,i))∈aW st.q:=(F _).mpr (.inl rfl)
 obtain⟨d,hd,k⟩:=A.inv.ge _ e
 unfold nD
 rw[f]
 simp only
 rw[hd]
 simp only
 by_cases hl:cC d c=true
 ·rw[if_pos hl]
  obtain⟨b,hc⟩:=zas A.inv f hd hl
  exact⟨P,c,b,A.ob.later hc l,A.ini,A.cn.q u⟩
 ·rw[if_neg hl]
  have h:d=c:=Le.antisymm k (xO.mpr hl)
  subst h
  obtain⟨b,hc,g⟩:=zar A.inv f hd
  have o:=A.ob.later hc l
  obtain⟨E,B,j⟩:=zaw ok b o g
  refine⟨_,_,E,B,fun n r p y D=>j _ _ (A.ini n r p y D),zaD (A.cn.q u) o z fun C=>?_⟩
  have s:=b.once
  rw[Bs,Gd] at s
  exact s.2.2 _ (Aw.mpr ⟨_,C,rfl⟩) _ (by simp) rfl
def f7:SS:=⟨[],[],[],[],[]⟩
def jI(G:Sr):List (Nat×Int):=(Ce G.rs.length).flatMap fun n=>G.places.map fun p=>(n,p)
def lB(G:Sr):SS:=(jI G).foldl (fun st x=>reach st x.1 [x.2] (G.wt x.1,1)) f7
theorem zaF{G:Sr}(ok:qH G)(S:Nat):All G S (jI G).length (lB G) [] (0,0) 0:=by
 have C:eZ G f7 [] (0,0):=⟨trivial,(fun e c=>nomatch c),(fun e c=>nomatch c),Fz,Fz,(fun y a=>nomatch a),(fun e c=>nomatch c),(fun e c=>nomatch c),(fun k d hd=>nomatch hd)⟩
 have i:∀ x∈jI G,(∃ r,G.rs[x.1]? = some r)/\x.2∈G.places:=fun x l=>by
  obtain⟨n,D,l⟩:=Ht.mp l
  obtain⟨p,g,rfl⟩:=Aw.mp l
  exact⟨⟨_,An (Eh.mp D)⟩,g⟩
 obtain⟨E,s,H⟩:=qI (fun x:Nat×Int=>(x.1,[x.2],(G.wt x.1,(1:Int)))) (jI G) C fun x l=>by
  obtain⟨⟨r,t⟩,g⟩:=i x l
  refine⟨.start t g,?_⟩
  have:=ok.wt x.1
  show Le (0,0) (G.wt x.1,1)
  unfold Le;simp only;lia
 obtain⟨j,I,o,B⟩:=qJ (fun x:Nat×Int=>(x.1,[x.2],(G.wt x.1,(1:Int)))) (jI G) f7
 have v:(lB G).best=[]:=s.best
 have A:(lB G).ends=[]:=s.ends
 have u:(lB G).begun=[]:=s.begun
 refine⟨E,⟨Le.refl _,(fun y a=>nomatch a),(fun y a=>nomatch a),(fun y a=>nomatch a),fun key y a=>?_,fun key y a=>?_,fun nm b e m=>?_,fun f m n F e=>?_,fun pre e w h=>?_⟩,fun n r p t g=>?_,⟨?_,?_,fun key=>?_,fun key=>?_⟩⟩
 ·rw[u] at a;cases a
 ·rw[u] at a;cases a
 ·rw[A,v]
  exact⟨(fun z=>nomatch z),(fun⟨k,hk⟩=>nomatch hk)⟩
 ·rw[v] at e;cases e
 ·rw[v] at h
  cases pre <;> cases h
 ·exact H (n,p) (Ht.mpr ⟨n,Eh.mpr (Ao.mp t).1,Aw.mpr ⟨p,g,rfl⟩⟩)
 ·have o:(aW (lB G).q).length=(aW f7.q).length + j:=o
  have:(aW f7.q).length=0:=rfl
  simp only[Kg,List.sum_nil]
  lia
 ·have o:(aW (lB G).q).length=(aW f7.q).length + j:=o
  have B:(lB G).reached.length<=f7.reached.length + j:=B
  have J:(aW f7.q).length=0:=rfl
  have K:f7.reached.length=0:=rfl
  lia
 ·rw[u];exact Fz
 ·rw[A];exact Fz
structure tL(G:Sr)(V:List Int)(N L:Nat):Prop where
 pl:∀ p∈G.places,p∈V
 st:∀ t p e c,p∈V->(e,c)∈G.steps t p->e∈V
 few:G.rs.length<=N
 len:∀ r∈G.rs,r.parts.length + 1<=L
theorem tM{l:List Int}(h:l≠[]):l.getLastD 0∈l:=by
 rcases Gy l with z | ⟨a,b,z⟩
 ·exact absurd z h
 ·rw[z,Gz];simp[Jl]
theorem zaG{l:List Int}(h:l≠[]):l.headD 0∈l:=by
 cases l with
 | nil=>exact absurd rfl h
 | cons a b=>simp
theorem tN{G:Sr}{V:List Int}{N L:Nat}(v:tL G V N L){n:Nat}{a:List Int}{c:aH}(h:DI G n a c):(∀ x∈a,x∈V)/\n < N/\a.length<=L:=by
 induction h with
 | @start n r p b d=>
  have w:=(Ao.mp b).1
  have:=v.len r (Be b)
  have:=v.few
  exact⟨fun x g=>by rw[Ba.mp g];exact v.pl p d,by lia,by simp;lia⟩
 | @word n r a c f e pr hd b d t hs j=>
  obtain⟨i,q,y⟩:=j
  have hl:=(Ao.mp d).1
  have:=v.len r (Be b)
  have k:=Jn.mpr hd.ne
  refine⟨fun x g=>?_,q,by rw[Av,Eb];lia⟩
  rcases Bo.mp g with z | z
  ·exact i x z
  ·rw[Ba.mp z];exact v.st _ _ _ _ (i _ (tM hd.ne)) hs
 | @name n B r a s c m f hd b d t l hf w A j o=>
  obtain⟨i,q,y⟩:=j
  obtain⟨u,_,_⟩:=o
  have hl:=(Ao.mp d).1
  have:=v.len r (Be b)
  have k:=Jn.mpr hd.ne
  refine⟨fun x g=>?_,q,by rw[Av,Eb];lia⟩
  rcases Bo.mp g with z | z
  ·exact i x z
  ·rw[Ba.mp z];exact u _ (tM l.ne)
def tO(V:List Int)(N L:Nat):List K4:=(Ce N).flatMap fun n=>(Ce (L + 1)).flatMap fun l=>V.flatMap fun a=>V.map fun b=>(n,l,a,b)
theorem qK{α a:Type}{f:α->List a}{k:Nat}:∀ {l:List α},(∀ x∈l,(f x).length=k)->(l.flatMap f).length=l.length * k
 | [],_=>by simp
 | x :: l,h=>by
  rw[List.flatMap_cons,Av,h x Bi,qK fun y b=>h y (Bd _ b),Bt,Nat.succ_mul];lia
theorem zaH(V:List Int)(N L:Nat):(tO V N L).length=N * ((L + 1) * (V.length * V.length)):=by
 unfold tO
 rw[qK (k:=(L + 1) * (V.length * V.length)) fun n _=>?_,Ez]
 rw[qK (k:=V.length * V.length) fun l _=>?_,Ez]
 rw[qK (k:=V.length) fun a _=>by rw[Ab]]
theorem EX{G:Sr}{V:List Int}{N L S t T:Nat}{st:SS}{P:List bS}{cur:aH}(v:tL G V N L)(A:All G S t st P cur T):P.length<=N * ((L + 1) * (V.length * V.length))/\(∀ key,((aF st.ends key).getD []).length<=V.length)/\(aW st.q).length + T<=t + N * ((L + 1) * (V.length * V.length)) * (S + V.length):=by
 have i:∀ {B:fH} {n a c},B=st.best->GI G B n a c->DI G n a c:=fun {B n a c} e g=>xT (B:=B) (fun f m D o h=>tJ A.ob (by rw[<-e];exact h)) g
 have u:P.length<=N * ((L + 1) * (V.length * V.length)):=by
  have:=len_sub (b:=tO V N L) A.inv.once fun k hk=>by
   obtain⟨y,x,rfl⟩:=Aw.mp hk
   have hd:=i rfl (A.inv.pr y x).2.2
   obtain⟨j,s,E⟩:=tN v hd
   unfold tO
   refine Ht.mpr ⟨y.1,Eh.mpr s,Ht.mpr ⟨y.2.1.length,Eh.mpr (by lia),Ht.mpr ⟨_,j _ (zaG hd.ne),Aw.mpr ⟨_,j _ (tM hd.ne),rfl⟩⟩⟩⟩
  rw[Ab,zaH] at this
  exact this
 have r:∀ key,((aF st.ends key).getD []).length<=V.length:=fun key=>by
  have:=len_sub (b:=V) (A.cn.enn key) fun e w=>by
   obtain⟨z,hz,rfl⟩:=Aw.mp w
   obtain⟨k,hk⟩:=(A.ob.ends key.1 key.2 z.1 z.2).mp hz
   obtain⟨n,a⟩:=k
   obtain⟨hd,_,hf⟩:=tJ A.ob hk
   unfold cI at hf
   simp only[Dl] at hf
   rw[hf.2.2]
   exact(tN v hd).1 _ (tM hd.ne)
  rw[Ab] at this
  exact this
 refine⟨u,r,?_⟩
 have p:(P.map (f6 G S st)).sum<=P.length * (S + V.length):=by
  have hd:∀ y,f6 G S st y<=S + V.length:=fun y=>by
   unfold f6
   split
   ·lia
   ·rename_i d _
    split
    ·have:=r (d,y.2.1.getLastD 0)
     lia
    ·lia
  have:∀ l:List bS,(l.map (f6 G S st)).sum<=l.length * (S + V.length):=by
   intro l
   induction l with
   | nil=>simp
   | cons y l C=>rw[Ar,List.sum_cons,Bt,Nat.succ_mul];have:=hd y;lia
  exact this P
 have j:=A.cn.put
 have s:P.length * (S + V.length)<=N * ((L + 1) * (V.length * V.length)) * (S + V.length):=Nat.mul_le_mul_right _ u
 lia
theorem oM{κ:Type}[DecidableEq κ]{kvs:List (κ×W)}{k j:κ}{w:W}:bD (bZ kvs k w) j=if k=j then some w else bD kvs j:=k9 kvs k j w
theorem nE{κ:Type}[DecidableEq κ](e:κ×W)(t:List (κ×W))(k:κ):bD (e :: t) k=if e.1=k then some e.2 else bD t k:=dW e t k
theorem tP{κ:Type}[DecidableEq κ]{k j:κ}:∀ {kvs:List (κ×W)},bD (iX kvs k) j=if k=j then none else bD kvs j
 | []=>by unfold iX;rw[List.filter_nil];split <;> rfl
 | e :: t=>by
  have b:=tP (k:=k) (j:=j) (kvs:=t)
  unfold iX at b ⊢
  rw[Ff]
  by_cases h:e.1=k
  ·rw[if_neg (by simp[h]),b,nE]
   by_cases a:k=j
   ·rw[if_pos a,if_pos a]
   ·rw[if_neg a,if_neg a,if_neg (by rw[h];exact a)]
  ·rw[if_pos (by simp[h]),nE,b,nE]
   by_cases a:k=j
   ·rw[if_pos a,if_pos a,if_neg (by rw[<-a];exact h)]
   ·rw[if_neg a,if_neg a]
theorem xW{κ:Type}[DecidableEq κ](kvs:List (κ×W))(k:κ)(w:W):(bZ kvs k w).length<=kvs.length + 1:=tG kvs k w
theorem EY{κ:Type}[DecidableEq κ]{k:κ}:∀ {kvs:List (κ×W)},(bD kvs k).isSome=true->(iX kvs k).length < kvs.length
 | [],h=>by cases h
 | e :: t,h=>by
  unfold iX
  rw[Ff]
  have c:(t.filter fun b=>decide (b.1≠k)).length<=t.length:=Ik _ _
  by_cases a:e.1=k
  ·rw[if_neg (by simp[a]),Bt];omega
  ·rw[if_pos (by simp[a]),Bt,Bt]
   rw[nE,if_neg a] at h
   have:=EY h
   unfold iX at this
   omega
structure dX{κ:Type}(kk:κ->List aD)(M0 M:Mm)(a:Addr)(kvs:List (List aD×W))(g:κ->Option (List W)):Prop where
 sub:L3.Sub M0 M
 new:M0 a=none
 at_:M a=some (.dT kvs)
 non:∀ k,g k=none->bD kvs (kk k)=none
 som:∀ k ws,g k=some ws->∃ p,bD kvs (kk k)=some (.ref p)/\p≠a/\M0 p=none/\M p=some (.lst ws)
 inj:∀ k j p,bD kvs (kk k)=some (.ref p)->bD kvs (kk j)=some (.ref p)->k=j
theorem hZ{M0 M:Mm}{p:Addr}{o:MO}(h:L3.Sub M0 M)(n:M0 p=none):L3.Sub M0 (put M p o):=fun a u e=>by
 rw[aP (fun z=>by rw[z,n] at e;cases e)];exact h a u e
section
variable {κ:Type}[DecidableEq κ]{kk:κ->List aD}{M0 M:Mm}{a p:Addr}{kvs:List (List aD×W)}{g:κ->Option (List W)}{o:MO}{k:κ}{ws:List W}
theorem dX.lift(h:dX kk M0 M a kvs g)(i:M p=none\/∃ u,M0 p=some u):dX kk (put M0 p o) (put M p o) a kvs g:=by
 have ne:∀ {b:Addr},M0 b=none->(∃ u,M b=some u)->b≠p:=fun {b} j ⟨u,c⟩ e=>by
  subst e
  rcases i with z | ⟨v,z⟩
  ·rw[c] at z;cases z
  ·rw[j] at z;cases z
 refine⟨Sub.put h.sub,?_,?_,h.non,fun k ws e=>?_,h.inj⟩
 ·rw[aP (ne h.new ⟨_,h.at_⟩)];exact h.new
 ·rw[aP (ne h.new ⟨_,h.at_⟩)];exact h.at_
 ·obtain⟨q,c,l,f,d⟩:=h.som k ws e
  have:=ne f ⟨_,d⟩
  exact⟨q,c,l,by rw[aP this];exact f,by rw[aP this];exact d⟩
theorem dX.more(h:dX kk M0 M a kvs g)(d:M p=none):dX kk M0 (put M p o) a kvs g:=by
 have ne:∀ {b:Addr},(∃ u,M b=some u)->b≠p:=fun {b} ⟨u,c⟩ e=>by subst e;rw[d] at c;cases c
 refine⟨hZ h.sub (h.sub.non d),h.new,by rw[aP (ne ⟨_,h.at_⟩)];exact h.at_,h.non,fun k ws e=>?_,h.inj⟩
 obtain⟨q,c,j,i,f⟩:=h.som k ws e
 exact⟨q,c,j,i,by rw[aP (ne ⟨_,f⟩)];exact f⟩
theorem dX.has(h:dX kk M0 M a kvs g)(e:g k=some ws):∃ p,bD kvs (kk k)=some (.ref p)/\M p=some (.lst ws):=by
 obtain⟨q,c,_,_,b⟩:=h.som k ws e
 exact⟨q,c,b⟩
theorem dX.look(h:dX kk M0 M a kvs g)(k:κ):(bD kvs (kk k)).isSome=(g k).isSome:=by
 cases e:g k with
 | none=>rw[h.non k e];rfl
 | some ws=>obtain⟨q,b,_⟩:=h.has e;rw[b];rfl
theorem dX.wr(h:dX kk M0 M a kvs g)(hk:bD kvs (kk k)=some (.ref p)):dX kk M0 (put M p (.lst ws)) a kvs (fun j=>if k=j then some ws else g j):=by
 obtain⟨c,o⟩:∃ c,g k=some c:=by
  cases e:g k with
  | none=>rw[h.non k e] at hk;cases hk
  | some ws=>exact⟨_,rfl⟩
 obtain⟨q,l,i,f,s⟩:=h.som k c o
 rw[hk] at l
 cases l
 refine⟨hZ h.sub f,h.new,by rw[aP (Bq i)];exact h.at_,fun j e=>?_,fun j us e=>?_,h.inj⟩
 ·by_cases b:k=j
  ·rw[if_pos b] at e;cases e
  ·rw[if_neg b] at e;exact h.non j e
 ·by_cases b:k=j
  ·rw[if_pos b] at e;cases e
   subst b
   exact⟨p,hk,i,f,bC⟩
  ·rw[if_neg b] at e
   obtain⟨q,d,n,m,r⟩:=h.som j us e
   refine⟨q,d,n,m,?_⟩
   rw[aP (fun z=>b (h.inj k j p hk (by rw[<-z];exact d)))];exact r
theorem dX.add(c:∀ k j,kk k=kk j->k=j)(h:dX kk M0 M a kvs g)(A:g k=none)(o:M p=none):dX kk M0 (put (put M p (.lst ws)) a (.dT (bZ kvs (kk k) (.ref p)))) a (bZ kvs (kk k) (.ref p)) (fun j=>if k=j then some ws else g j):=by
 have ne:∀ {b:Addr},(∃ u,M b=some u)->b≠p:=fun {b} ⟨u,n⟩ e=>by subst e;rw[o] at n;cases n
 have s:p≠a:=Bq (ne ⟨_,h.at_⟩)
 have f:∀ j q,bD kvs (kk j)=some (.ref q)->∃ u,M q=some u:=fun j q e=>by
  cases x:g j with
  | none=>rw[h.non j x] at e;cases e
  | some us=>
   obtain⟨B,t,_,_,v⟩:=h.som j us x
   rw[e] at t;cases t
   exact⟨_,v⟩
 refine⟨hZ (hZ h.sub (h.sub.non o)) h.new,h.new,bC,fun j e=>?_,fun j us e=>?_,fun i j q l m=>?_⟩
 ·by_cases d:k=j
  ·rw[if_pos d] at e;cases e
  ·rw[if_neg d] at e
   rw[oM,if_neg (fun z=>d (c _ _ z))];exact h.non j e
 ·by_cases d:k=j
  ·rw[if_pos d] at e;cases e
   subst d
   exact⟨p,by rw[oM,if_pos rfl],s,h.sub.non o,by rw[aP s,bC]⟩
  ·rw[if_neg d] at e
   obtain⟨q,t,w,y,v⟩:=h.som j us e
   exact⟨q,by rw[oM,if_neg (fun z=>d (c _ _ z))];exact t,w,y,by rw[aP w,aP (ne ⟨_,v⟩)];exact v⟩
 ·rw[oM] at l m
  by_cases n:kk k=kk i
  ·by_cases r:kk k=kk j
   ·exact(c _ _ n).symm.trans (c _ _ r)
   ·rw[if_pos n] at l;rw[if_neg r] at m;cases l
    obtain⟨u,z⟩:=f j p m;rw[o] at z;cases z
  ·by_cases r:kk k=kk j
   ·rw[if_neg n] at l;rw[if_pos r] at m;cases m
    obtain⟨u,z⟩:=f i p l;rw[o] at z;cases z
   ·rw[if_neg n] at l;rw[if_neg r] at m
    exact h.inj i j q l m
theorem dX.del(c:∀ k j,kk k=kk j->k=j)(h:dX kk M0 M a kvs g):dX kk M0 (put M a (.dT (iX kvs (kk k)))) a (iX kvs (kk k)) (fun j=>if k=j then none else g j):=by
 refine⟨hZ h.sub h.new,h.new,bC,fun j e=>?_,fun j us e=>?_,fun i j q d f=>?_⟩
 ·rw[tP]
  by_cases b:k=j
  ·rw[if_pos (by rw[b])]
  ·rw[if_neg b] at e
   rw[if_neg (fun z=>b (c _ _ z))];exact h.non j e
 ·by_cases b:k=j
  ·rw[if_pos b] at e;cases e
  ·rw[if_neg b] at e
   obtain⟨q,n,l,m,o⟩:=h.som j us e
   exact⟨q,by rw[tP,if_neg (fun z=>b (c _ _ z))];exact n,l,m,by rw[aP l];exact o⟩
 ·rw[tP] at d f
  split at d
  ·cases d
  ·split at f
   ·cases f
   ·exact h.inj i j q d f
theorem dX.same{g':κ->Option (List W)}(h:dX kk M0 M a kvs g)(e:∀ k,g' k=g k):dX kk M0 M a kvs g':=by
 have:g'=g:=funext e
 rw[this];exact h
end
structure Cc where
 q:Addr
 s:Addr
def cW(c:aH):W:=.tup [.int c.1,.int c.2]
def cK(c:aH):List aD:=[Sum.inl c.1,Sum.inl c.2]
theorem xX(c:aH):cW c=.tup ((cK c).map wK):=rfl
theorem EZ:∀ a b:aH,cK a=cK b->a=b:=fun a b h=>by
 unfold cK at h
 simp only[Cy,Lp,and_true] at h
 exact Prod.ext h.1 h.2
def fJ(a:List Int):W:=.tup (a.map W.int)
def jJ(x:Nat×List Int):W:=.tup [.int x.1,fJ x.2]
section
variable {α:Type}
theorem tQ{κ a:Type}[DecidableEq κ]{t:List (κ×a)}{k:κ}(h:∀ e∈t,e.1≠k):aF t k=none:=by
 induction t with
 | nil=>rfl
 | cons e t b=>rw[dW,if_neg (h e Bi)];exact b fun x c=>h x (Bd _ c)
theorem tR{a b:aH}(h:cC a b=true):a≠b:=fun e=>by subst e;exact qE h
theorem E1(c:aH)(x:α)(d:aH):∀ {q:List (aH×List α)},gK q->aF (dH c x q) d=if c=d then some ((aF q c).getD [] ++ [x]) else aF q d
 | [],_=>by rw[dH,dW];rfl
 | (e,xs) :: r,h=>by
  obtain⟨_,j,g⟩:=h
  rw[dH]
  by_cases a:cC c e=true
  ·rw[if_pos a,dW,E1 c x d g,dW,dW,if_neg (Bq (tR a))]
   by_cases hd:e=d
   ·rw[if_pos hd,if_pos hd,if_neg (fun z=>tR a (z.trans hd.symm))]
   ·rw[if_neg hd,if_neg hd]
  ·rw[if_neg a]
   by_cases b:e=c
   ·subst b
    rw[if_pos rfl,dW,dW,dW,if_pos rfl]
    by_cases hd:e=d
    ·rw[if_pos hd,if_pos hd];rfl
    ·rw[if_neg hd,if_neg hd,if_neg hd]
   ·rw[if_neg b,dW]
    have i:aF ((e,xs) :: r) c=none:=tQ fun z hz=>by
     rcases Az.mp hz with y | y
     ·rw[y];exact b
     ·intro f
      have:=j z y
      rw[f] at this
      exact a this
    rw[i];rfl
def pos(c:aH):List aH->Nat
 | []=>0
 | d :: r=>if cC c d=true then pos c r + 1 else 0
theorem E2(c:aH):∀ cs:List aH,pos c cs<=cs.length
 | []=>Ai _
 | d :: r=>by
  rw[pos]
  split
  ·have:=E2 c r;simp;lia
  ·simp
theorem xY(c:aH)(x:α):∀ {q:List (aH×List α)},gK q->(aF q c).isSome=false->(dH c x q).map (·.1)=(q.map (·.1)).take (pos c (q.map (·.1))) ++ c :: (q.map (·.1)).drop (pos c (q.map (·.1)))
 | [],_,_=>rfl
 | (e,xs) :: r,h,a=>by
  obtain⟨_,g,f⟩:=h
  rw[dW] at a
  by_cases d:e=c
  ·rw[if_pos d] at a;cases a
  ·rw[if_neg d] at a
   rw[dH,Ar,pos]
   by_cases b:cC c e=true
   ·rw[if_pos b,if_pos b,Ar,xY c x f a];rfl
   ·rw[if_neg b,if_neg b,if_neg d];rfl
theorem E4(c:aH)(x:α):∀ {q:List (aH×List α)},gK q->(aF q c).isSome=true->(dH c x q).map (·.1)=q.map (·.1)
 | [],_,h=>by cases h
 | (e,xs) :: r,h,d=>by
  obtain⟨_,f,l⟩:=h
  rw[dW] at d
  rw[dH]
  by_cases a:cC c e=true
  ·rw[if_neg (Bq (tR a))] at d
   rw[if_pos a,Ar,E4 c x l d];rfl
  ·rw[if_neg a]
   by_cases g:e=c
   ·rw[if_pos g];rfl
   ·rw[if_neg g] at d
    obtain⟨ys,k⟩:=Option.isSome_iff_exists.mp d
    have:∃ z∈r,z.1=c:=by
     have:∀ {t:List (aH×List α)},aF t c=some ys->∃ z∈t,z.1=c:=by
      intro t
      induction t with
      | nil=>intro e;cases e
      | cons b t j=>
       intro e
       rw[dW] at e
       by_cases hb:b.1=c
       ·exact⟨b,Bi,hb⟩
       ·rw[if_neg hb] at e
        obtain⟨z,a,f⟩:=j e
        exact⟨z,Bd _ a,f⟩
     exact this k
    obtain⟨z,hz,i⟩:=this
    have:=f z hz
    rw[i] at this
    exact absurd this a
theorem xZ:∀ {q:List (aH×List α)},gK q->q.length<=(aW q).length
 | [],_=>Ai _
 | (e,xs) :: r,h=>by
  obtain⟨a,_,b⟩:=h
  have:=xZ b
  have:=Jn.mpr a
  rw[aW,Av,Ab,Bt];lia
theorem E5:∀ {q:List (aH×List α)} {c:aH},((aF q c).getD []).length<=(aW q).length
 | [],_=>Ai _
 | (e,xs) :: r,c=>by
  rw[dW,aW,Av,Ab]
  split
  ·show xs.length<=_;lia
  ·have:=E5 (q:=r) (c:=c);lia
theorem E6:∀ {q a:List (aH×List α)} {c:aH} {x:α},gK q->gR q=some (c,x,a)->∃ r ys,q=r ++ [(c,ys ++ [x])]/\a=(if ys.isEmpty then r else r ++ [(c,ys)])
 | [],a,c,x,_,h=>by cases h
 | [(d,xs)],a,c,x,hf,h=>by
  obtain⟨g,_,_⟩:=hf
  rcases Gy xs with z | ⟨ys,y,z⟩
  ·exact absurd z g
  ·rw[Gz] at z
   subst z
   simp[gR] at h
   obtain⟨rfl,rfl,rfl⟩:=h
   refine⟨[],ys,rfl,?_⟩
   cases ys <;> simp
 | e :: l :: r,a,c,x,hf,h=>by
  obtain⟨_,_,f⟩:=hf
  rw[gR] at h
  split at h
  ·cases h
  ·rename_i j x1 k b
   simp only[Eg,Dl] at h
   obtain⟨rfl,rfl,rfl⟩:=h
   obtain⟨i,ys,z1,z2⟩:=E6 f b
   refine⟨e :: i,ys,by rw[z1];rfl,?_⟩
   rw[z2]
   split <;> rfl
theorem tS{κ b:Type}[DecidableEq κ]{t:List (κ×b)}{k:κ}{v:b}(h:∀ e∈t,e.1≠k)(j:κ):aF (t ++ [(k,v)]) j=if k=j then some v else aF t j:=by
 rw[xP]
 by_cases a:k=j
 ·subst a;rw[if_pos rfl,if_pos rfl,tQ h];rfl
 ·rw[if_neg a,if_neg a,Option.or_none]
theorem E7:∀ {r:List (aH×List α)} {c:aH} {ys:List α},gK (r ++ [(c,ys)])->∀ e∈r,e.1≠c
 | [],_,_,_,e,h=>nomatch h
 | b :: r,c,ys,h,e,d=>by
  obtain⟨_,a,f⟩:=h
  rcases Az.mp d with z | z
  ·rw[z];exact Bq (tR (a (c,ys) (by simp)))
  ·exact E7 f e z
theorem E8:∀ {q:List (aH×List α)},gK q->(q.map (·.1)).Pairwise fun a b=>cC b a=true
 | [],_=>.nil
 | (e,xs) :: r,h=>by
  obtain⟨_,c,d⟩:=h
  rw[Ar,List.pairwise_cons]
  refine⟨fun a ha=>?_,E8 d⟩
  obtain⟨z,hz,rfl⟩:=Aw.mp ha
  exact c z hz
end
theorem E9{c:aH}:∀ {cs:List aH} {k:Nat},k<=cs.length->(∀ i d,i < k->cs[i]? = some d->cC c d=true)->(∀ i d,k<=i->cs[i]? = some d->cC c d=false)->pos c cs=k
 | [],k,h,_,_=>by simp at h;subst h;rfl
 | d :: r,k,h,f,b=>by
  rw[pos]
  cases k with
  | zero=>rw[if_neg (by rw[b 0 d (Ai _) rfl];decide)]
  | succ k=>
   rw[if_pos (f 0 d (by lia) rfl),E9 (k:=k) (by simpa using h) (fun i e hi a=>f (i + 1) e (by lia) (by simpa using a)) fun i e hi a=>b (i + 1) e (by lia) (by simpa using a)]
structure Aq where
 o:Addr
 d:Addr
 c:Addr
 w:Addr
def qf(A:Aq):List (Str×W):=[("costs",.ref A.c),("waiting",.ref A.w)]
theorem oN{A:Aq}:Ci ("costs" : Str) (qf A)=some (W.ref A.c):=by kernel_rfl
theorem oO{A:Aq}:Ci ("waiting" : Str) (qf A)=some (W.ref A.w):=by kernel_rfl
theorem zaI{A:Aq}:Ci ("place_of" : Str) (qf A)=none:=by kernel_rfl
theorem zaJ{A:Aq}:Ci ("put" : Str) (qf A)=none:=by kernel_rfl
theorem zaK{A:Aq}:Ci ("take" : Str) (qf A)=none:=by kernel_rfl
theorem zaL{A:Aq}:Ci ("is_done" : Str) (qf A)=none:=by kernel_rfl
structure Qm(C:Cc)(M0 M:Mm)(A:Aq)(cs:List aH):Prop where
 sub:L3.Sub M0 M
 no:M0 A.o=none
 nc:M0 A.c=none
 ne:A.o≠A.c
 ob:M A.o=some (.ins C.q A.d (qf A))
 co:M A.c=some (.lst (cs.map cW))
abbrev Qu:=List (aH×List (Nat×List Int))
abbrev wG(q:Qu):aH->Option (List W):=fun c=>(aF q c).map fun xs=>xs.map jJ
structure QR(C:Cc)(M0 M:Mm)(A:Aq)(q:Qu):Prop where
 fall:gK q
 ex:∃ M1 kvs,Qm C M0 M1 A (q.map (·.1))/\dX cK M1 M A.w kvs (wG q)/\kvs.length<=q.length
theorem Qm.lift{C:Cc}{M0 M:Mm}{A:Aq}{cs:List aH}{p:Addr}{o:MO}(h:Qm C M0 M A cs)(g:M p=none\/∃ u,M0 p=some u):Qm C (put M0 p o) (put M p o) A cs:=by
 have ne:∀ {b:Addr},M0 b=none->(∃ u,M b=some u)->b≠p:=fun {b} d ⟨u,f⟩ e=>by
  subst e
  rcases g with z | ⟨v,z⟩
  ·rw[f] at z;cases z
  ·rw[d] at z;cases z
 have a:=ne h.no ⟨_,h.ob⟩
 have c:=ne h.nc ⟨_,h.co⟩
 exact⟨Sub.put h.sub,by rw[aP a];exact h.no,by rw[aP c];exact h.nc,h.ne,by rw[aP a];exact h.ob,by rw[aP c];exact h.co⟩
theorem Qm.costs{C:Cc}{M0 M:Mm}{A:Aq}{cs cs':List aH}(h:Qm C M0 M A cs):Qm C M0 (put M A.c (.lst (cs'.map cW))) A cs':=
 ⟨hZ h.sub h.nc,h.no,h.nc,h.ne,by rw[aP h.ne];exact h.ob,bC⟩
theorem QR.lift{C:Cc}{M0 M:Mm}{A:Aq}{q:Qu}{p:Addr}{o:MO}(h:QR C M0 M A q)(b:M p=none\/∃ u,M0 p=some u):QR C (put M0 p o) (put M p o) A q:=by
 obtain⟨M1,kvs,a,c,d⟩:=h.ex
 refine⟨h.fall,put M1 p o,kvs,a.lift ?_,c.lift ?_,d⟩
 ·rcases b with z | z
  ·exact .inl (c.sub.non z)
  ·exact .inr z
 ·rcases b with z | ⟨u,z⟩
  ·exact .inl z
  ·exact .inr ⟨u,a.sub _ _ z⟩
theorem QR.more{C:Cc}{M0 M:Mm}{A:Aq}{q:Qu}{p:Addr}{o:MO}(h:QR C M0 M A q)(b:M p=none):QR C M0 (put M p o) A q:=by
 obtain⟨M1,kvs,a,c,d⟩:=h.ex
 exact⟨h.fall,M1,kvs,a,c.more b,d⟩
theorem QR.sub{C:Cc}{M0 M:Mm}{A:Aq}{q:Qu}(h:QR C M0 M A q):L3.Sub M0 M:=by
 obtain⟨M1,kvs,a,b,c⟩:=h.ex
 exact a.sub.trans b.sub
theorem QR.ob{C:Cc}{M0 M:Mm}{A:Aq}{q:Qu}(h:QR C M0 M A q):M A.o=some (.ins C.q A.d (qf A)):=by
 obtain⟨M1,kvs,a,b,c⟩:=h.ex
 exact b.sub _ _ a.ob
theorem QR.co{C:Cc}{M0 M:Mm}{A:Aq}{q:Qu}(h:QR C M0 M A q):M A.c=some (.lst ((q.map (·.1)).map cW)):=by
 obtain⟨M1,kvs,a,b,d⟩:=h.ex
 exact b.sub _ _ a.co
end Rg
set_option hygiene false in
local macro_rules | `(tactic| simp? only [$xs,*] $[$l:location]?) => `(tactic| simp only [L3.lZ, L3.mY, L3.kA, L3.fD, L3.j9, L3.wQ, L3.lX, L3.sR, L3.aT, L3.bH, L3.aA, L3.vC, L3.aG, L3.dC, L3.jY, L3.bW, L3.b6, L3.aE, L3.aB, L3.dD, L3.kS, L3.eV, L3.T8, L3.eE, L3.pR, L3.nT, L3.kR, L3.pT, L3.wA, L3.T7, L3.g9, L3.XA, L3.XB, L3.XC, L3.XD, L3.XE, L3.XF, L3.XG, L3.XH, L3.XI, L3.cP, L3.eN, L3.fV, L3.fN, L3.sG, L3.wL, L3.mB, L3.mV, L3.jF, L3.fE, L3.eF, L3.l8, L3.sP, L3.bQ, L3.fX, L3.cV, L3.iW, L3.XJ, L3.XM, L3.XN, L3.XO, L3.XQ, L3.XR, L3.XS, L3.XT, L3.XU, L3.XW, L3.XX, L3.XY, L3.XZ, L3.X0, L3.X1, L3.X2, L3.X3, L3.X4, L3.X5, L3.X6, L3.X7, L3.X8, L3.X9, L3.W0, L3.W5, L3.W6, V3, V4, V5, V6, V7, V8, V9, WA, WB, WC, WD, WE, WG, WH, WI, WJ, WK, WL, WM, WN, WO, WQ, WR, WS, WT, WU, WV, WW, WX, WY, WZ, L3.YA, L3.YB, L3.YC, L3.YD, L3.YE, L3.YF, L3.YG, L3.YH, L3.YI, L3.YJ, L3.YK, L3.YL, L3.YM, L3.YN, L3.YO, L3.YQ, L3.YR, L3.YS, L3.YT, L3.YU, L3.YV, L3.YW, L3.YX, L3.YY, L3.YZ, L3.Y0, L3.Y1, L3.Y2, L3.Y3, L3.Y4, L3.Y5, L3.Y6, L3.Y7, L3.Y8, L3.Y9, L3.ZA, L3.ZC, L3.ZD, L3.ZE, L3.ZF, L3.ZG, L3.ZH, L3.ZI, L3.ZJ, L3.ZK, L3.ZL, L3.ZM, L3.ZN, L3.ZO, L3.ZP, L3.ZQ, L3.ZR, L3.bK, L3.sQ, D5, VZ, V0, List.map_cons, List.map_nil, Option.bind_some, Option.bind_none, Option.join_some, List.getElem?_cons_zero, List.getElem?_cons_succ, List.set_cons_zero, List.set_cons_succ, Option.some.injEq, exists_eq_left', exists_eq_left, W.bl.injEq, W.int.injEq, W.str.injEq, Bool.false_eq_true, if_true, if_false, ↓reduceIte, true_and, and_true, sizeLine, bC, kO, MO.lst.injEq, MO.dK.injEq, MO.dT.injEq, exists_eq', exists_eq, true_or, or_true, false_and, and_false, or_false, false_or, reduceCtorEq, String.reduceEq, exists_false, V2, decide_eq_true_eq, Bool.not_eq_true', Bool.not_true, Bool.not_false, Classical.not_not, decide_eq_false_iff_not, Int.reduceLT, Int.reduceLE, Nat.reduceLT, Nat.reduceLeDiff, Nat.reducePow, List.length_cons, List.length_nil, Nat.reduceAdd, Nat.zero_add, Nat.zero_le, $xs,*] $[$l:location]?)
namespace Rg
open PySem PySem.Spec PyProof.Rows L2 L3
def yA(C:Cc):bX:=fun ws M R=>∃ M0 a c,ws=[.ref a]/\M=put M0 a (.ins C.q c [])/\M0 a=none/\∀ b (A:Aq),A.o=a->QR C M0 b A []->R .non b
def yB(C:Cc):bX:=fun ws M R=>∃ M0 A q,ws=[.ref A.o]/\QR C M0 M A q/\R (.bl (decide (q=[]))) M
def yC(C:Cc):bX:=fun ws M R=>∃ (A:Aq) (cs:List aH) (c:aH),ws=[.ref A.o,cW c]/\M A.o=some (.ins C.q A.d (qf A))/\M A.c=some (.lst (cs.map cW))/\cs.Pairwise (fun a b=>cC b a=true)/\cs.length < 10000000/\R (.int (pos c cs:Nat)) M
def tT(C:Cc):bX:=fun ws M R=>∃ M0 A q c x,ws=[.ref A.o,cW c,jJ x]/\QR C M0 M A q/\(aW (dH c x q)).length < 10000000/\∀ a,QR C M0 a A (dH c x q)->R .non a
def yD(C:Cc):bX:=fun ws M R=>∃ M0 A q c x a,ws=[.ref A.o]/\QR C M0 M A q/\gR q=some (c,x,a)/\∀ b,QR C M0 b A a->R (.tup [cW c,jJ x]) b
abbrev zaM:List Str:=["self"]
def yE(C:Cc):aK:=
   (aT (gQ C.q (aA 0) "costs" (kS aE))
   (gQ C.q (aA 0) "waiting" lX))
abbrev zaN:List Str:=["self"]
def yF(C:Cc):aK:=
   (cP (aG (rEq false) (bW cX (aB (bT C.q (aA 0) "costs") aE)) (vC (.int 0))))
abbrev zaO:List Str:=["self","cost","thing"]
def yG(C:Cc):aK:=
   (aT (eE (dC (aG (rIn true) (aA 1) (bT C.q (aA 0) "waiting")))
    (aT (lZ (kS aE) (mY (bT C.q (aA 0) "waiting") (aA 1)))
   (eN (fN "list" EK (bT C.q (aA 0) "costs") (aB (eW C.q "place_of" (yC C) (aA 0) (aB (aA 1) aE)) (aB (aA 1) aE)))))
    fV)
   (eN (fN "list" fU (aG aV (bT C.q (aA 0) "waiting") (aA 1)) (aB (aA 2) aE))))
abbrev zaP:List Str:=["self","cost","low","high","middle"]
def FA(C:Cc):aK:=
   (bH 2 (vC (.int 0)))
def FC(C:Cc):aK:=
   (bH 3 (bW cX (aB (bT C.q (aA 0) "costs") aE)))
def FD(C:Cc):aK:=
   (aT (bH 4 (aG nW (aG cA (aA 2) (aA 3)) (vC (.int 2))))
   (eE (dC (aG EI (aG aV (bT C.q (aA 0) "costs") (aA 4)) (aA 1)))
    (bH 2 (aG cA (aA 4) (vC (.int 1))))
    (bH 3 (aA 4))))
def FE(C:Cc):aK:=
   (n9 (dC (aG lU (aA 2) (aA 3))) (FD C))
def FF(C:Cc):aK:=
   (cP (aA 2))
def yH(C:Cc):aK:=(aT (FA C) (aT (FC C) (aT (FE C) (FF C))))
abbrev zaQ:List Str:=["self","cost","things","thing"]
def FG(C:Cc):aK:=
   (bH 1 (aG aV (bT C.q (aA 0) "costs") (jY j0 (vC (.int 1)))))
def FH(C:Cc):aK:=
   (bH 2 (aG aV (bT C.q (aA 0) "waiting") (aA 1)))
def FJ(C:Cc):aK:=
   (bH 3 (sG "list" rPop (aA 2)))
def FK(C:Cc):aK:=
   (eE (dC (aG (rEq false) (bW cX (aB (aA 2) aE)) (vC (.int 0))))
    (aT (eN (sG "list" rPop (bT C.q (aA 0) "costs")))
   (eN (fN "dict" EE (bT C.q (aA 0) "waiting") (aB (aA 1) aE))))
    fV)
def yI(C:Cc):aK:=
   (cP (dD (aB (aA 1) (aB (aA 3) aE))))
def yJ(C:Cc):aK:=(aT (FG C) (aT (FH C) (aT (FJ C) (aT (FK C) (yI C)))))
theorem zaR{C:Cc}:∀ ws M R,yA C ws M R->ws.length=1:=by rintro ws M R ⟨_,_,_,rfl,_⟩;rfl
theorem zaS{C:Cc}:∀ ws M R,yB C ws M R->ws.length=1:=by rintro ws M R ⟨_,_,_,rfl,_⟩;rfl
theorem zaT{C:Cc}:∀ ws M R,yC C ws M R->ws.length=2:=by rintro ws M R ⟨_,_,_,rfl,_⟩;rfl
theorem zaU{C:Cc}:∀ ws M R,tT C ws M R->ws.length=3:=by rintro ws M R ⟨_,_,_,_,_,rfl,_⟩;rfl
theorem zaV{C:Cc}:∀ ws M R,yD C ws M R->ws.length=1:=by rintro ws M R ⟨_,_,_,_,_,_,rfl,_⟩;rfl
theorem zaW{C:Cc}{ws:List W}{M:Mm}{R:K3}(h:yB C ws M R):yF C (bK R) (cF zaN ws) M:=by
 obtain⟨M0,A,q,rfl,a,r⟩:=h
 show yF C (bK R) [some (.ref A.o)] M
 simp? only[yF,L3.bT]
 refine⟨A.o,A.d,qf A,_,rfl,a.ob,oN,?_⟩
 simp? only[]
 refine .inl ⟨_,a.co,M,Sub.refl _,?_⟩
 have e:decide (((Gk cW (q.map fun x=>x.1)).length:Int)=0)=decide (q=[]):=by
  cases q <;> simp
  lia
 rw[e];exact r
theorem zaX{C:Cc}{ws:List W}{M:Mm}{R:K3}(h:yA C ws M R):yE C (bK R) (cF zaM ws) M:=by
 obtain⟨M0,a,c,rfl,rfl,ha,r⟩:=h
 show yE C (bK R) [some (.ref a)] (put M0 a (.ins C.q c []))
 simp? only[yE,L3.gQ]
 intro p m
 have d:p≠a:=fun e=>by rw[e,bC] at m;cases m
 have i:M0 p=none:=by rw[aP d] at m;exact m
 refine⟨a,c,[],rfl,by rw[aP (Bq d),bC],by decide,?_⟩
 intro w hw
 have f:w≠a:=fun e=>by rw[e,bC] at hw;cases hw
 have g:w≠p:=fun e=>by rw[e,aP d,bC] at hw;cases hw
 have l:M0 w=none:=by rw[aP f,aP g,aP f] at hw;exact hw
 refine⟨a,c,bR "costs" (.ref p) [],rfl,by rw[aP (Bq f),bC],(show(1:Nat) < 1000 by decide),_,Sub.refl _,r _ ⟨a,c,p,w⟩ rfl ⟨trivial,put (put M0 p (.lst [])) a (.ins C.q c (qf ⟨a,c,p,w⟩)),[],⟨hZ (hZ (Sub.refl _) i) ha,ha,i,Bq d,bC,by rw[aP d,bC];rfl⟩,?_,Ai _⟩⟩
 have e:put (put (put (put (put M0 a (.ins C.q c [])) p (.lst [])) a (.ins C.q c (bR "costs" (.ref p) []))) w (.dT [])) a (.ins C.q c (bR "waiting" (.ref w) (bR "costs" (.ref p) [])))=put (put (put M0 p (.lst [])) a (.ins C.q c (qf ⟨a,c,p,w⟩))) w (.dT []):=by
  have eq:bR "waiting" (.ref w) (bR "costs" (.ref p) [])=qf ⟨a,c,p,w⟩:=by
   show(if (("costs" : Str)=("waiting" : Str)) then _ else _)=_
   rw[if_neg (by decide +kernel)];rfl
  rw[eq]
  funext b
  unfold put
  by_cases n:b=a <;> by_cases o:b=w <;> by_cases s:b=p <;> simp_all
 rw[e]
 exact⟨hZ (Sub.refl _) (by rw[aP f,aP g];exact l),by rw[aP f,aP g];exact l,bC,(fun _ _=>rfl),(fun k ws e=>nomatch e),(fun k j p e=>nomatch e)⟩
theorem zaY{C:Cc}{ws:List W}{M:Mm}{R:K3}(h:yC C ws M R):yH C (bK R) (cF zaP ws) M:=by
 obtain⟨A,cs,c,rfl,y,hc,H,hl,r⟩:=h
 show yH C (bK R) [some (.ref A.o),some (cW c),none,none,none] M
 simp? only[yH,FA,FC,L3.bT]
 refine⟨A.o,A.d,qf A,_,rfl,y,oN,?_⟩
 simp? only[]
 refine .inl ⟨_,hc,?_⟩
 unfold FE L3.n9
 refine⟨fun m t w=>∃ lo hi:Nat,∃ o,t=[some (.ref A.o),some (cW c),some (.int lo),some (.int hi),o]/\w=M/\lo<=hi/\hi<=cs.length/\(∀ i d,i < lo->cs[i]? = some d->cC c d=true)/\(∀ i d,hi<=i->cs[i]? = some d->cC c d=false)/\m=hi - lo,⟨_,0,cs.length,none,by rw[Ab];rfl,rfl,Co _,Ai _,(fun i d hi=>absurd hi (Nat.not_lt_zero _)),(fun i d hi e=>by rw[Il hi] at e;cases e),rfl⟩,?_⟩
 rintro m t w ⟨lo,hi,o,rfl,rfl,J,x,v,u,rfl⟩
 simp? only[]
 by_cases p:lo < hi
 ·rw[if_pos (by simpa using p)]
  simp? only[FD,L3.bT]
  obtain⟨f,K⟩:∃ f,f=(lo + hi) / 2:=⟨_,rfl⟩
  have z:((lo:Int) + (hi:Int)) / 2=(f:Nat):=by lia
  rw[z]
  obtain⟨d,hd⟩:∃ d,cs[f]? = some d:=⟨_,An (by lia)⟩
  refine⟨A.o,A.d,qf A,_,rfl,y,oN,.inl ⟨_,cW d,hc,jO (by rw[Bh,hd];rfl),d.1,d.2,c.1,c.2,rfl,rfl,_,rfl,?_⟩⟩
  have pg:∀ i j a b,i < j->cs[i]? = some a->cs[j]? = some b->cC b a=true:=fun i j a b q n s=>by
   obtain⟨I,E⟩:=Ao.mp n
   obtain⟨F,G⟩:=Ao.mp s
   rw[<-E,<-G]
   exact Fu.mp H i j I F q
  show if cC c d=true then _ else _
  by_cases g:cC c d=true
  ·rw[if_pos g]
   refine⟨_,_,?_,Sub.refl _,f + 1,hi,_,rfl,rfl,by lia,x,fun i e n l=>?_,u,rfl⟩
   ·lia
   ·by_cases iZ:i < f
    ·exact qF g (Le.of_lt (pg i f e d iZ l hd))
    ·have:i=f:=by lia
     rw[this,hd] at l;cases l;exact g
  ·rw[if_neg g]
   refine⟨_,_,?_,Sub.refl _,lo,f,_,rfl,rfl,by lia,by lia,v,fun i e n l=>?_,rfl⟩
   ·lia
   ·by_cases iZ:f < i
    ·have D:=pg f i d e iZ hd l
     cases B:cC c e with
     | false=>rfl
     | true=>exact absurd (qF B (Le.of_lt D)) g
    ·have:i=f:=by lia
     rw[this,hd] at l;cases l
     simpa using g
 ·rw[if_neg (by simpa using p)]
  simp? only[FF]
  have:lo=hi:=by lia
  subst this
  refine⟨_,Sub.refl _,?_⟩
  rw[<-E9 (c:=c) (cs:=cs) (k:=lo) x v u];exact r
theorem z1:1<=Aj:=by decide
theorem z2:2<=Aj:=by decide
theorem z3:3<=Aj:=by decide
theorem z4:4<=Aj:=by decide
theorem fL{b:Bool}{P Q:Prop}(a:b=true->P)(c:b=false->Q):if b=true then P else Q:=by cases b;exact c rfl;exact a rfl
theorem zaZ{w:W}{ws:List W}{M:Mm}{R:List W->(Mm->Prop)->Mm->Prop}(e:w=.rl ws)(h:R ws (fun _=>True) M):L3.jG w M R:=by rw[e];exact h
theorem qL{M:Mm}{a:Addr}{kvs:List (List aD×W)}{k:List aD}{w:W}{R:K3}(h:M a=some (.dT kvs))(hl:bD kvs k=some w)(r:R w M):L3.aV (.ref a) (.tup (k.map wK)) M R:=⟨w,.inr ⟨kvs,k,h,rfl,hl.symm⟩,r⟩
theorem iN{M:Mm}{a:Addr}{ws:List W}(h:M a=some (.lst ws)):fB "list" (.ref a) M:=.inl ⟨rfl,_,h⟩
theorem qM{M:Mm}{a:Addr}{kvs:List (List aD×W)}(h:M a=some (.dT kvs)):fB "dict" (.ref a) M:=.inr ⟨rfl,.inr ⟨_,h⟩⟩
theorem za0{C:Cc}{ws:List W}{M:Mm}{R:K3}(h:tT C ws M R):yG C (bK R) (cF zaO ws) M:=by
 obtain⟨M0,A,q,c,x,rfl,v,hl,r⟩:=h
 have K:=tH c x q
 have hf:=v.fall
 have H:=xZ hf
 have t:=E5 (q:=q) (c:=c)
 have y:=xQ c x hf
 obtain⟨M1,kvs,l,n,I⟩:=v.ex
 show yG C (bK R) [some (.ref A.o),some (cW c),some (jJ x)] M
 simp? only[yG,L3.bT]
 refine⟨A.o,A.d,qf A,_,rfl,v.ob,oO,.inr ⟨_,.inr ⟨kvs,cK c,n.at_,xX c,rfl⟩,_,rfl,?_⟩⟩
 rw[n.look c]
 have i:∀ j,wG (dH c x q) j=if c=j then some (((aF q c).getD []).map jJ ++ [jJ x]) else wG q j:=fun j=>by
  show(aF (dH c x q) j).map _=_
  rw[E1 c x j hf]
  by_cases g:c=j
  ·rw[if_pos g,if_pos g,Kv,Bs];rfl
  ·rw[if_neg g,if_neg g]
 cases s:aF q c with
 | some xs=>
  have a:wG q c=some (xs.map jJ):=by show(aF q c).map _=_;rw[s];rfl
  rw[a]
  rw[s] at t i
  have t:xs.length<=(aW q).length:=t
  simp? only[]
  rw[if_neg (by simp)]
  obtain⟨p,b,f⟩:=n.has a
  have m:=E4 c x hf (by rw[s];rfl)
  refine⟨A.o,A.d,qf A,_,rfl,v.ob,oO,qL n.at_ b ⟨iN f,_,f,iL (by rw[Ab];lia),_,Sub.refl _,r _ ⟨y,M1,kvs,?_,(n.wr b).same i,?_⟩⟩⟩
  ·rw[m];exact l
  ·have:=congrArg Bb m
   rw[Ab,Ab] at this
   rw[this];exact I
 | none=>
  have a:wG q c=none:=by show(aF q c).map _=_;rw[s];rfl
  rw[a]
  rw[s] at i
  simp? only[]
  rw[if_pos (by decide)]
  intro p z
  have u:=n.add EZ (ws:=[]) a z
  have D:A.o≠p:=fun e=>by rw[<-e,v.ob] at z;cases z
  have w:((q.map (·.1)).map cW).length=q.length:=by rw[Ab,Ab]
  have E:=E2 c (q.map (·.1))
  rw[Ab] at E
  refine⟨A.o,A.d,qf A,_,rfl,by rw[aP D];exact v.ob,oO,?_⟩
  rw[xX]
  refine sX (kvs:=kvs) (by rw[aP (fun e=>by rw[<-e,n.at_] at z;cases z)];exact n.at_) (iL (by lia)) ?_
  rw[<-xX]
  refine⟨A.o,A.d,qf A,_,rfl,u.sub _ _ l.ob,oN,iN (u.sub _ _ l.co),?_⟩
  simp? only[L3.eW]
  have B:=u.lift (p:=A.c) (o:=.lst ((((q.map (·.1)).take (pos c (q.map (·.1))) ++ c :: (q.map (·.1)).drop (pos c (q.map (·.1)))).map cW))) (.inr ⟨_,l.co⟩)
  have F:=l.costs (cs':=(q.map (·.1)).take (pos c (q.map (·.1))) ++ c :: (q.map (·.1)).drop (pos c (q.map (·.1))))
  refine⟨A.o,A.d,qf A,rfl,u.sub _ _ l.ob,zaI,A,q.map (·.1),c,rfl,u.sub _ _ l.ob,u.sub _ _ l.co,E8 hf,by rw[Ab];lia,_,u.sub _ _ l.co,iL (by rw[w];lia),by lia,by rw[w];lia,?_⟩
  have J:((q.map (·.1)).map cW).take (Ka (pos c (q.map (·.1)):Nat)) ++ cW c :: ((q.map (·.1)).map cW).drop (Ka (pos c (q.map (·.1)):Nat))=(((q.map (·.1)).take (pos c (q.map (·.1))) ++ c :: (q.map (·.1)).drop (pos c (q.map (·.1)))).map cW):=by
   rw[Cm,Bs,Ar,Ma,Od]
  rw[J]
  obtain⟨L,b,f⟩:=B.has (k:=c) (ws:=[]) (by rw[if_pos rfl])
  refine⟨A.o,A.d,qf A,_,rfl,B.sub _ _ F.ob,oO,qL B.at_ b ⟨iN f,_,f,iL (by simp),_,Sub.refl _,r _ ⟨y,_,_,?_,(B.wr b).same (fun j=>?_),?_⟩⟩⟩
  ·rw[xY c x hf (by rw[s];rfl)];exact F
  ·rw[i j]
   by_cases g:c=j
   ·rw[if_pos g,if_pos g];rfl
   ·rw[if_neg g,if_neg g,if_neg g]
  ·have G:=congrArg Bb (xY c x hf (by rw[s];rfl))
   have N:=xW kvs (cK c) (W.ref p)
   rw[Ab,Av,Bt,Cf,Gs,Ab] at G
   lia
theorem za1{C:Cc}{ws:List W}{M:Mm}{R:K3}(h:yD C ws M R):yJ C (bK R) (cF zaQ ws) M:=by
 obtain⟨M0,A,q,c,x,E,rfl,m,ht,r⟩:=h
 have hf:=m.fall
 have ⟨_,_,_,e0,hf',_,_,_,_⟩:=nC hf (fun e=>by rw[e] at ht;cases ht)
 rw[ht] at e0
 cases e0
 obtain⟨M1,kvs,n,B,w⟩:=m.ex
 obtain⟨u,ys,f,l⟩:=E6 hf ht
 show yJ C (bK R) [some (.ref A.o),none,none,none] M
 simp? only[yJ,FG,FH,FJ,FK,L3.bT]
 have a:∀ e∈u,e.1≠c:=by rw[f] at hf;exact E7 hf
 have z:wG q c=some (ys.map jJ ++ [jJ x]):=by
  show(aF q c).map _=_
  rw[f,tS a,if_pos rfl,Kv,Bs];rfl
 obtain⟨p,g,t⟩:=B.has z
 have hc:M A.c=some (.lst (((u.map (·.1)).map cW) ++ [cW c])):=by rw[m.co,f];simp
 refine⟨A.o,A.d,qf A,_,rfl,m.ob,oN,.inl ⟨_,_,hc,B1 _ _,A.o,A.d,qf A,_,rfl,m.ob,oO,qL B.at_ g ⟨iN t,⟨_,_,t,.inl ⟨_,bC,?_⟩⟩⟩⟩⟩
 have s:=B.wr (ws:=ys.map jJ) g
 simp? only[]
 cases ys with
 | nil=>
  rw[if_pos (by simp)]
  have i:M1 A.c=some (.lst (((u.map (·.1)).map cW) ++ [cW c])):=by rw[n.co,f];simp
  have D:=n.costs (cs':=u.map (·.1))
  have v:=s.lift (p:=A.c) (o:=.lst ((u.map (·.1)).map cW)) (.inr ⟨_,i⟩)
  have F:=v.del (k:=c) EZ
  refine⟨A.o,A.d,qf A,_,rfl,s.sub _ _ n.ob,oN,iN (s.sub _ _ i),_,_,s.sub _ _ i,A.o,A.d,qf A,_,rfl,v.sub _ _ D.ob,oO,qM v.at_,_,cK c,_,v.at_,rfl,g,?_⟩
  simp? only[yI]
  refine⟨_,Sub.refl _,r _ ⟨hf',_,_,?_,F.same (fun j=>?_),?_⟩⟩
  ·rw[l];exact D
  ·show(aF E j).map _=_
   rw[l,if_pos (by rfl:([]:List (Nat×List Int)).isEmpty=true)]
   by_cases b:c=j
   ·subst b;rw[if_pos rfl,tQ a];rfl
   ·rw[if_neg b,if_neg b]
    show _=(aF q j).map _
    rw[f,tS a,if_neg b]
  ·have G:=EY (kvs:=kvs) (k:=cK c) (by rw[g];rfl)
   rw[f,Av,Eb] at w
   rw[l,if_pos (by rfl:([]:List (Nat×List Int)).isEmpty=true)];lia
 | cons y ys=>
  rw[if_neg (by simp;lia)]
  simp? only[yI]
  refine⟨_,Sub.refl _,r _ ⟨hf',_,_,?_,s.same (fun j=>?_),?_⟩⟩
  ·rw[l,if_neg (by simp)];rw[f] at n;simpa using n
  ·show(aF E j).map _=_
   rw[l,if_neg (by simp),tS a]
   by_cases b:c=j
   ·rw[if_pos b,if_pos b];rfl
   ·rw[if_neg b,if_neg b]
    show _=(aF q j).map _
    rw[f,tS a,if_neg b]
  ·rw[f] at w;rw[l,if_neg (by simp)];simpa using w
def tU:bX:=fun ws M R=>∃ z g:Str,ws=[.str z,.str g]/\z.length<=1000/\R (.bl (jC z g)) M
def yK:bX:=fun ws M R=>∃ z:Str,ws=[.str z]/\z.length<=1000/\R (.bl (jV z)) M
def tV:bX:=fun ws M R=>∃ rs:List aY,ws=[.rl (rs.map cB)]/\rs.length<=100/\aQ ((namesOf rs).map W.str) M R
def yL:bX:=fun ws M R=>∃ (r:aY) (ns:List Str),ws=[cB r,.rl (ns.map W.str)]/\0<=r.cost/\(∀ t∈r.parts,t.length<=1000/\(jV t=true->t∈ns))/\R .non M
def yM:bX:=fun ws M R=>∃ rs:List aY,ws=[.rl (rs.map cB)]/\xK rs/\aQ (rs.map cB) M R
abbrev za2:List Str:=["text","signs"]
def yN:aK:=
   (cP (pT (aG (rEq true) (aA 0) (vC (.str ""))) (bW wO (aB (cV (fX (eF d7 (aA 0)) (bQ 0) iW (aG (rIn false) (aA 0) (aA 1)) [none,some 1])) aE))))
abbrev za3:List Str:=["part","pieces","right_end"]
def FN:aK:=
   (bH 1 (fN "str" w5 (aA 0) (aB (vC (.str "_")) aE)))
def FO:aK:=
   (bH 2 (wA (aG (rEq false) (aG aV (aA 1) (vC (.int 1))) (vC (.str ""))) (b6 tU (aB (aG aV (aA 1) (vC (.int 2))) (aB (vC (.str "0123456789")) aE)))))
def FP:aK:=
   (cP (pT (aA 2) (b6 tU (aB (aG aV (aA 1) (vC (.int 0))) (aB (vC (.str "ABCDEFGHIJKLMNOPQRSTUVWXYZ")) aE)))))
def yO:aK:=(aT FN (aT FO FP))
abbrev za4:List Str:=["grammar","found","rule"]
def FQ:aK:=
   (bH 1 wQ)
def FR:aK:=
   (lZ (vC (.bl true)) (mY (aA 1) (aG aV (aA 2) (vC (.int 0)))))
def FT:aK:=
   (fE (eF d7 (aA 0)) (bQ 2) FR)
def FU:aK:=
   (cP (bW kX (aB (aA 1) aE)))
def yP:aK:=(aT FQ (aT FT FU))
abbrev za5:List Str:=["rule","known","part"]
def yQ:aK:=
   (aT (eE (dC (aG lU (aG aV (aA 0) (vC (.int 2))) (vC (.int 0))))
    sR
    fV)
   (fE (eF d7 (aG aV (aA 0) (vC (.int 1)))) (bQ 2)
    (eE (pR (g9 (b6 yK (aB (aA 2) aE))) (dC (aG (rIn true) (aA 2) (aA 1))))
    sR
    fV)))
abbrev za6:List Str:=["rules","known","rule"]
def FV:aK:=
   (eE (dC (aG (rEq false) (bW cX (aB (aA 0) aE)) (vC (.int 0))))
    sR
    fV)
def FW:aK:=
   (bH 1 (cV (b6 tV (aB (aA 0) aE))))
def FX:aK:=
   (eN (b6 yL (aB (aA 2) (aB (aA 1) aE))))
def FY:aK:=
   (fE (eF d7 (aA 0)) (bQ 2) FX)
def FZ:aK:=
   (cP (bW kX (aB (aA 0) aE)))
def yR:aK:=(aT FV (aT FW (aT FY FZ)))
end Rg
namespace L3
open PySem PySem.Spec PyProof.Rows L2
theorem za7{n:Bool}{i j:Str}{M:Mm}{R:K3}:L3.rIn n (.str i) (.str j) M R=R (.bl (if n then !occ i j else occ i j)) M:=rfl
theorem za8{n:Bool}{i:Str}{ws:List W}{M:Mm}{R:K3}:L3.rIn n (.str i) (.rl ws) M R=(eS (.str i)=true/\ws.all eS=true/\R (.bl (if n then !inW (.str i) ws else inW (.str i) ws)) M):=rfl
end L3
namespace Rg
open PySem PySem.Spec PyProof.Rows L2 L3
theorem za9:∀ ws M R,tU ws M R->ws.length=2:=by rintro ws M R ⟨_,_,rfl,_⟩;rfl
theorem zba:∀ ws M R,yK ws M R->ws.length=1:=by rintro ws M R ⟨_,rfl,_⟩;rfl
theorem zbb:∀ ws M R,tV ws M R->ws.length=1:=by rintro ws M R ⟨_,rfl,_⟩;rfl
theorem zbc:∀ ws M R,yL ws M R->ws.length=2:=by rintro ws M R ⟨_,_,rfl,_⟩;rfl
theorem zbd:∀ ws M R,yM ws M R->ws.length=1:=by rintro ws M R ⟨_,rfl,_⟩;rfl
theorem zbe(c:Nat)(g:Str):occ ⟨#[c]⟩ g=decide (c∈cs g):=StrLaws.found_one g c
theorem zbf{ws:List W}{M:Mm}{R:K3}(h:tU ws M R):yN (bK R) (cF za2 ws) M:=by
 obtain⟨z,g,rfl,hz,r⟩:=h
 show yN (bK R) [some (.str z),some (.str g)] M
 have a:jC z g=(!decide (V.str z=V.str "") && (cs z).all fun c=>decide (c∈cs g)):=rfl
 rw[sI] at a
 simp? only[yN]
 by_cases hc:z = ""
 ·rw[decide_eq_true hc] at a
  simp? only[hc]
  rw[if_neg (by simp)]
  simp at a;rw[a] at r
  exact⟨_,Sub.refl _,r⟩
 ·rw[decide_eq_false hc] at a
  rw[if_pos hc]
  refine xC (rest:=[some (.str g)]) (fun w=>match w with | .str x=>.bl (occ x g) | _=>.non) (eI (by simp;have:=SJ z;unfold cs at this;simp at this;lia)) (fun _ _=>trivial) (fun w hw e C sb b=>?_) (aQ.frz ?_)
  ·obtain⟨c,_,rfl⟩:=Aw.mp hw
   simp? only[za7]
   exact b
  ·simp? only[L3.wO]
   refine⟨(cs z).map fun c=>decide (c∈cs g),?_,_,Sub.refl _,?_⟩
   ·unfold bools
    rw[Ed,Ed]
    refine Oa fun c _=>?_
    show W.bl (occ ⟨#[c]⟩ g)=_
    rw[zbe];rfl
   ·rw[List.all_map]
    simp at a
    have d:(cs z).all (id ∘ fun c=>decide (c∈cs g))=jC z g:=by rw[Es];simp[a]
    rw[d];exact r
theorem zbg(z:Str):(Dq z "_").1.length<=z.length/\(Dq z "_").2.2.length<=z.length:=by
 have:=fact_partition z "_"
 exact⟨this.1,this.2.2⟩
theorem zbh(z:Str):jV z=((decide ((Dq z "_").2.1 = "") || jC (Dq z "_").2.2 rS) && jC (Dq z "_").1 mQ):=by
 unfold jV;rw[sI]
theorem zbi{ws:List W}{M:Mm}{R:K3}(h:yK ws M R):yO (bK R) (cF za3 ws) M:=by
 obtain⟨z,rfl,hz,r⟩:=h
 show yO (bK R) [some (.str z),none,none] M
 obtain⟨b,a⟩:=zbg z
 have e:=zbh z
 simp? only[yO,FN,FO,FP,L3.w5]
 refine⟨by decide +kernel,by lia,?_⟩
 by_cases hc:(Dq z "_").2.1 = ""
 ·rw[if_pos hc]
  refine⟨_,_,rfl,by lia,_,Sub.refl _,?_⟩
  rw[decide_eq_true hc,Bool.true_or,Bool.true_and] at e
  rw[<-e];exact r
 ·rw[if_neg hc]
  rw[decide_eq_false hc,Bool.false_or] at e
  refine⟨_,_,rfl,by lia,_,rfl,?_⟩
  split
  ·rename_i hb
   rw[show jC (Dq z "_").2.2 rS=true from hb,Bool.true_and] at e
   refine⟨_,_,rfl,by lia,_,Sub.refl _,?_⟩
   rw[<-e];exact r
  ·rename_i hb
   rw[show jC (Dq z "_").2.2 rS=false by simpa using hb,Bool.false_and] at e
   rw[<-e];exact⟨_,Sub.refl _,r⟩
def fQ(t:Str):aD×W:=(Sum.inr t,.bl true)
theorem F1(acc:List Str)(t:Str):bZ (acc.map fQ) (Sum.inr t:aD) (.bl true)=(hX acc t).map fQ:=by
 unfold bZ hX
 have e:((acc.map fQ).any fun kv=>decide (kv.1=Sum.inr t))=decide (t∈acc):=by
  rw[List.any_map,Es]
  simp[fQ,Lm]
 rw[e]
 by_cases h:t∈acc
 ·rw[if_pos (decide_eq_true h),if_pos h,Ed]
  refine Oa fun u hu=>?_
  simp[fQ,Lm]
 ·rw[if_neg (by simpa using h),if_neg h,Bs];rfl
theorem zbj{ws:List W}{M:Mm}{R:K3}(h:tV ws M R):yP (bK R) (cF za4 ws) M:=by
 obtain⟨rs,rfl,hl,r⟩:=h
 show yP (bK R) [some (.rl (rs.map cB)),none,none] M
 simp? only[yP,FQ,FT]
 intro p g
 refine fF (fun i c b=>∃ o,c=[some (.rl (rs.map cB)),some (.ref p),o]/\b=put M p (.dK ((namesOf (rs.take i)).map fQ))) ⟨_,rfl,rfl⟩ (fun _ _ _ _ _=>trivial) ?_ ?_
 ·rintro i w c b hw ⟨o,rfl,rfl⟩
  rw[Bh] at hw
  obtain⟨q,a,rfl⟩:=Bn.mp hw
  have hi:i < rs.length:=(Ao.mp a).1
  simp? only[FR,cB]
  have e:namesOf (rs.take (i + 1))=hX (namesOf (rs.take i)) q.name:=by
   rw[Ga,a]
   unfold namesOf qD
   simp
  have f:(namesOf (rs.take i)).length<=i:=by
   have:=xN ((rs.take i).map aY.name) []
   unfold namesOf qD
   simp at this
   simp;lia
  refine W7 bC (by rw[Ab];exact iL (by lia)) ⟨_,Sub.refl _,_,rfl,?_⟩
  rw[kO,F1,e]
 ·rintro c b ⟨o,rfl,rfl⟩
  rw[Ab,Ew]
  simp? only[FU]
  intro q a
  have d:q≠p:=fun e=>by subst e;rw[bC] at a;cases a
  rw[aP d] at a
  refine⟨_,?_,r q a⟩
  rw[Ed]
  exact Sub.put (Sub.new g)
theorem F2{t:Str}{ts:List Str}:inW (.str t) (ts.map W.str)=decide (t∈ts):=by
 unfold inW
 rw[List.any_map,Es]
 simp[Lm,nY]
theorem F5(ts:List Str):(ts.map W.str).all eS=true:=by
 rw[List.all_map,Kl];intro t _;rfl
theorem zbk{ws:List W}{M:Mm}{R:K3}(h:yL ws M R):yQ (bK R) (cF za5 ws) M:=by
 obtain⟨q,ns,rfl,hc,d,r⟩:=h
 show yQ (bK R) [some (cB q),some (.rl (ns.map W.str)),none] M
 simp? only[yQ,cB]
 rw[if_neg (by lia)]
 refine fF (fun i b a=>∃ o,b=[some (cB q),some (.rl (ns.map W.str)),o]/\a=M) ⟨_,rfl,rfl⟩ (fun _ _ _ _ _=>trivial) ?_ ?_
 ·rintro i w b a hw ⟨o,rfl,rfl⟩
  obtain⟨t,ht,rfl⟩:=Aw.mp (Be hw)
  obtain⟨c,e⟩:=d t ht
  simp? only[za8,F2,F5,eS]
  refine⟨t,rfl,c,?_⟩
  simp? only[]
  split
  ·rename_i hb
   rw[if_neg (by simpa using e hb)]
   exact⟨_,Sub.refl _,_,rfl,rfl⟩
  ·exact⟨_,Sub.refl _,_,rfl,rfl⟩
 ·rintro b a ⟨o,rfl,rfl⟩
  exact⟨_,Sub.refl _,r⟩
theorem zbl{ws:List W}{M:Mm}{R:K3}(h:yM ws M R):yR (bK R) (cF za6 ws) M:=by
 obtain⟨rs,rfl,g,r⟩:=h
 show yR (bK R) [some (.rl (rs.map cB)),none,none] M
 simp? only[yR,FV,FW]
 rw[if_neg (by rw[Ab];have:=g.ne;cases rs;exact absurd rfl this;simp;lia)]
 refine⟨rs,rfl,by have:=g.few;lia,aQ.frz ?_⟩
 simp? only[FY]
 refine fF (fun i b a=>∃ o,b=[some (.rl (rs.map cB)),some (.rl ((namesOf rs).map W.str)),o]/\a=M) ⟨_,rfl,rfl⟩ (fun _ _ _ _ _=>trivial) ?_ ?_
 ·rintro i w b a hw ⟨o,rfl,rfl⟩
  obtain⟨t,ht,rfl⟩:=Aw.mp (Be hw)
  obtain⟨d,e⟩:=zal g ht
  simp? only[FX]
  exact⟨t,_,rfl,d,e,_,Sub.refl _,_,rfl,rfl⟩
 ·rintro b a ⟨o,rfl,rfl⟩
  simp? only[FZ]
  exact fun q c=>⟨_,Sub.refl _,r q c⟩
def eK(k:Str×Int):List aD:=[Sum.inr k.1,Sum.inl k.2]
def iO(z:Int×aH):W:=.tup [.int z.1,cW z.2]
def iP(y:bS):W:=.tup [.int y.1,fJ y.2.1,cW y.2.2]
def jK(k:K4):List aD:=[Sum.inl k.1,Sum.inl k.2.1,Sum.inl k.2.2.1,Sum.inl k.2.2.2]
def fK(f:b5):List aD:=[Sum.inr f.1,Sum.inl f.2.1,Sum.inl f.2.2]
def h9(e:aH×Nat×List Int):W:=.tup [cW e.1,.int e.2.1,fJ e.2.2]
theorem F6:∀ a b:Str×Int,eK a=eK b->a=b:=fun a b h=>by
 unfold eK at h
 simp only[Cy,Lp,Sum.inr.injEq,and_true] at h
 exact Prod.ext h.1 h.2
theorem tW:∀ a b:K4,jK a=jK b->a=b:=fun a b h=>by
 unfold jK at h
 simp only[Cy,Lp,and_true,Int.natCast_inj] at h
 obtain⟨a1,a2,k,i⟩:=a
 obtain⟨b1,b2,g,j⟩:=b
 simp only at h
 obtain⟨c,e,f,d⟩:=h
 rw[c,e,f,d]
theorem tX:∀ a b:b5,fK a=fK b->a=b:=fun a b h=>by
 unfold fK at h
 simp only[Cy,Lp,Sum.inr.injEq,and_true] at h
 obtain⟨a1,a2,g⟩:=a
 obtain⟨b1,b2,f⟩:=b
 simp only at h
 obtain⟨c,d,e⟩:=h
 rw[c,d,e]
section
variable {κ β:Type}[DecidableEq κ]{kk:κ->List aD}{f:β->W}
abbrev d8(kk:κ->List aD)(f:β->W)(t:List (κ×β)):List (List aD×W):=t.map fun e=>(kk e.1,f e.2)
theorem qN(c:∀ a b,kk a=kk b->a=b)(t:List (κ×β))(k:κ):bD (d8 kk f t) (kk k)=(aF t k).map f:=by
 induction t with
 | nil=>rfl
 | cons e t d=>
  show bD ((kk e.1,f e.2) :: d8 kk f t) (kk k)=_
  rw[nE,dW,d]
  by_cases h:e.1=k
  ·rw[if_pos (by rw[h]),if_pos h];rfl
  ·rw[if_neg (fun z=>h (c _ _ z)),if_neg h]
theorem F7(c:∀ a b,kk a=kk b->a=b)(t:List (κ×β))(k:κ)(v:β):bZ (d8 kk f t) (kk k) (f v)=d8 kk f (cT t k v):=by
 unfold bZ cT
 rw[show((d8 kk f t).any fun d=>decide (d.1=kk k))=(bD (d8 kk f t) (kk k)).isSome from nB _ _,qN c,nB]
 cases aF t k with
 | none=>simp
 | some w=>
  simp only[Kv,Option.isSome_some,if_true,Ed]
  apply Oa
  intro e _
  simp only[Lm]
  by_cases h:e.1=k
  ·rw[if_pos (by rw[h]),if_pos h]
  ·rw[if_neg (fun z=>h (c _ _ z)),if_neg h]
end
structure Env where
 rs:List aY
 own:List (aD×W)
 stp:List (List aD×W)
structure Ad where
 s:Addr
 d:Addr
 Q:Aq
 r:Addr
 b:Addr
 e:Addr
 g:Addr
def sf(E:Env)(A:Ad):List (Str×W):=[("grammar",(eX E.rs)),("own",(.dk E.own)),("steps",(.dt E.stp)),("queue",(.ref A.Q.o)),("reached",(.ref A.r)),("best",(.ref A.b)),("ends",(.ref A.e)),("begun",(.ref A.g))]
theorem F8{E:Env}{A:Ad}:Ci ("grammar" : Str) (sf E A)=some (eX E.rs):=by kernel_rfl
theorem zbm{E:Env}{A:Ad}:Ci ("own" : Str) (sf E A)=some (W.dk E.own):=by kernel_rfl
theorem zbn{E:Env}{A:Ad}:Ci ("steps" : Str) (sf E A)=some (W.dt E.stp):=by kernel_rfl
theorem yS{E:Env}{A:Ad}:Ci ("queue" : Str) (sf E A)=some (W.ref A.Q.o):=by kernel_rfl
theorem tY{E:Env}{A:Ad}:Ci ("reached" : Str) (sf E A)=some (W.ref A.r):=by kernel_rfl
theorem yT{E:Env}{A:Ad}:Ci ("best" : Str) (sf E A)=some (W.ref A.b):=by kernel_rfl
theorem F9{E:Env}{A:Ad}:Ci ("ends" : Str) (sf E A)=some (W.ref A.e):=by kernel_rfl
theorem GA{E:Env}{A:Ad}:Ci ("begun" : Str) (sf E A)=some (W.ref A.g):=by kernel_rfl
theorem tZ{E:Env}{A:Ad}:Ci ("reach" : Str) (sf E A)=none:=by kernel_rfl
theorem zbo{E:Env}{A:Ad}:Ci ("take_next" : Str) (sf E A)=none:=by kernel_rfl
theorem zbp{E:Env}{A:Ad}:Ci ("step_by_name" : Str) (sf E A)=none:=by kernel_rfl
theorem zbq{E:Env}{A:Ad}:Ci ("settle" : Str) (sf E A)=none:=by kernel_rfl
structure Mn(C:Cc)(E:Env)(M0 M:Mm)(A:Ad)(rc:List (K4×aH))(bs:fH):Prop where
 sub:L3.Sub M0 M
 ns:M0 A.s=none
 nr:M0 A.r=none
 nb:M0 A.b=none
 sr:A.s≠A.r
 sb:A.s≠A.b
 rb:A.r≠A.b
 os:M A.s=some (.ins C.s A.d (sf E A))
 or:M A.r=some (.dT (d8 jK cW rc))
 ob:M A.b=some (.dT (d8 fK h9 bs))
abbrev eG(t:List ((Str×Int)×List (Int×aH))):Str×Int->Option (List W):=fun k=>(aF t k).map fun xs=>xs.map iO
abbrev gG(t:List ((Str×Int)×List bS)):Str×Int->Option (List W):=fun k=>(aF t k).map fun xs=>xs.map iP
def Kept(M:Mm):Option (Addr×List W)->Prop
 | none=>True
 | some x=>M x.1=some (.lst x.2)
structure SK(C:Cc)(E:Env)(M0 M:Mm)(A:Ad)(st:SS)(kp:Option (Addr×List W)):Prop where
 ex:∃ M1 M2 M3 e g,Mn C E M0 M1 A st.reached st.best/\dX eK M1 M2 A.e e (eG st.ends)/\dX eK M2 M3 A.g g (gG st.begun)/\QR C M3 M A.Q st.q/\e.length<=st.ends.length/\g.length<=st.begun.length/\Kept M3 kp
abbrev SR(C:Cc)(E:Env)(M0 M:Mm)(A:Ad)(st:SS):Prop:=SK C E M0 M A st none
section
variable {C:Cc}{E:Env}{M0 M:Mm}{A:Ad}{st:SS}{kp:Option (Addr×List W)}
theorem SK.os(h:SK C E M0 M A st kp):M A.s=some (.ins C.s A.d (sf E A)):=by
 obtain⟨M1,j,i,e,g,a,c,f,b,_⟩:=h.ex
 exact b.sub _ _ (f.sub _ _ (c.sub _ _ a.os))
theorem SK.or(h:SK C E M0 M A st kp):M A.r=some (.dT (d8 jK cW st.reached)):=by
 obtain⟨M1,i,f,e,g,a,c,d,b,_⟩:=h.ex
 exact b.sub _ _ (d.sub _ _ (c.sub _ _ a.or))
theorem SK.ob(h:SK C E M0 M A st kp):M A.b=some (.dT (d8 fK h9 st.best)):=by
 obtain⟨M1,j,i,e,g,a,d,f,c,_⟩:=h.ex
 exact c.sub _ _ (f.sub _ _ (d.sub _ _ a.ob))
theorem SK.fall(h:SK C E M0 M A st kp):gK st.q:=by
 obtain⟨M1,d,c,e,g,b,f,i,a,_⟩:=h.ex
 exact a.fall
theorem SK.free(h:SK C E M0 M A st kp):SR C E M0 M A st:=by
 obtain⟨M1,d,c,e,g,b,i,j,f,a,k,_⟩:=h.ex
 exact⟨M1,d,c,e,g,b,i,j,f,a,k,trivial⟩
theorem SK.kept{p:Addr}{ws:List W}(h:SK C E M0 M A st (some (p,ws))):M p=some (.lst ws):=by
 obtain⟨M1,i,f,e,g,d,j,k,a,c,l,b⟩:=h.ex
 exact a.sub _ _ b
theorem Mn.rput{M1:Mm}{b:List (K4×aH)}{bs:fH}(h:Mn C E M0 M1 A b bs)(a:List (K4×aH)):Mn C E M0 (put M1 A.r (.dT (d8 jK cW a))) A a bs:=
 ⟨hZ h.sub h.nr,h.ns,h.nr,h.nb,h.sr,h.sb,h.rb,by rw[aP h.sr];exact h.os,bC,by rw[aP (Bq h.rb)];exact h.ob⟩
theorem Mn.bput{M1:Mm}{c:List (K4×aH)}{bs:fH}(h:Mn C E M0 M1 A c bs)(a:fH):Mn C E M0 (put M1 A.b (.dT (d8 fK h9 a))) A c a:=
 ⟨hZ h.sub h.nb,h.ns,h.nr,h.nb,h.sr,h.sb,h.rb,by rw[aP h.sb];exact h.os,by rw[aP h.rb];exact h.or,bC⟩
theorem SK.rput(h:SK C E M0 M A st kp)(a:List (K4×aH)):SK C E M0 (put M A.r (.dT (d8 jK cW a))) A {st with reached:=a} kp:=by
 obtain⟨M1,o,i,e,g,c,f,j,m,l,n,b⟩:=h.ex
 have d:=f.sub _ _ c.or
 have k:=j.sub _ _ d
 refine⟨_,_,_,e,g,c.rput a,f.lift (.inr ⟨_,c.or⟩),j.lift (.inr ⟨_,d⟩),m.lift (.inr ⟨_,k⟩),l,n,?_⟩
 cases kp with
 | none=>trivial
 | some x=>
  have b:i x.1=some (.lst x.2):=b
  show put i A.r _ x.1=some (.lst x.2)
  rw[aP (fun z=>by rw[z,k] at b;cases b)];exact b
theorem SK.bput(h:SR C E M0 M A st)(a:fH):SR C E M0 (put M A.b (.dT (d8 fK h9 a))) A {st with best:=a}:=by
 obtain⟨M1,o,n,e,g,c,f,i,l,k,j,p⟩:=h.ex
 have d:=f.sub _ _ c.ob
 have m:=i.sub _ _ d
 exact⟨_,_,_,e,g,c.bput a,f.lift (.inr ⟨_,c.ob⟩),i.lift (.inr ⟨_,d⟩),l.lift (.inr ⟨_,m⟩),k,j,trivial⟩
theorem SK.que(h:SK C E M0 M A st kp):∃ a,QR C a M A.Q st.q/\∀ b c,QR C a b A.Q c->SK C E M0 b A {st with q:=c} kp:=by
 obtain⟨M1,k,a,e,g,j,i,n,m,f,o,l⟩:=h.ex
 exact⟨a,m,fun b c d=>⟨M1,k,a,e,g,j,i,n,d,f,o,l⟩⟩
theorem GB{κ β:Type}[DecidableEq κ]{t:List (κ×β)}{k:κ}{v:β}(h:(aF t k).isSome=true):(cT t k v).length=t.length:=by
 unfold cT
 rw[nB,if_pos h,Ab]
theorem yU{κ β:Type}[DecidableEq κ]{t:List (κ×β)}{k:κ}{v:β}(h:aF t k=none):cT t k v=t ++ [(k,v)]:=by
 unfold cT
 rw[nB,h,if_neg (by simp)]
theorem t5{a:Type}(f:a->W)(t:List ((Str×Int)×List a))(k:Str×Int)(z:a)(j:Str×Int):((aF (eP t k z) j).map fun xs=>xs.map f)=if k=j then some (((aF t k).getD []).map f ++ [f z]) else(aF t j).map fun xs=>xs.map f:=by
 unfold eP
 rw[k9]
 by_cases h:k=j
 ·rw[if_pos h,if_pos h,Kv,Bs];rfl
 ·rw[if_neg h,if_neg h]
theorem SK.epush(h:SR C E M0 M A st){k:Str×Int}{z:Int×aH}{R:K3}(S:st.ends.length < 10000000)(hl:((aF st.ends k).getD []).length < 10000000)(r:∀ F,SR C E M0 F A {st with ends:=eP st.ends k z}->R .non F) :
  ∃ kvs,M A.e=some (.dT kvs)/\kvs.length < Aj/\∀ p,M p=none->put M p (.lst []) A.e=some (.dT kvs)/\(∀ w,bD kvs (eK k)=some w->fB "list" w (put M p (.lst []))/\fU w [iO z] (put M p (.lst [])) R)/\
   (bD kvs (eK k)=none->fB "list" (.ref p) (put (put M p (.lst [])) A.e (.dT (bZ kvs (eK k) (.ref p))))/\fU (.ref p) [iO z] (put (put M p (.lst [])) A.e (.dT (bZ kvs (eK k) (.ref p)))) R):=by
 obtain⟨M1,J,Q,e,g,x,c,l,v,L,D,P⟩:=h.ex
 have ha:M A.e=some (.dT e):=v.sub _ _ (l.sub _ _ c.at_)
 refine⟨e,ha,iL (by lia),fun p f=>⟨by rw[aP (fun z=>by rw[<-z,ha] at f;cases f)];exact ha,fun w hw=>?_,fun hw=>?_⟩⟩
 ·obtain⟨xs,b⟩:∃ xs,aF st.ends k=some xs:=by
   cases q:aF st.ends k with
   | none=>have:=c.non k (by show(aF _ _).map _=_;rw[q];rfl);rw[hw] at this;cases this
   | some xs=>exact⟨_,rfl⟩
  have d:eG st.ends k=some (xs.map iO):=by show(aF _ _).map _=_;rw[b];rfl
  obtain⟨I,a,u⟩:=c.has d
  rw[hw] at a;cases a
  have s:=l.sub _ _ u
  have n:=v.more (o:=.lst []) f
  have m:=n.sub _ _ s
  rw[b] at hl
  refine⟨iN m,_,m,iL (by rw[Ab];exact hl),r _ ⟨_,_,_,e,g,x,(c.wr (ws:=xs.map iO ++ [iO z]) hw).same fun j=>?_,l.lift (.inr ⟨_,u⟩),n.lift (.inr ⟨_,s⟩),?_,D,trivial⟩⟩
  ·refine(t5 _ _ k z j).trans ?_;rw[b];rfl
  ·show _<=(cT _ _ _).length
   rw[GB (by rw[b];rfl)];exact L
 ·have b:aF st.ends k=none:=by
   cases q:aF st.ends k with
   | none=>rfl
   | some xs=>obtain⟨I,a,_⟩:=c.has (k:=k) (ws:=xs.map iO) (by show(aF _ _).map _=_;rw[q];rfl);rw[hw] at a;cases a
  have d:eG st.ends k=none:=by show(aF _ _).map _=_;rw[b];rfl
  have B:=v.sub.non f
  have N:=l.sub.non B
  have O:=c.add F6 (ws:=[]) d N
  have i:p≠A.e:=fun z=>by rw[z,ha] at f;cases f
  have H:=(l.lift (o:=.lst []) (.inl B)).lift (p:=A.e) (o:=.dT (bZ e (eK k) (.ref p))) (.inr ⟨.dT e,by rw[aP (Bq i)];exact c.at_⟩)
  have G:=(v.lift (o:=.lst []) (.inl f)).lift (p:=A.e) (o:=.dT (bZ e (eK k) (.ref p))) (.inr ⟨.dT e,by rw[aP (Bq i)];exact l.sub _ _ c.at_⟩)
  have K:bD (bZ e (eK k) (.ref p)) (eK k)=some (.ref p):=by rw[oM,if_pos rfl]
  have y:put (put J p (.lst [])) A.e (.dT (bZ e (eK k) (.ref p))) p=some (.lst []):=by rw[aP i,bC]
  have s:=H.sub _ _ y
  have m:=G.sub _ _ s
  refine⟨iN m,_,m,iL (by simp),r _ ⟨_,_,_,_,g,x,(O.wr (ws:=[iO z]) K).same fun j=>?_,H.lift (.inr ⟨_,y⟩),G.lift (.inr ⟨_,s⟩),?_,D,trivial⟩⟩
  ·refine(t5 _ _ k z j).trans ?_
   rw[b]
   by_cases t:k=j
   ·rw[if_pos t,if_pos t];rfl
   ·rw[if_neg t,if_neg t,if_neg t]
  ·show _<=(cT _ _ _).length
   rw[yU b,Av,Eb]
   have:=xW e (eK k) (W.ref p)
   lia
theorem SK.gpush(h:SR C E M0 M A st){k:Str×Int}{z:bS}{R:K3}(O:st.begun.length < 10000000)(hl:((aF st.begun k).getD []).length < 10000000)(r:∀ y,SR C E M0 y A {st with begun:=eP st.begun k z}->R .non y) :
  ∃ kvs,M A.g=some (.dT kvs)/\kvs.length < Aj/\∀ p,M p=none->put M p (.lst []) A.g=some (.dT kvs)/\(∀ w,bD kvs (eK k)=some w->fB "list" w (put M p (.lst []))/\fU w [iP z] (put M p (.lst [])) R)/\
   (bD kvs (eK k)=none->fB "list" (.ref p) (put (put M p (.lst [])) A.g (.dT (bZ kvs (eK k) (.ref p))))/\fU (.ref p) [iP z] (put (put M p (.lst [])) A.g (.dT (bZ kvs (eK k) (.ref p)))) R):=by
 obtain⟨M1,L,J,e,g,u,D,f,t,x,I,N⟩:=h.ex
 have ha:M A.g=some (.dT g):=t.sub _ _ f.at_
 refine⟨g,ha,iL (by lia),fun p d=>⟨by rw[aP (fun z=>by rw[<-z,ha] at d;cases d)];exact ha,fun w hw=>?_,fun hw=>?_⟩⟩
 ·obtain⟨xs,b⟩:∃ xs,aF st.begun k=some xs:=by
   cases q:aF st.begun k with
   | none=>have:=f.non k (by show(aF _ _).map _=_;rw[q];rfl);rw[hw] at this;cases this
   | some xs=>exact⟨_,rfl⟩
  have c:gG st.begun k=some (xs.map iP):=by show(aF _ _).map _=_;rw[b];rfl
  obtain⟨F,a,n⟩:=f.has c
  rw[hw] at a;cases a
  have l:=t.more (o:=.lst []) d
  have i:=l.sub _ _ n
  rw[b] at hl
  refine⟨iN i,_,i,iL (by rw[Ab];exact hl),r _ ⟨_,_,_,e,g,u,D,(f.wr (ws:=xs.map iP ++ [iP z]) hw).same fun j=>?_,l.lift (.inr ⟨_,n⟩),x,?_,trivial⟩⟩
  ·refine(t5 _ _ k z j).trans ?_;rw[b];rfl
  ·show _<=(cT _ _ _).length
   rw[GB (by rw[b];rfl)];exact I
 ·have b:aF st.begun k=none:=by
   cases q:aF st.begun k with
   | none=>rfl
   | some xs=>obtain⟨F,a,_⟩:=f.has (k:=k) (ws:=xs.map iP) (by show(aF _ _).map _=_;rw[q];rfl);rw[hw] at a;cases a
  have c:gG st.begun k=none:=by show(aF _ _).map _=_;rw[b];rfl
  have H:=t.sub.non d
  have K:=f.add F6 (ws:=[]) c H
  have s:p≠A.g:=fun z=>by rw[z,ha] at d;cases d
  have B:=(t.lift (o:=.lst []) (.inl d)).lift (p:=A.g) (o:=.dT (bZ g (eK k) (.ref p))) (.inr ⟨.dT g,by rw[aP (Bq s)];exact f.at_⟩)
  have G:bD (bZ g (eK k) (.ref p)) (eK k)=some (.ref p):=by rw[oM,if_pos rfl]
  have v:put (put J p (.lst [])) A.g (.dT (bZ g (eK k) (.ref p))) p=some (.lst []):=by rw[aP s,bC]
  have i:=B.sub _ _ v
  refine⟨iN i,_,i,iL (by simp),r _ ⟨_,_,_,e,_,u,D,(K.wr (ws:=[iP z]) G).same fun j=>?_,B.lift (.inr ⟨_,v⟩),x,?_,trivial⟩⟩
  ·refine(t5 _ _ k z j).trans ?_
   rw[b]
   by_cases m:k=j
   ·rw[if_pos m,if_pos m];rfl
   ·rw[if_neg m,if_neg m,if_neg m]
  ·show _<=(cT _ _ _).length
   rw[yU b,Av,Eb]
   have:=xW g (eK k) (W.ref p)
   lia
theorem SK.ends_at(h:SR C E M0 M A st)(k:Str×Int):∃ kvs,M A.e=some (.dT kvs)/\((bD kvs (eK k)=none/\aF st.ends k=none)\/∃ p xs,bD kvs (eK k)=some (.ref p)/\aF st.ends k=some xs/\SK C E M0 M A st (some (p,xs.map iO))):=by
 obtain⟨M1,m,l,e,g,j,a,d,f,i,n,o⟩:=h.ex
 refine⟨e,f.sub _ _ (d.sub _ _ a.at_),?_⟩
 cases q:aF st.ends k with
 | none=>exact .inl ⟨a.non k (by show(aF _ _).map _=_;rw[q];rfl),rfl⟩
 | some xs=>
  obtain⟨p,b,c⟩:=a.has (k:=k) (ws:=xs.map iO) (by show(aF _ _).map _=_;rw[q];rfl)
  exact .inr ⟨p,xs,b,rfl,M1,m,l,e,g,j,a,d,f,i,n,d.sub _ _ c⟩
theorem SK.begun_at(h:SR C E M0 M A st)(k:Str×Int):∃ kvs,M A.g=some (.dT kvs)/\((bD kvs (eK k)=none/\aF st.begun k=none)\/∃ p xs,bD kvs (eK k)=some (.ref p)/\aF st.begun k=some xs/\SK C E M0 M A st (some (p,xs.map iP))):=by
 obtain⟨M1,m,l,e,g,j,i,a,d,f,n,o⟩:=h.ex
 refine⟨g,d.sub _ _ a.at_,?_⟩
 cases q:aF st.begun k with
 | none=>exact .inl ⟨a.non k (by show(aF _ _).map _=_;rw[q];rfl),rfl⟩
 | some xs=>
  obtain⟨p,b,c⟩:=a.has (k:=k) (ws:=xs.map iP) (by show(aF _ _).map _=_;rw[q];rfl)
  exact .inr ⟨p,xs,b,rfl,M1,m,l,e,g,j,i,a,d,f,n,c⟩
theorem SK.eput(h:SR C E M0 M A st){nm:Str}{b:Int}{z:Int×aH}{R:K3}(j:st.ends.length < 10000000)(hl:((aF st.ends (nm,b)).getD []).length < 10000000)(r:∀ a,SR C E M0 a A {st with ends:=eP st.ends (nm,b) z}->R .non a) :
  fB "dict" (.ref A.e) M/\aQ [] M fun x M1=>qB (.ref A.e) [.tup [.str nm,.int b],x] M1 fun x M1=>fB "list" x M1/\fU x [iO z] M1 R:=by
 obtain⟨kvs,d,i,k⟩:=h.epush j hl r
 refine⟨qM d,fun p f=>?_⟩
 obtain⟨g,c,l⟩:=k p f
 exact⟨kvs,eK (nm,b),g,rfl,i,c,l⟩
theorem SK.gput(h:SR C E M0 M A st){nm:Str}{b:Int}{z:bS}{R:K3}(j:st.begun.length < 10000000)(hl:((aF st.begun (nm,b)).getD []).length < 10000000)(r:∀ a,SR C E M0 a A {st with begun:=eP st.begun (nm,b) z}->R .non a) :
  fB "dict" (.ref A.g) M/\aQ [] M fun x M1=>qB (.ref A.g) [.tup [.str nm,.int b],x] M1 fun x M1=>fB "list" x M1/\fU x [iP z] M1 R:=by
 obtain⟨kvs,d,i,k⟩:=h.gpush j hl r
 refine⟨qM d,fun p e=>?_⟩
 obtain⟨f,c,l⟩:=k p e
 exact⟨kvs,eK (nm,b),f,rfl,i,c,l⟩
end
def yV:bX:=fun ws M R=>∃ ts:List Str,ws=[.rl (ts.map W.str)]/\ts.length<=400/\R (.dk ((ts.foldl hX []).map fQ)) M
def ownOf(rs:List aY):List (aD×W):=((namesOf rs).foldl hX []).map fQ
def t6:bX:=fun ws M R=>∃ a b:aH,ws=[cW a,cW b]/\R (cW (dQ a b)) M
structure Sm(st:SS)(k:Nat):Prop where
 q:(aW st.q).length + k < 10000000
 r:st.reached.length + k < 10000000
def oP(C:Cc):bX:=fun ws M R=>∃ (E:Env) (d:Mm) (A:Ad) (st:SS) (n:Nat) (a:List Int) (c:aH) (kp:Option (Addr×List W)),ws=[.ref A.s,.int n,fJ a,cW c]/\SK C E d M A st kp/\a≠[]/\Sm st 1/\∀ b,SK C E d b A (reach st n a c) kp->R .non b
def yW(C:Cc):bX:=fun ws M R=>∃ (E:Env) (e:Mm) (A:Ad) (st:SS) (n:Nat) (a:List Int) (c:aH) (b:Str),ws=[.ref A.s,.int n,fJ a,cW c,.tup [.str b,.int (a.getLastD 0)]]/\SR C E e M A st/\a≠[]/\a.length < 1000/\Sm st ((aF st.ends (b,a.getLastD 0)).getD []).length/\st.begun.length < 10000000/\((aF st.begun (b,a.getLastD 0)).getD []).length < 10000000/\∀ d,SR C E e d A (fI st n a c b)->R .non d
def yX(C:Cc):bX:=fun ws M R=>∃ (G:Sr) (E:Env) (d:Mm) (A:Ad) (st:SS) (n:Nat) (a:List Int) (c:aH),ws=[.ref A.s,.int n,fJ a,cW c]/\SR C E d M A st/\G.rs=E.rs/\n < E.rs.length/\a≠[]/\(∀ key,∀ y∈(aF st.begun key).getD [],y.2.1.length < 1000/\y.2.1≠[])/\Sm st ((aF st.begun (cD G n,a.headD 0)).getD []).length/\st.best.length < 10000000/\st.ends.length < 10000000/\((aF st.ends (cD G n,a.headD 0)).getD []).length < 10000000/\∀ b,SR C E d b A (settle G st n a c)->R .non b
structure GC(G:Sr)(E:Env):Prop where
 rs:G.rs=E.rs
 own:∀ t,(bD E.own (Sum.inr t:aD)).isSome=G.own t
 stp:∀ t p,(bD E.stp (eK (t,p))=none/\G.steps t p=[])\/bD E.stp (eK (t,p))=some (.rl ((G.steps t p).map fun z=>.tup [.int z.1,.int z.2]))
structure Rm(G:Sr)(st:SS):Prop where
 item:∀ c n cut q',gR st.q=some (c,(n,cut),q')->cut≠[]/\cut.length < 1000/\n < G.rs.length/\∃ d,aF st.reached (bJ n cut)=some d
 bg:∀ key,∀ y∈(aF st.begun key).getD [],y.2.1.length < 1000/\y.2.1≠[]
 b:st.best.length < 10000000
 e:st.ends.length < 10000000
 g:st.begun.length < 10000000
 el:∀ key,((aF st.ends key).getD []).length < 10000000/\Sm st ((aF st.ends key).getD []).length
 gl:∀ key,((aF st.begun key).getD []).length < 10000000/\Sm st ((aF st.begun key).getD []).length
 sl:∀ t p,Sm st (G.steps t p).length
def yY(C:Cc):bX:=fun ws M R=>∃ (G:Sr) (E:Env) (b:Mm) (A:Ad) (st:SS),ws=[.ref A.s]/\SR C E b M A st/\GC G E/\st.q≠[]/\Rm G st/\∀ a,SR C E b a A (nD G st)->R .non a
def yZ(C:Cc):bX:=fun ws M R=>∃ (a:Mm) (s c:Addr) (rs:List aY) (stp:List (List aD×W)),ws=[.ref s,eX rs,.dt stp]/\rs.length<=100/\M=put a s (.ins C.s c [])/\a s=none/\∀ b (A:Ad),A.s=s->SR C ⟨rs,ownOf rs,stp⟩ a b A f7->R .non b
def t7(G:Sr)(B:fH):Prop:=∃ (S a:Nat) (st:SS) (P:List bS) (cur:aH) (T:Nat),All G S a st P cur T/\st.q=[]/\st.best=B
def y6(C:Cc):bX:=fun ws M R=>∃ (G:Sr) (E:Env) (V:List Int) (L S:Nat),ws=[eX E.rs,.rl (G.places.map W.int),.dt E.stp,.rl ((Ce G.rs.length).map fun n=>.int (G.wt n))]/\E.rs.length<=100/\E.own=ownOf E.rs/\GC G E/\qH G/\tL G V G.rs.length L/\L < 1000/\G.places.length<=1000/\(∀ t p,(G.steps t p).length<=S)/\
 (jI G).length + G.rs.length * ((L + 1) * (V.length * V.length)) * (S + V.length) + G.rs.length * ((L + 1) * (V.length * V.length)) + V.length + S + 1 < 10000000/\∀ B,t7 G B->iG (d8 fK h9 B) M R
abbrev zbr:List Str:=["things"]
def y7:aK:=
   (cP (bW xF (aB (cV (fX (eF d7 (aA 0)) (bQ 0) iW (dD (aB (aA 0) (aB (vC (.bl true)) aE))) [none])) aE)))
abbrev zbs:List Str:=["cost","other"]
def y8:aK:=
   (cP (dD (aB (aG cA (aG aV (aA 0) (vC (.int 0))) (aG aV (aA 1) (vC (.int 0)))) (aB (aG cA (aG aV (aA 0) (vC (.int 1))) (aG aV (aA 1) (vC (.int 1)))) aE))))
abbrev zbt:List Str:=["self","grammar","steps"]
def GD(C:Cc):aK:=
   (gQ C.s (aA 0) "grammar" (aA 1))
def GF(C:Cc):aK:=
   (gQ C.s (aA 0) "own" (b6 yV (aB (cV (b6 tV (aB (aA 1) aE))) aE)))
def GG(C:Cc):aK:=
   (gQ C.s (aA 0) "steps" (aA 2))
def y9(C:Cc):aK:=
   (gQ C.s (aA 0) "queue" (oI C.q (yA C) aE))
def GH(C:Cc):aK:=
   (gQ C.s (aA 0) "reached" lX)
def GJ(C:Cc):aK:=
   (gQ C.s (aA 0) "best" lX)
def GK(C:Cc):aK:=
   (gQ C.s (aA 0) "ends" lX)
def GL(C:Cc):aK:=
   (gQ C.s (aA 0) "begun" lX)
def zA(C:Cc):aK:=(aT (GD C) (aT (GF C) (aT (GG C) (aT (y9 C) (aT (GH C) (aT (GJ C) (aT (GK C) (GL C))))))))
abbrev zbu:List Str:=["self","number","cut","cost","key"]
def zB(C:Cc):aK:=
   (aT (bH 4 (dD (aB (aA 1) (aB (bW cX (aB (aA 2) aE)) (aB (aG aV (aA 2) (vC (.int 0))) (aB (aG aV (aA 2) (jY j0 (vC (.int 1)))) aE))))))
   (eE (nT (dC (aG (rIn true) (aA 4) (bT C.s (aA 0) "reached"))) (dC (aG xI (aA 3) (aG aV (bT C.s (aA 0) "reached") (aA 4)))))
    (aT (lZ (aA 3) (mY (bT C.s (aA 0) "reached") (aA 4)))
   (eN (eW C.q "put" (tT C) (bT C.s (aA 0) "queue") (aB (aA 3) (aB (dD (aB (aA 1) (aB (aA 2) aE))) aE)))))
    fV))
abbrev zbv:List Str:=["self","taken","cost","number","cut","parts","end","price"]
def zbw(C:Cc):aK:=
   (bH 1 (eW C.q "take" (yD C) (bT C.s (aA 0) "queue") aE))
def zbx(C:Cc):aK:=
   (bH 2 (aG aV (aA 1) (vC (.int 0))))
def zby(C:Cc):aK:=
   (bH 3 (aG aV (aG aV (aA 1) (vC (.int 1))) (vC (.int 0))))
def zbz(C:Cc):aK:=
   (bH 4 (aG aV (aG aV (aA 1) (vC (.int 1))) (vC (.int 1))))
def zbA(C:Cc):aK:=
   (eE (dC (aG xI (aG aV (bT C.s (aA 0) "reached") (dD (aB (aA 3) (aB (bW cX (aB (aA 4) aE)) (aB (aG aV (aA 4) (vC (.int 0))) (aB (aG aV (aA 4) (jY j0 (vC (.int 1)))) aE)))))) (aA 2)))
    wR
    fV)
def zbB(C:Cc):aK:=
   (bH 5 (aG aV (aG aV (bT C.s (aA 0) "grammar") (aA 3)) (vC (.int 1))))
def zbC(C:Cc):aK:=
   (eE (dC (aG CZ (bW cX (aB (aA 4) aE)) (bW cX (aB (aA 5) aE))))
    (eN (eW C.s "settle" (yX C) (aA 0) (aB (aA 3) (aB (aA 4) (aB (aA 2) aE)))))
    (eE (dC (aG (rIn false) (aG aV (aA 5) (aG nV (bW cX (aB (aA 4) aE)) (vC (.int 1)))) (bT C.s (aA 0) "own")))
    (eN (eW C.s "step_by_name" (yW C) (aA 0) (aB (aA 3) (aB (aA 4) (aB (aA 2) (aB (dD (aB (aG aV (aA 5) (aG nV (bW cX (aB (aA 4) aE)) (vC (.int 1)))) (aB (aG aV (aA 4) (jY j0 (vC (.int 1)))) aE))) aE))))))
    (fE (eF jG (fN "dict" tE (bT C.s (aA 0) "steps") (aB (dD (aB (aG aV (aA 5) (aG nV (bW cX (aB (aA 4) aE)) (vC (.int 1)))) (aB (aG aV (aA 4) (jY j0 (vC (.int 1)))) aE))) (aB (eV aE) aE)))) (kA 2 (fD (bQ 6) (fD (bQ 7) j9)))
    (eN (eW C.s "reach" (oP C) (aA 0) (aB (aA 3) (aB (aG cA (aA 4) (dD (aB (aA 6) aE))) (aB (dD (aB (aG cA (aG aV (aA 2) (vC (.int 0))) (aA 7)) (aB (aG aV (aA 2) (vC (.int 1))) aE))) aE))))))))
def zbD(C:Cc):aK:=(aT (zbw C) (aT (zbx C) (aT (zby C) (aT (zbz C) (aT (zbA C) (aT (zbB C) (zbC C)))))))
abbrev zbE:List Str:=["self","number","cut","cost","key","end","more"]
def zC(C:Cc):aK:=
   (aT (eN (fN "list" fU (fN "dict" qB (bT C.s (aA 0) "begun") (aB (aA 4) (aB (kS aE) aE))) (aB (dD (aB (aA 1) (aB (aA 2) (aB (aA 3) aE)))) aE)))
   (fE (eF jG (fN "dict" tE (bT C.s (aA 0) "ends") (aB (aA 4) (aB (eV aE) aE)))) (kA 2 (fD (bQ 5) (fD (bQ 6) j9)))
    (eN (eW C.s "reach" (oP C) (aA 0) (aB (aA 1) (aB (aG cA (aA 2) (dD (aB (aA 5) aE))) (aB (b6 t6 (aB (aA 3) (aB (aA 6) aE))) aE)))))))
abbrev zbF:List Str:=["self","number","cut","cost","key","fact","other","before","paid"]
def GN(C:Cc):aK:=
   (bH 4 (dD (aB (aG aV (aG aV (bT C.s (aA 0) "grammar") (aA 1)) (vC (.int 0))) (aB (aG aV (aA 2) (vC (.int 0))) aE))))
def GO(C:Cc):aK:=
   (bH 5 (aG cA (aA 4) (dD (aB (aG aV (aA 2) (jY j0 (vC (.int 1)))) aE))))
def GP(C:Cc):aK:=
   (eE (dC (aG (rIn false) (aA 5) (bT C.s (aA 0) "best")))
    wR
    fV)
def GQ(C:Cc):aK:=
   (lZ (dD (aB (aA 3) (aB (aA 1) (aB (aA 2) aE)))) (mY (bT C.s (aA 0) "best") (aA 5)))
def GR(C:Cc):aK:=
   (eN (fN "list" fU (fN "dict" qB (bT C.s (aA 0) "ends") (aB (aA 4) (aB (kS aE) aE))) (aB (dD (aB (aG aV (aA 2) (jY j0 (vC (.int 1)))) (aB (aA 3) aE))) aE)))
def GS(C:Cc):aK:=
   (eN (eW C.s "reach" (oP C) (aA 0) (aB (aA 6) (aB (aG cA (aA 7) (dD (aB (aG aV (aA 2) (jY j0 (vC (.int 1)))) aE))) (aB (b6 t6 (aB (aA 8) (aB (aA 3) aE))) aE)))))
def GU(C:Cc):aK:=
   (fE (eF jG (fN "dict" tE (bT C.s (aA 0) "begun") (aB (aA 4) (aB (eV aE) aE)))) (kA 3 (fD (bQ 6) (fD (bQ 7) (fD (bQ 8) j9)))) (GS C))
def zD(C:Cc):aK:=(aT (GN C) (aT (GO C) (aT (GP C) (aT (GQ C) (aT (GR C) (GU C))))))
abbrev zbG:List Str:=["grammar","places","steps","weights","search","number","place"]
def GV(C:Cc):aK:=
   (bH 4 (oI C.s (yZ C) (aB (aA 0) (aB (aA 2) aE))))
def GW(C:Cc):aK:=
   (fE (eF d7 (aA 1)) (bQ 6)
    (eN (eW C.s "reach" (oP C) (aA 4) (aB (aA 5) (aB (dD (aB (aA 6) aE)) (aB (dD (aB (aG aV (aA 3) (aA 5)) (aB (vC (.int 1)) aE))) aE))))))
def GX(C:Cc):aK:=
   (fE (l8 (aB (bW cX (aB (aA 0) aE)) aE)) (bQ 5) (GW C))
def GY(C:Cc):aK:=
   (eN (eW C.s "take_next" (yY C) (aA 4) aE))
def GZ(C:Cc):aK:=
   (n9 (kR (g9 (eW C.q "is_done" (yB C) (bT C.s (aA 4) "queue") aE))) (GY C))
def G0(C:Cc):aK:=
   (cP (bT C.s (aA 4) "best"))
def zE(C:Cc):aK:=(aT (GV C) (aT (GX C) (aT (GZ C) (G0 C))))
theorem zbH:∀ ws M R,yV ws M R->ws.length=1:=by rintro ws M R ⟨_,rfl,_⟩;rfl
theorem zbI:∀ ws M R,t6 ws M R->ws.length=2:=by rintro ws M R ⟨_,_,rfl,_⟩;rfl
theorem zbJ{C:Cc}:∀ ws M R,oP C ws M R->ws.length=4:=by rintro ws M R ⟨_,_,_,_,_,_,_,_,rfl,_⟩;rfl
theorem zbK{C:Cc}:∀ ws M R,yW C ws M R->ws.length=5:=by rintro ws M R ⟨_,_,_,_,_,_,_,_,rfl,_⟩;rfl
theorem zbL{C:Cc}:∀ ws M R,yX C ws M R->ws.length=4:=by rintro ws M R ⟨_,_,_,_,_,_,_,_,rfl,_⟩;rfl
theorem zbM{C:Cc}:∀ ws M R,yY C ws M R->ws.length=1:=by rintro ws M R ⟨_,_,_,_,_,rfl,_⟩;rfl
theorem zbN{C:Cc}:∀ ws M R,yZ C ws M R->ws.length=3:=by rintro ws M R ⟨_,_,_,_,_,rfl,_⟩;rfl
theorem zbO{C:Cc}:∀ ws M R,y6 C ws M R->ws.length=4:=by rintro ws M R ⟨_,_,_,_,_,rfl,_⟩;rfl
theorem G1:∀ (ts acc:List Str),tB (acc.map fQ) (ts.map fQ)=(ts.foldl hX acc).map fQ
 | [],acc=>rfl
 | t :: r,acc=>by
  show tB (bZ (acc.map fQ) (Sum.inr t) (.bl true)) (r.map fQ)=_
  rw[F1,G1,Ge]
theorem zbP{ws:List W}{M:Mm}{R:K3}(h:yV ws M R):y7 (bK R) (cF zbr ws) M:=by
 obtain⟨ts,rfl,hl,r⟩:=h
 show y7 (bK R) [some (.rl (ts.map W.str))] M
 simp? only[y7]
 refine xC (rest:=[]) (fun w=>.tup [w,.bl true]) (eI (by rw[Ab];omega)) (fun _ _=>trivial) (fun w hw b C sb a=>?_) (aQ.frz ?_)
 ·simp? only[]
  exact a
 ·simp? only[L3.xF]
  refine⟨ts.map fQ,?_,eI (by simp;omega),_,Sub.refl _,?_⟩
  ·unfold tD
   rw[Ed,Ed];rfl
  ·rw[show([]:List (aD×W))=([]:List Str).map fQ from rfl,G1]
   exact r
theorem zbQ{ws:List W}{M:Mm}{R:K3}(h:t6 ws M R):y8 (bK R) (cF zbs ws) M:=by
 obtain⟨a,b,rfl,r⟩:=h
 show y8 (bK R) [some (cW a),some (cW b)] M
 simp? only[y8,cW]
 exact⟨_,Sub.refl _,r⟩
variable {α:Type}
theorem zF{b:List Int}(h:b≠[]):bU (b.map W.int) 0=some (.int (b.headD 0)):=by
 cases b with
 | nil=>exact absurd rfl h
 | cons a t=>exact D5 _ _
theorem nF{c:List Int}(h:c≠[]):bU (c.map W.int) (-1)=some (.int (c.getLastD 0)):=by
 rcases Gy c with z | ⟨a,b,z⟩
 ·exact absurd z h
 ·rw[z,Gz,Bs]
  refine(B1 _ _).trans ?_
  simp[Jl]
theorem G2{n:Nat}{a:List Int}:W.tup [.int n,.int (a.map W.int).length,.int (a.headD 0),.int (a.getLastD 0)]=.tup ((jK (bJ n a)).map wK):=by
 rw[Ab];rfl
theorem zbR{M:Mm}{a:Addr}{t:List (K4×aH)}{n:Nat}{b:List Int}{d:aH}{R:K3}(h:M a=some (.dT (d8 jK cW t)))(hd:aF t (bJ n b)=some d)(r:R (cW d) M):L3.aV (.ref a) (.tup [.int n,.int (b.map W.int).length,.int (b.headD 0),.int (b.getLastD 0)]) M R:=by rw[G2];exact qL h (by rw[qN tW,hd];rfl) r
theorem G3{C:Cc}{E:Env}{k M:Mm}{A:Ad}{st:SS}{n:Nat}{b:List Int}{c:aH}{R:K3}{kp:Option (Addr×List W)}(hs:SK C E k M A st kp)(sm:Sm st 1)(r:∀ e,SK C E k e A {st with reached:=cT st.reached (bJ n b) c,q:=dH c (n,b) st.q} kp->R .non e) :
  ∃ a m fs w,W.ref A.s=W.ref a/\M a=some (MO.ins C.s m fs)/\Ci ("reached" : Str) fs=some w/\p8 w (W.tup (Gk wK (jK (bJ n b)))) (cW c) M fun i=>
   eW C.q "put" (tT C) (bT C.s (aA 0) "queue") (aB (aA 3) (aB (dD (aB (aA 1) (aB (aA 2) aE))) aE)) [some (W.ref A.s),some (W.int n),some (W.tup (Gk W.int b)),some (cW c),some (W.tup (Gk wK (jK (bJ n b))))] i fun x M1=>∃ h,L3.Sub h M1/\R W.non h:=by
 have l:=sm.q
 have p:=sm.r
 refine⟨A.s,A.d,_,_,rfl,hs.os,tY,sX hs.or (iL (by rw[Ab];lia)) ?_⟩
 rw[F7 tW]
 have f:=hs.rput (cT st.reached (bJ n b) c)
 obtain⟨i,j,g⟩:=f.que
 simp? only[L3.eW,L3.bT]
 exact⟨A.s,A.d,_,_,rfl,f.os,yS,A.Q.o,A.Q.d,qf A.Q,rfl,j.ob,zaJ,i,A.Q,_,c,(n,b),rfl,j,(by rw[tH];exact l),fun e h'=>⟨e,Sub.refl _,r e (g e _ h')⟩⟩
theorem zbS{C:Cc}{ws:List W}{M:Mm}{R:K3}(h:oP C ws M R):zB C (bK R) (cF zbu ws) M:=by
 obtain⟨E,g,A,st,n,b,c,kp,rfl,hs,a,sm,r⟩:=h
 show zB C (bK R) [some (.ref A.s),some (.int n),some (fJ b),some (cW c),none] M
 simp? only[zB,fJ,L3.bT]
 refine⟨_,zF a,_,nF a,?_⟩
 rw[G2]
 refine⟨A.s,A.d,_,_,rfl,hs.os,tY,.inr ⟨_,.inr ⟨_,_,hs.or,rfl,rfl⟩,_,rfl,?_⟩⟩
 rw[qN tW]
 cases e:aF st.reached (bJ n b) with
 | none=>
  rw[if_pos (by rfl)]
  refine G3 hs sm fun f h'=>r f ?_
  unfold reach;rw[e];exact h'
 | some d=>
  rw[if_neg (by rw[if_pos rfl];simp)]
  refine⟨A.s,A.d,_,_,rfl,hs.os,tY,qL hs.or (by rw[qN tW,e];rfl) ⟨c.1,c.2,d.1,d.2,rfl,rfl,_,rfl,?_⟩⟩
  show if cC c d=true then _ else _
  by_cases hl:cC c d=true
  ·rw[if_pos hl]
   refine G3 hs sm fun f h'=>r f ?_
   unfold reach;rw[e];simp only;rw[if_pos hl];exact h'
  ·rw[if_neg hl]
   refine⟨M,Sub.refl _,r M ?_⟩
   unfold reach;rw[e];simp only;rw[if_neg hl];exact hs
theorem Sm.reach{st:SS}{k:Nat}(h:Sm st (k + 1))(n:Nat)(a:List Int)(c:aH):Sm (Rg.reach st n a c) k:=by
 obtain⟨j,d,b,e⟩:=EV st n a c
 have:=h.q
 have:=h.r
 exact⟨by lia,by lia⟩
theorem Sm.le{st:SS}{k j:Nat}(h:Sm st k)(a:j<=k):Sm st j:=⟨by have:=h.q;lia,by have:=h.r;lia⟩
def eA(f:α->Nat×List Int×aH)(xs:List α)(st:SS):SS:=xs.foldl (fun st x=>reach st (f x).1 (f x).2.1 (f x).2.2) st
theorem t9{f:α->Nat×List Int×aH}{xs:List α}{st:SS}{i:Nat}{x:α}(h:xs[i]? = some x):eA f (xs.take (i + 1)) st=reach (eA f (xs.take i) st) (f x).1 (f x).2.1 (f x).2.2:=by
 unfold eA
 rw[Ga,h,List.foldl_append];rfl
theorem oQ{f:α->Nat×List Int×aH}:∀ {xs:List α} {st:SS} {k:Nat},Sm st (xs.length + k)->Sm (eA f xs st) k
 | [],st,k,h=>by simp at h;exact h
 | x :: xs,st,k,h=>by
  show Sm (eA f xs (reach st (f x).1 (f x).2.1 (f x).2.2)) k
  exact oQ (Sm.reach (by rw[Bt] at h;exact h.le (by lia)) _ _ _)
theorem qO{f:α->Nat×List Int×aH}:∀ {xs:List α} {st:SS},(eA f xs st).ends=st.ends/\(eA f xs st).begun=st.begun/\(eA f xs st).best=st.best
 | [],st=>⟨rfl,rfl,rfl⟩
 | x :: xs,st=>by
  have b:=qO (f:=f) (xs:=xs) (st:=reach st (f x).1 (f x).2.1 (f x).2.2)
  have d:∀ n a c,(reach st n a c).ends=st.ends/\(reach st n a c).begun=st.begun/\(reach st n a c).best=st.best:=by
   intro n a c
   unfold reach
   split
   ·split <;> exact⟨rfl,rfl,rfl⟩
   ·exact⟨rfl,rfl,rfl⟩
  obtain⟨a1,a2,e⟩:=d (f x).1 (f x).2.1 (f x).2.2
  exact⟨b.1.trans a1,b.2.1.trans a2,b.2.2.trans e⟩
theorem zbT{C:Cc}{ws:List W}{M:Mm}{R:K3}(h:yW C ws M R):zC C (bK R) (cF zbE ws) M:=by
 obtain⟨E,G,A,st,n,a,c,b,rfl,hs,t,J,sm,hb,x,r⟩:=h
 show zC C (bK R) [some (.ref A.s),some (.int n),some (fJ a),some (cW c),some (.tup [.str b,.int (a.getLastD 0)]),none,none] M
 simp? only[zC,L3.bT]
 refine⟨A.s,A.d,_,_,rfl,hs.os,GA,hs.gput (z:=(n,a,c)) hb x fun M1 m=>?_⟩
 have hf:=m.ends_at (b,a.getLastD 0)
 obtain⟨kvs,H,hc⟩:=hf
 refine⟨A.s,A.d,_,_,rfl,m.os,F9,qM H,_,.inr ⟨kvs,eK (b,a.getLastD 0),H,rfl,rfl⟩,?_⟩
 rcases hc with⟨D,u⟩ | ⟨p,xs,D,u,hk⟩
 ·rw[D]
  refine fF (fun i l k=>k=M1) rfl (fun _ _ _ _ _=>trivial) (fun i w l k hw=>nomatch hw) ?_
  rintro l k rfl
  refine⟨_,Sub.refl _,r _ ?_⟩
  unfold fI
  rw[show aF st.ends (b,a.getLastD 0)=none from u]
  exact m
 ·rw[D]
  obtain⟨f,hf⟩:∃ f:Int×aH->Nat×List Int×aH,f=fun z=>(n,a ++ [z.1],dQ c z.2):=⟨_,rfl⟩
  obtain⟨g,j⟩:∃ g,g = {st with begun:=eP st.begun (b,a.getLastD 0) (n,a,c)}:=⟨_,rfl⟩
  rw[<-j] at hk
  have y:Sm g xs.length:=by
   rw[show aF st.ends (b,a.getLastD 0)=some xs from u] at sm
   rw[j];exact⟨sm.q,sm.r⟩
  refine⟨_,hk.kept,fF (fun i l k=>∃ B F,l=[some (.ref A.s),some (.int n),some (fJ a),some (cW c),some (.tup [.str b,.int (a.getLastD 0)]),B,F]/\SK C E G k A (eA f (xs.take i) g) (some (p,xs.map iO))) ⟨_,_,rfl,hk⟩ (fun i l k _ ⟨_,_,_,h⟩=>h.kept) ?_ ?_⟩
  ·rintro i w l k hw ⟨B,F,rfl,e⟩
   rw[Bh] at hw
   obtain⟨z,hz,rfl⟩:=Bn.mp hw
   have hi:=(Ao.mp hz).1
   simp? only[iO,L3.eW,fJ]
   have v:Sm (eA f (xs.take i) g) 1:=oQ (y.le (by rw[Cf];lia))
   have K:W.tup (Gk W.int a ++ [W.int z.1])=fJ (a ++ [z.1]):=by unfold fJ;rw[Bs];rfl
   refine⟨A.s,A.d,_,rfl,e.os,tZ,by simpa using t,by rw[Ab];lia,c,z.2,rfl,E,G,A,_,n,a ++ [z.1],dQ c z.2,_,by rw[K],e,by simp,v,fun I o=>⟨I,Sub.refl _,_,_,rfl,?_⟩⟩
   rw[t9 hz,hf]
   rw[hf] at o
   exact o
  ·rintro l k ⟨B,F,rfl,e⟩
   rw[Ab,Ew] at e
   refine⟨_,Sub.refl _,r _ ?_⟩
   unfold fI
   rw[show aF st.ends (b,a.getLastD 0)=some xs from u]
   rw[j,hf] at e
   exact e.free
end Rg
namespace Rg
open PySem PySem.Spec PyProof.Rows L2 L3
theorem G4{rs:List aY}{n:Nat}(h:n < rs.length):∃ r,rs[n]? = some r/\bU (rs.map cB) (n:Int)=some (cB r):=by
 refine⟨rs[n],An h,jO ?_⟩
 rw[Bh,An h];rfl
theorem zbU{bs:fH}{k:b5}{v:aH×Nat×List Int}(h:aF bs k=none):bZ (d8 fK h9 bs) (fK k) (h9 v)=d8 fK h9 (bs ++ [(k,v)]):=by
 rw[F7 tX,yU h]
theorem zbV{C:Cc}{ws:List W}{M:Mm}{R:K3}(h:yX C ws M R):zD C (bK R) (cF zbF ws) M:=by
 obtain⟨G,E,U,A,st,n,a,c,rfl,hs,hG,hn,g,V,sm,hb,he,K,r⟩:=h
 show zD C (bK R) [some (.ref A.s),some (.int n),some (fJ a),some (cW c),none,none,none,none,none] M
 obtain⟨ru,Z,S⟩:=G4 hn
 obtain⟨nm,O⟩:∃ nm,nm=ru.name:=⟨_,rfl⟩
 have F:cD G n=nm:=by unfold cD;rw[hG,Z,O]
 simp? only[zD,GN,GO,GP,fJ,L3.bT]
 refine⟨A.s,A.d,_,_,rfl,hs.os,F8,_,S,?_⟩
 simp? only[cB]
 rw[<-O]
 obtain⟨hd,u⟩:∃ hd,hd=a.headD 0:=⟨_,rfl⟩
 obtain⟨la,l⟩:∃ la,la=a.getLastD 0:=⟨_,rfl⟩
 have t:cI G n a=(nm,hd,la):=by unfold cI;rw[F,u,l]
 refine⟨_,zF g,_,nF g,by simp,A.s,A.d,_,_,rfl,hs.os,yT,?_⟩
 rw[F,<-u] at sm K
 rw[<-u,<-l]
 refine .inr ⟨_,.inr ⟨_,fK (nm,hd,la),hs.ob,rfl,rfl⟩,_,rfl,?_⟩
 rw[qN tX]
 cases j:aF st.best (nm,hd,la) with
 | some v=>
  rw[if_pos (by simp)]
  refine⟨M,Sub.refl _,r M ?_⟩
  unfold settle;rw[t,j];exact hs
 | none=>
  rw[if_neg (by simp)]
  simp? only[GQ,L3.bT]
  refine⟨A.s,A.d,_,_,rfl,hs.os,yT,?_⟩
  refine sX (k:=fK (nm,hd,la)) hs.ob (iL (by rw[Ab];exact hb)) ?_
  have eb:W.tup [cW c,W.int n,W.tup (Gk W.int a)]=h9 (c,n,a):=rfl
  rw[eb,zbU j]
  have L:=hs.bput (st.best ++ [((nm,hd,la),c,n,a)])
  simp? only[GR,L3.bT]
  refine⟨A.s,A.d,_,_,rfl,L.os,F9,?_⟩
  simp only[nF g,Eg,exists_eq_left']
  rw[<-l]
  refine L.eput (z:=(la,c)) he K fun M1 m=>?_
  obtain⟨b,e⟩:∃ b:SS,b = {st with best:=st.best ++ [((nm,hd,la),c,n,a)],ends:=eP st.ends (nm,hd) (la,c)}:=⟨_,rfl⟩
  have m:SR C E U M1 A b:=by rw[e];exact m
  have D:∀ xs,(aF st.begun (nm,hd)).getD []=xs->settle G st n a c=eA (fun y:bS=>(y.1,y.2.1 ++ [la],dQ y.2.2 c)) xs b:=fun xs hx=>by
   unfold settle
   rw[t,j,F,<-u,<-l,hx,e];rfl
  have B:b.begun=st.begun:=by rw[e]
  simp? only[GU,L3.bT]
  obtain⟨kvs,hg,hc⟩:=m.begun_at (nm,hd)
  refine⟨A.s,A.d,_,_,rfl,m.os,GA,qM hg,_,.inr ⟨kvs,eK (nm,hd),hg,rfl,rfl⟩,?_⟩
  rcases hc with⟨X,I⟩ | ⟨p,xs,X,I,hk⟩
  ·rw[X]
   refine fF (fun i H x=>x=M1) rfl (fun _ _ _ _ _=>trivial) (fun i w H x hw=>nomatch hw) ?_
   rintro H x rfl
   refine⟨_,Sub.refl _,r _ ?_⟩
   rw[D [] (by rw[B] at I;rw[I];rfl)]
   exact m
  ·rw[X]
   rw[B] at I
   obtain⟨f,hf⟩:∃ f:bS->Nat×List Int×aH,f=fun y=>(y.1,y.2.1 ++ [la],dQ y.2.2 c):=⟨_,rfl⟩
   have T:Sm b xs.length:=by
    rw[I] at sm
    rw[e];exact⟨sm.q,sm.r⟩
   have hbx:∀ y∈xs,y.2.1.length < 1000/\y.2.1≠[]:=fun y J=>V (nm,hd) y (by rw[I];exact J)
   refine⟨_,hk.kept,fF (fun i H x=>∃ Y P o8,H=[some (.ref A.s),some (.int n),some (.tup (a.map W.int)),some (cW c),some (.tup [.str nm,.int hd]),some (.tup ([.str nm,.int hd] ++ [.int la])),Y,P,o8]/\SK C E U x A (eA f (xs.take i) b) (some (p,xs.map iP))) ⟨_,_,_,rfl,hk⟩ (fun i H x _ ⟨_,_,_,_,h⟩=>h.kept) ?_ ?_⟩
   ·rintro i w H x hw ⟨Y,P,o8,rfl,o⟩
    rw[Bh] at hw
    obtain⟨y,J,rfl⟩:=Bn.mp hw
    have hi:=(Ao.mp J).1
    obtain⟨hyl,hyn⟩:=hbx y (Be J)
    simp? only[iP,GS,L3.eW,fJ]
    have Q:Sm (eA f (xs.take i) b) 1:=oQ (T.le (by rw[Cf];lia))
    have e1:W.tup (Gk W.int y.2.1 ++ [W.int la])=fJ (y.2.1 ++ [la]):=by unfold fJ;rw[Bs];rfl
    refine⟨A.s,A.d,_,rfl,o.os,tZ,_,nF g,by simpa using hyn,by rw[Ab];lia,y.2.2,c,rfl,E,U,A,_,y.1,y.2.1 ++ [la],dQ y.2.2 c,_,by rw[<-l,e1],o,by simp,Q,fun M2 N=>⟨M2,Sub.refl _,_,_,_,rfl,?_⟩⟩
    rw[t9 J,hf]
    rw[hf] at N
    exact N
   ·rintro H x ⟨Y,P,o8,rfl,o⟩
    rw[Ab,Ew] at o
    refine⟨_,Sub.refl _,r _ ?_⟩
    rw[D xs (by rw[I];rfl),<-hf]
    exact o.free
theorem zbW{C:Cc}{ws:List W}{M:Mm}{R:K3}(h:yY C ws M R):zbD C (bK R) (cF zbv ws) M:=by
 obtain⟨G,E,T,A,st,rfl,hs,K,hq,v,r⟩:=h
 obtain⟨c,x,D,e1,f1,m1,l1,_,_⟩:=nC hs.fall hq
 obtain⟨n,a⟩:=x
 obtain⟨l,S,hn,d,hd⟩:=v.item c n a D e1
 obtain⟨M3,hQ,N⟩:=hs.que
 refine⟨_,rfl,A.s,A.d,_,_,rfl,hs.os,yS,A.Q.o,A.Q.d,_,rfl,hQ.ob,zaK,M3,A.Q,_,c,(n,a),D,rfl,hQ,e1,fun M1 hQ1=>?_⟩
 have m:=N M1 D hQ1
 have B:∀ k,Sm st k->Sm {st with q:=D} k:=fun k h=>⟨by have:=h.q;show(aW D).length + k < _;lia,h.r⟩
 have ht:nD G st=if cC d c=true then {st with q:=D} else process G {st with q:=D} n a c:=by
  unfold nD
  simp only[e1,hd]
 obtain⟨j,t⟩:∃ j:SS,j = {st with q:=D}:=⟨_,rfl⟩
 have b1:j.begun=st.begun:=by rw[t]
 have b2:j.ends=st.ends:=by rw[t]
 have b3:j.best=st.best:=by rw[t]
 have b4:j.reached=st.reached:=by rw[t]
 rw[<-t] at m B ht
 clear t
 refine⟨_,rfl,_,rfl,_,rfl,_,rfl,_,rfl,_,rfl,_,rfl,_,rfl,_,rfl,A.s,A.d,_,_,rfl,m.os,tY,_,rfl,_,rfl,_,rfl,_,zF l,_,rfl,_,nF l,z4,zbR m.or (by rw[b4];exact hd) ⟨_,rfl,d.1,d.2,c.1,c.2,rfl,rfl,_,rfl,fL (fun hl=>?_) fun hl=>?_⟩⟩
 ·rw[ht,if_pos (show cC d c=true from hl)] at r
  exact⟨M1,Sub.refl _,r M1 m⟩
 rw[ht,if_neg (ne_true_of_eq_false (show cC d c=false from hl))] at r
 rw[K.rs] at hn
 obtain⟨L,hr1,Z⟩:=G4 hn
 have u:dA G n a=L.parts[a.length - 1]?:=by unfold dA;rw[K.rs,hr1]
 have hpos:=Jn.mpr l
 have y:(Gk W.int a).length=a.length:=Ab _
 have P:(Gk W.str L.parts).length=L.parts.length:=Ab _
 refine⟨_,rfl,A.s,A.d,_,_,rfl,m.os,F8,_,rfl,_,Z,_,rfl,_,rfl,_,rfl,_,rfl,fL (fun p=>?_) fun p=>?_⟩
 ·have p:=of_decide_eq_true p
  rw[y,P] at p
  have U:dA G n a=none:=by rw[u];exact Il (by lia)
  refine⟨_,rfl,A.s,A.d,_,rfl,m.os,zbq,_,rfl,_,rfl,_,rfl,G,E,T,A,j,n,a,c,rfl,m,K.rs,hn,l,by rw[b1];exact v.bg,by rw[b1];exact B _ (v.gl _).2,by rw[b3];exact v.b,by rw[b2];exact v.e,by rw[b2];exact(v.el _).1,fun F I=>⟨F,Sub.refl _,r F ?_⟩⟩
  unfold process;rw[U];exact I
 have p:=of_decide_eq_false p
 rw[y,P] at p
 obtain⟨f,U⟩:∃ f,L.parts[a.length - 1]? = some f:=⟨_,An (by lia)⟩
 rw[U] at u
 have H:bU (L.parts.map W.str) ((Gk W.int a).length - 1)=some (.str f):=by
  rw[y,show((a.length:Int) - 1)=((a.length - 1:Nat):Int) by lia]
  exact jO (by rw[Bh,U];rfl)
 have X:process G j n a c=if G.own f=true then fI j n a c f else eA (fun z:Int×Int=>(n,a ++ [z.1],(c.1 + z.2,c.2))) (G.steps f (a.getLastD 0)) j:=by
  unfold process;rw[u];rfl
 rw[X] at r
 refine⟨_,rfl,_,rfl,_,H,_,rfl,A.s,A.d,_,_,rfl,m.os,zbm,_,⟨Sum.inr f,rfl,rfl⟩,_,rfl,fL (fun ho=>?_) fun ho=>?_⟩
 ·rw[if_pos ((K.own f).symm.trans ho)] at r
  exact⟨_,rfl,A.s,A.d,_,rfl,m.os,zbp,_,rfl,_,rfl,_,rfl,_,rfl,_,rfl,_,H,_,rfl,_,nF l,z2,E,T,A,j,n,a,c,f,rfl,m,l,S,by rw[b2];exact B _ (v.el _).2,by rw[b1];exact v.g,by rw[b1];exact(v.gl _).1,fun F I=>⟨F,Sub.refl _,r F I⟩⟩
 rw[if_neg (ne_true_of_eq_false ((K.own f).symm.trans ho))] at r
 obtain⟨xs,J⟩:∃ xs,xs=G.steps f (a.getLastD 0):=⟨_,rfl⟩
 have sm1:Sm j xs.length:=by rw[J];exact B _ (v.sl _ _)
 have O:(bD E.stp (eK (f,a.getLastD 0))).getD (.rl [])=.rl (xs.map fun z=>.tup [.int z.1,.int z.2]):=by
  rw[J]
  rcases K.stp f (a.getLastD 0) with⟨h1,h2⟩ | h1
  ·rw[h1,h2];rfl
  ·rw[h1];rfl
 rw[<-J] at r
 refine⟨_,rfl,A.s,A.d,_,_,rfl,m.os,zbn,rfl,_,rfl,_,rfl,_,H,_,rfl,_,nF l,z2,Co _,_,⟨eK (f,a.getLastD 0),rfl,rfl⟩,zaZ O (fF (fun i Y M'=>∃ o6 V,Y=[some (.ref A.s),some (.tup [cW c,jJ (n,a)]),some (cW c),some (.int n),some (fJ a),some (.tup (L.parts.map W.str)),o6,V]/\SR C E T M' A (eA (fun z:Int×Int=>(n,a ++ [z.1],(c.1 + z.2,c.2))) (xs.take i) j)) ⟨_,_,rfl,m⟩ (fun _ _ _ _ _=>trivial) ?_ ?_)⟩
 ·rintro i w Y M' hw ⟨o6,V,rfl,hk⟩
  rw[Bh] at hw
  obtain⟨z,hz,rfl⟩:=Bn.mp hw
  have hi:=(Ao.mp hz).1
  exact⟨rfl,rfl,_,rfl,A.s,A.d,_,rfl,hk.os,tZ,_,rfl,_,rfl,_,rfl,z1,by simpa using l,by rw[y];exact Bp S (eI (by decide)),_,rfl,_,rfl,_,rfl,_,rfl,_,rfl,z2,E,T,A,_,n,a ++ [z.1],(c.1 + z.2,c.2),_,by rw[fJ,Bs];rfl,hk,by simp,oQ (sm1.le (by rw[Cf];lia)),fun F hk2=>⟨F,Sub.refl _,_,_,rfl,by rw[t9 hz];exact hk2⟩⟩
 ·rintro Y M' ⟨o6,V,rfl,hk⟩
  rw[Ab,Ew] at hk
  exact⟨_,Sub.refl _,r _ hk⟩
theorem zbX{E:Env}{A:Ad}:bR "begun" (.ref A.g) (bR "ends" (.ref A.e) (bR "best" (.ref A.b) (bR "reached" (.ref A.r) (bR "queue" (.ref A.Q.o) ([("grammar",(eX E.rs)),("own",(W.dk E.own)),("steps",(W.dt E.stp))]:List (Str×W))))))=sf E A:=by kernel_rfl
theorem uA{C:Cc}{B c:Mm}{A:Aq}{q:Qu}{s b p:Addr}{fs fs':List (Str×W)}(d:QR C B c A q)(f:B s=some (.ins C.s b fs))(a:c p=none):p≠s/\B p=none/\put c p (.dT []) s=some (.ins C.s b fs)/\QR C (put (put B p (.dT [])) s (.ins C.s b fs')) (put (put c p (.dT [])) s (.ins C.s b fs')) A q:=by
 have hs:=d.sub _ _ f
 have ne:p≠s:=fun e=>by rw[e,hs] at a;cases a
 exact⟨ne,d.sub.non a,by rw[aP (Bq ne)];exact hs,(d.lift (.inl a)).lift (.inr ⟨_,by rw[aP (Bq ne)];exact f⟩)⟩
theorem qP(f:Str)(w:W):∀ fs:List (Str×W),(bR f w fs).length<=fs.length + 1
 | []=>Ai _
 | (k,x) :: r=>by
  rw[bR]
  split
  ·simp
  ·have:=qP f w r
   simp only[Bt];lia
theorem zbY{C:Cc}{ws:List W}{M:Mm}{R:K3}(h:yZ C ws M R):zA C (bK R) (cF zbt ws) M:=by
 obtain⟨x,s,c,rs,stp,rfl,hl,rfl,h0,r⟩:=h
 show zA C (bK R) [some (.ref s),some (eX rs),some (.dt stp)] (put x s (.ins C.s c []))
 simp? only[zA,GD,GF,GG,eX,L3.gQ]
 refine⟨s,c,_,rfl,bC,by decide,?_⟩
 rw[kO]
 have e2:∀ w:W,bR "own" w (bR "grammar" (.rl (rs.map cB)) [])=([("grammar",eX rs),("own",w)]:List (Str×W)):=fun w=>by kernel_rfl
 have e3:∀ w:W,bR "steps" w ([("grammar",eX rs),("own",.dk (ownOf rs))]:List (Str×W))=([("grammar",eX rs),("own",.dk (ownOf rs)),("steps",w)]:List (Str×W)):=fun w=>by kernel_rfl
 refine⟨rs,rfl,hl,aQ.frz ⟨namesOf rs,rfl,?_,s,c,_,rfl,bC,(show(1:Nat) < 1000 by decide),s,c,_,rfl,bC,?_,?_⟩⟩
 ·have:=xN (rs.map aY.name) []
  rw[Ab] at this
  unfold namesOf qD
  simp at this
  simp;lia
 ·rw[e2];exact(show(2:Nat) < 1000 by decide)
 rw[kO,kO,e2]
 show y9 C _ _ (put x s (.ins C.s c (bR "steps" (.dt stp) [("grammar",eX rs),("own",.dk (ownOf rs))])))
 rw[e3]
 simp? only[y9,L3.gQ,L3.oI]
 intro a da ha hda hne
 have hsa:s≠a:=fun e=>by rw[<-e,bC] at ha;cases ha
 obtain⟨U,y⟩:∃ F:List (Str×W),F=([("grammar",eX rs),("own",.dk (ownOf rs)),("steps",.dt stp)]:List (Str×W)):=⟨_,rfl⟩
 rw[<-y] at ha hda ⊢
 refine⟨_,a,da,rfl,rfl,ha,fun M1 Aq hAq hQ=>⟨rfl,s,c,U,rfl,hQ.sub _ _ bC,by rw[y];exact(show(3:Nat) < 1000 by decide),?_⟩⟩
 have v:=hQ.lift (p:=s) (o:=.ins C.s c (bR "queue" (.ref a) U)) (.inr ⟨_,bC⟩)
 rw[kO] at v
 obtain⟨l,J⟩:∃ F:List (Str×W),F=bR "queue" (.ref a) U:=⟨_,rfl⟩
 have l4:l.length<=4:=by rw[J];have:=qP "queue" (.ref a) U;rw[y] at this ⊢;exact this
 rw[<-J] at v ⊢
 obtain⟨Mt,hMt⟩:∃ m,m=put M1 s (.ins C.s c l):=⟨_,rfl⟩
 rw[<-hMt] at v ⊢
 simp? only[GH,GJ,GK,GL,L3.gQ]
 intro d Z
 obtain⟨u,b1,o1,hQ2⟩:=uA (fs':=bR "reached" (.ref d) l) v bC Z
 refine⟨s,c,l,rfl,o1,by lia,?_⟩
 intro i hp2
 obtain⟨G,b2,o2,X⟩:=uA (fs':=bR "best" (.ref i) (bR "reached" (.ref d) l)) hQ2 bC hp2
 have l5:=qP "reached" (.ref d) l
 refine⟨s,c,_,rfl,o2,by lia,?_⟩
 intro f hp3
 obtain⟨K,L,o3,V⟩:=uA (fs':=bR "ends" (.ref f) (bR "best" (.ref i) (bR "reached" (.ref d) l))) X bC hp3
 have l6:=qP "best" (.ref i) (bR "reached" (.ref d) l)
 refine⟨s,c,_,rfl,o3,by lia,?_⟩
 intro n hp4
 obtain⟨N,D,o4,z⟩:=uA (fs':=bR "begun" (.ref n) (bR "ends" (.ref f) (bR "best" (.ref i) (bR "reached" (.ref d) l)))) V bC hp4
 have l7:=qP "ends" (.ref f) (bR "best" (.ref i) (bR "reached" (.ref d) l))
 refine⟨s,c,_,rfl,o4,by lia,_,Sub.refl _,r _ ⟨s,c,Aq,d,i,f,n⟩ rfl ?_⟩
 obtain⟨A,O⟩:∃ A:Ad,A=⟨s,c,Aq,d,i,f,n⟩:=⟨_,rfl⟩
 obtain⟨E,hE⟩:∃ E:Env,E=⟨rs,ownOf rs,stp⟩:=⟨_,rfl⟩
 have Y:bR "begun" (.ref n) (bR "ends" (.ref f) (bR "best" (.ref i) (bR "reached" (.ref d) l)))=sf E A:=by
  rw[<-zbX,J,y,O,hE,<-hAq]
 rw[Y] at z ⊢
 rw[<-O,<-hE]
 have q:i≠d:=fun e=>by rw[e,aP u,bC] at b2;cases b2
 have I:f≠d:=fun e=>by rw[e,aP u,aP (Bq q),aP u,bC] at L;cases L
 have H:f≠i:=fun e=>by rw[e,aP G,bC] at L;cases L
 have P:n≠d:=fun e=>by rw[e,aP u,aP (Bq I),aP u,aP (Bq q),aP u,bC] at D;cases D
 have T:n≠i:=fun e=>by rw[e,aP G,aP (Bq H),aP G,bC] at D;cases D
 have S:n≠f:=fun e=>by rw[e,aP K,bC] at D;cases D
 have z1:x d=none:=by rw[aP u] at b1;exact b1
 have z2:x i=none:=by rw[aP G,aP q,aP G] at b2;exact b2
 have z3:x f=none:=by rw[aP K,aP H,aP K,aP I,aP K] at L;exact L
 have z4:x n=none:=by rw[aP N,aP S,aP N,aP T,aP N,aP P,aP N] at D;exact D
 obtain⟨t,B⟩:∃ m,m=put (put (put x s (.ins C.s c (sf E A))) d (.dT [])) i (.dT []):=⟨_,rfl⟩
 have hB:put (put (put (put (put (put (put (put (put x s (.ins C.s c l)) d (.dT [])) s (.ins C.s c (bR "reached" (.ref d) l))) i (.dT [])) s (.ins C.s c (bR "best" (.ref i) (bR "reached" (.ref d) l)))) f (.dT [])) s (.ins C.s c (bR "ends" (.ref f) (bR "best" (.ref i) (bR "reached" (.ref d) l))))) n (.dT [])) s (.ins C.s c (sf E A))=put (put t f (.dT [])) n (.dT []):=by
  rw[B]
  funext b
  unfold put
  by_cases g0:b=s
  ·subst g0;simp[Bq u,Bq G,Bq K,Bq N]
  ·simp only[if_neg g0]
 rw[hB] at z
 have mn:Mn C E x t A [] []:=by
  rw[B,O]
  exact⟨hZ (hZ (hZ (Sub.refl _) h0) z1) z2,h0,z1,z2,Bq u,Bq G,Bq q,by rw[aP (Bq G),aP (Bq u),bC],by rw[aP (Bq q),bC];rfl,by rw[bC];rfl⟩
 have y3:t f=none:=by rw[B,aP H,aP I,aP K];exact z3
 have y4:t n=none:=by rw[B,aP T,aP P,aP N];exact z4
 have t1:dX eK t (put t f (.dT [])) A.e [] (eG []):=by rw[O];exact⟨Sub.new y3,y3,bC,(fun _ _=>rfl),(fun k ws e=>nomatch e),(fun k j p e=>nomatch e)⟩
 have x4:put t f (.dT []) n=none:=by rw[aP S];exact y4
 have t2:dX eK (put t f (.dT [])) (put (put t f (.dT [])) n (.dT [])) A.g [] (gG []):=by rw[O];exact⟨Sub.new x4,x4,bC,(fun _ _=>rfl),(fun k ws e=>nomatch e),(fun k j p e=>nomatch e)⟩
 have hAQ:A.Q=Aq:=by rw[O]
 rw[<-hAQ] at z
 exact⟨t,_,_,[],[],mn,t1,t2,z,Ai _,Ai _,trivial⟩
structure Ln(st:SS)(T:Nat):Prop where
 b:st.best.length<=T
 e:st.ends.length<=T
 g:st.begun.length<=T
theorem Ln.process{G:Sr}{st:SS}{T:Nat}(h:Ln st T)(n:Nat)(a:List Int)(c:aH):Ln (Rg.process G st n a c) (T + 1):=by
 have k:=h.b
 have j:=h.e
 have l:=h.g
 have keep:Ln st (T + 1):=⟨by lia,by lia,by lia⟩
 unfold Rg.process
 split
 ·unfold settle
  split
  ·exact keep
  ·obtain⟨a1,a2,i⟩:=qO (f:=fun y:bS=>(y.1,y.2.1 ++ [a.getLastD 0],dQ y.2.2 c)) (xs:=(aF st.begun (cD G n,a.headD 0)).getD []) (st:={st with best:=st.best ++ [(cI G n a,c,n,a)],ends:=eP st.ends (cD G n,a.headD 0) (a.getLastD 0,c)})
   refine⟨?_,?_,?_⟩
   ·refine Bp (Fo (congrArg Bb i)) ?_
    show(st.best ++ [_]).length<=_
    rw[Av,Eb];lia
   ·refine Bp (Fo (congrArg Bb a1)) ?_
    have:=tG st.ends (cD G n,a.headD 0) ((aF st.ends (cD G n,a.headD 0)).getD [] ++ [(a.getLastD 0,c)])
    show(cT _ _ _).length<=_
    lia
   ·refine Bp (Fo (congrArg Bb a2)) ?_
    exact keep.g
 ·rename_i d _
  split
  ·unfold fI
   obtain⟨a1,a2,i⟩:=qO (f:=fun z:Int×aH=>(n,a ++ [z.1],dQ c z.2)) (xs:=(aF st.ends (d,a.getLastD 0)).getD []) (st:={st with begun:=eP st.begun (d,a.getLastD 0) (n,a,c)})
   refine⟨?_,?_,?_⟩
   ·exact Bp (Fo (congrArg Bb i)) keep.b
   ·exact Bp (Fo (congrArg Bb a1)) keep.e
   ·refine Bp (Fo (congrArg Bb a2)) ?_
    have:=tG st.begun (d,a.getLastD 0) ((aF st.begun (d,a.getLastD 0)).getD [] ++ [(n,a,c)])
    show(cT _ _ _).length<=_
    lia
  ·unfold fP
   obtain⟨a1,a2,i⟩:=qO (f:=fun z:Int×Int=>(n,a ++ [z.1],(c.1 + z.2,c.2))) (xs:=G.steps d (a.getLastD 0)) (st:=st)
   exact⟨Bp (Fo (congrArg Bb i)) keep.b,Bp (Fo (congrArg Bb a1)) keep.e,Bp (Fo (congrArg Bb a2)) keep.g⟩
theorem Ln.next{G:Sr}{st:SS}{T:Nat}(h:Ln st T):Ln (nD G st) (T + 1):=by
 have f:=h.b
 have d:=h.e
 have i:=h.g
 have keep:Ln st (T + 1):=⟨by lia,by lia,by lia⟩
 have c:∀ a,Ln {st with q:=a} T:=fun a=>⟨f,d,i⟩
 unfold nD
 split
 ·exact keep
 ·split
  ·split
   ·exact⟨keep.b,keep.e,keep.g⟩
   ·exact(c _).process _ _ _
  ·exact⟨keep.b,keep.e,keep.g⟩
theorem zbZ{G:Sr}{V:List Int}{L S r T:Nat}{st:SS}{P:List bS}{cur:aH}(v:tL G V G.rs.length L)(R:L < 1000)(A:All G S r st P cur T)(C:∀ t p,(G.steps t p).length<=S)(o:Ln st T)
  (hb:r + G.rs.length * ((L + 1) * (V.length * V.length)) * (S + V.length) + G.rs.length * ((L + 1) * (V.length * V.length)) + V.length + S + 1 < 10000000):Rm G st:=by
 obtain⟨Q,H,K⟩:=EX v A
 have i:∀ {n a c},GI G st.best n a c->DI G n a c:=fun {n a c} g=>xT (B:=st.best) (fun f m O w h=>tJ A.ob h) g
 have U:=A.cn.rch
 generalize G.rs.length * ((L + 1) * (V.length * V.length))=X at *
 generalize X * (S + V.length)=Y at *
 have N:=o.b
 have M:=o.e
 have I:=o.g
 have F:∀ key,((aF st.begun key).getD []).length<=X:=fun key=>by
  have:=len_sub (b:=P) (A.cn.bnd key) fun y k=>(A.ob.bgn key y k).1
  lia
 refine⟨fun c n a J e=>?_,fun key y k=>?_,by lia,by lia,by lia,fun key=>?_,fun key=>?_,fun t p=>?_⟩
 ·have j:st.q≠[]:=fun z=>by rw[z] at e;cases e
  obtain⟨_,_,_,x,_,D,_⟩:=nC A.inv.fall j
  rw[e] at x
  cases x
  have u:(c,(n,a))∈aW st.q:=(D _).mpr (.inl rfl)
  have hd:=i (A.inv.item _ u)
  obtain⟨_,s,l⟩:=tN v hd
  obtain⟨d,E,_⟩:=A.inv.ge _ u
  exact⟨hd.ne,by have l:a.length<=L:=l;lia,s,d,E⟩
 ·have hd:=i (A.inv.pr y (A.ob.bgn key y k).1).2.2
  obtain⟨_,s,l⟩:=tN v hd
  exact⟨by lia,hd.ne⟩
 ·have:=H key
  exact⟨by lia,⟨by lia,by lia⟩⟩
 ·have:=F key
  exact⟨by lia,⟨by lia,by lia⟩⟩
 ·have:=C t p
  exact⟨by lia,by lia⟩
def kC(G:Sr)(i:Nat):List (Nat×Int):=(Ce i).flatMap fun n=>G.places.map fun p=>(n,p)
theorem zb0(G:Sr)(i:Nat):kC G (i + 1)=kC G i ++ G.places.map fun p=>(i,p):=by
 unfold kC
 rw[List.range_succ,List.flatMap_append];simp
theorem zG(G:Sr)(i:Nat):(kC G i).length=i * G.places.length:=by
 unfold kC
 rw[qK (k:=G.places.length) fun n _=>by rw[Ab],Ez]
abbrev nG(G:Sr):Nat×Int->Nat×List Int×aH:=fun x=>(x.1,[x.2],(G.wt x.1,1))
theorem zb1{a:Type}{f:a->Nat×List Int×aH}{xs ys:List a}{st:SS}:eA f (xs ++ ys) st=eA f ys (eA f xs st):=by
 unfold eA;rw[List.foldl_append]
theorem SK.told{C:Cc}{E:Env}{a M:Mm}{A:Ad}{st:SS}{kp:Option (Addr×List W)}(h:SK C E a M A st kp):a A.b=none/\L3.Sub (put a A.b (.dT (d8 fK h9 st.best))) M:=by
 obtain⟨M1,m,n,e,g,c,d,f,i,k,l,j⟩:=h.ex
 refine⟨c.nb,fun b u e=>?_⟩
 by_cases hb:b=A.b
 ·subst hb;rw[bC] at e;cases e;exact h.ob
 ·rw[aP hb] at e;exact i.sub _ _ (f.sub _ _ (d.sub _ _ (c.sub _ _ e)))
theorem zb2{n i:Nat}{w:W}(h:(hV 0 n)[i]? = some w):i < n/\w=.int (i:Nat):=by
 unfold hV at h
 rw[Bh] at h
 obtain⟨j,c,rfl⟩:=Bn.mp h
 obtain⟨a,b⟩:=Ao.mp c
 rw[List.getElem_range] at b
 rw[Ez] at a
 exact⟨a,by rw[<-b,Lj]⟩
theorem G5{lo:Int}{n:Nat}:(hV lo n).length=n:=by unfold hV;simp
theorem zb3{C:Cc}{ws:List W}{M:Mm}{R:K3}(h:y6 C ws M R):zE C (bK R) (cF zbG ws) M:=by
 obtain⟨G,E,V,L,S,rfl,Z,I,ev,ok,v,hL,hpl,hS,hb,r⟩:=h
 obtain⟨l,x⟩:∃ w:W,w=.rl ((Ce G.rs.length).map fun n=>.int (G.wt n)):=⟨_,rfl⟩
 obtain⟨y,t⟩:∃ w:W,w=.rl (G.places.map W.int):=⟨_,rfl⟩
 rw[<-x,<-t]
 show zE C (bK R) [some (eX E.rs),some y,some (.dt E.stp),some l,none,none,none] M
 simp? only[zE,GV,L3.oI]
 intro a dx ha hdx hne
 refine⟨M,a,dx,E.rs,E.stp,rfl,Z,rfl,ha,fun M1 A hA hs=>⟨rfl,?_⟩⟩
 rw[<-I] at hs
 have hs:SR C E M M1 A f7:=hs
 rw[<-hA]
 have J:(jI G).length=G.rs.length * G.places.length:=zG G G.rs.length
 simp? only[GX,eX]
 refine⟨_,rfl,by lia,by rw[Ab];lia,?_⟩
 obtain⟨N,hN⟩:∃ N,N=G.rs.length:=⟨_,rfl⟩
 have hNE:E.rs.length=N:=by rw[hN,ev.rs]
 rw[Ab,Cm,hNE]
 have sm0:Sm f7 ((jI G).length + 1):=⟨by show 0 + _ < _;lia,by show 0 + _ < _;lia⟩
 refine fF (fun i k D=>∃ z g,k=[some (W.rl (Gk cB E.rs)),some y,some (.dt E.stp),some l,some (.ref A.s),z,g]/\SR C E M D A (eA (nG G) (kC G i) f7)) ⟨_,_,rfl,hs⟩ (fun _ _ _ _ _=>trivial) ?_ ?_
 ·rintro i w k M2 hw ⟨z,g,rfl,e⟩
  obtain⟨hi,rfl⟩:=zb2 hw
  simp? only[GW]
  rw[t]
  simp? only[]
  have hmul:(i + 1) * G.places.length<=N * G.places.length:=Nat.mul_le_mul_right _ hi
  rw[<-hN] at J
  refine fF (fun j k D=>∃ g,k=[some (W.rl (Gk cB E.rs)),some (.rl (G.places.map W.int)),some (.dt E.stp),some l,some (.ref A.s),some (.int i),g]/\SR C E M D A (eA (nG G) ((G.places.map fun p=>(i,p)).take j) (eA (nG G) (kC G i) f7))) ⟨_,rfl,e⟩ (fun _ _ _ _ _=>trivial) ?_ ?_
  ·rintro j w k M3 hw ⟨g,rfl,c⟩
   rw[Bh] at hw
   obtain⟨pl,u,rfl⟩:=Bn.mp hw
   have hj:=(Ao.mp u).1
   have hx:(G.places.map fun p=>(i,p))[j]? = some (i,pl):=by rw[Bh,u];rfl
   simp? only[L3.eW]
   rw[x]
   simp? only[]
   have X:bU ((Ce G.rs.length).map fun n=>W.int (G.wt n)) (i:Int)=some (.int (G.wt i)):=jO (by rw[Bh,List.getElem?_range (by lia)];rfl)
   have smj:Sm (eA (nG G) ((G.places.map fun p=>(i,p)).take j) (eA (nG G) (kC G i) f7)) 1:=by
    refine oQ (oQ (sm0.le ?_))
    rw[zG,Cf,Ab,J,Nat.succ_mul] at *
    lia
   refine⟨A.s,A.d,_,rfl,c.os,tZ,_,X,E,M,A,_,i,[pl],(G.wt i,1),none,rfl,c,by simp,smj,fun M4 Y=>⟨M4,Sub.refl _,_,rfl,?_⟩⟩
   rw[t9 hx]
   exact Y
  ·rintro k M3 ⟨g,rfl,c⟩
   refine⟨M3,Sub.refl _,_,_,rfl,?_⟩
   rw[zb0,zb1]
   rw[Ab,Dw (by rw[Ab];exact Ai _)] at c
   exact c
 ·rintro k M2 ⟨z,g,rfl,e⟩
  rw[G5] at e
  have H:eA (nG G) (kC G N) f7=lB G:=by rw[hN];rfl
  rw[H] at e
  have A0:=zaF ok S
  have ln0:Ln (lB G) 0:=by
   obtain⟨a1,a2,a3⟩:=qO (f:=nG G) (xs:=kC G N) (st:=f7)
   rw[H] at a1 a2 a3
   exact⟨by rw[a3];exact Ai _,by rw[a1];exact Ai _,by rw[a2];exact Ai _⟩
  simp? only[GZ]
  obtain⟨O,hBm⟩:∃ O,O=(jI G).length + G.rs.length * ((L + 1) * (V.length * V.length)) * (S + V.length):=⟨_,rfl⟩
  unfold L3.n9
  refine⟨fun m k D=>∃ st P cur T z g,k=[some (W.rl (Gk cB E.rs)),some y,some (.dt E.stp),some l,some (.ref A.s),z,g]/\SR C E M D A st/\All G S (jI G).length st P cur T/\Ln st T/\m=O - T,⟨_,_,_,_,_,_,_,rfl,e,A0,ln0,rfl⟩,?_⟩
  rintro m k M3 ⟨st,P,cur,T,z,g,rfl,c,A3,F,rfl⟩
  obtain⟨M4,hQ,back⟩:=c.que
  simp? only[L3.eW,L3.bT]
  refine⟨A.s,A.d,_,_,rfl,c.os,yS,A.Q.o,A.Q.d,_,rfl,hQ.ob,zaL,M4,A.Q,st.q,rfl,hQ,?_⟩
  by_cases B:st.q=[]
  ·rw[decide_eq_true B]
   simp? only[]
   simp? only[G0,L3.bT]
   obtain⟨y1,y2⟩:=c.told
   exact⟨A.s,A.d,_,_,rfl,c.os,yT,_,y2,r st.best ⟨S,_,st,P,cur,T,A3,B,rfl⟩ A.b y1⟩
  ·rw[decide_eq_false B]
   simp? only[GY,L3.eW]
   have rm:=zbZ v hL A3 hS F hb
   obtain⟨_,_,f3⟩:=EX v A3
   rw[<-hBm] at f3
   have hpos:=Jn.mpr B
   have hql:=xZ c.fall
   obtain⟨P',K,A4⟩:=zaE ok A3 hS B
   exact⟨A.s,A.d,_,rfl,c.os,zbo,G,E,M,A,st,rfl,c,ev,B,rm,fun M5 U=>⟨_,M5,(by lia:O - (T + 1) < O - T),Sub.refl _,_,P',K,T + 1,_,_,rfl,U,A4,F.next,rfl⟩⟩
end Rg
namespace L2
open PySem PySem.Spec PyProof.Rows
section
variable {X:Cx}{pins:List (Addr×Obj)}{σ:St}{H:Hp}{s:Ah}{a:Addr}{u:HO}
end
end L2
namespace L3
open PySem PySem.Spec PyProof.Rows L2
section
variable {X:Cx}{e:Expr}{te:aS}
end
end L3
namespace PySem
namespace Dt
open PyProof.Rows L2 PySem.Spec
open Zd (TK allH EG qC)
section
variable {prog:Bl}{w:Cb}{A:Bv}{E:Ac->Ah->Prop}{s:Ah}
theorem loop{d I l:Addr}{items:Array Ac}{ps:List (List aD×Addr×Ac)}{R:Result->Ah->Prop}(hh:A.handled=none)(hu:(TK prog w).room A.in1)(G:d≠I)(hdl:d≠l)(J:l≠I)(hn:ps.length=items.size)(hz:items.size<=Aj)(hk:∀ p∈ps,p.2.1≠I/\p.2.1≠d) :
  ∀ (k i:Nat) (s:Ah) (es:List (List aD×Addr×Ac)),items.size - i=k->i<=items.size->es.length<=i->s.heap.IsListIter I l i->s.heap.IsList l items->s.heap.DictOfH (TK prog w) d es->(∀ e∈es,e∈ps\/∃ p∈ps,p.2.1=e.2.1)->
  (∀ p∈ps,(TK prog w).is s.heap p.1 p.2.1)->
  (∀ (j:Nat) (p:List aD×Addr×Ac),ps[j]? = some p->∃ (a:Addr),items[j]? = some (.ref a)/\a≠d/\a≠I/\s.heap.IsTuple a #[.ref p.2.1,p.2.2])->
  (∀ h' tk,(∀ b o,b≠d->b≠I->s.heap.get? b=some o->h'.get? b=some o)->h'.DictOfH (TK prog w) d (allH es (ps.drop i))->R (.ok (.ret .none)) {s with heap:=h',toks:=tk})->
  Jv (Bk prog w) A (.builtin "dict.update.loop" ⟨[.ref d,.ref I,Gv (i:Int),.none],[]⟩) R s:=by
 intro k
 have g:∀ {h h':Heap} {es:List (List aD×Addr×Ac)},h.DictOfH (TK prog w) d es->(∀ e∈es,e∈ps\/∃ p∈ps,p.2.1=e.2.1)->(∀ c o,c≠I->h.get? c=some o->h'.get? c=some o)->h'.DictOfH (TK prog w) d es:=by
  rintro h h' es ⟨o,en,ep,C,hc,P,D,Q,hn⟩ f r
  refine⟨o,en,ep,r d o G C,hc,P,D,fun x E=>qC (Q x E) fun o' e=>?_,hn⟩
  have:x.2.1≠I:=by
   rcases f x E with q | ⟨p,q,V⟩
   ·exact(hk x q).1
   ·have:=(hk p q).1;rw[V] at this;exact this
  exact r _ _ this e
 induction k with
 | zero=>
  intro i s es r hi hl hit y hd f t hp hR
  have S:i=items.size:=by lia
  refine Fw Dp.entry_loop ?_
  rw[Em Dp.plain_loop _]
  show Ax _ A.in1 (Ia (.ref I) >>= _) _ _ s
  have W:=Ms (prog:=prog) (w:=w) (A:=A.in1) hh I l J items
  refine Aa (W.done s _ _ (by rw[<-S];exact⟨hit,y⟩) fun h' tk r=>?_)
  show Ax _ A.in1 (Builtin.Dict.addKeywords d [] >>= _) _ _ _
  refine Aa (Ag (Ag (hR h' tk (fun b o _ hb e=>r b o (by simp[hb]) e) ?_)))
  rw[Kh (by lia)]
  exact g hd f fun c o hc e=>r c o (by simp[hc]) e
 | succ k ih=>
  intro i s es r hi hl hit y hd f t hp hR
  have H:i < items.size:=by lia
  refine Fw Dp.entry_loop ?_
  rw[Em Dp.plain_loop _]
  show Ax _ A.in1 (Ia (.ref I) >>= _) _ _ s
  have W:=Ms (prog:=prog) (w:=w) (A:=A.in1) hh I l J items
  refine Aa (W.item i s _ _ H ⟨hit,y⟩ fun v h' tk hv F r=>?_)
  obtain⟨p,B⟩:∃ p,ps[i]? = some p:=⟨_,An (by lia)⟩
  have L:p∈ps:=Be B
  obtain⟨a,ha,had,haI,X⟩:=hp i p B
  rw[ha] at hv
  cases hv
  have Z:=g hd f fun c o hc e=>r c o (by simp[hc]) e
  have m:∀ q∈ps,(TK prog w).is h' q.1 q.2.1:=fun q z=>qC (t q z) fun o e=>r _ o (by simp[(hk q z).1]) e
  have K:h'.IsTuple a #[.ref p.2.1,p.2.2]:=by
   obtain⟨o,C,rest⟩:=X
   exact⟨o,r a o (by simp[haI]) C,rest⟩
  show Ax _ A.in1 (Ip [Value.ref a] _ >>= _) _ _ _
  refine Aa (Ct (Aa (wpAny_tryCatch ?_)))
  unfold Builtin.Dict.pairItems
  obtain⟨o,C,hc,n,U⟩:=K
  refine Aa (Kn (T:="tuple") ⟨o,C,hc⟩ ?_)
  rw[if_pos (by decide)]
  refine Aa (Gg C U (Ag ?_))
  show Ax _ _ (Ip [Value.ref p.2.1,p.2.2] (dictSet d (.ref p.2.1) p.2.2)) _ _ _
  refine Ct (wpAny_dictSet_heap (knd:=TK prog w) hu (m p L) Z (hsz:=by lia) fun h2 O u=>?_)
  have e1:ps.drop i=p :: ps.drop (i + 1):=by rw[Hc (by lia)];congr 1;exact(Ao.mp B).2
  refine Ag ⟨Hx Dp.plain_loop _,?_⟩
  refine ih (i + 1) _ (Nq es p.1 p.2.1 p.2.2) (by lia) H (by have:=EG es p.1 p.2.1 p.2.2;lia) (F.1.at fun o e=>(u.2 I (Bq G)).trans e) (F.2.at fun o e=>(u.2 l (Bq hdl)).trans e) O (fun e D=>?_) (fun q z=>qC (m q z) fun o e=>(u.2 _ (hk q z).2).trans e) (fun j q z=>?_) fun h3 tk3 hk3 N=>?_
  ·unfold Nq at D
   split at D
   ·obtain⟨M,Y,rfl⟩:=Aw.mp D
    have:(putAt p.1 p.2.2 M).2.1=M.2.1:=by unfold putAt;split <;> rfl
    rw[this]
    rcases f M Y with q | ⟨p',q,V⟩
    ·exact .inr ⟨M,q,rfl⟩
    ·exact .inr ⟨p',q,V⟩
   ·rcases Bo.mp D with q | q
    ·exact f e q
    ·obtain rfl:=Ba.mp q
     exact .inl L
  ·obtain⟨a,g1,g2,g3,⟨o,g4,g5⟩⟩:=hp j q z
   exact⟨a,g1,g2,g3,⟨o,(u.2 a g2).trans (r a o (by simp[g3]) g4),g5⟩⟩
  ·refine hR h3 tk3 (fun b o h1 h2 e=>hk3 b o h1 h2 ((u.2 b h1).trans (r b o (by simp[h2]) e))) ?_
   rw[e1];exact N
theorem call_pairs{l:Addr}{items:Array Ac}{c:Nat}{ps:List (List aD×Addr×Ac)}{Q:Ac->Ah->Prop}(M:A.handled=none)(W:A.units + 2 < Gh)(r:s.heap.get? l=some {cls:=.type "list",data:=.seq items c})(U:ps.length=items.size)(hz:items.size<=Aj)
  (f:∀ p∈ps,(TK prog w).is s.heap p.1 p.2.1)
  (k:∀ (j:Nat) (p:List aD×Addr×Ac),ps[j]? = some p->∃ (a:Addr),items[j]? = some (.ref a)/\s.heap.IsTuple a #[.ref p.2.1,p.2.2])
  (h:∀ h' tk,(∀ b o,s.heap.get? b=some o->h'.get? b=some o)->h'.DictOfH (TK prog w) s.heap.objs.size (allH [] ps)->Q (.ref s.heap.objs.size) {s with heap:=h',toks:=tk}) :
  Ax (Bk prog w) A (call (.type "dict") [.ref l]) Q E s:=by
 refine callType_codes (Q₁:=fun obj g=>obj=.ref s.heap.objs.size/\g = {s with heap:=s.heap.push {cls:=.type "dict",data:=.dict #[]}}) F.kt_called_dict (F.kt_typeCall_dict_1 _) F.entry_dict_init (kt_code_dict_new _ ⟨rfl,rfl⟩) ?_
 rintro obj g ⟨rfl,rfl⟩
 have lt:l < s.heap.objs.size:=Ak r
 have i:(s.heap.push {cls:=.type "dict",data:=.dict #[]}).DictOfH (TK prog w) s.heap.objs.size []:=Heap.DictOfH.new s.heap
 have m:(s.heap.push {cls:=.type "dict",data:=.dict #[]}).get? l=some {cls:=.type "list",data:=.seq items c}:=Af _ r
 have z:({s with heap:=s.heap.push {cls:=.type "dict",data:=.dict #[]}}:Ah).TypeIs (.ref s.heap.objs.size) "dict":=i.typeIs
 refine⟨z,F.args_dict_init_2 _ _,?_⟩
 unfold Hh.«dict.__init__»
 refine Aa ?_
 unfold Builtin.Dict.selfAndRest
 refine Aa (Jd z ?_)
 show Ax _ _ (pure (s.heap.objs.size,[Value.ref l])) _ _ _
 refine Ag ?_
 show Ax _ _ (Jf "dict.__init__" s.heap.objs.size (.ref l) [] .none) _ _ _
 unfold Jf
 refine Aa (Kn (T:="list") ⟨_,m,rfl⟩ ?_)
 rw[if_pos (by decide)]
 refine Aa (Dp.keys_miss m M fun t X q=>?_)
 rw[if_pos (by decide)]
 have B:=q _ _ m
 have v:t.DictOfH (TK prog w) s.heap.objs.size []:=by
  obtain⟨o,es,ep,u,K,G,H,P,C⟩:=i
  exact⟨o,es,ep,q _ o u,K,G,H,(fun x r=>nomatch r),C⟩
 refine Aa (Ej (Aa (Jh (items:=items) ⟨_,B,rfl,c,rfl⟩ ?_)))
 have gI:(t.push {cls:=.type "list_iterator",data:=.fields #[.ref l,.int 0 0]}).IsListIter t.objs.size l 0:=⟨_,Ap _ rfl,rfl,rfl⟩
 have up:∀ b o,s.heap.get? b=some o->(t.push {cls:=.type "list_iterator",data:=.fields #[.ref l,.int 0 0]}).get? b=some o:=fun b o e=>Af _ (q b o (Af _ e))
 have y:s.heap.objs.size < t.objs.size:=by
  obtain⟨o,es,ep,u,rest⟩:=v
  exact Ak u
 have N:∀ p∈ps,@LT.lt Nat _ p.2.1 s.heap.objs.size:=fun p k=>by
  obtain⟨o,items,n,e,_⟩:=f p k
  exact Ak e
 refine Ag ⟨Hx Dp.plain_loop _,?_⟩
 refine loop (A:=A.in1) (d:=s.heap.objs.size) (I:=t.objs.size) (l:=l) (items:=items) (ps:=ps) M (Fi (A:=A.in1) (show(A.units + 1) + 1 < Gh from W)) (Bf y) (Dy lt) (Bf (Hi lt y)) U hz (fun p k=>⟨Bf (Hi (N p k) y),Bf (N p k)⟩) items.size 0 _ [] rfl (Co _) (Ai _) gI ⟨_,Af _ B,rfl,c,rfl⟩ (by
  obtain⟨o,es,ep,u,K,G,H,P,C⟩:=v
  exact⟨o,es,ep,Af _ u,K,G,H,(fun x r=>nomatch r),C⟩) (fun e S=>nomatch S) (fun p k=>qC (f p k) (up _)) (fun j p Y=>?_) fun V L J D=>?_
 ·obtain⟨a,Z,⟨o,O,R⟩⟩:=k j p Y
  have la:=Ak O
  exact⟨a,Z,Bf la,Bf (Hi la y),⟨o,up a o O,R⟩⟩
 ·exact⟨rfl,h V L (fun b o e=>J b o (Bf (Ak e)) (Bf (Hi (Ak e) y)) (up b o e)) D⟩
end
end Dt
end PySem
namespace L3
open PySem PySem.Spec PyProof.Rows L2
section
variable {X:Cx}
def oR(ps:List (List aD×W)):List W:=ps.map fun p=>.tup [.tup (p.1.map wK),p.2]
theorem G6{pins:List (Addr×Obj)}{σ:L2.St}{H:Hp}{M:Mm}{s:Ah}(I:L2.Inv X pins σ H s):∀ {ps:List (List aD×W)} {vs:List V} {its:List Ac},aL X.K H M vs (oR ps)->aR vs its->
  ∃ (c:List (List aD×Addr×V)) (rs:List (List aD×Addr×Ac)),bN X.K H M (List aD) (c.map fun q=>(q.1,q.2.2)) ps/\(∀ q∈c,H q.2.1=some (.tup (q.1.map kV)))/\Iq (fun(q:List aD×Addr×V) (p:List aD×Addr×Ac)=>q.1=p.1/\q.2.1=p.2.1/\RelV q.2.2 p.2.2) c rs/\rs.length=its.length/\
   (∀ z∈rs,H z.2.1=some (.tup (z.1.map kV)))/\∀ (j:Nat) (p:List aD×Addr×Ac),rs[j]? = some p->∃ (a:Addr),its[j]? = some (.ref a)/\s.heap.IsTuple a #[.ref p.2.1,p.2.2]
 | [],_,_,.nil,.nil=>⟨[],[],.nil,(fun q f=>nomatch f),.nil,rfl,(fun q f=>nomatch f),fun j p h=>by simp at h⟩
 | (k,w) :: ps,_,_,.cons u g,.cons l d=>by
  obtain⟨c,rs,A,B,r,y,E,F⟩:=G6 I g d
  obtain⟨a,xs,G,e,q⟩:=u.inv
  rw[G] at l
  obtain⟨L,C,ex,a1,a2⟩:=q.two
  obtain⟨b,J,v,eb,o⟩:=a1.inv
  rw[o.keys] at eb
  obtain⟨n,i,pl,_⟩:=I.tuple (bM.of e)
  rw[ex,v] at i
  obtain⟨D,t,x,x1,x2⟩:=vals2 i
  rw[x,show D=.ref b from x1] at pl
  refine⟨(k,b,C) :: c,(k,b,t) :: rs,.cons ⟨rfl,a2⟩ A,List.forall_mem_cons.mpr ⟨eb,B⟩,.cons ⟨rfl,rfl,x2⟩ r,congrArg (· + 1) y,List.forall_mem_cons.mpr ⟨eb,E⟩,fun j p m=>?_⟩
  cases j with
  | zero=>rw[<-Dz m];exact⟨a,congrArg some l,pl⟩
  | succ j=>exact F j p m
def G7:List W->Mm->K3->Prop
 | [.rl ws],M,R=>∃ ps:List (List aD×W),ws=oR ps/\ws.length<=Aj/\iG (oJ [] ps) M R
 | _,_,_=>False
theorem zb4(hc:X.calm=true)(hu:X.A.units + 2 < Gh):cU X (.type "dict") (gC X.K G7):=by
 rintro pins s σ H xs us Q I rs ⟨ws,M,R,y,i,h,k⟩
 match ws,h with
 | [.rl ws],h=>
  obtain⟨v,rfl,G⟩:=i.one
  obtain⟨ps,rfl,hz,r⟩:=h
  obtain⟨u,rfl,P⟩:=vals1 rs
  cases G with
  | rl f n q=>
   cases P
   obtain⟨z,its,c,S,hl,e⟩:=I.lstM f
   obtain⟨a,w,B,O,F,L,T,Y⟩:=G6 I q S
   have hz2:ps.length<=Aj:=by simpa [oR] using hz
   have hql:a.length=ps.length:=by have:=Eo B;rwa [Ab] at this
   refine Dt.call_pairs (items:=its.toArray) (ps:=w) (I.ok.hd hc) hu e (by simpa using L) (by rw[Bc];lia) (fun p hp=>jR I.hok (T p hp)) (fun j p Z=>by simpa using Y j p Z) fun h' tk hk N=>?_
   have b:=I.hok.fresh (Ai _)
   have len:=EH (a.map fun q=>(q.1,q.2.2)) []
   rw[Ab] at len
   have d:∀ {ps:List (List aD×W)} {a:List (List aD×V)} {ks:List (List aD×V)} {kvs:List (List aD×W)},bN X.K H M (List aD) a ps->bN X.K H M (List aD) ks kvs->bN X.K H M (List aD) (nA ks a) (oJ kvs ps):=by
    intro ps a ks kvs h
    induction h generalizing ks kvs with
    | nil=>intro h;exact h
    | @cons q p a ps r t E=>
     intro h
     obtain⟨q1,q2⟩:=q
     obtain⟨p1,p2⟩:=p
     obtain⟨rfl,m⟩:=r
     exact E (sL h q1 m)
   have g:=d (ks:=[]) (kvs:=[]) B .nil
   refine⟨.ref s.heap.objs.size,aN H s.heap.objs.size (.dT (nA [] (a.map fun q=>(q.1,q.2.2)))),I.laid (o:=.dT (nA [] (a.map fun q=>(q.1,q.2.2)))) (t':=tk) hk (Ai _) ⟨by simp at len;lia,beq_eq_false_iff_ne.mpr (Bq (Bf I.big)),_,(Z9 F O .nil).keeps fun c ys x=>?_,?_⟩,rfl,?_⟩
   ·rw[bL (dZ x b)];exact x
   ·obtain⟨o,en,ep,r1,m,J,C,_,D⟩:=N
    exact⟨o,en,ep,r1,m,J,C,D⟩
   ·obtain⟨l,U⟩:=y.laid (o:=.dT (oJ [] ps)) (u:=.dT (nA [] (a.map fun q=>(q.1,q.2.2)))) b ⟨_,dY,pO g.keys (g.vals.newL b)⟩
    exact k _ _ _ _ U l (.ref _) (r _ (y.nonM b))
end
end L3
namespace bE
open PySem SetTable
def lC(xs:Array Nat):Prop:=∀ i j (hi:i < xs.size) (a:j < xs.size),i < j->xs[i] < xs[j]
theorem zb5{l:List Nat}(h:l.Pairwise (· < ·)):lC l.toArray:=by
 intro i j hi b a
 simp only[List.getElem_toArray]
 exact Fu.mp h i j (by simpa using hi) (by simpa using b) a
theorem zH{xs:Array Nat}{j:Nat}(f:lC xs):∀ (a lo hi:Nat),hi - lo<=a->lo<=hi->hi<=xs.size->(∀ i (h:i < xs.size),i < lo->xs[i] < j)->(∀ i (h:i < xs.size),hi<=i->j<=xs[i])->
  below.go xs j a lo hi<=xs.size/\(∀ i (h:i < xs.size),i < below.go xs j a lo hi->xs[i] < j)/\∀ i (h:i < xs.size),below.go xs j a lo hi<=i->j<=xs[i]
 | 0,lo,hi,hf,hl,hs,d,g=>by
  have:lo=hi:=by lia
  subst this
  exact⟨hs,d,g⟩
 | a + 1,lo,hi,hf,hl,hs,d,g=>by
  unfold below.go
  by_cases h:lo < hi
  ·rw[if_pos h]
   have l:(lo + hi) / 2 < xs.size:=by lia
   have e:xs.getD ((lo + hi) / 2) j=xs[(lo + hi) / 2]:=by simp[Array.getD,l]
   dsimp only
   rw[e]
   by_cases c:xs[(lo + hi) / 2] < j
   ·rw[if_pos c]
    refine zH f a _ hi (by lia) (by lia) hs (fun i b n=>?_) g
    by_cases k:i=(lo + hi) / 2
    ·subst k;exact c
    ·exact Hi (f i _ b l (by lia)) c
   ·rw[if_neg c]
    refine zH f a lo _ (by lia) (by lia) (by lia) d fun i b m=>?_
    by_cases k:i=(lo + hi) / 2
    ·subst k;exact Nat.le_of_not_lt c
    ·exact Bp (Nat.le_of_not_lt c) (Ic (f _ i l b (by lia)))
  ·rw[if_neg h]
   have:lo=hi:=by lia
   subst this
   exact⟨hs,d,g⟩
theorem zJ{xs:Array Nat}(a:lC xs)(j:Nat):below xs j<=xs.size/\(∀ i (h:i < xs.size),i < below xs j->xs[i] < j)/\∀ i (h:i < xs.size),below xs j<=i->j<=xs[i]:=
 zH a xs.size 0 xs.size (by lia) (Co _) (Ai _) (fun i _ h=>by lia) fun i b c=>by lia
theorem zb6{xs:Array Nat}(a:lC xs){i:Nat}(h:i < xs.size):below xs (xs[i] + 1)=i + 1:=by
 obtain⟨b1,b2,b⟩:=zJ a (xs[i] + 1)
 rcases Nat.lt_trichotomy (below xs (xs[i] + 1)) (i + 1) with c | c | c
 ·have:=b i h (by lia);lia
 ·exact c
 ·have h':i + 1 < xs.size:=by lia
  have:=b2 (i + 1) h' c
  have:=a i (i + 1) h h' (by lia)
  lia
theorem zb7{xs:Array Nat}(a:lC xs):below xs 0=0:=by
 obtain⟨b1,b2,b⟩:=zJ a 0
 rcases Nat.eq_zero_or_pos (below xs 0) with c | c
 ·exact c
 ·have:=b2 0 (by lia) c;lia
theorem zb8{xs:Array Nat}{j:Nat}(m:lC xs)(u:xs[below xs j]?≠some j):lC (insertAt xs (below xs j) j):=by
 obtain⟨b1,b2,t⟩:=zJ m j
 have f:∀ i (h:i < xs.size),below xs j<=i->j < xs[i]:=fun i h n=>by
  have q:=t i h n
  rcases Nat.lt_or_ge j xs[i] with c | c
  ·exact c
  ·have e:xs[i]=j:=by lia
   by_cases hb:i=below xs j
   ·exact(u (by rw[<-hb,getElem?_pos xs i h,e])).elim
   ·have l:below xs j < xs.size:=by lia
    have:=m (below xs j) i l h (by lia)
    have:=t (below xs j) l (Ai _)
    lia
 have d:∀ i (h:i < xs.size),xs.getD i 0=xs[i]:=fun i h=>by simp[Array.getD,h]
 have hz:(insertAt xs (below xs j) j).size=xs.size + 1:=by unfold insertAt;simp;lia
 have a:∀ i (h:i < (insertAt xs (below xs j) j).size),(insertAt xs (below xs j) j)[i]=if i < below xs j then xs.getD i 0 else if i=below xs j then j else xs.getD (i - 1) 0:=by
  intro i h
  have h':i < xs.size + 1:=by rw[<-hz];exact h
  have v:(xs.extract 0 (below xs j)).size=below xs j:=by simp;lia
  unfold insertAt at h ⊢
  by_cases b:i < below xs j
  ·rw[if_pos b,Array.getElem_append_left (by simp;lia),Array.getElem_push_lt (by lia),d i (by lia)]
   simp
  ·rw[if_neg b]
   by_cases g:i=below xs j
   ·rw[if_pos g,Array.getElem_append_left (by simp;lia),Array.getElem_push,dif_neg (by lia)]
   ·rw[if_neg g,Array.getElem_append_right (by simp;lia),d (i - 1) (by lia)]
    simp only[Array.size_push,v,Array.getElem_extract]
    congr 1
    lia
 intro p q s r o
 rw[a p s,a q r]
 rw[hz] at s r
 by_cases b:p < below xs j
 ·rw[if_pos b,d p (by lia)]
  by_cases g:q < below xs j
  ·rw[if_pos g,d q (by lia)];exact m p q _ _ o
  ·rw[if_neg g]
   by_cases k:q=below xs j
   ·rw[if_pos k];exact b2 p _ b
   ·rw[if_neg k,d (q - 1) (by lia)]
    exact Hi (b2 p _ b) (f (q - 1) _ (by lia))
 ·rw[if_neg b,if_neg (show ¬ q < below xs j by lia),if_neg (show ¬ q=below xs j by lia),d (q - 1) (by lia)]
  by_cases k:p=below xs j
  ·rw[if_pos k];exact f (q - 1) _ (by lia)
  ·rw[if_neg k,d (p - 1) (by lia)];exact m (p - 1) (q - 1) _ _ (by lia)
def qQ(t:Hr)(j:Nat):Prop:=t.place[below t.place j]?≠some j
theorem G8{t:Hr}{j:Nat}(h:t.slot j=.empty\/t.slot j=.dummy):qQ t j:=by
 intro e
 unfold SetTable.slot at h
 simp[e] at h
theorem zK{t:Hr}{f:Nat->Int}{h:Int}:∀ (fuel:Nat) (p:Probe) {j:Nat} {d:Option Nat},probe.go t f h fuel p=some (.empty j d)->(∀ x,p.dummy=some x->qQ t x)->qQ t j/\∀ x,d=some x->qQ t x
 | 0,p,j,d,e,_=>by simp[probe.go] at e
 | fuel + 1,p,j,d,e,hd=>by
  unfold probe.go at e
  have adv:∀ q:Probe,(t.advance q).dummy=q.dummy:=fun q=>by unfold advance;split <;> rfl
  cases hs:t.slot p.j with
  | empty=>
   rw[hs] at e
   simp only[Eg,Met.empty.injEq] at e
   obtain⟨rfl,rfl⟩:=e
   exact⟨G8 (.inl hs),hd⟩
  | dummy=>
   rw[hs] at e
   refine zK fuel _ e fun x hx=>?_
   rw[adv] at hx
   cases hx
   exact G8 (.inr hs)
  | live i=>
   rw[hs] at e
   dsimp only at e
   split at e
   ·cases e
   ·exact zK fuel _ e fun x hx=>hd x (by rw[adv] at hx;exact hx)
theorem zb9{t:Hr}{h:Int}{j:Nat}{b:Bool}(e:t.freeSlot h=some (j,b)):qQ t j:=by
 unfold freeSlot at e
 split at e
 ·next j' d hp=>
  simp only[Eg,Dl] at e
  obtain⟨a,f⟩:=zK _ _ hp fun x c=>by simp[probeStart] at c
  cases d with
  | none=>rw[<-e.1];exact a
  | some x=>rw[<-e.1];exact f x rfl
 ·cases e
def Good(b:Bool)(t:Hr):Prop:=lC t.place/\t.led=b
theorem zca(n:Nat):lC (Array.range n):=by
 intro i j hi b a
 simpa using a
theorem uB{b:Bool}{t:Hr}(h:t.led=b)(n:Nat):Good b (t.standIn n):=⟨zca n,h⟩
theorem zcb{b:Bool}{t:Hr}(a:Good b t)(es:Array (Int×Ac))(h:Int)(x:Ac):Good b (layNew t es h x).2.1:=by
 unfold layNew
 split
 ·next j w e=>
  dsimp only
  unfold orStandIn
  split
  ·exact⟨zb8 a.1 (zb9 e),a.2⟩
  ·exact uB (t:=(t.put j).1) a.2 _
 ·exact uB a.2 _
theorem zcc{b:Bool}{t:Hr}(h:Good b t)(es:Array (Int×Ac))(n:Nat):Good b (relayAll t es n).2.1:=by
 unfold relayAll
 split
 ·next t' order e=>
  dsimp only
  split
  ·unfold relaid laid at e
   simp only[Option.bind_eq_bind,Option.bind_eq_some_iff] at e
   obtain⟨owner,_,e⟩:=e
   simp only[Option.pure_def,Eg,Dl] at e
   obtain⟨rfl,_⟩:=e
   refine⟨zb5 ?_,h.2⟩
   rw[List.map_filterMap]
   have:∀ l:List Nat,l.Pairwise (· < ·)->∀ f:Nat->Option Nat,(∀ a c,f a=some c->c=a)->(l.filterMap f).Pairwise (· < ·):=by
    intro l hl f hf
    refine List.Pairwise.filterMap (R:=(· < ·)) f (fun a j g c hc i d=>?_) hl
    rw[hf a c hc,hf j i d]
    exact g
   refine this _ List.pairwise_lt_range _ fun a c hc=>?_
   simp only[Option.map_map,Bn] at hc
   obtain⟨_,_,rfl⟩:=hc
   rfl
  ·exact uB h.2 _
 ·exact uB h.2 _
end bE
namespace bE
open PySem PyProof.Rows
def Dj(prog:Bl)(w:Cb)(es:List (Int×Ac)):Prop:=es.Pairwise fun e a=>∀ k,(En prog w).is k e.2=true->(En prog w).is k a.2=true->False
def Nz(prog:Bl)(w:Cb)(es:Array (Int×Ac))(n:Nat):Prop:=es.size<=n/\Dj prog w es.toList
theorem Dj.perm{prog:Bl}{w:Cb}{es c:List (Int×Ac)}(h:Dj prog w es)(p:c.Perm es):Dj prog w c:=p.symm.pairwise h fun q k a b=>q k b a
def f9(prog:Bl)(w:Cb)(h:Heap)(a:Addr)(S:Int->Prop)(n:Nat)(b:Bool):Prop:=
 ∃ o es ep t,h.get? a=some o/\o.ExactSet/\o.data=.set es ep t/\ElemsOf (En prog w) es.toList/\(∀ k,S k↔∃ e∈es.toList,(En prog w).is k e.2=true)/\Nz prog w es n/\t.fits es.size=true/\Good b t
section
variable {prog:Bl}{w:Cb}{A:Bv}{E:Ac->Ah->Prop}{s:Ah}{a:Addr}{b:Bool}
theorem f9.at{h h':Heap}{S:Int->Prop}{n:Nat}(x:f9 prog w h a S n b)(e:∀ o,h.get? a=some o->h'.get? a=some o):f9 prog w h' a S n b:=
 let ⟨o,es,ep,t,ho,r⟩:=x;⟨o,es,ep,t,e o ho,r⟩
theorem G9{o:Obj}{es c:Array (Int×Ac)}{ep:Nat}{t t':Hr}{S:Int->Prop}{n:Nat}{Q:Unit->Ah->Prop}(i:s.heap.get? a=some o)(j:o.ExactSet)(hd:o.data=.set es ep t)(l:ElemsOf (En prog w) c.toList)
  (p:∀ k,S k↔∃ e∈c.toList,(En prog w).is k e.2=true) (hz:c.size<=n) (hb:c.size < Ol) (hf:t'.fits c.size=true) (m:Good b t')
  (h:∀ h' f,Dx a s.heap h'->h'.get? a=some f->f.ExactSet->(∃ g,f.data=.set c g t')->Q () {s with heap:=h'}):Ax (Bk prog w) A (storeSet a c t') Q E s:=by
 refine wpAny_storeSet_of i hd ?_ (fits_of_scanBound hb)
 obtain⟨d,_⟩:=SetOf_store (knd:=En prog w) (S':=fun k=>c.toList.any fun e=>(En prog w).is k e.2) i j hd l (fun k=>by rw[Mr]) hb hf
 exact h _ _ (Ca s.heap a (Obj.putSet c t')) d j ⟨_,rfl⟩
theorem zcd{S:Int->Prop}{n:Nat}{k:Int}{x:Ac}{Q:Bool->Ah->Prop}(hk:(En prog w).is k x=true)(hc:x.scannable=true)(hS:f9 prog w s.heap a S n b)(hn:n + 1 < Ol)
  (h:∀ c h',Dx a s.heap h'->f9 prog w h' a (fun f=>S f\/f=k) (n + 1) b->Q c {s with heap:=h'}):Ax (Bk prog w) A (setAddHashed a x ((En prog w).hash k)) Q E s:=by
 obtain⟨o,es,ep,t,W,hx,hd,K,X,hz,hf,hg⟩:=hS
 unfold setAddHashed setAddHashedIn
 refine Ct (Aa (Fs W hd hf ?_))
 dsimp only
 have hz0:=hz.1
 rw[byScan_of hc (by lia) K]
 simp only[↓reduceIte]
 unfold setAddByScan
 refine Aa (Aa (Ej (Aa (wpAny_setScan_of hk W hd hf K ?_))))
 cases hr:List.findIdx? (fun e=>(En prog w).is k e.2) es.toList with
 | some j=>
  obtain⟨hj,Z,_⟩:=List.findIdx?_eq_some_iff_getElem.mp hr
  have hSk:S k:=(X k).mpr ⟨es.toList[j],List.getElem_mem hj,Z⟩
  refine Ag (Ag ?_)
  exact h false s.heap (Heap.SameBut.refl a s.heap) ⟨o,es,ep,t,W,hx,hd,K,fun f=>⟨fun q=>(X f).mp (q.elim id fun e=>e ▸ hSk),fun q=>.inl ((X f).mpr q)⟩,⟨by have:=hz.1;lia,hz.2⟩,hf,hg⟩
 | none=>
  dsimp only
  have J:=layNew_perm t es ((En prog w).hash k) x
  have hl:=layNew_fits t es ((En prog w).hash k) x
  have p:=zcb hg es ((En prog w).hash k) x
  generalize layNew t es ((En prog w).hash k) x=L at J hl p ⊢
  obtain⟨i,t1,wd,gv⟩:=L
  dsimp only at J hl p ⊢
  rw[Array.toList_push] at J
  have C:ElemsOf (En prog w) i.toList:=(K.push hk hc).perm J
  have hz1:i.size=es.size + 1:=by rw[<-Bx,J.length_eq,Av,Bx];rfl
  have I:∀ f,(S f\/f=k)↔∃ e∈i.toList,(En prog w).is f e.2=true:=fun f=>by
   have q:=mem_push_iff (S:=fun k=>es.toList.any fun e=>(En prog w).is k e.2) hk (fun f=>by rw[Mr]) J f
   rw[<-q,Bool.or_eq_true,decide_eq_true_eq,Mr,X f]
  have T:Dj prog w i.toList:=Dj.perm (Cu.mpr ⟨hz.2,Ml _ _,fun e K e' he' k1 a1 a2=>by
   cases Ba.mp he'
   have:k1=k:=of_decide_eq_true ((KeyKind.is_eq_decide hk k1).symm.trans a2)
   subst this
   have:=List.findIdx?_eq_none_iff.mp hr e K
   rw[a1] at this
   cases this⟩) J
  have gw:∀ (c:Bool) {d:Ah} {v:Unit->Ah->Prop},v () d->Ax (Bk prog w) A (match c with | true=>rule "set.scan.the-table-gave-way" | false=>pure ()) v E d:=
   fun c d v q=>by cases c <;> first | exact Ag q | exact Ej q
  refine Aa (gw _ ?_)
  have fin:∀ l:Hr,l.fits i.size=true->Good b l->∀ h' P,Dx a s.heap h'->h'.get? a=some P->P.ExactSet->(∃ G,P.data=.set i G l)->f9 prog w h' a (fun f=>S f\/f=k) (n + 1) b:=
   fun l y u h' P _ O h2 ⟨G,h3⟩=>⟨P,i,G,l,O,h2,h3,C,I,⟨by lia,T⟩,y,u⟩
  have hb1:i.size < Ol:=by lia
  have tl:∀ {l:Hr} {R:Option Bool->Ah->Prop} {g:Bool->Sem Unit},(∀ (c:Bool) (d:Ah) (v:Unit->Ah->Prop),v () d->Ax (Bk prog w) A (g c) v E d)->l.fits i.size=true->Good b l->
    (∀ h',Dx a s.heap h'->f9 prog w h' a (fun f=>S f\/f=k) (n + 1) b->R (some true) {s with heap:=h'})->Ax (Bk prog w) A (do
     storeSet a i l
     if (!wd && l.tooFull)=true then do
       g (relayAll l i (Ij i.size)).2.2
       storeSet a (relayAll l i (Ij i.size)).1 (relayAll l i (Ij i.size)).2.1
       pure (some true)
      else pure (some true)) R E s:=by
   intro l R g hgo y u hR
   refine Aa (G9 (S:=fun f=>S f\/f=k) (n:=n + 1) W hx hd C I (by lia) hb1 y u fun O o1 H M U B=>?_)
   obtain⟨ep1,B⟩:=B
   split
   ·have m:=relayAll_perm l i (Ij i.size)
    have z:=relayAll_fits l i (Ij i.size)
    have D:=zcc u i (Ij i.size)
    generalize relayAll l i (Ij i.size)=L2 at m z D ⊢
    obtain⟨e2,t3,gv2⟩:=L2
    dsimp only at m z D ⊢
    have hz2:e2.size=i.size:=by rw[<-Bx,m.length_eq,Bx]
    have N:∀ f,(S f\/f=k)↔∃ e∈e2.toList,(En prog w).is f e.2=true:=fun f=>(I f).trans ⟨fun⟨e,q1,q2⟩=>⟨e,m.mem_iff.mpr q1,q2⟩,fun⟨e,q1,q2⟩=>⟨e,m.mem_iff.mp q1,q2⟩⟩
    refine Aa (hgo _ _ _ ?_)
    refine Aa (G9 (s:={s with heap:=O}) (S:=fun f=>S f\/f=k) (n:=n + 1) M U B (C.perm m) N (by lia) (by lia) z D fun h2 o2 sb2 ho2 hx2 F=>Ag ?_)
    obtain⟨Y,F⟩:=F
    exact hR h2 (H.trans sb2) ⟨o2,e2,Y,t3,ho2,hx2,F,C.perm m,N,⟨by lia,T.perm m⟩,z,D⟩
   ·exact Ag (hR O H (fin l y u O o1 H M U ⟨ep1,B⟩))
  have V:∀ (c:Bool) (d:Ah) (v:Unit->Ah->Prop),v () d->Ax (Bk prog w) A (match c with | true=>rule "set.scan.the-table-gave-way" | false=>pure ()) v E d:=fun c d v q=>gw c q
  split
  ·refine Aa ?_
   rw[hashByValue_scannable 8 hc]
   refine Ag (tl V ?_ ?_ fun h' sb r=>Ag (h true h' sb r))
   ·split
    ·exact hl
    ·exact SetTable.fits_plain_off hl
   ·split
    ·exact p
    ·exact p
  ·refine Aa (Ag ?_)
   simp only[↓reduceIte]
   exact tl V hl p fun h' sb r=>Ag (h true h' sb r)
end
def jL(w:Cb):Bool:=!w.params.followText "set-order"
abbrev kD(w:Cb):Obj:={cls:=.type "set",dict:=none,data:=.set #[] 0 (.fresh 0 0 (jL w))}
section
variable {prog:Bl}{w:Cb}{A:Bv}{E:Ac->Ah->Prop}{s:Ah}
theorem zce{h:Heap}{a:Addr}(e:h.get? a=some (kD w)):f9 prog w h a (fun _=>False) 0 (jL w):=
 ⟨_,#[],0,_,e,⟨rfl,rfl,rfl⟩,rfl,fun e b=>by simp at b,fun k=>by simp,⟨Ai _,.nil⟩,by rfl,fun i j hi=>by simp[SetTable.fresh] at hi,rfl⟩
theorem zcf(a:Ac){Q₁:Ac->Ah->Prop}(h:Q₁ (.ref s.heap.objs.size) {s with heap:=s.heap.push (kD w)}) :
  Jv (Bk prog w) A (.call (.builtin "set.__new__") ⟨[.type "set",a],[]⟩) (wants Q₁ E) s:=by
 refine codeAny_of_tree ?_
 show Ax _ A.in1 (checkBuiltinCall "set.__new__" ⟨[.type "set",a],[]⟩ >>= fun _=>again (.builtin "set.__new__" ⟨[.type "set",a],[]⟩)) _ _ s
 refine Aa (wpAny_of_eq (F.newCall_set_1 a) (Ag ⟨Hx F.plain_set_new _,Fw F.entry_set_new ?_⟩))
 rw[Em F.plain_set_new _]
 unfold Hh.«set.__new__» Builtin.Frozenset.newClass
 have b:=sub_set_self
 obtain⟨c,g,d,tk,os⟩:=s
 dsimp only
 wp_walk
 refine Fm (Ag ?_)
 dsimp only
 simp only[newObj]
 exact Aa (wpAny_alloc (Ag (Ag h)))
end
section
variable {prog:Bl}{w:Cb}{A:Bv}{R:Result->Ah->Prop}{I:Addr}{fp wr:List Addr}{G:Array GenState->Array GenState->Prop}{n:Nat}{P:Nat->Ac->Prop}{St:Nat->Ah->Prop}{b:Bool}
theorem zcg(W:WalksS prog w A.in1 I fp wr G n P St)(S:Addr)(f:S∉fp)(val:Nat->Int)(C:∀ i v,P i v->∃ t,v=.int (val i) t)(hb:n + 1 < Ol):∀ (k i:Nat) (s:Ah),n - i=k->i<=n->St i s->
  f9 prog w s.heap S (fun x=>∃ j,j < i/\x=val j) i b->(∀ a,Moved (S :: wr) G s a->f9 prog w a.heap S (fun x=>∃ j,j < n/\x=val j) n b->R (.ok (.ret .none)) a)->
  Jv (Bk prog w) A (.builtin "set.update.loop" ⟨[.ref S,.ref I],[]⟩) R s:=by
 have B:S∉wr:=fun h=>f (W.sub _ h)
 have sb:∀ c∈wr,c∈S :: wr:=fun c hc=>Bd _ hc
 intro k
 induction k with
 | zero=>
  intro i s hk hi d y hR
  cases (show i=n by lia)
  refine Fw F.entry_set_update_loop ?_
  rw[Em Nc _]
  refine Aa (W.done s _ _ d fun a g=>?_)
  exact Ag (hR a (g.mono sb) (y.at fun o e=>g.heap S o B e))
 | succ k D=>
  intro i s hk hi d y hR
  refine Fw F.entry_set_update_loop ?_
  rw[Em Nc _]
  refine Aa (W.item i s _ _ (by lia) d fun v a E l g=>?_)
  obtain⟨t,rfl⟩:=C i v E
  show Ax _ A.in1 (Ip [Value.int (val i) t] (setAdd S (.int (val i) t)) >>= _) _ _ a
  refine Aa (Ct ?_)
  unfold setAdd
  refine Ct (Aa ((En prog w).pyHash (k:=val i) (intKind_is _ _ _ _) ?_))
  refine zcd (b:=b) (s:={a with toks:=a.toks + 1}) (intKind_is _ _ _ _) rfl (y.at fun o e=>g.heap S o B e) (by lia) fun c h' m r=>?_
  have z:f9 prog w h' S (fun x=>∃ j,j < i + 1/\x=val j) (i + 1) b:=by
   obtain⟨o,es,ep,O,Q,K,M,H,J,L⟩:=r
   refine⟨o,es,ep,O,Q,K,M,H,fun x=>(show _↔_ from ?_).trans (J x),L⟩
   constructor
   ·rintro⟨j,N,rfl⟩
    by_cases e:j=i
    ·exact .inr (by rw[e])
    ·exact .inl ⟨j,by lia,rfl⟩
   ·rintro(⟨j,N,rfl⟩ | rfl)
    ·exact⟨j,by lia,rfl⟩
    ·exact⟨i,by lia,rfl⟩
  refine Ag ⟨Hx Nc _,D (i + 1) _ (by lia) (by lia) (W.frame _ a _ _ l (Kz _) fun c hc o e=>?_) z fun u q p=>?_⟩
  ·rw[m.2 c (fun h:c=S=>f (by rw[<-h];exact hc))];exact e
  ·refine hR u (Moved.trans W.gtrans ((g.mono sb).then_heap (Kz _) fun c o hc e=>?_) q) p
   rw[m.2 c (fun h:c=S=>hc (by rw[h];exact Bi))];exact e
end
section
variable {prog:Bl}{w:Cb}{A:Bv}{E:Ac->Ah->Prop}{s:Ah}
theorem zch{l:Addr}{items:Array Ac}{ns:List Int}{Q:Ac->Ah->Prop}(hh:A.handled=none)(hl:s.heap.IsList l items)(hi:Iu items.toList ns)(hb:items.size + 1 < Ol)
  (h:∀ (h':Heap) (tk:Nat),f9 prog w h' s.heap.objs.size (fun x=>x∈ns) items.size (jL w)->(∀ c o,c < s.heap.objs.size->s.heap.get? c=some o->h'.get? c=some o)->Q (.ref s.heap.objs.size) {s with heap:=h',toks:=tk}) :
  Ax (Bk prog w) A (call (.type "set") [.ref l]) Q E s:=by
 obtain⟨c,ml0,mr0⟩:=Jp.mro
 have md0:=Jp.made
 have hsub:=Jp.sub
 refine wpAny_call (codeAny_of_tree ?_)
 show Ax _ _ (callAny (.type "set") _) _ _ _
 refine Ag ⟨Code.quiet_builtin _ (by decide +kernel),Fw F.entry_type_call ?_⟩
 rw[Around.under_plain (weight_type_call_type "set" [.ref l] []) rfl]
 have h1:=Jp.notType
 have h2:=Jp.canCreate
 have tc0:=F.typeCall_set_1 (.ref l)
 repeat (any_goals (first | assumption | wp_step))
 refine Kq (zcf (w:=w) (.ref l) (E:=E) (Q₁:=fun obj s₁=>obj=.ref s.heap.objs.size/\s₁ = {s with heap:=s.heap.push (kD w)}) ⟨rfl,rfl⟩) fun r s₁ hr=>?_
 cases r with
 | error e=>exact hr
 | ok fl=>
  cases fl with
  | ret obj=>
   obtain⟨rfl,rfl⟩:=hr
   have hS:(s.heap.push (kD w)).get? s.heap.objs.size=some (kD w):=Ap _ rfl
   have hT:Shared.TypeIs {s with heap:=s.heap.push (kD w)} (.ref s.heap.objs.size) "set":=⟨_,hS,rfl⟩
   have in1:=Jp.init.lookup
   have in2:=Jp.init.bind (.ref s.heap.objs.size)
   repeat (any_goals (first | assumption | wp_step))
   refine Kq (codeAny_call_builtin (R:=wants (fun r s₂=>r=.none/\∃ h' tk,s₂ = {s with heap:=h',toks:=tk}/\f9 prog w h' s.heap.objs.size (fun x=>x∈ns) items.size (jL w)/\(∀ c o,c < s.heap.objs.size->s.heap.get? c=some o->h'.get? c=some o)) E)
    Jp.init.plain F.entry_set_init (check_set_init_1 hT ?_)) fun r₂ s₂ rz=>?_
   ·have hlt:l < s.heap.objs.size:=by obtain⟨ol,hol,_⟩:=hl;exact Ak hol
    have hl1:(s.heap.push (kD w)).IsList l items:=hl.push _
    obtain⟨ol,hol,hcl,nl,hdl⟩:=id hl1
    obtain⟨oc,od,oda,os⟩:=ol
    simp only at hcl hdl
    subst hcl;subst hdl
    have sl1:=F.sub_list_set
    have sl2:=F.sub_list_frozenset
    have nld:(Value.type "list" == Value.type "dict")=false:=by decide
    unfold Hh.«set.__init__» noKeywords Builtin.Frozenset.updateFrom
    generalize hPI:Og=PI
    wp_walk
    subst hPI
    refine Jh hl1 (Aa (wpAny_runValue ?_))
    have hd3:A.in1.in1.in1.handled=none:=by simp[hh]
    have hsz:(s.heap.push (kD w)).objs.size=s.heap.objs.size + 1:=Ds _ _
    have ni:l≠(s.heap.push (kD w)).objs.size:=by rw[hsz];exact Bf (Hj hlt)
    have nf:s.heap.objs.size∉[(s.heap.push (kD w)).objs.size,l]:=by
     simp only[Az,Ex,or_false,not_or]
     exact⟨by rw[hsz];exact Bf (Hy _),Dy hlt⟩
    have vl:∀ (i:Nat) (v:Ac),items[i]? = some v->∃ t,v=.int ((fun i=>ns.getD i 0) i) t:=fun i v hv=>IntsAre.int_at hi i v (by rw[Du];exact hv)
    refine zcg (b:=jL w) ((Ms hd3 _ l ni items).toS) s.heap.objs.size nf (fun i=>ns.getD i 0) vl hb (items.size - 0) 0 _ (by lia) (Co _) ⟨⟨_,Ap _ rfl,rfl,rfl⟩,hl1.push _⟩ ?hS0 ?hR
    case hS0=>
     obtain⟨o,es,ep,tb,q1,q2,q3,q4,q5,q6⟩:=zce (prog:=prog) (Af {cls:=.type "list_iterator",data:=.fields #[.ref l,.int 0 0]} hS)
     exact⟨o,es,ep,tb,q1,q2,q3,q4,fun x=>⟨fun⟨j,hj,_⟩=>by lia,fun q=>((q5 x).mpr q).elim⟩,q6⟩
    case hR=>
     intro s' hm hS'
     obtain⟨h',g',d',tk',os'⟩:=s'
     cases (show g'=s.gens from hm.gens)
     cases (show d'=s.drawn from hm.drawn)
     cases (show os'=s.os from hm.os)
     refine Ag (Ag ⟨rfl,h',tk',rfl,?_,fun c o hc e=>hm.heap c o ?_ (Af _ (Af _ e))⟩)
     ·have hlen:items.size=ns.length:=by
       have:∀ {vs:List Ac} {ns:List Int},Iu vs ns->vs.length=ns.length:=by
        intro vs ns q
        induction q with
        | nil=>rfl
        | cons _ _ _ ih=>simp[ih]
       rw[<-this hi,Bx]
      obtain⟨o,es,ep,tb,q1,q2,q3,q4,q5,q6⟩:=hS'
      refine⟨o,es,ep,tb,q1,q2,q3,q4,fun x=>(show _↔_ from ?_).trans (q5 x),q6⟩
      constructor
      ·intro hx
       obtain⟨j,hj,e⟩:=Hg.mp hx
       exact⟨j,by lia,by simp[hj,e]⟩
      ·rintro⟨j,hj,rfl⟩
       have:j < ns.length:=by lia
       simp[this]
     ·simp only[Az,Ex,or_false,not_or]
      exact⟨Bf hc,by rw[hsz];exact Bf (Hj hc)⟩
   ·cases r₂ with
    | error e=>exact rz
    | ok fl₂=>
     cases fl₂ with
     | ret r=>
      obtain⟨rfl,h',tk,rfl,hS',kz⟩:=rz
      repeat (any_goals (first | assumption | wp_step))
      exact h _ _ hS' kz
     | _=>exact rz.elim
  | _=>exact hr.elim
end
end bE
namespace bE
open PySem
theorem zL{a:Type}:∀ {l:List a} {i:Nat} (h:i < l.length),(l[i] :: l.eraseIdx i).Perm l
 | x :: l,0,_=>List.Perm.refl _
 | x :: l,i + 1,h=>by
  have:=zL (l:=l) (i:=i) (by simpa using h)
  exact(List.Perm.swap _ _ _).trans (this.cons x)
theorem HA{b:Type}{next:Nat->Nat}:∀ (a k:Nat) (left:List b) (out:Array b),a=left.length->(pickOrder.go next a k left out).toList.Perm (out.toList ++ left)
 | 0,k,left,out,h=>by
  cases left with
  | nil=>simp[pickOrder.go]
  | cons _ _=>simp at h
 | a + 1,k,left,out,h=>by
  have hi:next k % left.length < left.length:=Nat.mod_lt _ (by lia)
  unfold pickOrder.go
  rw[An hi]
  dsimp only
  refine(HA a (k + 1) _ _ (by rw[List.length_eraseIdx,if_pos hi];lia)).trans ?_
  rw[Array.toList_push,Cd]
  exact Cw _ (zL hi)
theorem uC{a:Type}(next:Nat->Nat)(xs:Array a):(Lz next xs).toList.Perm xs.toList:=by
 have:=HA (next:=next) xs.size 0 xs.toList #[] (by simp)
 show(pickOrder.go next xs.size 0 xs.toList #[]).toList.Perm _
 simpa using this
section
variable {M:Mx}{A:Bv}{E:Ac->Ah->Prop}
theorem zci{src:Source}{n:Nat}{s:Ah}{Q:Nat->Ah->Prop}(a:n≠0)(h:∀ i d,i < n->Q i {s with drawn:=d}):Ax M A (choose src n) Q E s:=fun b p _=>by
 unfold choose
 rw[Sem.wp_choose]
 exact⟨a,by rw[Sem.wp_pure];exact h _ _ (Nat.mod_lt _ (Nat.pos_of_ne_zero a))⟩
theorem HB{b:Type}:∀ {n:Nat} {xs:List b} {s:Ah} {Q:List b->Ah->Prop},n=xs.length->(∀ ys d,ys.Perm xs->Q ys {s with drawn:=d})->Ax M A (drawOrder n xs) Q E s
 | 0,xs,s,Q,a,h=>by
  cases xs with
  | nil=>unfold drawOrder;exact Ag (h [] s.drawn (List.Perm.refl _))
  | cons _ _=>simp at a
 | n + 1,[],s,Q,a,h=>by simp at a
 | n + 1,x :: xs,s,Q,a,h=>by
  unfold drawOrder
  refine Aa (zci (by simp) fun i d hi=>?_)
  rw[An hi]
  dsimp only
  refine Aa (HB (by rw[List.length_eraseIdx,if_pos hi];simpa using a) fun ys d' c=>Ag (h _ d' ((c.cons _).trans (zL hi))))
end
end bE
namespace bE
open PySem PySem.Calls PyProof.Rows
theorem nH:Slot "set_iterator" "__next__" "set_iterator.__next__":=
 .of (owner:="set_iterator") (n:="__next__") (by rw[Lo,Je];kernel_rfl) (by decide +kernel) (by decide +kernel) (by decide +kernel)
  (by first | exact .inl (by decide +kernel) | exact .inr (by decide +kernel)) (by rw[Md];kernel_rfl)
theorem HC:entryFor table "set_iterator.__next__" = some Hh.«set_iterator.__next__»:=entryFor_of_tree (by kernel_rfl)
theorem HD(a:Ac):argsOk "set_iterator.__next__" ⟨[a],[]⟩:=by unfold argsOk;kernel_rfl
theorem HE:Slot "set" "__iter__" "set.__iter__":=
 .of (owner:="set") (n:="__iter__") (by rw[Lo,Je];kernel_rfl) (by decide +kernel) (by decide +kernel) (by decide +kernel)
  (by first | exact .inl (by decide +kernel) | exact .inr (by decide +kernel)) (by rw[Md];kernel_rfl)
theorem zcj:entryFor table "set.__iter__" = some Hh.«frozenset.__iter__»:=entryFor_alias (id':="frozenset.__iter__") (by kernel_rfl) rfl (by decide +kernel) (by kernel_rfl)
theorem zck(a:Ac):argsOk "set.__iter__" ⟨[a],[]⟩:=by unfold argsOk;kernel_rfl
abbrev qR(w:Cb):Bool:=w.params.followText "set-order"
def Drawn(es:Array (Int×Ac))(t:Hr):Bool:=!t.plain && es.size > 1
def zcl(w:Cb)(h:Heap)(a:Addr)(es:Array (Int×Ac))(ep:Nat)(t:Hr)(vals:List Ac)(bs:List Addr)(first:Ac)(i:Nat):Prop:=
 (qR w=true/\(∃ k u,first=.int k u)/\vals=(Lz (w.params.setOrder a ep) es).toList.map (·.2))\/
 (qR w=false/\Drawn es t=false/\Good true t/\(∃ (k:Nat) (u:Tok),first=.int k u/\SetTable.below t.place k=i)/\vals=es.toList.map (·.2))\/
 (qR w=false/\∃ (b:Addr) (o:Obj) (js:List Nat) (m:Nat),first=.ref b/\b∈bs/\h.get? b=some o/\o.cls=.type "tuple"/\o.data=.seq (js.map fun(j:Nat)=>Gv j).toArray m/\(∀ j∈js,j < es.size)/\js.length=es.size/\vals=js.map fun j=>(es.getD j (0,.none)).2)
structure jM(w:Cb)(h:Heap)(I a:Addr)(es:Array (Int×Ac))(ep:Nat)(t:Hr)(vals:List Ac)(bs:List Addr)(i:Nat):Prop where
 it:∃ o first,h.get? I=some o/\o.cls=.type "set_iterator"/\o.data=.fields #[first,Gv i,.ref a,Gv es.size,Gv ep]/\zcl w h a es ep t vals bs first i
 set:∃ o,h.get? a=some o/\o.ExactSet/\o.data=.set es ep t/\t.fits es.size=true
 ne:I≠a
 len:vals.length=es.size
section
variable {prog:Bl}{w:Cb}{A:Bv}{E:Ac->Ah->Prop}{s:Ah}{I a:Addr}{es:Array (Int×Ac)}{ep:Nat}{t:Hr}{vals:List Ac}{bs:List Addr}{i:Nat}
theorem jM.typeIs(h:jM w s.heap I a es ep t vals bs i):s.TypeIs (.ref I) "set_iterator":=let ⟨o,f,ho,hc,_⟩:=h.it;⟨o,ho,hc⟩
theorem oS{h:Heap}{o:Obj}{fs:Array Ac}(b:h.get? I=some o)(hc:o.cls=.type "set_iterator")(hd:o.data=.fields fs)(k:Nat)(v:Ac) :
  ∃ a,(h.update I (Et (·.setIfInBounds k v))).get? I=some a/\a.cls=.type "set_iterator"/\a.data=.fields (fs.setIfInBounds k v):=
 ⟨_,Fd _ b (Nk (Ib hd _)),(Obj.cls_mapFields ..).trans hc,by rw[Ib hd]⟩
theorem next_item{Q:Option Ac->Ah->Prop}(h:jM w s.heap I a es ep t vals bs i)(hi:i < vals.length)
  (P:∀ h',jM w h' I a es ep t vals bs (i + 1)->Dx I s.heap h'->Q (some vals[i]) {s with heap:=h'}):Ax (Bk prog w) A (Ia (.ref I)) Q E s:=by
 have T:=h.typeIs
 obtain⟨⟨o,first,n,hc,hd,W⟩,⟨oa,e,N,f,d⟩,p,l⟩:=h
 unfold Ia
 refine Aa (Kd (Ee (name:=Cz "__next__") T nH (De nH T HC ?_ (HD _))))
 unfold Hh.«set_iterator.__next__»
 refine Aa (Ag (Aa (Of n hd ?_)))
 dsimp only[Gv]
 refine Aa (Oo e f d ?_)
 rw[if_neg (by simp)]
 have put:∀ {h':Heap},Dx I s.heap h'->∃ o,h'.get? a=some o/\o.ExactSet/\o.data=.set es ep t/\t.fits es.size=true:=fun sb=>⟨oa,(sb.2 a (Bq p)).trans e,N,f,d⟩
 rcases W with⟨r,⟨k,u,rfl⟩,q⟩ | ⟨r,G,M,⟨k,u,rfl,hk⟩,q⟩ | ⟨r,b,ob,js,m,rfl,R,K,Z,L,U,h5,q⟩
 ·have S:i < (Lz (w.params.setOrder a ep) es).size:=by
   have:=(uC (w.params.setOrder a ep) es).length_eq
   rw[Bx,Bx] at this
   lia
  have v:(Lz (w.params.setOrder a ep) es)[i]? = some (Lz (w.params.setOrder a ep) es)[i]:=getElem?_pos _ i S
  have y:vals[i]=((Lz (w.params.setOrder a ep) es)[i]).2:=by simp[q]
  dsimp only
  unfold setNext
  refine Aa (Aa (Fs e f d ?_))
  unfold Mc
  refine Aa (Aa (Fm (Ag ?_)))
  refine Dk (fun _=>?_) fun c=>(c r).elim
  refine Dk (fun c=>by simp at c) fun _=>?_
  unfold setWalk
  refine Aa (Aa (Fs e f d ?_))
  unfold Mc
  refine Aa (Aa (Fm (Ag ?_)))
  refine Dk (fun _=>?_) fun c=>(c r).elim
  refine Aa (Fm (Ag (Ag ?_)))
  rw[Cm]
  erw [v]
  dsimp only[Kv]
  obtain⟨Y,F,J,D⟩:=oS n hc hd 0 (.int ((k.toNat:Nat):Int) 0)
  refine Aa (Ey n hd (by simp) (Aa (Ey (s:={s with heap:=s.heap.update I (Et (·.setIfInBounds 0 (.int ((k.toNat:Nat):Int) 0)))}) F D (by simp) (Ag ?_))))
  obtain⟨B,H,p2,C⟩:=oS F J D 1 (.int ((i:Int) + 1) 0)
  have sb:=(Ca s.heap I (Et (·.setIfInBounds 0 (.int ((k.toNat:Nat):Int) 0)))).trans (Ca _ I (Et (·.setIfInBounds 1 (.int ((i:Int) + 1) 0))))
  refine⟨_,rfl,Ag ?_⟩
  rw[<-y]
  exact P _ ⟨⟨B,.int ((k.toNat:Nat):Int) 0,H,p2,by rw[C];simp[Gv],.inl ⟨r,⟨_,_,rfl⟩,q⟩⟩,put sb,p,l⟩ sb
 ·have iZ:i < es.size:=by lia
  have X:t.place.size=es.size:=by
   simp only[SetTable.fits,Cs,beq_iff_eq] at d
   exact d.1
  have x:i < t.place.size:=by lia
  have y:vals[i]=es[i].2:=by simp[q]
  dsimp only
  unfold setNext
  refine Aa (Aa (Fs e f d ?_))
  unfold Mc
  refine Aa (Aa (Fm (Ag ?_)))
  refine Dk (fun c=>absurd (Eq.trans (Eq.symm r) c) Am) fun _=>?_
  refine Dk (fun c=>absurd (Eq.trans (Eq.symm G) c) Am) fun _=>?_
  refine Aa (Dk (fun c=>by rw[M.2] at c;simp at c) fun _=>Ag ?_)
  refine Ag ?_
  rw[Cm,hk,getElem?_pos es i iZ,getElem?_pos t.place i x]
  dsimp only
  obtain⟨Y,F,J,D⟩:=oS n hc hd 0 (.int (((t.place[i] + 1:Nat)):Int) 0)
  refine Aa (Ey n hd (by simp) (Aa (Ey (s:={s with heap:=s.heap.update I (Et (·.setIfInBounds 0 (.int (((t.place[i] + 1:Nat)):Int) 0)))}) F D (by simp) (Ag ?_))))
  obtain⟨B,H,p2,C⟩:=oS F J D 1 (.int ((i:Int) + 1) 0)
  have sb:=(Ca s.heap I (Et (·.setIfInBounds 0 (.int (((t.place[i] + 1:Nat)):Int) 0)))).trans (Ca _ I (Et (·.setIfInBounds 1 (.int ((i:Int) + 1) 0))))
  refine⟨_,rfl,Ag ?_⟩
  rw[<-y]
  exact P _ ⟨⟨B,.int (((t.place[i] + 1:Nat)):Int) 0,H,p2,by rw[C];simp[Gv],.inr (.inl ⟨r,G,M,⟨_,_,rfl,zb6 M.1 x⟩,q⟩)⟩,put sb,p,l⟩ sb
 ·have iZ:i < js.length:=by lia
  have V:js[i] < es.size:=U _ (List.getElem_mem iZ)
  have y:vals[i]=es[js[i]].2:=by simp[q,Array.getD,V]
  have O:b≠I:=fun z=>by subst z;rw[K] at n;cases n;rw[L] at hd;cases hd
  dsimp only
  unfold seqItems?
  refine Aa (Aa (wpAny_load K ?_))
  rw[L]
  refine Ag ?_
  dsimp only
  have v:(js.map fun(j:Nat)=>Gv j).toArray[((i:Nat):Int).toNat]? = some (.int (js[i]:Nat) 0):=by
   rw[Cm,List.getElem?_toArray,Bh,An iZ]
   rfl
  rw[v]
  dsimp only
  unfold setNextDrawn
  refine Aa (Aa (Fs e f d ?_))
  refine Dk (fun c=>by simp at c) fun _=>?_
  rw[Cm,getElem?_pos es js[i] V]
  refine Ag ?_
  obtain⟨B,H,p2,C⟩:=oS n hc hd 1 (.int ((i:Int) + 1) 0)
  have sb:=Ca s.heap I (Et (·.setIfInBounds 1 (.int ((i:Int) + 1) 0)))
  refine Aa (Ey n hd (by simp) (Ag ⟨_,rfl,Ag ?_⟩))
  have g:=P _ ⟨⟨B,.ref b,H,p2,by rw[C];simp[Gv],.inr (.inr ⟨r,b,ob,js,m,rfl,R,(sb.2 b O).trans K,Z,L,U,h5,q⟩)⟩,put sb,p,l⟩ sb
  rw[y] at g
  exact g
theorem zM{Q:Option Ac->Ah->Prop}(f:A.handled=none)(h:∀ h',(∀ b o,s.heap.get? b=some o->h'.get? b=some o)->Q none {s with heap:=h'}) :
  Ax (Bk prog w) A.in1 (newExc (.type "StopIteration") [] >>= fun e=>raiseNew e) (fun(fin:PySem.Fin) d=>∃ v,fin=Fin.done (Flow.ret v)/\Ax (Bk prog w) A (pure (some v)) Q E d)
   (fun e d=>Ax (Bk prog w) A (isInstance e (.type "StopIteration") >>= fun c=>if c=true then pure none else throw e) Q E d) s:=by
 refine Aa ?_
 simp only[newExc,newTuple]
 refine Aa (Dd (Aa (m:=Ko _ _) (wpAny_of_eq (a:=Value.none) (by first | rfl | (simp only[Ko];rfl)) (Dd ?_ (by size_fits)))) (by size_fits))
 simp only[raiseNew]
 refine Aa (wpAny_handled ?_)
 rw[show A.in1.handled=none from f]
 refine Aa (Ag (wpAny_throw ?_))
 refine Aa (Jt (T:="StopIteration") (b:=true) ⟨_,Ap _ rfl,rfl⟩ isSubtype_stop ?_)
 exact Ag (h _ fun b o e=>Af _ (Af _ e))
theorem zcm{Q:Option Ac->Ah->Prop}(r:A.handled=none)(h:jM w s.heap I a es ep t vals bs i)(hi:vals.length<=i)
  (x:∀ h',(∀ b o,b≠I->s.heap.get? b=some o->h'.get? b=some o)->Q none {s with heap:=h'}):Ax (Bk prog w) A (Ia (.ref I)) Q E s:=by
 have y:=h.typeIs
 obtain⟨⟨o,first,p,hc,hd,D⟩,⟨oa,f,K,g,d⟩,L,B⟩:=h
 unfold Ia
 refine Aa (Kd (Ee (name:=Cz "__next__") y nH (De nH y HC ?_ (HD _))))
 unfold Hh.«set_iterator.__next__»
 refine Aa (Ag (Aa (Of p hd ?_)))
 dsimp only[Gv]
 refine Aa (Oo f g d ?_)
 rw[if_neg (by simp)]
 have l:∀ {h':Heap},Dx I s.heap h'->∀ b o,b≠I->s.heap.get? b=some o->h'.get? b=some o:=fun sb b o hb e=>(sb.2 b hb).trans e
 rcases D with⟨q,⟨k,u,rfl⟩,z⟩ | ⟨q,v,J,⟨k,u,rfl,hk⟩,z⟩ | ⟨q,b,ob,js,m,rfl,N,C,R,G,P,S,z⟩
 ·have n:(Lz (w.params.setOrder a ep) es)[i]? = none:=by
   have:=(uC (w.params.setOrder a ep) es).length_eq
   rw[Bx,Bx] at this
   exact getElem?_neg _ i (by lia)
  dsimp only
  unfold setNext
  refine Aa (Aa (Fs f g d ?_))
  unfold Mc
  refine Aa (Aa (Fm (Ag ?_)))
  refine Dk (fun _=>?_) fun c=>(c q).elim
  refine Dk (fun c=>by simp at c) fun _=>?_
  unfold setWalk
  refine Aa (Aa (Fs f g d ?_))
  unfold Mc
  refine Aa (Aa (Fm (Ag ?_)))
  refine Dk (fun _=>?_) fun c=>(c q).elim
  refine Aa (Fm (Ag (Ag ?_)))
  rw[Cm]
  erw [n]
  dsimp only[Option.map_none]
  have sb:=Ca s.heap I (Et (·.setIfInBounds 2 Value.none))
  exact Aa (Ey p hd (by simp) (zM (s:={s with heap:=_}) r fun h' kp=>x h' fun b o hb e=>kp b o (l sb b o hb e)))
 ·have H:t.place.size=es.size:=by
   simp only[SetTable.fits,Cs,beq_iff_eq] at d
   exact d.1
  dsimp only
  unfold setNext
  refine Aa (Aa (Fs f g d ?_))
  unfold Mc
  refine Aa (Aa (Fm (Ag ?_)))
  refine Dk (fun c=>absurd (Eq.trans (Eq.symm q) c) Am) fun _=>?_
  refine Dk (fun c=>absurd (Eq.trans (Eq.symm v) c) Am) fun _=>?_
  refine Aa (Dk (fun c=>by rw[J.2] at c;simp at c) fun _=>Ag ?_)
  refine Ag ?_
  rw[Cm,hk,getElem?_neg es i (by lia)]
  dsimp only
  have sb:=Ca s.heap I (Et (·.setIfInBounds 2 Value.none))
  exact Aa (Ey p hd (by simp) (zM (s:={s with heap:=_}) r fun h' kp=>x h' fun b o hb e=>kp b o (l sb b o hb e)))
 ·dsimp only
  unfold seqItems?
  refine Aa (Aa (wpAny_load C ?_))
  rw[G]
  refine Ag ?_
  dsimp only
  have n:(js.map fun(j:Nat)=>Gv j).toArray[((i:Nat):Int).toNat]? = none:=by
   rw[Cm,List.getElem?_toArray]
   exact Il (by rw[Ab];lia)
  rw[n]
  dsimp only
  obtain⟨O,M,p2,F⟩:=oS p hc hd 0 (.int 0 0)
  have sb:=(Ca s.heap I (Et (·.setIfInBounds 0 (Value.int 0 0)))).trans (Ca _ I (Et (·.setIfInBounds 2 Value.none)))
  exact Aa (Ey p hd (by simp) (Aa (Ey (s:={s with heap:=_}) M F (by simp) (zM (s:={s with heap:=_}) r fun h' kp=>x h' fun b o hb e=>kp b o (l sb b o hb e)))))
end
theorem HF:Slot "set_iterator" "__iter__" "set_iterator.__iter__":=
 .of (owner:="set_iterator") (n:="__iter__") (by rw[Lo,Je];kernel_rfl) (by decide +kernel) (by decide +kernel) (by decide +kernel)
  (by first | exact .inl (by decide +kernel) | exact .inr (by decide +kernel)) (by rw[Md];kernel_rfl)
theorem zcn:entryFor table "set_iterator.__iter__" = some Hh.«dict_keyiterator.__iter__»:=entryFor_alias (id':="dict_keyiterator.__iter__") (by kernel_rfl) rfl (by decide +kernel) (by kernel_rfl)
theorem zco(a:Ac):argsOk "set_iterator.__iter__" ⟨[a],[]⟩:=by unfold argsOk;kernel_rfl
section
variable {prog:Bl}{w:Cb}{A:Bv}{E:Ac->Ah->Prop}{s:Ah}{I a:Addr}{es:Array (Int×Ac)}{ep:Nat}{t:Hr}{vals:List Ac}{bs:List Addr}{i:Nat}
theorem jM.at{h h':Heap}(x:jM w h I a es ep t vals bs i)(k:∀ b,b=I\/b=a\/b∈bs->∀ o,h.get? b=some o->h'.get? b=some o):jM w h' I a es ep t vals bs i:=by
 obtain⟨⟨o,f,n,hc,hd,c⟩,⟨oa,g,r⟩,d,hl⟩:=x
 refine⟨⟨o,f,k I (.inl rfl) o n,hc,hd,?_⟩,⟨oa,k a (.inr (.inl rfl)) oa g,r⟩,d,hl⟩
 rcases c with c | c | ⟨l,b,ob,js,m,e,hb,j,c⟩
 ·exact .inl c
 ·exact .inr (.inl c)
 ·exact .inr (.inr ⟨l,b,ob,js,m,e,hb,k b (.inr (.inr hb)) ob j,c⟩)
theorem zcp(g:A.handled=none):Walks prog w A I (I :: a :: bs) [I] vals.length (fun j v=>vals[j]? = some v) (fun j h=>jM w h I a es ep t vals bs j) where
 sub:=fun b hb=>by simp at hb;simp[hb]
 frame:=fun _ _ _ st hk=>st.at fun b hb o e=>hk b (by simpa using hb) o e
 item:=fun j s Q E f st c=>next_item st f fun h' st' sb=>c _ h' s.toks (by simp[f]) st' fun b o hb e=>(sb.2 b (fun z=>hb (by simp[z]))).trans e
 done:=fun s Q E st c=>zcm g st (Ai _) fun h' kp=>c h' s.toks fun b o hb e=>kp b o (fun z=>hb (by simp[z])) e
 self:=fun _ s _ _ st c=>by
  have d:=st.typeIs
  refine wpAny_pyIter_slot d HF (De HF d zcn ?_ (zco _))
  show Ax _ _ (ret (.ref I)) _ _ s
  exact Ag ⟨_,rfl,"set_iterator",_,d,nH.lookup,c⟩
theorem zcq{S:Int->Prop}{n:Nat}{Q:Ac->Ah->Prop}(G:f9 prog w s.heap a S n (jL w))(hz:n<=Aj)
  (h:∀ (I:Addr) (h':Heap) d es ep t vals bs,jM w h' I a es ep t vals bs 0->(∀ b o,s.heap.get? b=some o->h'.get? b=some o)->s.heap.objs.size<=I->(∀ b∈bs,s.heap.objs.size<=b)->vals.Perm (es.toList.map (·.2))->
   ElemsOf (En prog w) es.toList->(∀ k,S k↔∃ e∈es.toList,(En prog w).is k e.2=true)->Nz prog w es n->Q (.ref I) {s with heap:=h',drawn:=d}):Ax (Bk prog w) A (Og (.ref a)) Q E s:=by
 obtain⟨o,es,ep,t,g,q,hd,x,r,p,hf,z⟩:=G
 have H:=p.1
 have y:s.TypeIs (.ref a) "set":=⟨o,g,q.1⟩
 refine wpAny_pyIter_slot y HE (De HE y zcj ?_ (zck _))
 unfold Hh.«frozenset.__iter__»
 refine Aa (Ag (Aa (Aa (Oo g hd hf (Ag ?_)))))
 unfold setDrawn Mc
 refine Aa (Aa (Fs g hd hf (Aa (Aa (Fm (Ag (Ag ?_)))))))
 have ha:a < s.heap.objs.size:=Ak g
 refine Dk (fun c=>?_) fun c=>?_
 ·have i:qR w=false:=by
   have:=(Kx.mp c).1
   exact Ly _ ▸ this
  refine Aa (HB (by simp) fun js d v=>?_)
  have f:js.length=es.size:=by rw[v.length_eq];simp
  refine Aa (wpAny_newTuple (s:={s with drawn:=d}) ?_ (by rw[Ab,f];lia))
  have m:=Af {cls:=.type "tuple",data:=.seq (js.map fun(j:Nat)=>Gv j).toArray 0} g
  refine Aa (wpAny_setEpoch_of (s:={s with heap:=_,drawn:=d}) m hd hf ?_)
  unfold newFields
  refine Aa (Dd (Ag ⟨_,rfl,"set_iterator",_,⟨_,Ap _ rfl,rfl⟩,nH.lookup,?_⟩))
  refine h _ _ d es ep t (js.map fun j=>(es.getD j (0,.none)).2) [s.heap.objs.size] ⟨⟨_,.ref s.heap.objs.size,Ap _ rfl,rfl,rfl,.inr (.inr ⟨i,_,_,js,0,rfl,by simp,Af _ (Ap _ rfl),rfl,rfl,fun j F=>by simpa using v.mem_iff.mp F,f,rfl⟩)⟩,
   ⟨o,Af _ m,q,hd,hf⟩,?_,by rw[Ab,f]⟩ (fun b o e=>Af _ (Af _ e)) ?_ (fun b hb=>by simp at hb;rw[hb];exact Ai _) ?_ x r p
  ·show(s.heap.push _).objs.size≠a
   rw[Ds]
   exact Dy (Hj ha)
  ·show s.heap.objs.size<=(s.heap.push _).objs.size
   rw[Ds]
   exact Kz _
  ·have e:es.toList.map (·.2)=(Ce es.size).map fun j=>(es.getD j (0,.none)).2:=by
    refine List.ext_getElem (by simp) fun k B J=>?_
    have:k < es.size:=by simpa using B
    simp[Array.getD,this]
   rw[e]
   exact v.map _
 ·refine Aa (Ag (Aa (wpAny_setEpoch_of g hd hf ?_)))
  unfold newFields
  refine Aa (Dd (Ag ⟨_,rfl,"set_iterator",_,⟨_,Ap _ rfl,rfl⟩,nH.lookup,?_⟩))
  have ne:s.heap.objs.size≠a:=Dy ha
  have st:∀ {D:Obj},∃ o,(s.heap.push D).get? a=some o/\o.ExactSet/\o.data=.set es ep t/\t.fits es.size=true:=⟨o,Af _ g,q,hd,hf⟩
  cases i:qR w with
  | true=>
   exact h _ _ s.drawn es ep t ((Lz (w.params.setOrder a ep) es).toList.map (·.2)) [] ⟨⟨_,Gv 0,Ap _ rfl,rfl,rfl,.inl ⟨i,⟨_,_,rfl⟩,rfl⟩⟩,st,ne,by rw[Ab,(uC _ _).length_eq,Bx]⟩
    (fun b o e=>Af _ e) (Ai _) (fun b hb=>nomatch hb) ((uC _ _).map _) x r p
  | false=>
   have u:Drawn es t=false:=by
    cases C:Drawn es t with
    | false=>rfl
    | true=>exact(c (Kx.mpr ⟨(Ly _).mpr i,C⟩)).elim
   have l:Good true t:=by
    have:jL w=true:=by unfold jL;rw[show w.params.followText "set-order" = false from i];rfl
    rw[this] at z
    exact z
   exact h _ _ s.drawn es ep t (es.toList.map (·.2)) [] ⟨⟨_,Gv 0,Ap _ rfl,rfl,rfl,.inr (.inl ⟨i,u,l,⟨0,0,rfl,zb7 l.1⟩,rfl⟩)⟩,st,ne,by rw[Ab,Bx]⟩
    (fun b o e=>Af _ e) (Ai _) (fun b hb=>nomatch hb) (List.Perm.refl _) x r p
end
theorem zcr:Slot "set" "__len__" "set.__len__":=
 .of (owner:="set") (n:="__len__") (by rw[Lo,Je];kernel_rfl) (by decide +kernel) (by decide +kernel) (by decide +kernel)
  (by first | exact .inl (by decide +kernel) | exact .inr (by decide +kernel)) (by rw[Md];kernel_rfl)
section
variable {prog:Bl}{w:Cb}{A:Bv}{E:Ac->Ah->Prop}{s:Ah}{a:Addr}
theorem zcs{Q:Bool->Ah->Prop}(e:s.TypeIs (.ref a) "set")(h:Q false s):Ax (Bk prog w) A (Builtin.List.listLengthHint (.ref a)) Q E s:=by
 unfold Builtin.List.listLengthHint
 refine Aa (wpAny_specialOf e zcr.lookup ?_)
 generalize d:("set.__len__" : String)=id0
 wp_delta
 rw[show splitId id0=some ("set","__len__") from by subst d;decide +kernel]
 subst d
 refine Aa (Jt (T:="set") (b:=true) e (by rw[Md];kernel_rfl) ?_)
 refine Dk (fun c=>absurd c (by decide)) (fun _=>?_)
 refine Dk (fun _=>?_) (fun c=>absurd (by decide +kernel) c)
 refine Aa (Kn e ?_)
 exact Ag h
theorem zct{S:Int->Prop}{n:Nat}{R:Result->Ah->Prop}(V:A.handled=none)(U:f9 prog w s.heap a S n (jL w))(hz:n<=Aj)(D:Addr)(C:D≠a)(res:Ac)(p:Nat)(J:s.heap.get? D=some {cls:=.type "list",data:=.seq #[] p})
  (hR:∀ h' tk d c v (es:Array (Int×Ac)),(∀ b o,b≠D->s.heap.get? b=some o->h'.get? b=some o)->h'.get? D=some {cls:=.type "list",dict:=none,data:=.seq c v,slots:=#[]}->c.toList.Perm (es.toList.map (·.2))->
   ElemsOf (En prog w) es.toList->(∀ k,S k↔∃ e∈es.toList,(En prog w).is k e.2=true)->Nz prog w es n->R (.ok (.ret res)) {s with heap:=h',toks:=tk,drawn:=d}) :
  Ax (Bk prog w) A.in1 (Kk (.ref D) (.ref a) res)
   (fun fin r=>match fin with | .done f=>R (.ok f) r | .again v=>v.quiet=true/\Jv (Bk prog w) A v R r) (fun e r=>R (.error e) r) s:=by
 have N:s.TypeIs (.ref a) "set":=let ⟨o,_,_,_,ho,hx,_⟩:=U;⟨o,ho,hx.1⟩
 unfold Kk
 refine Aa (Kn (T:="set") N ?_)
 have X:Builtin.List.listSameRef (.ref D) (.ref a)=false:=by simp[Builtin.List.listSameRef,C]
 simp only[X,show(Value.type "set" == Value.type "list")=false by decide,show(Value.type "set" == Value.type "tuple")=false by decide,Bool.or_false,Cq,if_false]
 refine Aa (zcq U hz fun I E d es ep t vals bs st kp P hb hp he W Q=>?_)
 have q:=kp _ _ J
 have K:D≠I:=fun z=>absurd (Ak J) (by rw[z];exact Nat.not_lt.mpr P)
 have B:D∉I :: a :: bs:=by
  simp only[Az,not_or]
  exact⟨K,C,fun z=>absurd (Ak J) (Nat.not_lt.mpr (hb D z))⟩
 have G:vals.length<=Aj:=by have:=Q.1;rw[st.len];lia
 have key:∀ (h:Heap) (j tk:Nat),jM w h I a es ep t vals bs 0->(∀ b o,b≠D->s.heap.get? b=some o->h.get? b=some o)->
   h.get? D=some {cls:=.type "list",data:=.seq #[] j}->Jv (Bk prog w) A (.builtin "list.extend.loop" ⟨[.ref D,.ref I,res],[]⟩) R {s with heap:=h,toks:=tk,drawn:=d}:=by
  intro h j tk M hk u
  refine codeAny_extend_loopS (zcp (by exact V)).toS G D B res vals.length 0 _ #[] j rfl (Co _) M u (ItemsOf.nil _) fun r c v y H m=>?_
  have eq:c.toList=vals:=by
   refine List.ext_getElem? fun i=>?_
   rw[Du]
   by_cases hi:i < c.size
   ·have:=m.2 i _ (getElem?_pos c i hi)
    rw[getElem?_pos c i hi,this]
   ·rw[getElem?_neg c i hi,Il (by have:=m.1;lia)]
  rw[Moved.eq_with y]
  refine hR r.heap r.toks d c v es (fun b o g e=>y.heap b o (fun l=>?_) (hk b o g e)) H (by rw[eq];exact hp) he W Q
  rcases Az.mp l with Z | l
  ·exact g Z
  ·exact absurd (Ak e) (by rw[Ba.mp l];exact Nat.not_lt.mpr P)
 have L:Shared.TypeIs {s with heap:=E,drawn:=d} (.ref a) "set":=let ⟨o,ho,hc⟩:=N;⟨o,kp _ _ ho,hc⟩
 refine Aa (Ct (zcs (s:={s with heap:=E,drawn:=d}) L ?_))
 refine Dk (fun _=>?_) (fun _=>Ag ⟨Hx PySem.F.plain_extend_loop _,key _ p _ st (fun b o _ e=>kp b o e) q⟩)
 refine Aa (Ej (Aa ?_))
 show Ax _ _ (updateSeq D (·.push .none) >>= fun _=>updateSeq D (·.pop)) _ _ _
 refine Aa (wpAny_updateSeq q rfl ?_)
 have O:=Fd (Gw (·.push Value.none)) q rfl
 refine wpAny_updateSeq (hz:=by seq_fits) O rfl ?_
 have Y:=Fd (Gw (·.pop)) O rfl
 have x:∀ b o,b≠D->E.get? b=some o->((E.update D (Gw (·.push Value.none))).update D (Gw (·.pop))).get? b=some o:=fun b o g e=>
  (Fn _ _ (Bq g)).trans ((Fn _ _ (Bq g)).trans e)
 exact Ag ⟨Hx PySem.F.plain_extend_loop _,key _ _ _ (st.at fun b g o e=>x b o (fun z=>B (by rw[<-z];simpa using g)) e) (fun b o g e=>x b o g (kp b o e)) Y⟩
end
section
variable {prog:Bl}{w:Cb}{A:Bv}{E:Ac->Ah->Prop}{s:Ah}{a:Addr}
theorem HG:∀ (vs:List Ac),(∀ v∈vs,∃ k,(En prog w).is k v=true)->∃ ns,Iu vs ns/\∀ k,k∈ns↔∃ v∈vs,(En prog w).is k v=true
 | [],_=>⟨[],.nil,fun k=>by simp⟩
 | v :: vs,h=>by
  obtain⟨ns,c,b⟩:=HG vs fun v d=>h v (Bd _ d)
  obtain⟨k,hk⟩:=h v Bi
  obtain⟨t,rfl⟩:=Value.isInt_shape (k:=k) (v:=v) hk
  refine⟨k :: ns,.cons k t c,fun a=>?_⟩
  have e:(En prog w).is a (.int k t)=decide (a=k):=KeyKind.is_eq_decide hk a
  simp only[Az,b,exists_eq_or_imp,e,decide_eq_true_eq]
theorem HH:∀ {vs:List Ac} {ns:List Int},Iu vs ns->vs.Pairwise (fun v d=>∀ k,(En prog w).is k v=true->(En prog w).is k d=true->False)->ns.Nodup
 | _,_,.nil,_=>.nil
 | _,_,.cons n t r,h=>by
  have h':=List.pairwise_cons.mp h
  have g:∀ {vs:List Ac} {ns:List Int},Iu vs ns->n∈ns->∃ v∈vs,(En prog w).is n v=true:=by
   intro vs ns q
   induction q with
   | nil=>exact fun z=>nomatch z
   | cons m t _ c=>exact fun z=>(Az.mp z).elim (fun e=>⟨_,Bi,by rw[e];exact intKind_is _ _ _ _⟩) fun z=>let ⟨v,a,b⟩:=c z;⟨v,Bd _ a,b⟩
  exact Dr.mpr ⟨fun z=>let ⟨v,a,b⟩:=g r z;h'.1 v a n (intKind_is _ _ _ _) b,HH r h'.2⟩
theorem zcu{S:Int->Prop}{n:Nat}{R:List Ac->Ah->Prop}(hh:A.handled=none)(hS:f9 prog w s.heap a S n (jL w))(hz:n<=Aj)
  (h:∀ (h':Heap) (tk:Nat) d (vs:List Ac) (ns:List Int),(∀ b o,s.heap.get? b=some o->h'.get? b=some o)->Iu vs ns->(∀ k,k∈ns↔S k)->ns.length<=n->ns.Nodup->R vs {s with heap:=h',toks:=tk,drawn:=d}) :
  Ax (Bk prog w) A (collect (.ref a)) R E s:=by
 have ha:a < s.heap.objs.size:=let ⟨o,_,_,_,ho,_⟩:=hS;Ak ho
 unfold collect
 refine Aa (wpAny_runValue (Fw entry_proto_collect' ?_))
 rw[Em PySem.F.plain_proto_collect _]
 show Ax _ A.in1 (newList [] >>= fun l=>again (.builtin "list.__iadd__" ⟨[l,.ref a],[]⟩)) _ _ s
 refine Aa (Dd ?_)
 refine Ag ⟨Hx PySem.F.plain_list_iadd _,Fw entry_list_iadd' ?_⟩
 rw[Em PySem.F.plain_list_iadd _]
 have q1:(s.heap.push {cls:=.type "list",data:=.seq ([]:List Ac).toArray}).get? s.heap.objs.size=some {cls:=.type "list",data:=.seq #[]}:=Ap _ rfl
 show Ax _ A.in1 (Kk (.ref s.heap.objs.size) (.ref a) (.ref s.heap.objs.size)) _ _ _
 have key:=zct (prog:=prog) (w:=w) (A:=A) (s:={s with heap:=s.heap.push {cls:=.type "list",data:=.seq ([]:List Ac).toArray}})
  (R:=fun(q:Result) (s':Ah)=>∃ (h':Heap) (tk:Nat) (d:_) (acc':Array Ac) (c':Nat) (ns:List Int),q=.ok (.ret (.ref s.heap.objs.size))/\s' = {s with heap:=h',toks:=tk,drawn:=d}/\
   (∀ b o,s.heap.get? b=some o->h'.get? b=some o)/\h'.get? s.heap.objs.size=some {cls:=.type "list",dict:=none,data:=.seq acc' c',slots:=#[]}/\Iu acc'.toList ns/\(∀ k,k∈ns↔S k)/\ns.length<=n/\ns.Nodup)
  hh (hS.at fun o e=>Af _ e) hz s.heap.objs.size (Dy ha) (.ref s.heap.objs.size) 0 q1
  (fun h' tk d acc' c' es hk hD hp he hm hn=>by
   obtain⟨ns,n1,n2⟩:=HG (prog:=prog) (w:=w) acc'.toList fun v hv=>by
    obtain⟨e,h1,rfl⟩:=Aw.mp (hp.mem_iff.mp hv)
    obtain⟨⟨k,hk',_⟩,_⟩:=he e h1
    exact⟨k,hk'⟩
   refine⟨h',tk,d,acc',c',ns,rfl,rfl,fun b o e=>hk b o (Bf (Ak e)) (Af _ e),hD,n1,fun k=>(n2 k).trans ((hm k).trans ?_).symm,?_,?_⟩
   ·constructor
    ·rintro⟨e,h1,h2⟩
     exact⟨e.2,hp.mem_iff.mpr (Gj h1),h2⟩
    ·rintro⟨v,h1,h2⟩
     obtain⟨e,h3,rfl⟩:=Aw.mp (hp.mem_iff.mp h1)
     exact⟨e,h3,h2⟩
   ·have e1:∀ {vs:List Ac} {ns:List Int},Iu vs ns->vs.length=ns.length:=by
     intro vs ns q
     induction q with
     | nil=>rfl
     | cons _ _ _ ih=>simp[ih]
    have l1:=e1 n1
    have l2:=hp.length_eq
    simp only[Ab,Bx] at l1 l2
    have:=hn.1
    lia
   ·exact HH n1 (hp.symm.pairwise (Gb.mpr hn.2) fun q k a b=>q k b a))
 refine Hw key (fun fin s' x=>?_) fun e s' x=>?_
 ·cases fin with
  | done f=>
   obtain⟨h',tk,d,acc',c',ns,e,rfl,hk,hS',y1,y2,y3⟩:=x
   cases e
   show Ax _ A (load s.heap.objs.size >>= _) _ _ _
   exact Aa (wpAny_load hS' (Ag (h h' tk d _ ns hk y1 y2 y3.1 y3.2)))
  | again c₁=>
   refine⟨x.1,Kq x.2 fun q s₂ y=>?_⟩
   obtain⟨h',tk,d,acc',c',ns,rfl,rfl,hk,hS',y1,y2,y3⟩:=y
   show Ax _ A (load s.heap.objs.size >>= _) _ _ _
   exact Aa (wpAny_load hS' (Ag (h h' tk d _ ns hk y1 y2 y3.1 y3.2)))
 ·obtain⟨_,_,_,_,_,_,e',_⟩:=x
  cases e'
theorem zcv{S:Int->Prop}{n:Nat}{Q:Ac->Ah->Prop}(r:A.handled=none)(t:f9 prog w s.heap a S n (jL w))(B:n < 64)
  (h:∀ (g h':Heap) (tk:Nat) d (out:Array Ac) (c:List Int) (e:Nat),(∀ b o,s.heap.get? b=some o->g.get? b=some o)->(∀ b o,g.get? b=some o->h'.get? b=some o)->Iu out.toList c->(∀ k,k∈c↔S k)->c.length<=n->c.Pairwise (·<=·)->c.Nodup->h'.get? g.objs.size=some (Ld "list" out e)->
   Q (.ref g.objs.size) {s with heap:=h',toks:=tk,drawn:=d}):Ax (Bk prog w) A (call (.builtin "sorted") [.ref a]) Q E s:=by
 refine Calls.call_function_entry kind_sorted plain_sorted entry_sorted (args_sorted1 _) ?_
 unfold Hh.«sorted»
 refine Aa (m:=checkCount "sorted" 1 1 _) (Ag (Aa (zcu (A:=A.in1) r t (by rw[Hn];lia) fun h' tk d vs ns kp p v y i=>?_)))
 have z:∀ {vs:List Ac} {ns:List Int},Iu vs ns->vs.length=ns.length:=by
  intro vs ns q
  induction q with
  | nil=>rfl
  | cons _ _ _ u=>simp[u]
 have hl:=z p
 refine Aa (wpAny_newList (s:={s with heap:=h',toks:=tk,drawn:=d}) ?_ (by rw[hl,Hn];lia))
 have j:(h'.push (Ld "list" vs.toArray 0)).get? h'.objs.size=some (Ld "list" vs.toArray 0):=Ap _ rfl
 refine Aa (Ct (De slot_list_sort ⟨_,j,rfl⟩ entry_list_sort (list_sort_tree j p (by lia) fun out l a1 a2 x=>⟨_,rfl,?_⟩) (args_list_sort _)))
 obtain⟨e,C⟩:=sortedHeap_at (out:=out) j
 refine Ag ⟨_,rfl,h h' _ tk d out l e kp (fun b o eb=>?_) a1 (fun k=>a2.mem_iff.trans (v k)) (by rw[a2.length_eq];exact y) x (a2.nodup_iff.mpr i) C⟩
 have f:b < h'.objs.size:=Ak eb
 exact(sortedHeap_old (Bf f) (by rw[Ds];exact Hj f)).trans (Af _ eb)
end
end bE
namespace L2
open PySem PySem.Spec PyProof.Rows bE
section
variable {X:Cx}{a:Expr}{ta:TA}{p p2 pos pos2:Pos}
theorem Inv.dr{a:List (Addr×Obj)}{e:St}{H:Hp}{s:Ah}(I:Inv X a e H s)(d:_):Inv X a e H {s with drawn:=d}:=by
 refine I.step (h':=s.heap) (g':=s.gens) (d':=d) (t':=s.toks) (ch:=[]) (fun _ z=>nomatch z) (fun b o _ _ _ c _=>c) (fun b o _ _ _ c _=>⟨o.slots,c⟩) (fun b o _ _ n=>n) (fun b o _ c=>⟨o,c⟩)
  (fun b xs eb=>eb) (fun b o u eb=>eb) (fun b ps eb=>⟨#[],by rw[eb];simp⟩) (fun m f=>f) (fun b v eb=>I.hok b v eb) I.bare
theorem HI:∀ {vs:List Ac} {ns:List Int},Iu vs ns->aR (ns.map V.int) vs
 | _,_,.nil=>.nil
 | _,_,.cons n t r=>.cons ⟨t,rfl⟩ (HI r)
def zcw(ta:TA):TE:=fun c H Q=>ta c H fun vs b=>∃ (l:Addr) (ns:List Int),vs=[.ref l]/\b l=some (.lst (ns.map V.int))/\ns.length < 64/\∀ a:List Int,(∀ k,k∈a↔k∈ns)->a.length<=ns.length->a.Pairwise (·<=·)->a.Nodup->∀ q,b q=none->Q (.ref q) (aN b q (.lst (a.map V.int)))
theorem zcx:Cv "set" = some (.type "set"):=by decide +kernel
theorem zcy:Cv "sorted" = some (.builtin "sorted"):=by decide +kernel
theorem zcz(hc:X.calm=true)(U:Gl X "sorted")(L:X.mg "sorted" = none)(r:Gl X "set")(z:X.mg "set" = none)(ha:PA X [a] ta)
  (i:Bj [.Call (.Name "set" p2) [a] [] pos2] X.env=[(false,eval (.Call (.Name "set" p2) [a] [] pos2) X.env)]:=by rfl) (x:Bj [a] X.env=[(false,eval a X.env)]:=by rfl) :
  PE X (.Call (.Name "sorted" p) [.Call (.Name "set" p2) [a] [] pos2] [] pos) (zcw ta):=by
 intro c s t H Q I h
 refine Fh (i9 I U L zcy (PyProof.Rows.callWith_builtin1 ?_ i rfl))
 rw[i]
 refine Calls.spliced_cons (Fh (i9 I r z zcx (Dv (aZ (ha pos2 c s t H _ I h) fun us m ⟨vs,D,k,K,T⟩=>?_) x rfl)))
 obtain⟨l,ns,rfl,hl,A,q⟩:=T
 obtain⟨u,rfl,ru⟩:=vals1 K
 cases ru
 obtain⟨hz,its,n,Y,j,P⟩:=k.lstM hl
 have f:its.length=ns.length:=by rw[<-j];simp
 refine zch (items:=its.toArray) (ns:=ns) (k.ok.hd hc) ⟨_,P,rfl,n,rfl⟩ (by simpa using intsAre_of Y) (by rw[Bc,f];unfold Ol;lia) fun v g Z w=>Calls.spliced_nil ?_
 have y:∀ b o,m.heap.get? b=some o->v.get? b=some o:=fun b o e=>w b o (Ak e) e
 have N:Inv X c t D {m with heap:=v,toks:=g}:=k.kept (t':=g) y
 refine zcv (s:={m with heap:=v,toks:=g}) (k.ok.hd hc) Z (by rw[Bc,f];exact A) fun E h3 tk d out C e W R J O F M S G=>?_
 have B:Inv X c t D {m with heap:=E,toks:=tk,drawn:=d}:=(N.kept (t':=tk) W).dr d
 rw[Bc,f] at F
 refine⟨.ref E.objs.size,_,B.laid (o:=.lst (C.map V.int)) (t':=tk) R (Ai _) ⟨by rw[Ab,Hn];lia,out.toList,e,HI J,by rw[Ku];exact G⟩,rfl,q C O F M S _ (B.hok.fresh (Ai _))⟩
end
end L2
namespace L3
open PySem PySem.Spec PyProof.Rows L2
section
variable {X:Cx}{a:Expr}{ta:aS}
def HJ:W->Mm->K3->Prop
 | .rl ws,M,R=>∃ ns:List Int,ws=ns.map W.int/\ns.length < 64/\∀ a:List Int,(∀ k,k∈a↔k∈ns)->a.length<=ns.length->a.Pairwise (·<=·)->a.Nodup->R (.rl (a.map W.int)) M
 | _,_,_=>False
def HK(ta:aS):aS:=fun a M R=>ta a M fun w M1=>HJ w M1 R
theorem zcA{K:Ae}{H:Hp}{M:Mm}(a:List Int):aL K H M (a.map V.int) (a.map W.int):=by
 induction a with
 | nil=>exact .nil
 | cons s r b=>exact .cons (.int s) b
theorem zcB{p p2 pos pos2:Pos}(y:Gl X "sorted")(m:X.mg "sorted" = none)(c:Gl X "set")(g:X.mg "set" = none)(ha:E3 X a ta)(hc:X.calm=true:=by rfl)
  (f:Bj [.Call (.Name "set" p2) [a] [] pos2] X.env=[(false,eval (.Call (.Name "set" p2) [a] [] pos2) X.env)]:=by rfl) (b:Bj [a] X.env=[(false,eval a X.env)]:=by rfl) :
  E3 X (.Call (.Name "sorted" p) [.Call (.Name "set" p2) [a] [] pos2] [] pos) (HK ta):=
 (zcz hc y m c g (aC ha aJ (by rw[b];rfl)) f b).weak fun E H Q z0=>z0.el fun C M R s D h k=>⟨C,M,fun ws M1=>match ws with | [w]=>HJ w M1 R | _=>False,s,D,h,fun vs F ws M1 z d u r=>by
  match ws,r with
  | [w],r=>
   obtain⟨v,rfl,x⟩:=u.one
   cases x <;> first | exact(show False from r).elim | skip
   case rl a xs ws e n q=>
    obtain⟨ns,rfl,i,r⟩:=r
    rw[q.intsL] at e
    exact⟨a,ns,rfl,e,i,fun j l A o t p B=>DU d (k.kp z) B (zcA j) (r j l A o t)⟩⟩
end
end L3
namespace Tso
open PySem PyProof.Rows
set_option autoImplicit false
def uD:Bool->Ay->Array Ay->Nat->Nat->Nat->StateT Cr Sem (Option Nat):=sortPriv% PySem.Builtin.gallop
def zcC:Array Ay->Array Ay->StateT Cr Sem (Array Ay):=sortPriv% PySem.Builtin.mergeLo
def zcD:Array Ay->Array Ay->StateT Cr Sem (Array Ay):=sortPriv% PySem.Builtin.mergeHi
structure Ord(S:Ay->Prop)(lt:Ay->Ay->Bool):Prop where
 asym:∀ {x y},S x->S y->lt x y=true->lt y x=false
 tran:∀ {x y z},S x->S y->S z->lt y x=false->lt z y=false->lt z x=false
def Cmp(M:Mx)(A:Bv)(E:Ac->Ah->Prop)(s:Ah)(κ:Hf)(S:Ay->Prop)(lt:Ay->Ay->Bool):Prop:=
 ∀ x y st (Q:Option Bool->Cr->Prop),S x->S y->kindOf st=κ->Q (some (lt x y)) st->wpS M A E s (lt' x y) Q st
def bV(S:Ay->Prop)(xs:Array Ay):Prop:=∀ p∈xs.toList,S p
section
variable {M:Mx}{A:Bv}{E:Ac->Ah->Prop}{s:Ah}{κ:Hf}{S:Ay->Prop}{lt:Ay->Ay->Bool}{st:Cr}
theorem bV.at{xs:Array Ay}(h:bV S xs){i:Nat}(hi:i < xs.size):∃ p,xs[i]? = some p/\S p:=⟨xs[i],getElem?_pos xs i hi,h _ (by simp)⟩
theorem bV.get{xs:Array Ay}(h:bV S xs){i:Nat}{p:Ay}(hi:xs[i]? = some p):S p:=h p (by obtain⟨_,rfl⟩:=Cp.mp hi;simp)
theorem w_ite{a:Type}{c:Prop}[Decidable c]{t e:StateT Cr Sem a}{Q:a->Cr->Prop}(d:c->wpS M A E s t Q st)(b:¬c->wpS M A E s e Q st):wpS M A E s (if c then t else e) Q st:=by
 by_cases h:c
 ·rw[if_pos h];exact d h
 ·rw[if_neg h];exact b h
theorem eQ{xs:Array Ay}{i:Nat}{Q:Ay->Cr->Prop}(h:bV S xs)(hi:i < xs.size)(b:∀ p,xs[i]? = some p->S p->Q p st):wpS M A E s (elem' xs i) Q st:=by
 obtain⟨p,a,sp⟩:=h.at hi
 rw[elem'_eq,a]
 exact Bg (b p a sp)
theorem zcE{i j:Nat}{Q:Option Bool->Cr->Prop}(b:Cmp M A E s κ S lt)(hk:kindOf st=κ)(h:bV S (Dg st))(hi:i < (Dg st).size)(d:j < (Dg st).size)
  (c:∀ p q,(Dg st)[i]? = some p->(Dg st)[j]? = some q->S p->S q->Q (some (lt p q)) st):wpS M A E s (ltAt' i j) Q st:=by
 rw[ltAt'_eq]
 exact Au (Km (Au (eQ h hi fun p e sp=>Au (eQ h d fun q a sq=>b p q st Q sp sq hk (c p q e a sp sq)))))
def zcF(left:Bool)(key:Ay)(xs:Array Ay)(base i:Nat):StateT Cr Sem (Option Bool):=do
 let x <-elem' xs (base + i)
 if left=true then lt' x key else do
  let r <-lt' key x
  pure (Option.map (fun b=>!b) r)
theorem zcG{left:Bool}{key:Ay}{xs:Array Ay}{base n a:Nat}{Q:Option Nat->Cr->Prop}(H:Cmp M A E s κ S lt)(hk:kindOf st=κ)(u:S key)(h:bV S xs)(hb:base + n<=xs.size)(K:a < n)
  (B:Nat->Bool) (T:∀ i p,i < n->xs[base + i]? = some p->S p->(if left=true then lt p key else !lt key p)=B i) (mono:∀ i j,i<=j->j < n->B j=true->B i=true)
  (N:∀ k,k<=n->(∀ i,i < k->B i=true)->(∀ i,k<=i->i < n->B i=false)->Q (some k) st):wpS M A E s (uD left key xs base n a) Q st:=by
 have hf:∀ i (Q:Option Bool->Cr->Prop),i < n->Q (some (B i)) st->wpS M A E s (zcF left key xs base i) Q st:=fun i Q hi h'=>by
  refine Au (eQ h (by lia) fun p U sp=>?_)
  have e:=T i p hi U sp
  refine w_ite (fun c=>?_) fun c=>?_
  ·rw[if_pos c] at e
   exact H _ _ _ _ sp u hk (by rw[e];exact h')
  ·rw[if_neg c] at e
   exact Au (H _ _ _ _ u sp hk (Bg (by show Q (some (!lt key p)) st;rw[e];exact h')))
 have t:∀ i j,i<=j->j < n->B i=false->B j=false:=fun i j D F e=>by
  cases q:B j with
  | false=>rfl
  | true=>rw[mono i j D F q] at e;cases e
 have v:∀ (f:Nat->Option (Option Nat)×Nat×Nat->StateT Cr Sem (ForInStep (Option (Option Nat)×Nat×Nat))) (g:Option (Option Nat)×Nat×Nat->StateT Cr Sem (Option Nat)) (lo hi:Nat),
   (∀ x lo hi (R:ForInStep (Option (Option Nat)×Nat×Nat)->Cr->Prop),hi<=n->(hi<=lo->R (.done (none,lo,hi)) st)->(lo < hi->B (lo + (hi - lo) / 2)=true->R (.yield (none,lo + (hi - lo) / 2 + 1,hi)) st)->(lo < hi->B (lo + (hi - lo) / 2)=false->R (.yield (none,lo,lo + (hi - lo) / 2)) st)->wpS M A E s (f x (none,lo,hi)) R st)->
   (∀ lo hi,Q (some hi) st->wpS M A E s (g (none,lo,hi)) Q st)->lo<=hi->hi<=n->(∀ i,i < lo->B i=true)->(∀ i,hi<=i->i < n->B i=false)->wpS M A E s (forIn [0:n] (none,lo,hi) f >>= g) Q st:=fun f g lo hi hs L D F P V=>by
  refine Au (Hd (Ei (I:=fun x c st'=>st=st'/\c.1=none/\c.2.1<=c.2.2/\c.2.2<=n/\c.2.2 - c.2.1 + x<=n/\(∀ i,i < c.2.1->B i=true)/\∀ i,c.2.2<=i->i < n->B i=false)
   (Q:=fun c st'=>st=st'/\c.1=none/\c.2.1=c.2.2/\c.2.2<=n/\(∀ i,i < c.2.1->B i=true)/\∀ i,c.2.2<=i->i < n->B i=false) ?_ ?_ ⟨rfl,rfl,D,F,by dsimp only;lia,P,V⟩) ?_)
  ·rintro x ⟨y,lo,hi⟩ st' _ J ⟨rfl,e,l,r,o,b,m⟩
   dsimp only at e l r o b m ⊢
   subst e
   exact hs x lo hi _ r (fun c=>⟨rfl,rfl,by dsimp only;lia,r,b,m⟩) (fun c d=>⟨rfl,rfl,by dsimp only;lia,r,by dsimp only;lia,fun i hi=>mono i _ (by dsimp only at hi;lia) (by lia) d,m⟩)
    fun c d=>⟨rfl,rfl,by dsimp only;lia,by dsimp only;lia,by dsimp only;lia,b,fun i hi w=>t _ i hi w d⟩
  ·rintro c st' ⟨rfl,e,l,r,o,b,m⟩
   exact⟨rfl,e,by lia,r,b,m⟩
  ·rintro⟨y,lo,hi⟩ st' ⟨rfl,e,l,r,b,m⟩
   dsimp only at e l r b m ⊢
   subst e
   exact L lo hi (N _ r (by rw[<-l];exact b) m)
 refine Au (hf a _ K ?_)
 dsimp only
 refine w_ite (fun c=>?_) fun c=>?_
 ·refine Au (Hd (Ei (I:=fun x c st'=>st=st'/\c.1=none/\c.2.1 < c.2.2/\x + 1<=c.2.2/\a + c.2.1 < n/\B (a + c.2.1)=true)
   (Q:=fun c st'=>st=st'/\c.1=none/\c.2.1 < c.2.2/\a + c.2.1 < n/\B (a + c.2.1)=true/\(n - a<=c.2.2\/B (a + c.2.2)=false)) ?_ ?_ ⟨rfl,rfl,Nat.zero_lt_one,Ai _,K,by exact c⟩) ?_)
  ·rintro x ⟨y,la,of⟩ st' _ J ⟨rfl,e,l,r,o,b⟩
   dsimp only at e l r o b ⊢
   refine w_ite (fun d=>Bg ⟨rfl,rfl,l,o,b,.inl d⟩) fun d=>?_
   refine Au (hf _ _ (by lia) ?_)
   dsimp only
   refine w_ite (fun d=>Bg ⟨rfl,rfl,l,o,b,.inr (by simpa using d)⟩) fun d=>Bg ⟨rfl,rfl,by dsimp only;lia,by dsimp only;lia,by dsimp only;lia,by simpa using d⟩
  ·rintro c st' ⟨rfl,e,l,r,o,b⟩
   exact⟨rfl,e,l,o,b,.inl (by lia)⟩
  ·rintro⟨y,la,of⟩ st' ⟨rfl,e,l,o,b,m⟩
   dsimp only at e l o b m ⊢
   subst e
   refine v _ _ (a + la + 1) (a + min of (n - a)) (fun x lo hi R w G C z=>w_ite (fun c=>Bg (G c)) fun c=>have c:¬ hi<=lo:=c;Au (hf _ _ (show lo + (hi - lo) / 2 < n by lia) (w_ite (fun d=>Bg (C (by lia) d)) fun d=>Bg (z (by lia) (by simpa using d))))) (fun lo hi h=>Bg h) (by lia) (by lia) (fun i hi=>mono i (a + la) (by lia) o b) fun i hi w=>?_
   rcases m with m | m
   ·lia
   ·exact t _ i (by lia) w m
 ·have O:B a=false:=by simpa using c
  refine Au (Hd (Ei (I:=fun x c st'=>st=st'/\c.1=none/\c.2.1 < c.2.2/\x + 1<=c.2.2/\c.2.1<=a/\B (a - c.2.1)=false)
   (Q:=fun c st'=>st=st'/\c.1=none/\c.2.1 < c.2.2/\c.2.1<=a/\B (a - c.2.1)=false/\(a + 1<=c.2.2\/B (a - c.2.2)=true)) ?_ ?_ ⟨rfl,rfl,Nat.zero_lt_one,Ai _,Co _,by exact O⟩) ?_)
  ·rintro x ⟨y,la,of⟩ st' _ J ⟨rfl,e,l,r,o,b⟩
   dsimp only at e l r o b ⊢
   refine w_ite (fun d=>Bg ⟨rfl,rfl,l,o,b,.inl d⟩) fun d=>?_
   refine Au (hf _ _ (by lia) ?_)
   dsimp only
   refine w_ite (fun d=>Bg ⟨rfl,rfl,l,o,b,.inr d⟩) fun d=>Bg ⟨rfl,rfl,by dsimp only;lia,by dsimp only;lia,by dsimp only;lia,by simpa using d⟩
  ·rintro c st' ⟨rfl,e,l,r,o,b⟩
   exact⟨rfl,e,l,o,b,.inl (by lia)⟩
  ·rintro⟨y,la,of⟩ st' ⟨rfl,e,l,o,b,m⟩
   dsimp only at e l o b m ⊢
   subst e
   refine v _ _ (a + 1 - min of (a + 1)) (a - la) (fun x lo hi R w G C z=>w_ite (fun c=>Bg (G c)) fun c=>have c:¬ hi<=lo:=c;Au (hf _ _ (show lo + (hi - lo) / 2 < n by lia) (w_ite (fun d=>Bg (C (by lia) d)) fun d=>Bg (z (by lia) (by simpa using d))))) (fun lo hi h=>Bg h) (by lia) (by lia) (fun i hi=>?_) fun i hi w=>t _ i hi w b
   rcases m with m | m
   ·lia
   ·exact mono i _ (by lia) (by lia) m
end
set_option autoImplicit false
def bE(lt:Ay->Ay->Bool)(l:List Ay):Prop:=l.Pairwise fun x y=>lt y x=false
def cG(lt:Ay->Ay->Bool)(xs:Array Ay)(i j:Nat):Prop:=∀ k l p q,i<=k->k < l->l < j->xs[k]? = some p->xs[l]? = some q->lt q p=false
structure eC(st st':Cr):Prop where
 kind:kindOf st'=kindOf st
 arr:Dg st'=Dg st
 pend:Ec st'=Ec st
 failed:Hq st'=Hq st
theorem eC.refl(st:Cr):eC st st:=⟨rfl,rfl,rfl,rfl⟩
theorem eC.mg{st st':Cr}(h:eC st st')(g:Nat):eC st (SortSt.mk' (kindOf st') (Dg st') (Ec st') g (Hq st')):=⟨h.1,h.2,h.3,h.4⟩
theorem zN{xs:Array Ay}{i:Nat}{p:Ay}(h:xs[i]? = some p):xs.toList.drop i=p :: xs.toList.drop (i + 1):=by
 obtain⟨hi,rfl⟩:=Cp.mp h
 rw[Hc (by simpa using hi)]
 simp
theorem mE(xs:Array Ay)(i:Nat):(xs.extract i xs.size).toList=xs.toList.drop i:=by simp[List.extract,Dw]
theorem qS(xs:Array Ay)(i j:Nat):(xs.extract i j).toList=(xs.toList.drop i).take (j - i):=by simp[List.extract]
theorem HL(xs:Array Ay)(i k:Nat):xs.toList.drop i=(xs.extract i (i + k)).toList ++ xs.toList.drop (i + k):=by
 rw[qS,Nat.add_sub_cancel_left,<-List.drop_drop,Nf]
theorem zP{xs:Array Ay}{i:Nat}{p:Ay}(h:p∈xs.toList.drop i):∃ j,xs[i + j]? = some p:=by
 obtain⟨j,a,e⟩:=Hg.mp h
 refine⟨j,?_⟩
 rw[<-Du,<-List.getElem?_drop,An a,e]
theorem uE{xs:Array Ay}{i k:Nat}{p:Ay}(h:p∈(xs.extract i (i + k)).toList):∃ j,j < k/\xs[i + j]? = some p:=by
 rw[qS,Nat.add_sub_cancel_left] at h
 obtain⟨j,a,e⟩:=Hg.mp h
 rw[Cf] at a
 refine⟨j,by omega,?_⟩
 rw[List.getElem_take] at e
 rw[<-Du,<-List.getElem?_drop,An (by omega),e]
section
variable {S:Ay->Prop}{lt:Ay->Ay->Bool}{a b out out':Array Ay}{ia ib:Nat}
theorem bE.mv{o m r t:List Ay}(a:bE lt (o ++ (m ++ r)))(e:bE lt (o ++ t))(h:∀ x∈m,∀ y∈t,lt y x=false):bE lt (o ++ m ++ r)/\bE lt (o ++ m ++ t):=by
 rw[<-Cd] at a
 refine⟨a,?_⟩
 obtain⟨g,c,f⟩:=Cu.mp e
 refine Cu.mpr ⟨(Cu.mp a).1,c,fun x d y b=>?_⟩
 rcases Bo.mp d with q | q
 ·exact f x q y b
 ·exact h x q y b
theorem bE.idx{xs:Array Ay}(h:bE lt xs.toList){i j:Nat}{p q:Ay}(a:i < j)(d:xs[i]? = some p)(b:xs[j]? = some q):lt q p=false:=by
 obtain⟨e,rfl⟩:=Cp.mp d
 obtain⟨c,rfl⟩:=Cp.mp b
 have:=Fu.mp h i j (by simpa using e) (by simpa using c) a
 simpa using this
structure dR(lt:Ay->Ay->Bool)(a b out:Array Ay)(ia ib:Nat):Prop where
 p:(out.toList ++ a.toList.drop ia ++ b.toList.drop ib).Perm (a.toList ++ b.toList)
 oa:bE lt (out.toList ++ a.toList.drop ia)
 ob:bE lt (out.toList ++ b.toList.drop ib)
theorem qT(O:Ord S lt)(hb:bV S b)(sb:bE lt b.toList){e x:Ay}(f:S x)(c:b[ib]? = some e)(d:lt e x=false):∀ y∈b.toList.drop ib,lt y x=false:=fun y g=>by
 obtain⟨j,a⟩:=zP g
 cases j with
 | zero=>rw[Nat.add_zero,c] at a;cases a;exact d
 | succ j=>exact O.tran f (hb.get c) (hb.get a) d (sb.idx (by omega) c a)
theorem dR.ma{m:List Ay}{d:Nat}(h:dR lt a b out ia ib)(c:out'.toList=out.toList ++ m)(hd:a.toList.drop ia=m ++ a.toList.drop d)(g:∀ x∈m,∀ y∈b.toList.drop ib,lt y x=false):dR lt a b out' d ib:=by
 have e:=h.oa
 rw[hd] at e
 obtain⟨i,f⟩:=e.mv h.ob g
 refine⟨?_,by rw[c];exact i,by rw[c];exact f⟩
 have:=h.p
 rw[hd] at this
 rw[c]
 simpa using this
theorem dR.mb{m:List Ay}{d:Nat}(h:dR lt a b out ia ib)(c:out'.toList=out.toList ++ m)(hd:b.toList.drop ib=m ++ b.toList.drop d)(g:∀ x∈m,∀ y∈a.toList.drop ia,lt y x=false):dR lt a b out' ia d:=by
 have e:=h.ob
 rw[hd] at e
 obtain⟨i,f⟩:=e.mv h.oa g
 refine⟨?_,by rw[c];exact f,by rw[c];exact i⟩
 have:=h.p
 rw[hd] at this
 rw[c]
 refine List.Perm.trans ?_ this
 simp only[Cd]
 refine Cw _ ?_
 rw[<-Cd,<-Cd]
 exact Hs _ Gx
theorem dR.pa(O:Ord S lt)(ha:bV S a)(hb:bV S b)(sb:bE lt b.toList){p c:Ay}(h:dR lt a b out ia ib)(d:a[ia]? = some p)(f:b[ib]? = some c)(hl:lt c p=false):dR lt a b (out.push p) (ia + 1) ib:=
 h.ma (m:=[p]) (by simp) (by rw[zN d];rfl) fun x e=>by cases Ba.mp e;exact qT O hb sb (ha.get d) f hl
theorem dR.pb(O:Ord S lt)(ha:bV S a)(hb:bV S b)(sa:bE lt a.toList){p c:Ay}(h:dR lt a b out ia ib)(d:b[ib]? = some p)(f:a[ia]? = some c)(hl:lt c p=false):dR lt a b (out.push p) ia (ib + 1):=
 h.mb (m:=[p]) (by simp) (by rw[zN d];rfl) fun x e=>by cases Ba.mp e;exact qT O ha sa (hb.get d) f hl
theorem dR.ea(O:Ord S lt)(ha:bV S a)(hb:bV S b)(sb:bE lt b.toList){c:Ay}{k:Nat}(h:dR lt a b out ia ib)(g:b[ib]? = some c)(hl:∀ i x,i < k->a[ia + i]? = some x->lt c x=false):dR lt a b (out ++ a.extract ia (ia + k)) (ia + k) ib:=
 h.ma (by simp) (HL a ia k) fun x d=>by obtain⟨j,f,e⟩:=uE d;exact qT O hb sb (ha.get e) g (hl j x f e)
theorem dR.eb(O:Ord S lt)(ha:bV S a)(hb:bV S b)(sa:bE lt a.toList){c:Ay}{k:Nat}(h:dR lt a b out ia ib)(g:a[ia]? = some c)(hl:∀ i x,i < k->b[ib + i]? = some x->lt c x=false):dR lt a b (out ++ b.extract ib (ib + k)) ia (ib + k):=
 h.mb (by simp) (HL b ib k) fun x d=>by obtain⟨j,f,e⟩:=uE d;exact qT O ha sa (hb.get e) g (hl j x f e)
def Mg(lt:Ay->Ay->Bool)(a b r:Array Ay):Prop:=r.toList.Perm (a.toList ++ b.toList)/\bE lt r.toList
theorem dR.db(h:dR lt a b out ia ib)(e:b.size<=ib):Mg lt a b (out ++ a.extract ia a.size ++ b.extract ib b.size):=by
 have z:b.toList.drop ib=[]:=Kh (by simpa using e)
 unfold Mg
 rw[Bz,Bz,mE,mE]
 exact⟨h.p,by rw[z,Gf];exact h.oa⟩
theorem dR.da(h:dR lt a b out ia ib)(e:a.size<=ia):Mg lt a b (out ++ a.extract ia a.size ++ b.extract ib b.size):=by
 have z:a.toList.drop ia=[]:=Kh (by simpa using e)
 unfold Mg
 rw[Bz,Bz,mE,mE]
 exact⟨h.p,by rw[z,Gf];exact h.ob⟩
theorem dR.la(h:dR lt a b out ia ib)(e:ia + 1=a.size)(hl:∀ x y,a[a.size - 1]? = some x->y∈b.toList->lt x y=false):Mg lt a b (out ++ b.extract ib b.size ++ a.extract ia a.size):=by
 unfold Mg
 rw[Bz,Bz,mE,mE]
 refine⟨?_,?_⟩
 ·refine List.Perm.trans ?_ h.p
  rw[Cd,Cd]
  exact Cw _ Gx
 ·obtain⟨l,g,k⟩:=Cu.mp h.oa
  refine Cu.mpr ⟨h.ob,g,fun x i y d=>?_⟩
  rcases Bo.mp i with q | q
  ·exact k x q y d
  ·obtain⟨j,c⟩:=zP d
   have f:=(Cp.mp c).1
   have:j=0:=by omega
   subst this
   exact hl y x (by rw[show a.size - 1=ia + 0 by omega];exact c) (Nm q)
end
section
variable {M:Mx}{A:Bv}{E:Ac->Ah->Prop}{s:Ah}{κ:Hf}{S:Ay->Prop}{lt:Ay->Ay->Bool}{st:Cr}
theorem oT{left:Bool}{key:Ay}{xs:Array Ay}{base n b:Nat}{Q:Option Nat->Cr->Prop}(t:Cmp M A E s κ S lt)(O:Ord S lt)(hk:kindOf st=κ)(a:S key)(h:bV S xs)(hb:base + n<=xs.size)(y:b < n)(hs:cG lt xs base (base + n))
  (u:∀ k,k<=n->(∀ i x,i < k->xs[base + i]? = some x->if left=true then lt key x=false/\lt x key=true else lt key x=false)->(∀ i x,k<=i->i < n->xs[base + i]? = some x->if left=true then lt x key=false else lt x key=false/\lt key x=true)->Q (some k) st) :
  wpS M A E s (uD left key xs base n b) Q st:=by
 have at_:∀ i,i < n->∃ p,xs[base + i]? = some p/\S p:=fun i hi=>h.at (by omega)
 refine zcG t hk a h hb y (fun i=>match xs[base + i]? with | some p=>if left=true then lt p key else !lt key p | none=>false) (fun i p _ l _=>by rw[l]) (fun i j d r e=>?_) fun k m B w=>u k m (fun i x hi g=>?_) fun i x hi v g=>?_
 ·obtain⟨p,l,sp⟩:=at_ i (by omega)
  obtain⟨q,f,sq⟩:=at_ j r
  rcases Lu d with rfl | d
  ·exact e
  have o:=hs _ _ p q (Mv _ _) (Oc d base) (Oc r base) l f
  simp only[l,f] at e ⊢
  split at e
  ·rename_i c
   rw[if_pos c]
   cases z:lt p key with
   | true=>rfl
   | false=>rw[O.tran a sp sq z o] at e;cases e
  ·rename_i c
   rw[if_neg c]
   rw[Ly] at e ⊢
   exact O.tran sp sq a o e
 ·have:=B i hi
  simp only[g] at this
  split at this
  ·rename_i c
   rw[if_pos c];exact⟨O.asym (h.get g) a this,this⟩
  ·rename_i c
   rw[if_neg c];exact Ly _ |>.mp this
 ·have:=w i hi v
  simp only[g] at this
  split at this
  ·rename_i c
   rw[if_pos c];exact this
  ·rename_i c
   rw[if_neg c]
   have z:lt key x=true:=by simpa using this
   exact⟨O.asym a (h.get g) z,z⟩
end
set_option autoImplicit false
structure kE(lt:Ay->Ay->Bool)(a b:Array Ay)(k:Nat)(out:Array Ay)(ia ib:Nat):Prop where
 n:k<=ia + ib
 ha:ia + 1 < a.size
 hb:ib < b.size
 p:dR lt a b out ia ib
abbrev oU:=Option (Array Ay)×Array Ay×Nat×Nat×Nat×Nat×Nat
def zQ(a b out:Array Ay)(ia ib mg k l:Nat):StateT Cr Sem (ForInStep oU):=do
 let q <-elem' a ia
 if (ia + 1 + 1 == a.size)=true then pure (.done (some (out.push q ++ b.extract ib ++ a.extract (ia + 1)),out.push q,ia + 1,ib,mg,k,l))
 else if (decide (k < 7) && decide (l < 7))=true then pure (.done (none,out.push q,ia + 1,ib,mg,k,l))
 else pure (.yield (none,out.push q,ia + 1,ib,mg,k,l))
def lo1(a b out:Array Ay)(ia ib mg k c:Nat)(g:Ay->Option Nat->StateT Cr Sem (ForInStep oU)):StateT Cr Sem (ForInStep oU):=do
 let p <-elem' b ib
 if (ib + 1 == b.size)=true then pure (.done (some (out.push p ++ a.extract ia ++ b.extract (ib + 1)),out.push p,ia,ib + 1,mg,k,c))
 else do
  let q <-elem' a ia
  let x <-uD true q b (ib + 1) (b.size - (ib + 1)) 0
  g p x
structure HM(lt:Ay->Ay->Bool)(a b:Array Ay)(st:Cr)(n:Nat)(Q:ForInStep oU->Cr->Prop):Prop where
 fin:∀ r c st',eC st st'->Mg lt a b r->Q (.done (some r,c)) st'
 non:∀ c st',eC st st'->kE lt a b n c.1 c.2.1 c.2.2.1->Q (.done (none,c)) st'
 yld:∀ c st',eC st st'->kE lt a b n c.1 c.2.1 c.2.2.1->Q (.yield (none,c)) st'
structure MC(M:Mx)(A:Bv)(E:Ac->Ah->Prop)(s:Ah)(κ:Hf)(S:Ay->Prop)(lt:Ay->Ay->Bool)(a b:Array Ay):Prop where
 C:Cmp M A E s κ S lt
 O:Ord S lt
 ha:bV S a
 hb:bV S b
 sa:bE lt a.toList
 sb:bE lt b.toList
 hf:∀ x y,b[0]? = some y->x∈a.toList->lt x y=false
 hl:∀ x y,a[a.size - 1]? = some x->y∈b.toList->lt x y=false
section
variable {M:Mx}{A:Bv}{E:Ac->Ah->Prop}{s:Ah}{κ:Hf}{S:Ay->Prop}{lt:Ay->Ay->Bool}{st st2:Cr}{a b out:Array Ay}{ia ib mg k l n:Nat}{p q:Ay}{Q:ForInStep oU->Cr->Prop}
theorem bE.ix{xs:Array Ay}(h:bE lt xs.toList)(i j:Nat):cG lt xs i j:=fun _ _ _ _ _ a _ b c=>h.idx a b c
theorem HN(C:MC M A E s κ S lt a b)(K:HM lt a b st n Q)(e:eC st st2)(v:n<=ia + 1 + ib)(o:ia + 1 < a.size)(i:ib < b.size)(u:dR lt a b out ia ib)(h:a[ia]? = some q)(m:∀ y,b[ib]? = some y->lt y q=false):wpS M A E s (zQ a b out ia ib mg k l) Q st2:=by
 obtain⟨r,d,t⟩:=C.hb.at i
 have j:=u.pa C.O C.ha C.hb C.sb h d (m r d)
 refine Au (eQ C.ha (Hk o) fun x f p=>?_)
 cases h.symm.trans f
 refine w_ite (fun c=>Bg (K.fin _ _ _ e (j.la (by rw[beq_iff_eq] at c;lia) C.hl))) fun w=>?_
 rw[beq_iff_eq] at w
 have g:kE lt a b n _ _ _:=⟨v,by lia,i,j⟩
 exact w_ite (fun _=>Bg (K.non _ _ e g)) fun _=>Bg (K.yld _ _ e g)
theorem HP(C:MC M A E s κ S lt a b)(K:HM lt a b st n Q)(hk:kindOf st=κ)(f:eC st st2)(U:n<=ia + ib)(h:ia + 1 < a.size)(w:ib < b.size)(B:dR lt a b out ia ib)(v:b[ib]? = some p)(J:∀ q,a[ia]? = some q->lt q p=false){F:Nat}{g:Ay->Option Nat->StateT Cr Sem (ForInStep oU)}
  (D:∀ p l,g p (some l)=if l > 0 then(if (ib + 1 + l == b.size)=true then pure (.done (some (out.push p ++ b.extract (ib + 1) (ib + 1 + l) ++ a.extract ia ++ b.extract (ib + 1 + l)),out.push p ++ b.extract (ib + 1) (ib + 1 + l),ia,ib + 1 + l,mg,k,l)) else zQ a b (out.push p ++ b.extract (ib + 1) (ib + 1 + l)) ia (ib + 1 + l) mg k l) else zQ a b (out.push p) ia (ib + 1) mg k l):wpS M A E s (lo1 a b out ia ib mg k F g) Q st2:=by
 obtain⟨q,d,sq⟩:=C.ha.at (Hk h)
 have m:=B.pb C.O C.ha C.hb C.sa v d (J q d)
 refine Au (eQ C.hb w fun T r L=>?_)
 cases v.symm.trans r
 refine w_ite (fun c=>Bg (K.fin _ _ _ f (m.db (by rw[beq_iff_eq] at c;lia)))) fun I=>?_
 rw[beq_iff_eq] at I
 refine Au (eQ C.ha (Hk h) fun P o H=>?_)
 cases d.symm.trans o
 refine Au (oT (left:=true) C.C C.O (f.kind.trans hk) sq C.hb (by lia) (by lia) (C.sb.ix _ _) fun l N t j=>?_)
 simp only[if_true] at t j
 have u:=m.eb C.O C.ha C.hb C.sa d fun i x hi e=>(t i x hi e).1
 rw[D]
 refine w_ite (fun _=>w_ite (fun c=>Bg (K.fin _ _ _ f (u.db (by rw[beq_iff_eq] at c;lia)))) fun G=>?_) fun R=>?_
 ·rw[beq_iff_eq] at G
  exact HN C K f (by lia) h (by lia) u d fun y e=>j l y (Ai _) (by lia) e
 ·have z:l=0:=by lia
  subst z
  exact HN C K f (by lia) h (by lia) m d fun y e=>j 0 y (Ai _) (by lia) e
end
section
variable {M:Mx}{A:Bv}{E:Ac->Ah->Prop}{s:Ah}{κ:Hf}{S:Ay->Prop}{lt:Ay->Ay->Bool}{st:Cr}
theorem zcH{a b:Array Ay}{Q:Array Ay->Cr->Prop}(P:Cmp M A E s κ S lt)(O:Ord S lt)(hk:kindOf st=κ)(ha:bV S a)(hb:bV S b)(i:1<=a.size)(g:1<=b.size)(sa:bE lt a.toList)(sb:bE lt b.toList)
  (hf:∀ x y,b[0]? = some y->x∈a.toList->lt x y=false) (hl:∀ x y,a[a.size - 1]? = some x->y∈b.toList->lt x y=false)
  (R:∀ r st',eC st st'->Mg lt a b r->Q r st'):wpS M A E s (zcC a b) Q st:=by
 refine Au (Ng (Ej ⟨rfl,?_⟩))
 refine Au (eQ hb g fun Y D _=>?_)
 have L:=zN D
 rw[Lk] at L
 have T:dR lt a b #[Y] 0 1:=by
  refine⟨?_,?_,?_⟩
  ·rw[Lk,L]
   exact Mj.symm
  ·rw[Lk]
   exact List.pairwise_cons.mpr ⟨fun x hx=>hf x Y D hx,sa⟩
  ·rw[L] at sb;exact sb
 refine w_ite (fun c=>Bg (R _ _ (.refl _) (T.db (by rw[beq_iff_eq] at c;lia)))) fun c1=>?_
 refine w_ite (fun c=>Bg (R _ _ (.refl _) (T.la (by rw[beq_iff_eq] at c;lia) hl))) fun c2=>?_
 rw[beq_iff_eq] at c1 c2
 refine Au (Km ?_)
 refine Au (Hd (Ei (I:=fun x c st'=>eC st st'/\c.1=none/\kE lt a b (x + 1) c.2.1 c.2.2.1 c.2.2.2.1)
  (Q:=fun c st'=>eC st st'/\∃ r,c.1=some r/\Mg lt a b r) ?_ ?_ ⟨.refl _,rfl,⟨by simp,by dsimp only;lia,by dsimp only;lia,T⟩⟩) ?_)
 rotate_left
 ·rintro c st' ⟨_,_,h⟩
  have:=h.n;have:=h.ha;have:=h.hb
  lia
 ·rintro⟨_,c⟩ st' ⟨u,r,rfl,f⟩
  exact Bg (R _ _ u f)
 rintro x c o _ _ ⟨u,_,F⟩
 have N:kindOf o=κ:=u.kind.trans hk
 refine Au (Hd (Ei (I:=fun y c st'=>o=st'/\c.1=none/\kE lt a b (x + 1 + y) c.2.1 c.2.2.1 c.2.2.2.1)
  (Q:=fun c st'=>o=st'/\((∃ r,c.1=some r/\Mg lt a b r)\/(c.1=none/\kE lt a b (x + 2) c.2.1 c.2.2.1 c.2.2.2.1))) ?_ ?_ ⟨rfl,rfl,F⟩) ?_)
 ·rintro y c st' _ _ ⟨rfl,_,Z,H,t,G⟩
  refine Au (eQ hb t fun p f sp=>Au (eQ ha (Hk H) fun q v sq=>Au (P p q o _ sp sq N ?_)))
  refine w_ite (fun d=>?_) fun d=>?_
  ·refine Au (eQ hb t fun p' w X=>?_)
   cases f.symm.trans w
   have B:=G.pb O ha hb sa f v (O.asym sp sq d)
   refine w_ite (fun e=>Bg ⟨rfl,.inl ⟨_,rfl,B.db (by rw[beq_iff_eq] at e;lia)⟩⟩) fun U=>?_
   rw[beq_iff_eq] at U
   have m:∀ n,n<=x + 2 + y->kE lt a b n _ _ _:=fun n hn=>⟨by lia,H,by lia,B⟩
   exact w_ite (fun _=>Bg ⟨rfl,.inr ⟨rfl,m _ (by lia)⟩⟩) fun _=>Bg ⟨rfl,rfl,m _ (by lia)⟩
  ·refine Au (eQ ha (Hk H) fun q' V sq'=>?_)
   cases v.symm.trans V
   have B:=G.pa O ha hb sb v f (by simpa using d)
   refine w_ite (fun e=>Bg ⟨rfl,.inl ⟨_,rfl,B.la (by rw[beq_iff_eq] at e;lia) hl⟩⟩) fun U=>?_
   rw[beq_iff_eq] at U
   have m:∀ n,n<=x + 2 + y->kE lt a b n _ _ _:=fun n hn=>⟨by lia,by lia,t,B⟩
   exact w_ite (fun _=>Bg ⟨rfl,.inr ⟨rfl,m _ (by lia)⟩⟩) fun _=>Bg ⟨rfl,rfl,m _ (by lia)⟩
 ·rintro c st' ⟨rfl,h,m⟩
  exact⟨rfl,.inr ⟨h,⟨by have:=m.n;lia,m.2,m.3,m.4⟩⟩⟩
 rintro⟨_,c⟩ st' ⟨rfl,⟨r,rfl,f⟩ | ⟨rfl,F⟩⟩
 ·exact Bg ⟨u,r,rfl,f⟩
 refine Au (Ng (Ej ⟨rfl,?_⟩))
 refine Au (Hd (Ei (I:=fun y c st'=>eC st st'/\c.1=none/\kE lt a b (x + 2) c.2.1 c.2.2.1 c.2.2.2.1)
  (Q:=fun c st'=>eC st st'/\((∃ r,c.1=some r/\Mg lt a b r)\/(c.1=none/\kE lt a b (x + 2) c.2.1 c.2.2.1 c.2.2.2.1))) ?_ (fun c st' h=>⟨h.1,.inr h.2⟩) ⟨u,rfl,F⟩) ?_)
 rotate_left
 ·rintro⟨_,c⟩ st' ⟨u,⟨r,rfl,f⟩ | ⟨rfl,F⟩⟩
  ·exact Bg ⟨u,r,rfl,f⟩
  ·exact Au (Hv (Bg ⟨u.mg _,rfl,F⟩))
 rintro y c st2 _ _ ⟨j,_,Z,H,t,G⟩
 have C:MC M A E s κ S lt a b:=⟨P,O,ha,hb,sa,sb,hf,hl⟩
 obtain⟨p,f,sp⟩:=hb.at t
 refine w_ite (fun _=>?_) fun _=>?_
 all_goals
  refine Au (Hv ?_)
  refine Au (eQ hb t fun p' w X=>?_)
  cases f.symm.trans w
  refine Au (oT (left:=false) P O (j.kind.trans hk) sp ha (by lia) (by lia) (sa.ix _ _) fun k hk3 g1 W=>?_)
  simp only[Cq,if_false] at g1 W
  have J:=G.ea O ha hb sb f g1
  refine w_ite (fun _=>w_ite (fun e=>Bg ⟨j.mg _,.inl ⟨_,rfl,J.la (by rw[beq_iff_eq] at e;lia) hl⟩⟩) fun c4=>w_ite (fun e=>Bg ⟨j.mg _,.inl ⟨_,rfl,J.da (by rw[beq_iff_eq] at e;lia)⟩⟩) fun c5=>?_) fun c0=>?_
  ·rw[beq_iff_eq] at c4 c5
   refine HP (n:=x + 2) C ?K hk (j.mg _) ?_ ?_ t J f (fun q e=>(W k q (Ai _) (by lia) e).1) ?_
   case K=>exact⟨fun _ _ _ i g=>⟨i,.inl ⟨_,rfl,g⟩⟩,fun _ _ i g=>⟨i,.inr ⟨rfl,g⟩⟩,fun _ _ i g=>⟨i,rfl,g⟩⟩
   ·lia
   ·lia
   exact fun p l=>rfl
  ·have z:k=0:=by lia
   subst z
   refine HP (n:=x + 2) C ?K hk (j.mg _) Z H t G f (fun q e=>(W 0 q (Ai _) (by lia) e).1) ?_
   case K=>exact⟨fun _ _ _ i g=>⟨i,.inl ⟨_,rfl,g⟩⟩,fun _ _ i g=>⟨i,.inr ⟨rfl,g⟩⟩,fun _ _ i g=>⟨i,rfl,g⟩⟩
   exact fun p l=>rfl
end
set_option autoImplicit false
theorem lD(xs:Array Ay)(i:Nat):(xs.extract 0 i).toList=xs.toList.take i:=by simp[List.extract]
theorem uF{xs:Array Ay}{i j:Nat}(h:j<=i):xs.toList.take i=xs.toList.take j ++ (xs.extract j i).toList:=by
 rw[qS,<-List.take_add,show j + (i - j)=i by lia]
theorem zR{xs:Array Ay}{i:Nat}{p:Ay}(a:1<=i)(h:xs[i - 1]? = some p):xs.toList.take i=xs.toList.take (i - 1) ++ [p]:=by
 obtain⟨j,rfl⟩:∃ j,i=j + 1:=⟨i - 1,by lia⟩
 rw[Nat.add_sub_cancel] at h ⊢
 rw[Ga,Du,h]
 rfl
theorem uG{xs:Array Ay}{i:Nat}{p:Ay}(h:p∈xs.toList.take i):∃ j,j < i/\xs[j]? = some p:=by
 obtain⟨j,a,e⟩:=Hg.mp h
 rw[Cf] at a
 rw[List.getElem_take] at e
 exact⟨j,by lia,by rw[<-Du,An (by lia),e]⟩
section
variable {S:Ay->Prop}{lt:Ay->Ay->Bool}{a b out out':Array Ay}{na nb:Nat}
theorem bE.mvR{o m r t:List Ay}(a:bE lt ((r ++ m) ++ o))(e:bE lt (t ++ o))(h:∀ x∈m,∀ y∈t,lt x y=false):bE lt (r ++ (m ++ o))/\bE lt (t ++ (m ++ o)):=by
 rw[Cd] at a
 refine⟨a,?_⟩
 obtain⟨d,g,f⟩:=Cu.mp e
 refine Cu.mpr ⟨d,(Cu.mp a).2.1,fun y b x c=>?_⟩
 rcases Bo.mp c with q | q
 ·exact h x q y b
 ·exact f y b x q
structure dJ(lt:Ay->Ay->Bool)(a b out:Array Ay)(na nb:Nat):Prop where
 p:(a.toList.take na ++ (b.toList.take nb ++ out.toList)).Perm (a.toList ++ b.toList)
 oa:bE lt (a.toList.take na ++ out.toList.reverse)
 ob:bE lt (b.toList.take nb ++ out.toList.reverse)
theorem uH(O:Ord S lt)(hb:bV S b)(sb:bE lt b.toList){d x:Ay}(f:S x)(a:b[nb - 1]? = some d)(c:lt x d=false):∀ y∈b.toList.take nb,lt x y=false:=fun y g=>by
 obtain⟨j,h,e⟩:=uG g
 by_cases z:j=nb - 1
 ·subst z;rw[a] at e;cases e;exact c
 ·exact O.tran (hb.get e) (hb.get a) f (sb.idx (by lia) e a) c
theorem dJ.ma{m:List Ay}{d:Nat}(h:dJ lt a b out na nb)(c:out'.toList=out.toList ++ m.reverse)(hd:a.toList.take na=a.toList.take d ++ m)(i:∀ x∈m,∀ y∈b.toList.take nb,lt x y=false):dJ lt a b out' d nb:=by
 have f:=h.oa
 rw[hd] at f
 obtain⟨j,g⟩:=f.mvR h.ob i
 have e:out'.toList.reverse=m ++ out.toList.reverse:=by rw[c];simp
 refine⟨?_,by rw[e];exact j,by rw[e];exact g⟩
 have:=h.p
 rw[hd,Cd] at this
 rw[c,<-Cd (List.take nb _)]
 exact(Cw _ (Gx.trans (Hs _ (List.reverse_perm _)))).trans this
theorem dJ.mb{m:List Ay}{d:Nat}(h:dJ lt a b out na nb)(c:out'.toList=out.toList ++ m.reverse)(hd:b.toList.take nb=b.toList.take d ++ m)(i:∀ x∈m,∀ y∈a.toList.take na,lt x y=false):dJ lt a b out' na d:=by
 have f:=h.ob
 rw[hd] at f
 obtain⟨j,g⟩:=f.mvR h.oa i
 have e:out'.toList.reverse=m ++ out.toList.reverse:=by rw[c];simp
 refine⟨?_,by rw[e];exact g,by rw[e];exact j⟩
 have:=h.p
 rw[hd,Cd] at this
 rw[c]
 exact(Cw _ (Cw _ (Gx.trans (Hs _ (List.reverse_perm _))))).trans this
theorem dJ.pa(O:Ord S lt)(ha:bV S a)(hb:bV S b)(sb:bE lt b.toList){p c:Ay}(h:dJ lt a b out na nb)(g:1<=na)(d:a[na - 1]? = some p)(f:b[nb - 1]? = some c)(hl:lt p c=false):dJ lt a b (out.push p) (na - 1) nb:=
 h.ma (m:=[p]) (by simp) (zR g d) fun x e=>by cases Ba.mp e;exact uH O hb sb (ha.get d) f hl
theorem dJ.pb(O:Ord S lt)(ha:bV S a)(hb:bV S b)(sa:bE lt a.toList){p c:Ay}(h:dJ lt a b out na nb)(g:1<=nb)(d:b[nb - 1]? = some p)(f:a[na - 1]? = some c)(hl:lt p c=false):dJ lt a b (out.push p) na (nb - 1):=
 h.mb (m:=[p]) (by simp) (zR g d) fun x e=>by cases Ba.mp e;exact uH O ha sa (hb.get d) f hl
theorem seg_at{xs:Array Ay}{i j:Nat}{p:Ay}(h:p∈(xs.extract i j).toList):∃ k,i<=k/\k < j/\xs[k]? = some p:=by
 by_cases a:i<=j
 ·obtain⟨k,rfl⟩:∃ k,j=i + k:=⟨j - i,by lia⟩
  obtain⟨l,hl,e⟩:=uE h
  exact⟨i + l,by lia,by lia,e⟩
 ·rw[qS,show j - i=0 by lia,Nl] at h;cases h
theorem dJ.ea(O:Ord S lt)(ha:bV S a)(hb:bV S b)(sb:bE lt b.toList){d:Ay}{k:Nat}(h:dJ lt a b out na nb)(hk:k<=na)(l:b[nb - 1]? = some d)(hl:∀ i x,k<=i->i < na->a[i]? = some x->lt x d=false):dJ lt a b (out ++ (a.extract k na).reverse) k nb:=
 h.ma (by simp) (uF hk) fun x f=>by obtain⟨j,g,c,e⟩:=seg_at f;exact uH O hb sb (ha.get e) l (hl j x g c e)
theorem dJ.eb(O:Ord S lt)(ha:bV S a)(hb:bV S b)(sa:bE lt a.toList){d:Ay}{k:Nat}(h:dJ lt a b out na nb)(hk:k<=nb)(l:a[na - 1]? = some d)(hl:∀ i x,k<=i->i < nb->b[i]? = some x->lt x d=false):dJ lt a b (out ++ (b.extract k nb).reverse) na k:=
 h.mb (by simp) (uF hk) fun x f=>by obtain⟨j,g,c,e⟩:=seg_at f;exact uH O ha sa (hb.get e) l (hl j x g c e)
theorem dJ.pm(h:dJ lt a b out na nb):(a.extract 0 na ++ b.extract 0 nb ++ out.reverse).toList.Perm (a.toList ++ b.toList):=by
 rw[Bz,Bz,Kt,lD,lD,Cd]
 exact(Cw _ (Cw _ (List.reverse_perm _))).trans h.p
theorem dJ.da(h:dJ lt a b out na nb)(e:na=0):Mg lt a b (a.extract 0 na ++ b.extract 0 nb ++ out.reverse):=by
 refine⟨h.pm,?_⟩
 subst e
 rw[Bz,Bz,Kt,lD,lD,Nl,Lb]
 exact h.ob
theorem dJ.db(h:dJ lt a b out na nb)(e:nb=0):Mg lt a b (a.extract 0 na ++ b.extract 0 nb ++ out.reverse):=by
 refine⟨h.pm,?_⟩
 subst e
 rw[Bz,Bz,Kt,lD,lD,Nl,Gf]
 exact h.oa
theorem dJ.fb(h:dJ lt a b out na nb)(e:nb=1)(hf:∀ x y,b[0]? = some y->x∈a.toList->lt x y=false):Mg lt a b (b.extract 0 nb ++ a.extract 0 na ++ out.reverse):=by
 refine⟨?_,?_⟩
 ·refine List.Perm.trans ?_ h.pm
  rw[Bz,Bz,Bz,Bz]
  exact Hs _ Gx
 ·subst e
  rw[Bz,Bz,Kt,lD,lD,Cd]
  obtain⟨f,i,g⟩:=Cu.mp h.ob
  refine Cu.mpr ⟨f,h.oa,fun y c x d=>?_⟩
  rcases Bo.mp d with q | q
  ·obtain⟨j,k,e⟩:=uG c
   have:j=0:=by lia
   subst this
   exact hf x y e (Kw q)
  ·exact g y c x q
end
structure kF(lt:Ay->Ay->Bool)(a b:Array Ay)(k:Nat)(out:Array Ay)(na nb:Nat):Prop where
 n:k + na + nb<=a.size + b.size
 a1:1<=na
 a2:na<=a.size
 b1:2<=nb
 b2:nb<=b.size
 p:dJ lt a b out na nb
abbrev oV:=Option (Array Ay)×Nat×Nat×Array Ay×Nat×Nat×Nat
def iZ(a b out:Array Ay)(na nb mg k l:Nat):StateT Cr Sem (ForInStep oV):=do
 let q <-elem' a (na - 1)
 if (na - 1 == 0)=true then pure (.done (some (a.extract 0 (na - 1) ++ b.extract 0 nb ++ (out.push q).reverse),na - 1,nb,out.push q,mg,k,l))
 else if (decide (k < 7) && decide (l < 7))=true then pure (.done (none,na - 1,nb,out.push q,mg,k,l))
 else pure (.yield (none,na - 1,nb,out.push q,mg,k,l))
def zcI(a b out:Array Ay)(na nb mg k c:Nat)(g:Ay->Option Nat->StateT Cr Sem (ForInStep oV)):StateT Cr Sem (ForInStep oV):=do
 let p <-elem' b (nb - 1)
 if (nb - 1 == 1)=true then pure (.done (some (b.extract 0 (nb - 1) ++ a.extract 0 na ++ (out.push p).reverse),na,nb - 1,out.push p,mg,k,c))
 else do
  let q <-elem' a (na - 1)
  let x <-uD true q b 0 (nb - 1) (nb - 1 - 1)
  g p x
structure HQ(lt:Ay->Ay->Bool)(a b:Array Ay)(st:Cr)(n:Nat)(Q:ForInStep oV->Cr->Prop):Prop where
 fin:∀ r c st',eC st st'->Mg lt a b r->Q (.done (some r,c)) st'
 non:∀ c st',eC st st'->kF lt a b n c.2.2.1 c.1 c.2.1->Q (.done (none,c)) st'
 yld:∀ c st',eC st st'->kF lt a b n c.2.2.1 c.1 c.2.1->Q (.yield (none,c)) st'
section
variable {M:Mx}{A:Bv}{E:Ac->Ah->Prop}{s:Ah}{κ:Hf}{S:Ay->Prop}{lt:Ay->Ay->Bool}{st st2:Cr}{a b out:Array Ay}{na nb mg k l n:Nat}{p q:Ay}{Q:ForInStep oV->Cr->Prop}
theorem HR(C:MC M A E s κ S lt a b)(K:HQ lt a b st n Q)(e:eC st st2)(D:n + na + nb<=a.size + b.size + 1)(p:1<=na)(z:na<=a.size)(x:2<=nb)(w:nb<=b.size)(v:dJ lt a b out na nb)(h:a[na - 1]? = some q)(m:∀ y,b[nb - 1]? = some y->lt q y=false):wpS M A E s (iZ a b out na nb mg k l) Q st2:=by
 obtain⟨t,d,u⟩:=C.hb.at (i:=nb - 1) (by lia)
 have j:=v.pa C.O C.ha C.hb C.sb p h d (m t d)
 refine Au (eQ C.ha (by lia) fun B f r=>?_)
 cases h.symm.trans f
 refine w_ite (fun c=>Bg (K.fin _ _ _ e (j.da (by rw[beq_iff_eq] at c;exact c)))) fun o=>?_
 rw[beq_iff_eq] at o
 have g:kF lt a b n _ _ _:=⟨by lia,by lia,by lia,x,w,j⟩
 exact w_ite (fun _=>Bg (K.non _ _ e g)) fun _=>Bg (K.yld _ _ e g)
theorem HS(C:MC M A E s κ S lt a b)(K:HQ lt a b st n Q)(hk:kindOf st=κ)(f:eC st st2)(V:n + na + nb<=a.size + b.size)(w:1<=na)(v:na<=a.size)(W:2<=nb)(P:nb<=b.size)(G:dJ lt a b out na nb)(x:b[nb - 1]? = some p)(L:∀ q,a[na - 1]? = some q->lt p q=false){D:Nat}{g:Ay->Option Nat->StateT Cr Sem (ForInStep oV)}
  (B:∀ p l,g p (some l)=if nb - 1 - l > 0 then(if (l == 1)=true then pure (.done (some (b.extract 0 l ++ a.extract 0 na ++ (out.push p ++ (b.extract l (nb - 1)).reverse).reverse),na,l,out.push p ++ (b.extract l (nb - 1)).reverse,mg,k,nb - 1 - l)) else if (l == 0)=true then pure (.done (some (a.extract 0 na ++ b.extract 0 l ++ (out.push p ++ (b.extract l (nb - 1)).reverse).reverse),na,l,out.push p ++ (b.extract l (nb - 1)).reverse,mg,k,nb - 1 - l)) else iZ a b (out.push p ++ (b.extract l (nb - 1)).reverse) na l mg k (nb - 1 - l)) else iZ a b (out.push p) na (nb - 1) mg k (nb - 1 - l)):wpS M A E s (zcI a b out na nb mg k D g) Q st2:=by
 obtain⟨q,d,sq⟩:=C.ha.at (i:=na - 1) (by lia)
 have m:=G.pb C.O C.ha C.hb C.sa (by lia) x d (L q d)
 refine Au (eQ C.hb (by lia) fun U t N=>?_)
 cases x.symm.trans t
 refine w_ite (fun c=>Bg (K.fin _ _ _ f (m.fb (by rw[beq_iff_eq] at c;exact c) C.hf))) fun J=>?_
 rw[beq_iff_eq] at J
 refine Au (eQ C.ha (by lia) fun R o I=>?_)
 cases d.symm.trans o
 refine Au (oT (left:=true) C.C C.O (f.kind.trans hk) sq C.hb (by lia) (by lia) (C.sb.ix _ _) fun l r j u=>?_)
 simp only[if_true,Fy] at j u
 have h:=m.eb C.O C.ha C.hb C.sa r d u
 rw[B]
 refine w_ite (fun _=>w_ite (fun c=>Bg (K.fin _ _ _ f (h.fb (by rw[beq_iff_eq] at c;exact c) C.hf))) fun H=>w_ite (fun c=>Bg (K.fin _ _ _ f (h.db (by rw[beq_iff_eq] at c;exact c)))) fun F=>?_) fun T=>?_
 ·rw[beq_iff_eq] at H F
  exact HR C K f (by lia) w v (by lia) (by lia) h d fun y e=>(j (l - 1) y (by lia) e).1
 ·have z:l=nb - 1:=by lia
  subst z
  exact HR C K f (by lia) w v (by lia) (by lia) m d fun y e=>(j (nb - 1 - 1) y (by lia) e).1
end
section
variable {M:Mx}{A:Bv}{E:Ac->Ah->Prop}{s:Ah}{κ:Hf}{S:Ay->Prop}{lt:Ay->Ay->Bool}{st:Cr}
theorem zcJ{a b:Array Ay}{Q:Array Ay->Cr->Prop}(P:Cmp M A E s κ S lt)(O:Ord S lt)(hk:kindOf st=κ)(ha:bV S a)(hb:bV S b)(f:1<=a.size)(j:1<=b.size)(sa:bE lt a.toList)(sb:bE lt b.toList)
  (hf:∀ x y,b[0]? = some y->x∈a.toList->lt x y=false) (hl:∀ x y,a[a.size - 1]? = some x->y∈b.toList->lt x y=false)
  (N:∀ r st',eC st st'->Mg lt a b r->Q r st'):wpS M A E s (zcD a b) Q st:=by
 refine Au (Ng (Ej ⟨rfl,?_⟩))
 refine Au (eQ ha (by lia) fun J B _=>?_)
 have Y:dJ lt a b #[J] (a.size - 1) b.size:=by
  have e:a.toList=a.toList.take (a.size - 1) ++ [J]:=by
   rw[<-zR f B,Dw (by simp)]
  refine⟨?_,?_,?_⟩
  ·rw[Dw (l:=b.toList) (by simp)]
   conv=>rhs;rw[e]
   rw[Cd]
   exact Cw _ Gx
  ·show bE lt (_ ++ [J])
   rw[<-e];exact sa
  ·rw[Dw (l:=b.toList) (by simp)]
   exact Cu.mpr ⟨sb,Ml _ _,fun y hy x hx=>by cases Ba.mp hx;exact hl J y B hy⟩
 refine w_ite (fun c=>Bg (N _ _ (.refl _) (Y.da (by rw[beq_iff_eq] at c;exact c)))) fun c1=>?_
 refine w_ite (fun c=>Bg (N _ _ (.refl _) (Y.fb (by rw[beq_iff_eq] at c;exact c) hf))) fun c2=>?_
 rw[beq_iff_eq] at c1 c2
 refine Au (Km ?_)
 refine Au (Hd (Ei (I:=fun x c st'=>eC st st'/\c.1=none/\kF lt a b (x + 1) c.2.2.2.1 c.2.1 c.2.2.1)
  (Q:=fun c st'=>eC st st'/\∃ r,c.1=some r/\Mg lt a b r) ?_ ?_ ⟨.refl _,rfl,⟨by dsimp only;lia,by dsimp only;lia,by dsimp only;lia,by dsimp only;lia,by dsimp only;lia,Y⟩⟩) ?_)
 rotate_left
 ·rintro c st' ⟨_,_,h⟩
  have:=h.n
  lia
 ·rintro⟨_,c⟩ st' ⟨u,r,rfl,g⟩
  exact Bg (N _ _ u g)
 rintro x c t _ _ ⟨u,_,D⟩
 have U:kindOf t=κ:=u.kind.trans hk
 refine Au (Hd (Ei (I:=fun y c st'=>t=st'/\c.1=none/\kF lt a b (x + 1 + y) c.2.2.2.1 c.2.1 c.2.2.1)
  (Q:=fun c st'=>t=st'/\((∃ r,c.1=some r/\Mg lt a b r)\/(c.1=none/\kF lt a b (x + 2) c.2.2.2.1 c.2.1 c.2.2.1))) ?_ ?_ ⟨rfl,rfl,D⟩) ?_)
 ·rintro y c st' _ _ ⟨rfl,_,i1,G,X,H,L,F⟩
  refine Au (eQ hb (by lia) fun p g sp=>Au (eQ ha (by lia) fun q v sq=>Au (P p q t _ sp sq U ?_)))
  refine w_ite (fun d=>?_) fun d=>?_
  ·refine Au (eQ ha (by lia) fun q2 R sq2=>?_)
   cases v.symm.trans R
   have w:=F.pa O ha hb sb G v g (O.asym sp sq d)
   refine w_ite (fun e=>Bg ⟨rfl,.inl ⟨_,rfl,w.da (by rw[beq_iff_eq] at e;exact e)⟩⟩) fun c3=>?_
   rw[beq_iff_eq] at c3
   have m:∀ n,n<=x + 2 + y->kF lt a b n _ _ _:=fun n hn=>⟨by lia,by lia,by lia,H,L,w⟩
   exact w_ite (fun _=>Bg ⟨rfl,.inr ⟨rfl,m _ (by lia)⟩⟩) fun _=>Bg ⟨rfl,rfl,m _ (by lia)⟩
  ·refine Au (eQ hb (by lia) fun p2 V sp2=>?_)
   cases g.symm.trans V
   have w:=F.pb O ha hb sa (by lia) g v (by simpa using d)
   refine w_ite (fun e=>Bg ⟨rfl,.inl ⟨_,rfl,w.fb (by rw[beq_iff_eq] at e;exact e) hf⟩⟩) fun c3=>?_
   rw[beq_iff_eq] at c3
   have m:∀ n,n<=x + 2 + y->kF lt a b n _ _ _:=fun n hn=>⟨by lia,G,X,by lia,by lia,w⟩
   exact w_ite (fun _=>Bg ⟨rfl,.inr ⟨rfl,m _ (by lia)⟩⟩) fun _=>Bg ⟨rfl,rfl,m _ (by lia)⟩
 ·rintro c st' ⟨rfl,h,m⟩
  exact⟨rfl,.inr ⟨h,⟨by have:=m.n;lia,m.2,m.3,m.4,m.5,m.6⟩⟩⟩
 rintro⟨_,c⟩ st' ⟨rfl,⟨r,rfl,g⟩ | ⟨rfl,D⟩⟩
 ·exact Bg ⟨u,r,rfl,g⟩
 refine Au (Ng (Ej ⟨rfl,?_⟩))
 refine Au (Hd (Ei (I:=fun y c st'=>eC st st'/\c.1=none/\kF lt a b (x + 2) c.2.2.2.1 c.2.1 c.2.2.1)
  (Q:=fun c st'=>eC st st'/\((∃ r,c.1=some r/\Mg lt a b r)\/(c.1=none/\kF lt a b (x + 2) c.2.2.2.1 c.2.1 c.2.2.1))) ?_ (fun c st' h=>⟨h.1,.inr h.2⟩) ⟨u,rfl,D⟩) ?_)
 rotate_left
 ·rintro⟨_,c⟩ st' ⟨u,⟨r,rfl,g⟩ | ⟨rfl,D⟩⟩
  ·exact Bg ⟨u,r,rfl,g⟩
  ·exact Au (Hv (Bg ⟨u.mg _,rfl,D⟩))
 rintro y c st2 _ _ ⟨o,_,i1,G,X,H,L,F⟩
 have C:MC M A E s κ S lt a b:=⟨P,O,ha,hb,sa,sb,hf,hl⟩
 obtain⟨p,g,sp⟩:=hb.at (i:=c.2.2.1 - 1) (by lia)
 refine w_ite (fun _=>?_) fun _=>?_
 all_goals
  refine Au (Hv ?_)
  refine Au (eQ hb (by lia) fun p' T sp'=>?_)
  cases g.symm.trans T
  refine Au (oT (left:=false) P O (o.kind.trans hk) sp ha (by lia) (by lia) (sa.ix _ _) fun k Z W g2=>?_)
  simp only[Cq,if_false,Fy] at W g2
  have j6:=F.ea O ha hb sb Z g fun i x f j e=>(g2 i x f j e).1
  refine w_ite (fun _=>w_ite (fun e=>Bg ⟨o.mg _,.inl ⟨_,rfl,j6.da (by rw[beq_iff_eq] at e;exact e)⟩⟩) fun c4=>?_) fun c0=>?_
  ·rw[beq_iff_eq] at c4
   refine HS (n:=x + 2) C ?K hk (o.mg _) ?_ ?_ ?_ H L j6 g (fun q e=>W (k - 1) q (by lia) e) ?_
   case K=>exact⟨fun _ _ _ f j=>⟨f,.inl ⟨_,rfl,j⟩⟩,fun _ _ f j=>⟨f,.inr ⟨rfl,j⟩⟩,fun _ _ f j=>⟨f,rfl,j⟩⟩
   ·lia
   ·lia
   ·lia
   exact fun p l=>rfl
  ·have z:k=c.2.1:=by lia
   subst z
   refine HS (n:=x + 2) C ?K hk (o.mg _) i1 G X H L F g (fun q e=>W (c.2.1 - 1) q (by lia) e) ?_
   case K=>exact⟨fun _ _ _ f j=>⟨f,.inl ⟨_,rfl,j⟩⟩,fun _ _ f j=>⟨f,.inr ⟨rfl,j⟩⟩,fun _ _ f j=>⟨f,rfl,j⟩⟩
   exact fun p l=>rfl
end
set_option autoImplicit false
theorem HU(sa:Nat):∀ (l:List Ay) (k:Nat) (xs:Array Ay),sa + k + l.length<=xs.size->
  ((l.zipIdx k).foldl (fun a x=>match x with | (p,j)=>a.setIfInBounds (sa + j) p) xs).toList=xs.toList.take (sa + k) ++ l ++ xs.toList.drop (sa + k + l.length)
 | [],k,xs,_=>by simp
 | p :: l,k,xs,h=>by
  rw[Jj,Ge]
  simp only[Bt] at h
  rw[HU sa l (k + 1) _ (by simp;lia)]
  simp only[Array.toList_setIfInBounds]
  have hk:sa + k < xs.toList.length:=by simp;lia
  rw[show sa + (k + 1)=sa + k + 1 by lia,List.take_succ_eq_append_getElem (by simpa using hk),List.getElem_set_self,List.take_set_of_le (Ai _),List.drop_set_of_lt (by lia)]
  simp only[Cd,List.singleton_append,Bt]
  congr 3
  lia
section
variable {M:Mx}{A:Bv}{E:Ac->Ah->Prop}{s:Ah}{κ:Hf}{S:Ay->Prop}{lt:Ay->Ay->Bool}{st:Cr}
theorem zcK{st':Cr}{Q:PUnit->Cr->Prop}(h:Q ⟨⟩ st'):wpS M A E s (set st':StateT Cr Sem PUnit) Q st:=by
 unfold wpS;rw[StateT.run_set];exact Ag ⟨rfl,h⟩
theorem bV.ext{xs:Array Ay}(h:bV S xs)(i j:Nat):bV S (xs.extract i j):=fun p a=>by
 obtain⟨k,_,_,e⟩:=seg_at a
 exact h.get e
theorem cG.srt{xs:Array Ay}{i j:Nat}(h:cG lt xs i j)(f:j<=xs.size):bE lt (xs.extract i j).toList:=by
 refine Fu.mpr fun u v c d a=>?_
 have e:∀ w (hw:w < (xs.extract i j).toList.length),w < j - i/\xs[i + w]? = some (xs.extract i j).toList[w]:=fun w hw=>by
  have b:w < j - i:=by rw[qS,Cf] at hw;lia
  refine⟨b,?_⟩
  rw[Array.getElem_toList,Array.getElem_extract,Lv]
 obtain⟨a1,a2⟩:=e u c
 obtain⟨b1,b2⟩:=e v d
 exact h _ _ _ _ (Mv _ _) (Oc a i) (by lia) a2 b2
theorem cG.all{xs:Array Ay}(h:cG lt xs 0 xs.size):bE lt xs.toList:=by
 have:=h.srt (Ai _)
 rwa [mE,Lk] at this
theorem cG.sub{xs:Array Ay}{i j k l:Nat}(h:cG lt xs i j)(e:i<=k)(d:l<=j):cG lt xs k l:=fun u v p q a b c=>h u v p q (by lia) b (by lia)
theorem cG.join{xs:Array Ay}{i m j:Nat}(l:cG lt xs i m)(g:cG lt xs m j)(h:∀ u v p q,i<=u->u < m->m<=v->v < j->xs[u]? = some p->xs[v]? = some q->lt q p=false):cG lt xs i j:=fun u v p q a b c e d=>by
 by_cases k:v < m
 ·exact l u v p q a b k e d
 ·by_cases f:u < m
  ·exact h u v p q a f (by lia) c e d
  ·exact g u v p q (by lia) b c e d
theorem zcL{b n w w':Nat}{Q:Bool->Cr->Prop}(Z:Cmp M A E s κ S lt)(O:Ord S lt)(hk:kindOf st=κ)(g:bV S (Dg st))(hp:Ec st = #[(0,b,w),(b,n,w')])(hn1:1<=b)(hn2:1<=n)(hz:b + n=(Dg st).size)
  (G:cG lt (Dg st) 0 b) (D:cG lt (Dg st) b (b + n)) (t:Hq st=none)
  (hq:∀ st',(Dg st').Perm (Dg st)->Hq st'=none->(Ec st').size=1->bE lt (Dg st').toList->Q true st'):wpS M A E s (mergeAt' 0) Q st:=by
 obtain⟨xs,N⟩:∃ xs,Dg st=xs:=⟨_,rfl⟩
 rw[N] at g G D hz hq
 have U:b + n=xs.size:=hz
 have hu:(Ec st)[0]? = some (0,b,w):=by rw[hp];rfl
 have hv:(Ec st)[0 + 1]? = some (b,n,w'):=by rw[hp];rfl
 have Y:(((Ec st).setIfInBounds 0 (0,b + n,w)).eraseIdxIfInBounds (0 + 1)).size=1:=by rw[hp];simp
 unfold Dg at N
 have C:∀ {p q:Ay} {j:Nat},xs[b]? = some p->b<=j->j < b + n->xs[j]? = some q->∀ {x},S x->lt p x=false->lt q x=false:=fun {p q j} f o R d {x} sx h=>by
  rcases Lu o with rfl | o
  ·rw[f] at d;cases d;exact h
  ·exact O.tran sx (g.get f) (g.get d) h (D _ _ _ _ (Ai _) o R f d)
 have F:∀ {p q:Ay} {i:Nat},xs[b - 1]? = some q->i < b->xs[i]? = some p->∀ {x},S x->lt x q=false->lt x p=false:=fun {p q i} f o d {x} sx h=>by
  by_cases z:i=b - 1
  ·subst z;rw[f] at d;cases d;exact h
  ·exact O.tran (g.get d) (g.get f) sx (G _ _ _ _ (Co _) (by lia) (by lia) d f) h
 refine Au (Km ?_)
 rw[hu,hv,N]
 dsimp only
 refine Au (zcK ?_)
 have fin:∀ {st':Cr},Dg st'=xs->cG lt xs 0 (b + n)->Hq st'=none->(Ec st').size=1->Q true st':=fun {st'} f d e3 e4=>by
  refine hq st' (by rw[f]) e3 e4 ?_
  rw[f]
  rw[U] at d
  exact d.all
 refine Au (eQ g (by lia) fun p J sp=>?_)
 refine Au (oT (left:=false) Z O hk sp g (by lia) (by lia) (by rw[Fy];exact G) fun k X g1 g2=>?_)
 simp only[Cq,if_false,Fy] at g1 g2
 dsimp only
 rw[show 0 + k=k from Fy k]
 refine w_ite (fun c=>Bg (fin rfl (G.join D fun u v x y _ o R h3 f d=>C J R h3 d (g.get f) (g1 u x (by rw[beq_iff_eq] at c;lia) f)) t Y)) fun d1=>?_
 rw[beq_iff_eq] at d1
 refine Au (eQ g (by lia) fun q hq' sq=>?_)
 have I:xs[b - 1]? = some q:=by rw[<-hq'];congr 1;lia
 refine Au (oT (left:=true) Z O hk sq g (by lia) (by lia) D fun l hl f1 f2=>?_)
 simp only[if_true] at f1 f2
 dsimp only
 refine w_ite (fun c=>Bg (fin rfl (G.join D fun u v x y _ o R h3 f d=>F I o f (g.get d) (f2 (v - b) y (by rw[beq_iff_eq] at c;lia) (by lia) (by rw[<-d];congr 1;lia))) t Y)) fun d2=>?_
 rw[beq_iff_eq] at d2
 have sA:=(G.sub (Co k) (Ai b)).srt (by lia)
 have sB:=(D.sub (Ai b) (show b + l<=b + n by lia)).srt (by lia)
 have z1:(xs.extract k b).size=b - k:=by rw[Array.size_extract];lia
 have z2:(xs.extract b (b + l)).size=l:=by rw[Array.size_extract];lia
 have hf:∀ x y,(xs.extract b (b + l))[0]? = some y->x∈(xs.extract k b).toList->lt x y=false:=fun x y e V=>by
  have:y=p:=by
   rw[Array.getElem?_extract] at e
   split at e
   ·rw[Nat.add_zero,J] at e;cases e;rfl
   ·cases e
  subst this
  obtain⟨j,P,H,e⟩:=seg_at V
  exact(g2 j x P H e).1
 have T:∀ x y,(xs.extract k b)[(xs.extract k b).size - 1]? = some x->y∈(xs.extract b (b + l)).toList->lt x y=false:=fun x y e K=>by
  have:x=q:=by
   rw[Array.getElem?_extract] at e
   split at e
   ·rw[z1,show k + (b - k - 1)=b - 1 by lia,I] at e;cases e;rfl
   ·cases e
  subst this
  obtain⟨j,P,H⟩:=uE K
  exact(f1 j y P H).1
 have put:∀ (m:Array Ay),Mg lt (xs.extract k b) (xs.extract b (b + l)) m->∃ L:List Ay,(m.toList.zipIdx.foldl (fun a x=>match x with | (p,j)=>a.setIfInBounds (k + j) p) xs).toList=L/\L.Perm xs.toList/\bE lt L:=fun m ⟨m1,m2⟩=>by
  have len:m.toList.length=b + l - k:=by rw[m1.length_eq,Av,Bx,Bx];lia
  refine⟨_,HU k _ 0 _ (by lia),?_,?_⟩
  ·have e:xs.toList=xs.toList.take k ++ ((xs.extract k b).toList ++ (xs.extract b (b + l)).toList) ++ xs.toList.drop (k + 0 + m.toList.length):=by
    rw[<-Cd,<-uF X,<-uF (Mv _ _),show k + 0 + m.toList.length=b + l by lia,Nf]
   conv=>rhs;rw[e]
   exact Hs _ (Cw _ m1)
  ·have mem:∀ y∈m.toList,∃ j,k<=j/\j < b + l/\xs[j]? = some y:=fun y K=>by
    rcases Bo.mp (m1.mem_iff.mp K) with h | h
    ·obtain⟨j,P,H,e⟩:=seg_at h
     exact⟨j,P,by lia,e⟩
    ·obtain⟨j,P,H,e⟩:=seg_at h
     exact⟨j,by lia,H,e⟩
   rw[Nat.add_zero,show k + m.toList.length=b + l by lia]
   have sC:=(G.sub (Ai 0) X).srt (by lia)
   rw[lD] at sC
   have sD:=(D.sub (show b<=b + l by lia) (Ai _)).srt (by lia)
   rw[U,mE] at sD
   refine Cu.mpr ⟨Cu.mpr ⟨sC,m2,fun x V y K=>?_⟩,sD,fun x V y K=>?_⟩
   ·obtain⟨i,i1,f⟩:=uG V
    obtain⟨j,P,H,d⟩:=mem y K
    by_cases hj:j < b
    ·exact G _ _ _ _ (Co _) (by lia) hj f d
    ·exact C J (by lia) (by lia) d (g.get f) (g1 i x i1 f)
   ·obtain⟨j,d⟩:=zP K
    have hj:=(Cp.mp d).1
    have fy:=f2 (l + j) y (by lia) (by lia) (by rw[<-d];congr 1;lia)
    have ax:∀ i,i < b + l->xs[i]? = some x->lt y x=false:=fun i hi f=>by
     by_cases h:i < b
     ·exact F I h f (g.get d) fy
     ·exact D _ _ _ _ (by lia) (by lia) (by lia) f d
    rcases Bo.mp V with h | h
    ·obtain⟨i,i1,f⟩:=uG h
     exact ax i (by lia) f
    ·obtain⟨i,_,i1,f⟩:=mem x h
     exact ax i i1 f
 have B:∀ (m:Array Ay) (st':Cr),kindOf st'=κ->Dg st'=xs->(Ec st').size=1->Hq st'=none->Mg lt (xs.extract k b) (xs.extract b (b + l)) m->
   Q (Hq st').isNone (SortSt.mk' (kindOf st') (m.toList.zipIdx.foldl (fun a x=>match x with | (p,j)=>a.setIfInBounds (k + j) p) (Dg st')) (Ec st') (gallopOf st') (Hq st')):=fun m st' f d e3 e4 W=>by
  obtain⟨L,o,R,h3⟩:=put m W
  rw[e4]
  refine hq _ ?_ rfl e3 ?_
  ·rw[Iy]
   show(m.toList.zipIdx.foldl _ (Dg st')).toList.Perm _
   rw[d,o];exact R
  ·show bE lt (m.toList.zipIdx.foldl _ (Dg st')).toList
   rw[d,o];exact h3
 refine w_ite (fun _=>?_) fun _=>?_
 ·refine Au (zcH Z O hk (g.ext _ _) (g.ext _ _) (by rw[z1];lia) (by rw[z2];lia) sA sB hf T fun m st' r W=>?_)
  exact Au (Hv (Au (Km (Bg (by
   have:=B m st' (r.kind.trans hk) r.arr (by rw[r.pend];exact Y) (r.failed.trans t) W
   simpa using this)))))
 ·refine Au (zcJ Z O hk (g.ext _ _) (g.ext _ _) (by rw[z1];lia) (by rw[z2];lia) sA sB hf T fun m st' r W=>?_)
  exact Au (Hv (Au (Km (Bg (by
   have:=B m st' (r.kind.trans hk) r.arr (by rw[r.pend];exact Y) (r.failed.trans t) W
   simpa using this)))))
end
set_option autoImplicit false
def zS(lt:Ay->Ay->Bool)(xs:Array Ay):Prop:=∀ (i j:Nat) p q,i < j->xs[i]? = some p->xs[j]? = some q->lt p q=true\/lt q p=true
def qU(lt:Ay->Ay->Bool)(xs:Array Ay)(i j:Nat):Prop:=∀ k l p q,i<=k->k < l->l < j->xs[k]? = some p->xs[l]? = some q->lt p q=false
structure Rn(κ:Hf)(a₀:Array Ay)(P:Array (Nat×Nat×Nat))(b₀:Array Ay)(lo:Nat)(st:Cr):Prop where
 perm:(Dg st).Perm a₀
 kind:kindOf st=κ
 failed:Hq st=none
 pend:Ec st=P
 left:∀ k,k < lo->(Dg st)[k]? = b₀[k]?
section
variable {M:Mx}{A:Bv}{E:Ac->Ah->Prop}{s:Ah}{κ:Hf}{S:Ay->Prop}{lt:Ay->Ay->Bool}{st:Cr}{a₀ b₀:Array Ay}{P:Array (Nat×Nat×Nat)}{lo:Nat}
theorem Rn.size(h:Rn κ a₀ P b₀ lo st):(Dg st).size=a₀.size:=h.perm.size_eq
theorem Rn.all(h:Rn κ a₀ P b₀ lo st)(b:bV S a₀):bV S (Dg st):=fun p a=>b p ((Iy.mp h.perm).mem_iff.mp a)
theorem Rn.arr(h:Rn κ a₀ P b₀ lo st){xs:Array Ay}(a:xs.Perm (Dg st))(hl:∀ k,k < lo->xs[k]? = (Dg st)[k]?):Rn κ a₀ P b₀ lo (setArr st xs):=
 ⟨a.trans h.perm,h.kind,h.failed,h.pend,fun k hk=>(hl k hk).trans (h.left k hk)⟩
theorem Rn.ltw{i j:Nat}{Q:Option Bool->Cr->Prop}(h:Rn κ a₀ P b₀ lo st)(c:Cmp M A E s κ S lt)(a:bV S a₀)(hi:i < a₀.size)(d:j < a₀.size)(b:∀ p q,(Dg st)[i]? = some p->(Dg st)[j]? = some q->S p->S q->Q (some (lt p q)) st):wpS M A E s (ltAt' i j) Q st:=
 zcE c h.kind (h.all a) (Lr hi h.size.symm) (Lr d h.size.symm) b
theorem w_rev{i j:Nat}{Q:Unit->Cr->Prop}(h:Q () (setArr st (mirror (Dg st) i j ((j - i) / 2)))):wpS M A E s (reverseSlice' i j) Q st:=by rw[reverseSlice'_eq];exact Hv h
theorem zcM{i j:Nat}{Q:Unit->Cr->Prop}(h:Q () (setArr st (bubble (Dg st) i (i - j)))):wpS M A E s (moveDown' i j) Q st:=by rw[moveDown'_eq];exact Hv h
theorem cG.one{xs:Array Ay}{i:Nat}:cG lt xs i (i + 1):=fun k l p q c a b=>by lia
theorem cG.snoc(O:Ord S lt){xs:Array Ay}(d:bV S xs){i n:Nat}(j:1<=n)(h:cG lt xs i (i + n))(hl:∀ p q,xs[i + n]? = some p->xs[i + n - 1]? = some q->lt p q=false):cG lt xs i (i + (n + 1)):=fun k l p q f g m b a=>by
 by_cases z:l < i + n
 ·exact h k l p q f g z b a
 ·have e:l=i + n:=by lia
  subst e
  by_cases y:k=i + n - 1
  ·subst y;exact hl q p a b
  ·obtain⟨r,c⟩:∃ r,xs[i + n - 1]? = some r:=by
    have:=(Cp.mp a).1
    exact⟨_,getElem?_pos xs (i + n - 1) (by lia)⟩
   exact O.tran (d.get b) (d.get c) (d.get a) (h k (i + n - 1) p r f (by lia) (by lia) b c) (hl q r a c)
theorem qU.snoc(O:Ord S lt){xs:Array Ay}(d:bV S xs){i n:Nat}(j:1<=n)(h:qU lt xs i (i + n))(hl:∀ p q,xs[i + n]? = some p->xs[i + n - 1]? = some q->lt q p=false):qU lt xs i (i + (n + 1)):=fun k l p q f g m b a=>by
 by_cases z:l < i + n
 ·exact h k l p q f g z b a
 ·have e:l=i + n:=by lia
  subst e
  by_cases y:k=i + n - 1
  ·subst y;exact hl q p a b
  ·obtain⟨r,c⟩:∃ r,xs[i + n - 1]? = some r:=by
    have:=(Cp.mp a).1
    exact⟨_,getElem?_pos xs (i + n - 1) (by lia)⟩
   exact O.tran (d.get a) (d.get c) (d.get b) (hl q r a c) (h k (i + n - 1) p r f (by lia) (by lia) b c)
theorem HV{a:Nat}{Q:Option Nat->Cr->Prop}(B:Cmp M A E s κ S lt)(O:Ord S lt)(v:bV S a₀)(X:∀ xs:Array Ay,xs.Perm a₀->zS lt xs)(g:Rn κ a₀ P b₀ lo st)(hl:lo + a<=a₀.size)(R:1<=a)
  (N:∀ m st',Rn κ a₀ P b₀ lo st'->1<=m->m<=a->cG lt (Dg st') lo (lo + m)->Q (some m) st'):wpS M A E s (countRun' lo a) Q st:=by
 have K:=g.all v
 have D:=X _ g.perm
 refine Au (Hd (Ei (I:=fun x c st'=>st=st'/\c=(none,x)/\cG lt (Dg st) lo (lo + x)) (Q:=fun c st'=>st=st'/\c.1=none/\1<=c.2/\c.2<=a/\cG lt (Dg st) lo (lo + c.2)/\(c.2=a\/∀ p q,(Dg st)[lo + c.2]? = some p->(Dg st)[lo + c.2 - 1]? = some q->lt p q=true)) ?_ ?_ ⟨rfl,rfl,cG.one⟩) ?_)
 ·rintro x c st' J C ⟨rfl,rfl,hs⟩
  refine Au (g.ltw B v (by dsimp only;lia) (by dsimp only;lia) fun p q f b sp sq=>?_)
  dsimp only at f b ⊢
  refine w_ite (fun d=>Bg ⟨rfl,rfl,J,by dsimp only;lia,hs,.inr fun H G o j=>?_⟩) fun d=>Bg ⟨rfl,rfl,hs.snoc O K J fun H G o j=>?_⟩
  ·cases f.symm.trans o;cases b.symm.trans j;exact d
  ·cases f.symm.trans o;cases b.symm.trans j;simpa using d
 ·rintro c st' ⟨rfl,rfl,hs⟩
  have e:max 1 a=a:=by lia
  rw[e] at hs ⊢
  exact⟨rfl,rfl,R,Ai _,hs,.inl rfl⟩
 rintro⟨r,n⟩ st' ⟨rfl,t,y,w,hs,hb⟩
 dsimp only at t y w hs hb ⊢
 subst t
 dsimp only
 refine w_ite (fun _=>Bg (N _ _ g y w hs)) fun U=>?_
 rw[beq_iff_eq] at U
 have hb:=hb.resolve_left U
 refine w_ite (fun Y=>?_) fun Y=>?_
 ·refine Au (g.ltw B v (by lia) (by lia) fun p q f b sp sq=>?_)
  dsimp only
  refine w_ite (fun _=>Bg (N _ _ g y w hs)) fun d=>?_
  rcases D lo (lo + n - 1) p q (by lia) f b with z | z
  ·exact absurd z d
  ·rw[hs lo (lo + n - 1) p q (Ai _) (by lia) (by lia) f b] at z;cases z
 have e:n=1:=by lia
 subst e
 refine Au (Ng (Ej ⟨rfl,?_⟩))
 refine Au (Hd (Ei (I:=fun x c st'=>st=st'/\c=(none,x,0)/\qU lt (Dg st) lo (lo + x)) (Q:=fun c st'=>st=st'/\c.1=none/\2<=c.2.1/\c.2.1<=a/\c.2.2=0/\qU lt (Dg st) lo (lo + c.2.1)) ?_ ?_ ⟨rfl,rfl,fun k l p q k1 k2 k3 f b=>?_⟩) ?_)
 ·rintro x c st' J C ⟨rfl,rfl,hs⟩
  refine Au (g.ltw B v (by dsimp only;lia) (by dsimp only;lia) fun p q f b sp sq=>?_)
  dsimp only at f b ⊢
  refine w_ite (fun d=>w_ite (fun z=>absurd z (Gr 0)) fun _=>Bg ⟨rfl,rfl,hs.snoc O K (by lia) fun H G o j=>?_⟩) fun d=>?_
  ·cases f.symm.trans o;cases b.symm.trans j;exact O.asym sp sq d
  refine Au (g.ltw B v (by lia) (by lia) fun H G o j _ _=>?_)
  cases f.symm.trans j;cases b.symm.trans o
  dsimp only
  refine w_ite (fun _=>Bg ⟨rfl,rfl,by dsimp only;lia,by dsimp only;lia,rfl,hs⟩) fun d2=>?_
  rcases D (lo + x - 1) (lo + x) q p (by lia) b f with z | z
  ·exact absurd z d2
  ·exact absurd z d
 ·rintro c st' ⟨rfl,rfl,hs⟩
  have e:max (1 + 1) a=a:=by lia
  rw[e] at hs ⊢
  exact⟨rfl,rfl,by dsimp only;lia,Ai _,rfl,hs⟩
 ·have a1:k=lo:=by lia
  have a2:l=lo + 1:=by lia
  subst a1 a2
  exact O.asym (K.get b) (K.get f) (hb q p b f)
 rintro⟨r,n,W⟩ st' ⟨rfl,t,Z,V,F,hs⟩
 dsimp only at t Z V F hs ⊢
 subst t F
 dsimp only
 refine w_ite (fun z=>absurd z (Gr 0)) fun _=>?_
 have hj:lo + n<=(Dg st).size:=Bp (by lia) (Fo g.size.symm)
 have mg:=fun k=>getElem?_mirror_all (xs:=Dg st) (i:=lo) hj k
 obtain⟨ys,h⟩:∃ ys,ys=mirror (Dg st) lo (lo + n) ((lo + n - lo) / 2):=⟨_,rfl⟩
 have u:Rn κ a₀ P b₀ lo (setArr st ys):=g.arr (by rw[h];exact mirror_perm _ _ _ _) fun k hk=>by rw[h,mg,if_neg (by lia)]
 have T:=u.all v
 refine Au (w_rev ?_)
 have L:cG lt ys lo (lo + n):=fun k l p q R h2 h3 f b=>by
  rw[h,mg,if_pos (by lia)] at f b
  exact hs _ _ q p (by lia) (by lia) (by lia) b f
 show wpS M A E s _ _ (setArr st (mirror (Dg st) lo (lo + n) ((lo + n - lo) / 2)))
 rw[<-h]
 refine Au (Hd (Ei (I:=fun x c st'=>setArr st ys=st'/\c=(none,x)/\cG lt ys lo (lo + x)) (Q:=fun c st'=>setArr st ys=st'/\c.1=none/\1<=c.2/\c.2<=a/\cG lt ys lo (lo + c.2)) ?_ ?_ ⟨rfl,rfl,L⟩) ?_)
 ·rintro x c st' J C ⟨rfl,rfl,hs⟩
  refine Au (u.ltw B v (by dsimp only;lia) (by dsimp only;lia) fun p q f b sp sq=>?_)
  dsimp only at f b ⊢
  refine w_ite (fun d=>Bg ⟨rfl,rfl,by dsimp only;lia,by dsimp only;lia,hs⟩) fun d=>Bg ⟨rfl,rfl,hs.snoc O T (by lia) fun H G o j=>?_⟩
  cases f.symm.trans o;cases b.symm.trans j;simpa using d
 ·rintro c st' ⟨rfl,rfl,hs⟩
  have e:max n a=a:=by lia
  rw[e] at hs ⊢
  exact⟨rfl,rfl,R,Ai _,hs⟩
 rintro⟨r,n⟩ st' ⟨rfl,t,y,w,hs⟩
 dsimp only at t y w hs ⊢
 subst t
 exact Bg (N _ _ u y w hs)
theorem HW{n ok:Nat}{Q:Bool->Cr->Prop}(hC:Cmp M A E s κ S lt)(O:Ord S lt)(h0:bV S a₀)(hT:Rn κ a₀ P b₀ lo st)(hl:lo + n<=a₀.size)(hok:1<=ok)(hon:ok<=n)(hs:cG lt (Dg st) lo (lo + ok))
  (hq:∀ st',Rn κ a₀ P b₀ lo st'->cG lt (Dg st') lo (lo + n)->Q true st'):wpS M A E s (binarySort' lo n ok) Q st:=by
 have Y:max ok 1=ok:=by lia
 refine Au (Hd (Ei (I:=fun k c st'=>Rn κ a₀ P b₀ lo st'/\c.1=none/\cG lt (Dg st') lo (lo + k)) (Q:=fun c st'=>Rn κ a₀ P b₀ lo st'/\c.1=none/\cG lt (Dg st') lo (lo + n)) ?_ (fun c st' h=>⟨h.1,h.2.1,by have:=h.2.2;rwa [Y,show max ok n=n by lia] at this⟩) ⟨hT,rfl,by rw[Y];exact hs⟩) ?_)
 ·rintro k ⟨r,u⟩ m hk hkn ⟨B,_,t⟩
  have L:=B.all h0
  have sz:=B.size
  obtain⟨xs,w⟩:∃ xs,Dg m=xs:=⟨_,rfl⟩
  rw[w] at L sz t
  obtain⟨F,H,J⟩:=L.at (i:=lo + k) (by lia)
  dsimp only
  refine Au (Hd (Ei (I:=fun x c st'=>m=st'/\c.1=none/\c.2.1<=c.2.2/\c.2.2<=k/\c.2.2 - c.2.1 + x<=k/\(∀ i p,i < c.2.1->xs[lo + i]? = some p->lt F p=false)/\(∀ i p,c.2.2<=i->i < k->xs[lo + i]? = some p->lt F p=true))
   (Q:=fun c st'=>m=st'/\c.1=none/\c.2.1<=k/\(∀ i p,i < c.2.1->xs[lo + i]? = some p->lt F p=false)/\(∀ i p,c.2.1<=i->i < k->xs[lo + i]? = some p->lt F p=true)) ?_ ?_ ⟨rfl,rfl,Co _,Ai _,by dsimp only;lia,fun i p h=>absurd h (Nat.not_lt_zero _),fun i p g W=>absurd g (by dsimp only;lia)⟩) ?_)
  ·rintro x ⟨r,l,h⟩ st' _ _ ⟨rfl,_,N,V,X,D,C⟩
   dsimp only at N V X D C ⊢
   refine w_ite (fun c=>Bg ⟨rfl,rfl,by dsimp only;lia,D,fun i p g=>C i p (by dsimp only at g;lia)⟩) fun c=>?_
   refine Au (B.ltw hC h0 (by lia) (by lia) fun p q o f sp sq=>?_)
   rw[w] at o f
   cases H.symm.trans o
   dsimp only
   refine w_ite (fun d=>Bg ⟨rfl,rfl,by dsimp only;lia,by dsimp only;lia,by dsimp only;lia,D,fun i z g W e=>?_⟩) fun d=>Bg ⟨rfl,rfl,by dsimp only;lia,V,by dsimp only;lia,fun i z g e=>?_,C⟩
   ·dsimp only at g
    rcases Lu g with rfl | g
    ·rw[f] at e;cases e;exact d
    ·cases y:lt F z with
     | true=>rfl
     | false=>rw[O.tran sq (L.get e) J (t _ _ q z (by lia) (by lia) (by lia) f e) y] at d;cases d
   ·dsimp only at g
    have d':lt F q=false:=by simpa using d
    rcases Lu (Nat.le_of_lt_succ g) with rfl | g
    ·rw[f] at e;cases e;exact d'
    ·exact O.tran (L.get e) sq J (t _ _ z q (by lia) (by lia) (by lia) e f) d'
  ·rintro c st' ⟨rfl,e,N,V,X,D,C⟩
   exact⟨rfl,e,by lia,D,fun i p g=>C i p (by lia)⟩
  ·rintro⟨r,l,h⟩ st' ⟨rfl,K,N,D,C⟩
   dsimp only at K N D C ⊢
   subst K
   have bg:=fun j=>getElem?_bubble (xs:=xs) (src:=lo + k) (by lia) (lo + k - (lo + l)) (by lia) j
   rw[show lo + k - (lo + k - (lo + l))=lo + l by lia] at bg
   obtain⟨ys,G⟩:∃ ys,ys=bubble xs (lo + k) (lo + k - (lo + l)):=⟨_,rfl⟩
   rw[<-G] at bg
   have T:Rn κ a₀ P b₀ lo (setArr m ys):=B.arr (by rw[G,w];exact bubble_perm _ _ _) fun j hj=>by rw[bg,if_neg (by lia),if_neg (by lia),w]
   refine Au (zcM (Bg ?_))
   show Rn κ a₀ P b₀ lo (setArr m (bubble (Dg m) (lo + k) (lo + k - (lo + l))))/\_/\cG lt (bubble (Dg m) (lo + k) (lo + k - (lo + l))) lo (lo + (k + 1))
   rw[w,<-G]
   refine⟨T,rfl,fun u v p q g W h3 o f=>?_⟩
   rw[bg] at o f
   have gt:∀ j z,lo + l<=j->j < lo + k->xs[j]? = some z->lt z F=false:=fun j z a b e=>O.asym J (L.get e) (C (j - lo) z (by lia) (by lia) (by rw[show lo + (j - lo)=j by lia];exact e))
   by_cases v1:v < lo + l
   ·rw[if_neg (by lia),if_neg (by lia)] at o f
    exact t u v p q g W (by lia) o f
   ·by_cases Z:v=lo + l
    ·rw[if_neg (by lia),if_neg (by lia)] at o
     rw[if_pos Z,H] at f
     cases f
     exact D (u - lo) p (by lia) (by rw[show lo + (u - lo)=u by lia];exact o)
    ·rw[if_neg Z,if_pos (by lia)] at f
     by_cases u1:u < lo + l
     ·rw[if_neg (by lia),if_neg (by lia)] at o
      exact t u (v - 1) p q g (by lia) (by lia) o f
     ·by_cases u2:u=lo + l
      ·rw[if_pos u2,H] at o
       cases o
       exact gt (v - 1) q (by lia) (by lia) f
      ·rw[if_neg u2,if_pos (by lia)] at o
       exact t (u - 1) (v - 1) p q (by lia) (by lia) (by lia) o f
 ·rintro⟨r,u⟩ st' ⟨R,K,U⟩
  dsimp only at K ⊢
  subst K
  exact Bg (hq _ R U)
end
set_option autoImplicit false
theorem zcN{n:Nat}(c:1<=n)(h:n < 128):1<=minRun' n n 0/\minRun' n n 0<=n/\n<=2 * minRun' n n 0:=by
 have key:∀ f,1<=f->64<=n->f + 1=n->minRun' (f + 1) n 0=n / 2 + n % 2:=fun f hf b e=>by
  obtain⟨g,rfl⟩:∃ g,f=g + 1:=⟨f - 1,by lia⟩
  rw[minRun'_succ,if_neg (by lia),minRun'_succ,if_pos (by lia)]
  lia
 obtain⟨f,hf⟩:∃ f,f + 1=n:=⟨n - 1,by lia⟩
 by_cases a:n < 64
 ·have:minRun' (f + 1) n 0=n:=by rw[minRun'_succ,if_pos a];rfl
  rw[hf] at this
  lia
 ·have:=key f (by lia) (by lia) hf
  rw[hf] at this
  lia
section
variable {M:Mx}{A:Bv}{E:Ac->Ah->Prop}{s:Ah}{κ:Hf}{S:Ay->Prop}{lt:Ay->Ay->Bool}{st:Cr}{a₀:Array Ay}
def One(κ:Hf)(lt:Ay->Ay->Bool)(a₀:Array Ay)(a:Nat)(st:Cr):Prop:=∃ w,Rn κ a₀ #[(0,a,w)] a₀ 0 st/\cG lt (Dg st) 0 a
def uI(κ:Hf)(lt:Ay->Ay->Bool)(a₀:Array Ay)(st:Cr):Prop:=∃ a b w c,1<=a/\1<=b/\a + b=a₀.size/\Rn κ a₀ #[(0,a,w),(a,b,c)] a₀ 0 st/\cG lt (Dg st) 0 a/\cG lt (Dg st) a (a + b)
def Dn(lt:Ay->Ay->Bool)(a₀:Array Ay)(st:Cr):Prop:=(Dg st).Perm a₀/\Hq st=none/\(Ec st).size<=1/\bE lt (Dg st).toList
theorem Rn.push{P a:Array (Nat×Nat×Nat)}{b₀:Array Ay}{lo:Nat}(h:Rn κ a₀ P b₀ lo st){st':Cr}(d:Dg st'=Dg st)(e:kindOf st'=kindOf st)(b:Hq st'=Hq st)(c:Ec st'=a):Rn κ a₀ a a₀ 0 st':=
 ⟨by rw[d];exact h.perm,e.trans h.kind,b.trans h.failed,c,fun k hk=>absurd hk (Nat.not_lt_zero _)⟩
theorem zcO{Q:Unit->Cr->Prop}(t:Cmp M A E s κ S lt)(O:Ord S lt)(C:bV S a₀)(T:∀ xs:Array Ay,xs.Perm a₀->zS lt xs)(W:2<=a₀.size)(D:a₀.size < 128)(U:Rn κ a₀ #[] a₀ 0 st)
  (Y:∀ st',(Dg st').Perm a₀->Hq st'=none->bE lt (Dg st').toList->Q () st'):wpS M A E s sortRuns' Q st:=by
 obtain⟨m1,Z,m3⟩:=zcN (n:=a₀.size) (by lia) D
 refine Au (Km ?_)
 dsimp only
 rw[U.size]
 obtain⟨o,m⟩:∃ o,minRun' a₀.size a₀.size 0=o:=⟨_,rfl⟩
 rw[m] at m1 Z m3
 unfold minRun' at m
 rw[m]
 refine Au (Hd (Ei (I:=fun x c st'=>c.1=none/\((x=0/\c.2=0/\Rn κ a₀ #[] a₀ 0 st')\/(x=1/\o<=c.2/\c.2<=a₀.size/\One κ lt a₀ c.2 st')\/(2<=x/\c.2=a₀.size/\uI κ lt a₀ st')))
  (Q:=fun c st'=>c.1=none/\(One κ lt a₀ a₀.size st'\/uI κ lt a₀ st')) ?_ ?_ ⟨rfl,.inl ⟨rfl,rfl,U⟩⟩) ?_)
 ·rintro x ⟨r,lo⟩ k _ hx ⟨j,hc⟩
  dsimp only at j hc ⊢
  subst j
  rcases hc with⟨rfl,rfl,d⟩ | ⟨rfl,k1,k2,w,d,l⟩ | ⟨k1,rfl,d⟩
  ·refine w_ite (fun c=>absurd c (by lia)) fun _=>?_
   refine Au (HV t O C T d (by lia) (by lia) fun n a b K H i=>?_)
   dsimp only
   refine w_ite (fun G=>?_) fun G=>?_
   ·refine Au (Ng (Ej ⟨rfl,?_⟩))
    refine Au (HW t O C b (by lia) K (Nat.le_min.mpr ⟨H,Ic G⟩) i fun g f B=>?_)
    refine w_ite (fun c=>absurd c (by decide)) fun _=>?_
    refine Au (Km ?_)
    have hb:(Ec g).back? = none:=by rw[f.pend];rfl
    rw[hb]
    have R:min (a₀.size - 0) o=o:=by lia
    rw[R,Fy] at B
    rw[R]
    exact Au (Hv (Bg ⟨rfl,.inr (.inl ⟨rfl,by dsimp only;lia,by dsimp only;lia,0,by
     dsimp only;rw[Fy];exact f.push rfl rfl rfl (by show(Ec g).push _=_;rw[f.pend];rfl),by dsimp only;rw[Fy];exact B⟩)⟩))
   ·refine Au (Km ?_)
    have hb:(Ec a).back? = none:=by rw[b.pend];rfl
    rw[hb]
    rw[Fy] at i
    exact Au (Hv (Bg ⟨rfl,.inr (.inl ⟨rfl,by dsimp only;lia,by dsimp only;lia,0,by
     dsimp only;rw[Fy];exact b.push rfl rfl rfl (by show(Ec a).push _=_;rw[b.pend];rfl),by dsimp only;rw[Fy];exact i⟩)⟩))
  ·refine w_ite (fun c=>Bg ⟨rfl,.inl ?_⟩) fun c1=>?_
   ·have e:lo=a₀.size:=Nat.le_antisymm k2 c
    subst e
    exact⟨w,d,l⟩
   have P:Rn κ a₀ #[(0,lo,w)] (Dg k) lo k:=⟨d.perm,d.kind,d.failed,d.pend,fun _ _=>rfl⟩
   have F:∀ (n:Nat) (a:Cr),Rn κ a₀ #[(0,lo,w)] (Dg k) lo a->n=a₀.size - lo->cG lt (Dg a) lo (lo + n)->∀ J,uI κ lt a₀ (SortSt.mk' (kindOf a) (Dg a) (((Ec a).modify ((Ec a).size - 1) fun x=>(x.1,x.2.1,J)).push (lo,n,0)) (gallopOf a) (Hq a)):=fun n a b hn i J=>by
    refine⟨lo,n,J,0,by lia,by lia,by lia,b.push rfl rfl rfl ?_,fun u v p q h1 W V N L=>?_,i⟩
    ·show((Ec a).modify ((Ec a).size - 1) fun x=>(x.1,x.2.1,J)).push (lo,n,0)=_
     rw[b.pend];rfl
    ·exact l u v p q h1 W V (by rw[<-b.left u (by lia)];exact N) (by rw[<-b.left v V];exact L)
   refine Au (HV t O C T P (by lia) (by lia) fun n a b K H i=>?_)
   dsimp only
   refine w_ite (fun G=>?_) fun G=>?_
   refine Au (Ng (Ej ⟨rfl,?_⟩))
   refine Au (HW t O C b (by lia) K (Nat.le_min.mpr ⟨H,Ic G⟩) i fun a b i=>?_)
   refine w_ite (fun c=>absurd c (by decide)) fun _=>?_
   have en:min (a₀.size - lo) o=a₀.size - lo:=by lia
   rotate_left
   have en:n=a₀.size - lo:=by lia
   all_goals
    refine Au (Km ?_)
    have hb:(Ec a).back? = some (0,lo,w):=by rw[b.pend];rfl
    rw[hb]
    dsimp only
    refine Au (Hd (Ei (I:=fun _ c st'=>c.1=none/\a=st') (Q:=fun c st'=>c.1=none/\a=st') ?_ (fun _ _ h=>h) ⟨rfl,rfl⟩) ?_)
    ·rintro y ⟨r,u⟩ g _ _ ⟨j,rfl⟩
     refine Au (Km ?_)
     have N:¬ (Ec a).size > 1:=by rw[b.pend];simp
     rw[if_neg N]
     exact Bg ⟨rfl,rfl⟩
    ·rintro⟨r,u⟩ g ⟨j,rfl⟩
     dsimp only at j ⊢
     subst j
     exact Au (Hv (Au (Hv (Bg ⟨rfl,.inr (.inr ⟨Ai _,by dsimp only;lia,F _ a b en i _⟩)⟩))))
  ·exact w_ite (fun c=>Bg ⟨rfl,.inr d⟩) fun c=>absurd (Ai _) c
 ·rintro c k ⟨j,hc⟩
  rcases hc with⟨e,_⟩ | ⟨e,_⟩ | ⟨_,_,h⟩
  ·lia
  ·lia
  ·exact⟨j,.inr h⟩
 ·rintro⟨r,lo⟩ k ⟨j,hc⟩
  dsimp only at j ⊢
  subst j
  dsimp only
  refine Au (Hd (Ei (I:=fun x c st'=>c.1=none/\(Dn lt a₀ st'\/(x=0/\uI κ lt a₀ st'))) (Q:=fun c st'=>c.1=none/\Dn lt a₀ st') ?_ ?_ ⟨rfl,?_⟩) ?_)
  ·rintro y ⟨r,u⟩ g _ _ ⟨j,hc⟩
   refine Au (Km ?_)
   rcases hc with hd | ⟨rfl,K,H,w,w',a1,a2,a3,f,s1,s2⟩
   ·exact w_ite (fun _=>Bg ⟨rfl,hd⟩) fun c=>absurd hd.2.2.1 c
   ·refine w_ite (fun c=>?_) fun c=>?_
    ·have c:(Ec g).size<=1:=c
     rw[f.pend] at c
     exact absurd c (by simp)
    ·have z:(Ec g).size - 2=0:=by rw[f.pend];rfl
     rw[z]
     simp only[gt_iff_lt,Gr,if_false,Option.any_none,Cq]
     exact Au (zcL t O f.kind (f.all C) f.pend a1 a2 (a3.trans f.size.symm) s1 s2 f.failed fun st4 e1 e2 X e4=>Bg ⟨rfl,.inl ⟨e1.trans f.perm,e2,Fo X,e4⟩⟩)
  ·rintro c g ⟨j,hc⟩
   rcases hc with h | ⟨e,_⟩
   ·exact⟨j,h⟩
   ·lia
  ·rcases hc with⟨w,d,l⟩ | h
   ·refine .inl ⟨d.perm,d.failed,by rw[d.pend];exact Ai 1,?_⟩
    rw[<-d.size] at l
    exact l.all
   ·exact .inr ⟨rfl,h⟩
  ·rintro⟨r,u⟩ g ⟨j,hd⟩
   dsimp only at j ⊢
   subst j
   exact Bg (Y _ hd.1 hd.2.1 hd.2.2.2)
end
section
variable {prog:Bl}{w:Cb}{A:Bv}{E:Ac->Ah->Prop}{s:Ah}
theorem zcP{lt:Ay->Ay->Bool}{a₀:Array Ay}(h:a₀.toList.Pairwise fun x y=>lt x y=true\/lt y x=true):∀ xs:Array Ay,xs.Perm a₀->zS lt xs:=fun xs e i j p q a c b=>by
 have d:xs.toList.Pairwise fun x y=>lt x y=true\/lt y x=true:=((Iy.mp e).pairwise_iff fun z=>z.symm).mpr h
 obtain⟨g,rfl⟩:=Cp.mp c
 obtain⟨f,rfl⟩:=Cp.mp b
 have:=Fu.mp d i j (by simpa using g) (by simpa using f) a
 simpa using this
theorem list_sort_srt{a:Addr}{vs:List Ac}{n:Nat}{P:Fin->Ah->Prop}{κ:Hf}{S:Ac->Prop}{lt:Ac->Ac->Bool}(ho:s.heap.get? a=some (Ld "list" vs.toArray n))(hz:vs.length < 128)(hS:∀ v∈vs,S v)
  (O:Ord (fun p=>S p.1) fun p q=>lt p.1 q.1) (hd:vs.Pairwise fun x y=>lt x y=true\/lt y x=true)
  (hk:∀ h',(∀ b o,b≠a->s.heap.get? b=some o->h'.get? b=some o)->(2<=vs.length->∀ Q:Hf->Ah->Prop,Q κ {s with heap:=h'}->Ax (Bk prog w) A (keyKind' vs.toArray) Q E {s with heap:=h'})/\Cmp (Bk prog w) A E {s with heap:=h'} κ (fun p=>S p.1) fun p q=>lt p.1 q.1)
  (h:∀ out:List Ac,out.Perm vs->(out.Pairwise fun x y=>lt y x=false)->P (.done (.ret .none)) {s with heap:=sortedHeap s.heap a vs out.toArray}):Ax (Bk prog w) A (Hh.«list.sort» ⟨[.ref a],[]⟩) P E s:=by
 rw[list_sort_plain]
 have hzl:vs.length<=Aj:=by rw[Hn];lia
 have la:a < s.heap.objs.size:=Ak ho
 refine Aa (listItems_at ho rfl ?_)
 refine Aa (listUpdate_at ho rfl ?_ (by simpa using hzl) (Co _))
 obtain⟨ep1,g1⟩:∃ ep1,(s.heap.update a (Gw fun _=>#[])).get? a=some (Ld "list" #[] ep1):=⟨_,get?_update_seq ho (fun _=>#[])⟩
 refine Aa (seqEpoch_at g1 rfl ?_)
 refine Aa (wpAny_newTuple ?_ (by simpa using hzl))
 refine Aa (wpAny_newList ?_ (Co _))
 refine Ct ?_
 have g6:(((s.heap.update a (Gw fun _=>#[])).push (Ld "tuple" vs.toArray 0)).push (Ld "list" #[] 0)).get? a=some (Ld "list" #[] ep1):=by
  rw[Heap.get?_push_ne _ _ _ (by rw[size_push',Heap.size_update];exact Bf (Hj la)),Heap.get?_push_ne _ _ _ (by rw[Heap.size_update];exact Bf la)]
  exact g1
 obtain⟨hk1,hk2⟩:=hk _ (fun b o hb e=>Af _ (Af _ ((Fn _ _ (Bq hb)).trans e)):∀ b o,b≠a->s.heap.get? b=some o->(((s.heap.update a (Gw fun _=>#[])).push (Ld "tuple" vs.toArray 0)).push (Ld "list" #[] 0)).get? b=some o)
 show Ax (Bk prog w) A _ P E {s with heap:=((s.heap.update a (Gw fun _=>#[])).push (Ld "tuple" vs.toArray 0)).push (Ld "list" #[] 0)}
 dsimp only
 have zl:vs.toArray.size=vs.length:=by simp
 have zz:(vs.toArray.zip vs.toArray).toList=vs.map fun v=>(v,v):=by
  rw[Array.toList_zip,List.zip_eq_zipWith]
  simp only[List.zipWith_self]
 have fin:∀ st':Cr,(Dg st').Perm (vs.toArray.zip vs.toArray)->bE (fun p q=>lt p.1 q.1) (Dg st').toList->((Dg st').map (·.2)).size<=Aj + 1/\P (.done (.ret .none)) {s with heap:=sortedHeap s.heap a vs ((Dg st').map (·.2))}:=fun st' hp hs=>by
  have hp1:=Iy.mp hp
  rw[zz] at hp1
  have hp2:((Dg st').map (·.2)).toList.Perm vs:=by
   have:=hp1.map (·.2)
   rw[Ed,show((fun x:Ay=>x.2) ∘ fun v=>(v,v))=id from rfl,List.map_id] at this
   rw[Array.toList_map]
   exact this
  have same:∀ p∈(Dg st').toList,p.1=p.2:=fun p hp'=>by
   obtain⟨v,_,rfl⟩:=Aw.mp (hp1.mem_iff.mp hp')
   rfl
  refine⟨?_,?_⟩
  ·have:=hp2.length_eq
   rw[Bx] at this
   lia
  ·have:=h _ hp2 (by
    rw[Array.toList_map,Gb]
    refine La (fun {x y} hx hy z=>?_) hs
    rw[<-same x hx,<-same y hy];exact z)
   rw[Ku] at this
   exact this
 by_cases h2:vs.toArray.size < 2
 ·rw[if_pos h2,if_pos h2]
  refine Aa (Ag ?_)
  rw[StateT.run_pure]
  refine Aa (Ag ?_)
  obtain⟨f1,f2⟩:=fin (SortSt.mk' general' (vs.toArray.zip vs.toArray) #[] 7 none) (Array.Perm.refl _) (by
   show bE _ (vs.toArray.zip vs.toArray).toList
   rw[zz]
   match vs,h2 with
   | [],_=>exact .nil
   | [v],_=>exact Ml _ _
   | _ :: _ :: r,h2=>simp at h2;lia)
  dsimp only
  refine Aa (seqEpoch_at g6 rfl ?_)
  refine Aa (listUpdate_at g6 rfl ?_ (Co _) f1)
  simp only[bne_self_eq_false,Cq,if_false]
  exact Ag f2
 ·rw[if_neg h2,if_neg h2]
  refine Aa (hk1 (by lia) _ ?_)
  have sz:(vs.toArray.zip vs.toArray).size=vs.length:=by rw[<-Bx,zz,Ab]
  refine Aa (Hw (zcO (κ:=κ) (a₀:=vs.toArray.zip vs.toArray) (st:=SortSt.mk' κ (vs.toArray.zip vs.toArray) #[] 7 none)
   (Q:=fun _ st'=>(Dg st').Perm (vs.toArray.zip vs.toArray)/\Hq st'=none/\bE (fun p q=>lt p.1 q.1) (Dg st').toList) hk2 O (fun p hp=>?_) (zcP ?_) (by lia) (by lia) ⟨Array.Perm.refl _,rfl,rfl,rfl,fun _ _=>rfl⟩ fun st' a1 a2 a3=>⟨a1,a2,a3⟩) ?_ fun _ _ e=>e)
  ·rw[zz] at hp
   obtain⟨v,hv,rfl⟩:=Aw.mp hp
   exact hS v hv
  ·rw[zz,Gb]
   exact hd
  ·rintro⟨⟨⟩,st'⟩ s' ⟨rfl,hp,hf,hs⟩
   obtain⟨f1,f2⟩:=fin st' hp hs
   dsimp only
   refine Aa (seqEpoch_at g6 rfl ?_)
   refine Aa (listUpdate_at g6 rfl ?_ (Co _) f1)
   rw[hf]
   simp only[bne_self_eq_false,Cq,if_false]
   exact Ag f2
end
end Tso
namespace L2
open PySem PySem.Spec PyProof.Rows PySem.W
def isStr:aD->Bool
 | .inl _=>false
 | .inr _=>true
def iA:aD->aD->Bool
 | .inl i,.inl j=>decide (i < j)
 | .inr x,.inr y=>decide (x.cps.toList < y.cps.toList)
 | _,_=>false
def b9:List aD->List aD->Bool
 | a :: c,b :: bs=>if a=b then b9 c bs else iA a b
 | _,_=>false
theorem zcQ{x y:Str}(h:x.cps.toList=y.cps.toList):x=y:=by
 obtain⟨⟨x⟩⟩:=x;obtain⟨⟨y⟩⟩:=y
 cases (show x=y from h);rfl
theorem zcR{a b:aD}(h:isStr a=isStr b)(c:iA a b=false)(d:iA b a=false):a=b:=by
 cases a <;> cases b <;> first | cases h | skip
 ·simp only[iA,decide_eq_false_iff_not] at c d
  congr 1;lia
 ·simp only[iA,decide_eq_false_iff_not] at c d
  congr 1
  exact zcQ (List.le_antisymm (List.not_lt.mp d) (List.not_lt.mp c))
theorem HX{a b:aD}(h:iA a b=true):iA b a=false:=by
 cases a <;> cases b <;> first | cases h | skip
 ·simp only[iA,decide_eq_true_eq,decide_eq_false_iff_not] at h ⊢
  lia
 ·simp only[iA,decide_eq_true_eq,decide_eq_false_iff_not] at h ⊢
  exact fun z=>List.lt_irrefl _ (List.lt_trans h z)
theorem zcS{a b c:aD}(h:iA a b=true)(h':iA b c=true):iA a c=true:=by
 cases a <;> cases b <;> first | cases h | skip
 all_goals cases c <;> first | cases h' | skip
 ·simp only[iA,decide_eq_true_eq] at h h' ⊢
  lia
 ·simp only[iA,decide_eq_true_eq] at h h' ⊢
  exact List.lt_trans h h'
theorem uJ:∀ {a b:List aD},a.map isStr=b.map isStr->b9 a b=false->b9 b a=false->a=b
 | [],[],_,_,_=>rfl
 | [],_ :: _,h,_,_=>by simp at h
 | _ :: _,[],h,_,_=>by simp at h
 | a :: f,b :: bs,h,c,d=>by
  rw[Ar,Ar,Cy] at h
  by_cases e:a=b
  ·subst e
   simp only[b9,if_true] at c d
   rw[uJ h.2 c d]
  ·simp only[b9,if_neg e,if_neg (Bq e)] at c d
   exact absurd (zcR h.1 c d) e
theorem HY:∀ {a b:List aD},b9 a b=true->b9 b a=false
 | [],_,h=>by simp[b9] at h
 | _ :: _,[],h=>by simp[b9] at h
 | a :: c,b :: bs,h=>by
  by_cases e:a=b
  ·subst e
   simp only[b9,if_true] at h ⊢
   exact HY h
  ·simp only[b9,if_neg e,if_neg (Bq e)] at h ⊢
   exact HX h
theorem HZ:∀ {a b c:List aD},b9 a b=true->b9 b c=true->b9 a c=true
 | [],_,_,h,_=>by simp[b9] at h
 | _ :: _,[],_,h,_=>by simp[b9] at h
 | _ :: _,_ :: _,[],_,h=>by simp[b9] at h
 | a :: d,b :: bs,c :: cs,h,h'=>by
  by_cases e:a=b
  ·subst e
   by_cases f:a=c
   ·subst f
    simp only[b9,if_true] at h h' ⊢
    exact HZ h h'
   ·simp only[b9,if_neg f] at h' ⊢
    exact h'
  ·simp only[b9,if_neg e] at h
   by_cases f:b=c
   ·subst f
    simp only[b9,if_neg e]
    exact h
   ·simp only[b9,if_neg f] at h'
    have g:a≠c:=fun z=>by subst z;rw[HX h] at h';cases h'
    simp only[b9,if_neg g]
    exact zcS h h'
theorem zcT{x y z:List aD}(b:x.map isStr=y.map isStr)(c:b9 y x=false)(a:b9 z y=false):b9 z x=false:=by
 cases h:b9 z x with
 | false=>rfl
 | true=>
  cases g:b9 x y with
  | true=>rw[HZ h g] at a;cases a
  | false=>rw[uJ b g c] at h;rw[h] at a;cases a
def gS(h:Heap)(k:List aD)(v:Ac):Prop:=∃ b o xs n,v=.ref b/\h.get? b=some o/\o.cls=.type "tuple"/\o.data=.seq xs n/\aR (k.map kV) xs.toList
theorem IA:∀ {k l:List aD} {us:List Ac},aR (k.map kV) us->aR (l.map kV) us->k=l
 | [],[],_,_,_=>rfl
 | [],_ :: _,_,h,g=>by cases h;cases g
 | _ :: _,[],_,h,g=>by cases g;cases h
 | a :: k,b :: l,_,.cons f i,.cons d c=>by
  have:a=b:=by
   cases a <;> cases b <;> obtain⟨t,rfl⟩:=f <;> obtain⟨t',e⟩:=d <;> first | cases e;rfl | cases e
  rw[this,IA i c]
theorem gS.inj{h:Heap}{k l:List aD}{v:Ac}(a:gS h k v)(b:gS h l v):k=l:=by
 obtain⟨p,o,xs,n,rfl,j,s,f,i⟩:=a
 obtain⟨u,r,m,q,g,c,t,d,e⟩:=b
 cases g
 rw[j] at c
 cases c
 rw[f] at d
 cases d
 exact IA i e
noncomputable def qV(h:Heap)(x y:Ac):Bool:=@decide (∃ k l,gS h k x/\gS h l y/\b9 k l=true) (Classical.propDecidable _)
theorem lE{h:Heap}{x y:Ac}{k l:List aD}(a:gS h k x)(b:gS h l y):qV h x y=b9 k l:=by
 unfold qV
 rw[Es,@decide_eq_true_eq _ (Classical.propDecidable _)]
 exact⟨fun⟨g,f,d,c,e⟩=>by rw[a.inj d,b.inj c];exact e,fun e=>⟨k,l,a,b,e⟩⟩
section
variable {prog:Bl}{w:Cb}{A:Bv}{E:Ac->Ah->Prop}{s:Ah}
theorem zT{b:Bool}{Q:Bool->Ah->Prop}:∀ (k l:List aD) (xs ys:List Ac) (i:Nat),k.map isStr=l.map isStr->aR (k.map kV) xs->aR (l.map kV) ys->Q (b9 k l) s->KatLex prog w A b false Q (xs.zip ys) i s
 | [],[],_,_,_,_,.nil,.nil,h=>h
 | [],_ :: _,_,_,_,e,_,_,_=>by simp at e
 | _ :: _,[],_,_,_,e,_,_,_=>by simp at e
 | .inl x :: k,.inr y :: l,_,_,_,e,_,_,_=>by simp[isStr] at e
 | .inr x :: k,.inl y :: l,_,_,_,e,_,_,_=>by simp[isStr] at e
 | .inr x :: k,.inr y :: l,_,_,i,e,.cons hx rx,.cons hy ry,h=>by
  obtain⟨t,rfl⟩:=hx
  obtain⟨u,rfl⟩:=hy
  rw[Ar,Ar,Cy] at e
  refine kat_cons (wpAny_eqBool_str (kat_go (fun z=>kat_yes (zT k l _ _ (i + 1) e.2 rx ry ?_)) fun z=>kat_no ?_))
  ·have z:x=y:=by simpa using z
   simp only[b9,z,if_true] at h;exact h
  ·have z:¬ (Sum.inr x:aD)=Sum.inr y:=fun q=>by cases q;simp at z
   simp only[b9,if_neg z] at h
   cases hb:(b && i == 0) with
   | true=>exact strKind_oneLt prog w A _ s (.str x t) (.str y u) _ _ rfl rfl h
   | false=>exact kat_one _ _ (PyProof.Rows.lt_str h)
 | .inl x :: k,.inl y :: l,_,_,i,e,.cons hx rx,.cons hy ry,h=>by
  obtain⟨t,rfl⟩:=hx
  obtain⟨u,rfl⟩:=hy
  rw[Ar,Ar,Cy] at e
  refine kat_cons (Ju (kat_go (fun z=>kat_yes (zT k l _ _ (i + 1) e.2 rx ry ?_)) fun z=>kat_no ?_))
  ·have z:x=y:=by simpa using z
   simp only[b9,z,if_true] at h;exact h
  ·have z:¬ (Sum.inl x:aD)=Sum.inl y:=fun q=>by cases q;simp at z
   simp only[b9,if_neg z] at h
   cases hb:(b && i == 0) with
   | true=>exact oneLt_int h
   | false=>exact kat_one _ _ (Mi h)
theorem zcU{sh:List Bool}{c:Heap}{S:Ac->Prop}(e:∀ v,S v->∃ k,gS c k v/\gS s.heap k v/\k.map isStr=sh):Tso.Cmp (Bk prog w) A E s (tuples' true) (fun p=>S p.1) fun p q=>qV c p.1 q.1:=by
 rintro⟨x,p⟩ ⟨y,q⟩ st Q D F hk b
 obtain⟨k,u,G,h⟩:=e x D
 obtain⟨l,I,B,i⟩:=e y F
 replace b:Q (some (qV c x y)) st:=b
 rw[lE u I] at b
 obtain⟨a,o,xs,n,rfl,C,M,r,g⟩:=G
 obtain⟨L,K,d,N,rfl,H,J,m,f⟩:=B
 rw[lt'_eq]
 refine Au (Km ?_)
 rw[hk]
 refine Au (Ng (Kd (kat_lt C r H m ?_)))
 have z:decide (xs.size < d.size)=false:=by
  have t:=g.length
  have j:=f.length
  have O:k.length=l.length:=by have:=congrArg Bb (h.trans i.symm);simpa using this
  simp at t j
  rw[decide_eq_false_iff_not];lia
 rw[z]
 exact zT k l _ _ 0 (h.trans i.symm) g f ⟨rfl,Bg b⟩
theorem zcV{sh:List Bool}{vs:List Ac}{Q:Hf->Ah->Prop}(g:0 < vs.length)(d:∀ v∈vs,∃ k,gS s.heap k v/\k.map isStr=true :: sh)(h:Q (tuples' true) s):Ax (Bk prog w) A (keyKind' vs.toArray) Q E s:=by
 obtain⟨fs,hl,hf,ht⟩:∃ fs:List Ac,fs.length=vs.length/\KatTups s.heap vs fs/\∀ f∈fs,∃ x t,f=.str x t:=by
  clear g h
  induction vs with
  | nil=>exact⟨[],rfl,.nil,fun _ z=>nomatch z⟩
  | cons v vs u=>
   obtain⟨fs,q,i,m⟩:=u fun v b=>d v (Bd _ b)
   obtain⟨k,⟨a,o,xs,n,rfl,j,g,l,c⟩,hk⟩:=d v Bi
   obtain⟨x,t,r,p⟩:∃ x t r,xs.toList=.str x t :: r:=by
    match k,hk,c with
    | .inr x :: k,_,c=>
     cases e:xs.toList with
     | nil=>rw[e] at c;cases c
     | cons v r=>
      rw[e] at c
      cases c with
      | cons d _=>obtain⟨t,rfl⟩:=d;exact⟨x,t,r,rfl⟩
   refine⟨.str x t :: fs,by simp[q],.cons j g l (by rw[<-Du,p];rfl) i,fun f hf=>?_⟩
   rcases Az.mp hf with rfl | hf
   ·exact⟨x,t,rfl⟩
   ·exact m f hf
 refine kat_kind (T:=.type "str") hf (by lia) (fun v b=>?_) rfl (by rw[show(Value.type "str" != Value.type "tuple")=true from by first | rfl | decide];exact h)
 obtain⟨x,t,rfl⟩:=ht v b
 exact .of_pure rfl
end
theorem zcW{α β:Type}{f:α->β}{out m:List β}(h:out.Perm m):∀ l:List α,m=l.map f->∃ l':List α,l'.Perm l/\out=l'.map f:=by
 induction h with
 | nil=>intro l e;cases l with
  | nil=>exact⟨[],.nil,rfl⟩
  | cons _ _=>cases e
 | cons x _ ih=>intro l e;cases l with
  | nil=>cases e
  | cons y l=>
   obtain⟨e1,e2⟩:=List.cons.inj e
   obtain⟨l',h1,h2⟩:=ih l e2
   exact⟨y :: l',h1.cons y,by rw[Ar,<-h2,<-e1]⟩
 | swap x y r=>
  intro l e
  match l,e with
  | a :: b :: l,e=>
   simp only[Ar,Cy] at e
   obtain⟨e1,e2,e3⟩:=e
   exact⟨b :: a :: l,List.Perm.swap a b l,by simp only[Ar,e1,e2,e3]⟩
 | trans _ _ ih1 ih2=>
  intro l e
  obtain⟨l1,h1,h2⟩:=ih2 l e
  obtain⟨l2,h3,h4⟩:=ih1 l1 h2
  exact⟨l2,h3.trans h1,h4⟩
theorem zcX{P:Bl}{w:Cb}{H:Hp}{h:Heap}{b:Addr}{ks:List aD}(ok:cM P w H h)(e:H b=some (.tup (ks.map kV))):gS h ks (.ref b):=by
 obtain⟨_,its,r,o,a,d,n,c⟩:=(show cN P w H h b (.tup (ks.map kV)) from ok b _ e)
 exact⟨b,o,its.toArray,n,rfl,a,d,c,by simpa using r⟩
section
variable {X:Cx}
theorem zcY{P:Bl}{w:Cb}{H:Hp}{h:Heap}{a:Addr}{ks:List (List aD×V)}(ok:cM P w H h)(e:Rd H a (.dT ks)) :
  ∃ es ep,∃ L:List (List aD×Addr),jW h a es ep/\(a == Gp)=false/\es.size=L.length/\L.length<=Aj/\L.map Dh=ks.map Dh/\(∀ (i:Nat) (en:Ie),es[i]? = some en->∃ q,L[i]? = some q/\en.key=.ref q.2)/\∀ q∈L,H q.2=some (.tup (q.1.map kV)):=by
 obtain⟨hz,k,xs,b,o,es,ep,p,u,r,g,m⟩:=(show cN P w H h a (.dT ks) from vN ok e)
 have l:=Nx g
 have n:=Eo b
 refine⟨es,ep,xs.map fun x=>(x.1,x.2.1),⟨o,p,u,r⟩,k,by rw[Ab];lia,by rw[Ab];lia,?_,fun i en c=>?_,?_⟩
 ·clear g m l n hz e
  induction b with
  | nil=>rfl
  | cons d t j=>simp only[Ar] at j ⊢;rw[d.1,j]
 ·rw[entry_at g i] at c
  obtain⟨x,s,rfl⟩:=Bn.mp c
  exact⟨(x.1,x.2.1),by rw[Bh,s];rfl,rfl⟩
 ·clear g m l n hz e
  induction b with
  | nil=>exact fun q z=>nomatch z
  | cons d t j=>
   intro q f
   rw[Ar] at f
   rcases Az.mp f with rfl | f
   ·rw[<-d.1];exact d.2.1
   ·exact j q f
def mF(l:List (List aD)):Prop:=l.Pairwise fun x y=>b9 y x=false
theorem zcZ(hc:X.calm=true):cU X (.builtin "sorted") (fun xs H Q=>∃ (d:Addr) (ks:List (List aD×V)) (sh:List Bool),xs=[.ref d]/\Rd H d (.dT ks)/\(∀ p∈ks,p.1.map isStr=true :: sh)/\(ks.map Dh).Nodup/\ks.length < 128/\
  ∀ L:List (List aD×Addr),(L.map Dh).Perm (ks.map Dh)->mF (L.map Dh)->(∀ q∈L,H q.2=some (.tup (q.1.map kV)))->∀ p,H p=none->Q (.ref p) (aN H p (.lst (L.map fun q=>V.ref q.2)))):=by
 intro P s σ H xs us Q I r h
 obtain⟨d,ks,sh,rfl,hd,hsh,hnd,U,q⟩:=h
 obtain⟨u,rfl,ru⟩:=vals1 r
 cases ru
 obtain⟨es,ep,L,hat,hne,hsz,hz,c,R,hL⟩:=zcY I.hok hd
 refine Calls.call_function_entry kind_sorted plain_sorted entry_sorted (args_sorted1 _) ?_
 unfold Hh.«sorted»
 refine Aa (m:=checkCount "sorted" 1 1 _) (Ag (Aa (PySem.W.kdu_collect (A:=X.A.in1) (TF (ep:=ep) (es:=es) hne) (I.ok.hd hc) hat (by rw[hsz];exact hz) fun h' tk acc hk t=>?_)))
 have C:acc.toList=L.map fun q=>Value.ref q.2:=by
  refine List.ext_getElem? fun i=>?_
  rw[Du,Bh]
  by_cases hi:i < es.size
  ·obtain⟨j,hq1,hq2⟩:=R i es[i] (by simp[hi])
   obtain⟨v,w⟩:∃ v,acc[i]? = some v:=⟨_,getElem?_pos acc i (by rw[t.1];exact hi)⟩
   obtain⟨en,he,rfl⟩:=t.2 i v w
   have:en=es[i]:=by simpa [hi] using he.symm
   rw[w,hq1,this,hq2]
   rfl
  ·rw[getElem?_neg acc i (by rw[t.1];exact hi),Il (by lia)]
   rfl
 have I1:Inv X P σ H {s with heap:=h',toks:=tk}:=I.kept (t':=tk) hk
 have hLl:L.length=ks.length:=by have:=congrArg Bb c;simpa using this
 have hlz:acc.toList.length < 128:=by rw[C,Ab,hLl];exact U
 have B:∀ j∈L,gS h' j.1 (.ref j.2)/\j.1.map isStr=true :: sh:=fun j Y=>by
  refine⟨zcX I1.hok (hL j Y),?_⟩
  have hm:j.1∈ks.map Dh:=by rw[<-c];exact Gj Y
  obtain⟨p',a,hpe⟩:=Aw.mp hm
  rw[<-hpe];exact hsh p' a
 refine Aa (wpAny_newList ?_ (by rw[Hn];lia))
 have ho:(h'.push (Ld "list" acc.toList.toArray 0)).get? h'.objs.size=some (Ld "list" acc.toList.toArray 0):=Ap _ rfl
 have at_:∀ v∈acc.toList,∃ k,gS h' k v/\k.map isStr=true :: sh:=fun v w=>by
  rw[C] at w
  obtain⟨j,Y,rfl⟩:=Aw.mp w
  exact⟨j.1,B j Y⟩
 have T:∀ {Z:Heap},(∀ b o,b≠h'.objs.size->(h'.push (Ld "list" acc.toList.toArray 0)).get? b=some o->Z.get? b=some o)->∀ v∈acc.toList,∃ k,gS h' k v/\gS Z k v/\k.map isStr=true :: sh:=fun {Z} D v w=>by
  obtain⟨k,a1,a2⟩:=at_ v w
  obtain⟨b,o,its,n,e1,e2,e3,e4,e5⟩:=id a1
  exact⟨k,a1,⟨b,o,its,n,e1,D b o (Bf (Ak e2)) (Af _ e2),e3,e4,e5⟩,a2⟩
 refine Aa (Ct (De slot_list_sort ⟨_,ho,rfl⟩ entry_list_sort (Tso.list_sort_srt (κ:=tuples' true) (S:=fun v=>v∈acc.toList) (lt:=qV h') ho hlz (fun v w=>w) ⟨fun {x y} J K e=>?_,fun {x y z} J K hz e f=>?_⟩ ?_
  (fun Z D=>⟨fun h2' Q' G=>zcV (sh:=sh) (by lia) (fun v w=>by obtain⟨k,_,a2,a3⟩:=T D v w;exact⟨k,a2,a3⟩) G,zcU (T D)⟩) fun out hp hs=>⟨_,rfl,?_⟩) (args_list_sort _)))
 ·obtain⟨k,O,k2⟩:=at_ _ J
  obtain⟨l,N,l2⟩:=at_ _ K
  rw[lE O N] at e
  rw[lE N O]
  exact HY e
 ·obtain⟨k,O,k2⟩:=at_ _ J
  obtain⟨l,N,l2⟩:=at_ _ K
  obtain⟨m,m1,m2⟩:=at_ _ hz
  rw[lE N O] at e
  rw[lE m1 N] at f
  rw[lE m1 O]
  exact zcT (k2.trans l2.symm) e f
 ·rw[C,Gb]
  have nd:(L.map Dh).Nodup:=by rw[c];exact hnd
  rw[List.Nodup,Gb] at nd
  refine La (fun {x y} J K z=>?_) nd
  obtain⟨a1,a2⟩:=B x J
  obtain⟨b1,b2⟩:=B y K
  rw[lE a1 b1,lE b1 a1]
  cases g:b9 x.1 y.1 with
  | true=>exact .inl rfl
  | false=>
   cases g2:b9 y.1 x.1 with
   | true=>exact .inr rfl
   | false=>exact absurd (uJ (a2.trans b2.symm) g g2) z
 rw[C] at hp
 obtain⟨E,a,rfl⟩:=zcW hp L rfl
 obtain⟨e,he⟩:=sortedHeap_at (out:=(E.map fun q=>Value.ref q.2).toArray) ho
 have F:E.length=L.length:=a.length_eq
 have vals:aR (E.map fun q=>V.ref q.2) (E.map fun q=>Value.ref q.2):=by
  clear he F a hp hs
  induction E with
  | nil=>exact .nil
  | cons z l ih=>exact .cons rfl ih
 have hs':mF (E.map Dh):=by
  unfold mF
  rw[Gb] at hs ⊢
  refine La (fun {x y} J K z=>?_) hs
  rw[lE (B y (a.mem_iff.mp K)).1 (B x (a.mem_iff.mp J)).1] at z
  exact z
 refine Ag ⟨_,rfl,.ref h'.objs.size,_,I1.laid (o:=.lst (E.map fun q=>V.ref q.2)) (t':=tk) (fun b o eb=>?_) (Ai _) ⟨by rw[Ab,F];exact hz,E.map fun q=>Value.ref q.2,e,vals,he⟩,rfl,q E (by rw[<-c];exact a.map _) hs' (fun j G=>hL j (a.mem_iff.mp G)) _ I1.fresh⟩
 have M:b < h'.objs.size:=Ak eb
 exact(sortedHeap_old (Bf M) (by rw[Ds];exact Hj M)).trans (Af _ eb)
end
end L2
namespace L3
open PySem PySem.Spec PyProof.Rows L2
section
variable {X:Cx}
def zc0(kvs:List (List aD×W)):W->Mm->Prop
 | .ref a,M=>M a=some (.dT kvs)
 | .dt k,_=>k=kvs
 | .ft k,_=>k=kvs
 | _,_=>False
def zU:List W->Mm->K3->Prop:=fun ws M R=>∃ x kvs sh,ws=[x]/\zc0 kvs x M/\(∀ p∈kvs,p.1.map isStr=true :: sh)/\(kvs.map Dh).Nodup/\kvs.length < 128/\∀ L:List (List aD),L.Perm (kvs.map Dh)->mF L->aQ (L.map fun k=>.tup (k.map wK)) M R
theorem IC(hc:X.calm=true):cU X (.builtin "sorted") (gC X.K zU):=by
 rintro c s E H xs us Q I rs ⟨ws,M,R,t,j,⟨x,kvs,sh,rfl,hd,g,i,u,r⟩,k⟩
 obtain⟨v,rfl,J⟩:=j.one
 obtain⟨a,ks,rfl,F,b⟩:∃ a ks,v=.ref a/\Rd H a (.dT ks)/\ks.map Dh=kvs.map Dh:=by
  cases J <;> first | exact(show False from hd).elim | skip
  case ref a=>obtain⟨ks,f,q⟩:=t _ _ (show M a=_ from hd);exact⟨a,ks,rfl,.inl f,q.keys⟩
  case dt a ks k e n b q=>cases (show k=kvs from hd);exact⟨a,ks,rfl,.inl e,b⟩
  case ft a o ks k e b q=>cases (show k=kvs from hd);exact⟨a,ks,rfl,.inr ⟨o,e⟩,b⟩
 refine zcZ hc c s E H _ us Q I rs ⟨a,ks,sh,rfl,F,fun p d=>?_,by rw[b];exact i,by have:=congrArg Bb b;simp at this;lia,fun L d hs m p h=>?_⟩
 ·have G:p.1∈kvs.map Dh:=by rw[<-b];exact Gj d
  obtain⟨A,D,C⟩:=Aw.mp G
  rw[<-C]
  exact g A D
 ·have B:aL X.K H M (L.map fun q=>V.ref q.2) ((L.map Dh).map fun k=>W.tup (k.map wK)):=by
   clear d hs
   induction L with
   | nil=>exact .nil
   | cons z l y=>exact .cons (.tup (m z Bi) (EF z.1)) (y fun q w=>m q (Bd _ w))
  exact iH t k h B (r (L.map Dh) (by rw[<-b];exact d) hs)
theorem zc1{sh:List Bool}{a b:List (List aD)}(c:a.Perm b)(ha:mF a)(hb:mF b)(hs:∀ k∈a,k.map isStr=sh):a=b:=
 List.Perm.eq_of_pairwise (le:=fun x y=>b9 y x=false) (fun x y e f d g=>uJ ((hs x e).trans (hs y (c.mem_iff.mpr f)).symm) g d) ha hb c
end
end L3
namespace L2
open PySem PySem.Spec PyProof.Rows
section
variable {X:Cx}{a:Expr}{ta:TA}{p p2 pos pos2:Pos}
def zc2(ta:TA):TE:=fun b H Q=>ta b H fun vs a=>∃ n:Nat,vs=[.int n]/\n<=1000/\∀ q,a q=none->Q (.ref q) (aN a q (.lst ((Ce n).map fun(i:Nat)=>V.int i)))
theorem zc3(hc:X.calm=true)(hg:Gl X "list")(hm:X.mg "list" = none)(hg2:Gl X "range")(hm2:X.mg "range" = none)(ha:PA X [a] ta)
  (hs1:Bj [.Call (.Name "range" p2) [a] [] pos2] X.env=[(false,eval (.Call (.Name "range" p2) [a] [] pos2) X.env)]:=by rfl) (hs2:Bj [a] X.env=[(false,eval a X.env)]:=by rfl) :
  PE X (.Call (.Name "list" p) [.Call (.Name "range" p2) [a] [] pos2] [] pos) (zc2 ta):=by
 intro pins s σ H Q I h
 refine Fh (i9 I hg hm (by decide +kernel:Cv "list" = some (.type "list")) (Dv ?_ hs1 rfl))
 rw[hs1]
 refine Calls.spliced_cons (Fh (i9 I hg2 hm2 (by decide +kernel:Cv "range" = some (.type "range")) (Dv (aZ (ha pos2 pins s σ H _ I h) fun us s1 ⟨vs,H1,I1,r1,q1⟩=>?_) hs2 rfl)))
 obtain⟨n,rfl,hn,q⟩:=q1
 obtain⟨u,rfl,ru⟩:=vals1 r1
 obtain⟨t,rfl⟩:=ru
 refine call_range_1 (Calls.spliced_nil ?_)
 have sz:Builtin.Range.rangeSize 0 (n:Int) 1=(n:Nat):=by rw[rangeSize_one];split <;> lia
 refine call_list_range (n:=n) (b:=(n:Int)) (I1.ok.hd hc) (IsRange.new _ _ _ _ _ _ _) (PySem.small_one (by decide) (by decide) (by lia) (by lia)) sz (by lia) fun h' tk acc c hk hS hacc=>?_
 have up:∀ b o,s1.heap.get? b=some o->h'.get? b=some o:=fun b o e=>hk b o (Af _ e)
 have ez:(s1.heap.push {cls:=.type "range",data:=.fields #[.int 0 0,.int (n:Int) t,.int 1 0]}).objs.size=s1.heap.objs.size + 1:=Ds _ _
 refine⟨.ref _,_,I1.laid (o:=.lst ((Ce n).map fun(i:Nat)=>V.int i)) (t':=tk) up ?_ ⟨by simp[Hn];lia,acc.toList,c,?_,by rw[Ku];exact hS⟩,rfl,q _ (I1.hok.fresh ?_)⟩
 ·first | exact Ic (Lr (Hy _) (Ds _ _).symm) | (rw[Ds];exact Kz _)
 ·refine vZ (by simp[hacc.1]) fun j v hv=>?_
  have hv':acc[j]? = some v:=by simpa using hv
  obtain⟨t',rfl⟩:=hacc.2 j v hv'
  have hj:j < n:=by have:=(Cp.mp hv').1;rw[hacc.1] at this;exact this
  refine⟨.int j,?_,t',by simp⟩
  simp[hj]
 ·first | exact Ic (Lr (Hy _) (Ds _ _).symm) | (rw[Ds];exact Kz _)
end
end L2
namespace L3
open PySem PySem.Spec PyProof.Rows L2
section
variable {X:Cx}{a:Expr}{ta:aS}
def ID(ta:aS):aS:=fun a M R=>ta a M fun w M1=>∃ n:Nat,w=.int n/\n<=1000/\aQ ((Ce n).map fun(i:Nat)=>W.int i) M1 R
theorem zc4{p p2 pos pos2:Pos}(hg:Gl X "list")(hm:X.mg "list" = none)(hg2:Gl X "range")(hm2:X.mg "range" = none)(ha:E3 X a ta)(hc:X.calm=true:=by rfl)
  (hs1:Bj [.Call (.Name "range" p2) [a] [] pos2] X.env=[(false,eval (.Call (.Name "range" p2) [a] [] pos2) X.env)]:=by rfl) (hs2:Bj [a] X.env=[(false,eval a X.env)]:=by rfl) :
  E3 X (.Call (.Name "list" p) [.Call (.Name "range" p2) [a] [] pos2] [] pos) (ID ta):=
 (zc3 hc hg hm hg2 hm2 (aC ha aJ (by rw[hs2];rfl)) hs1 hs2).weak fun σ H Q z0=>z0.el fun τ M R as am h k=>⟨τ,M,fun ws M1=>∃ n:Nat,ws=[.int n]/\n<=1000/\aQ ((Ce n).map fun(i:Nat)=>W.int i) M1 R,as,am,(show aB ta aE τ M _ from(show ta τ M _ from by
  refine(id h:ta τ M _) |> fun z=>?_
  exact Eq.mp (congrArg (ta τ M) (funext fun w=>funext fun M1=>propext ⟨fun⟨n,e,r⟩=>⟨n,by rw[e],r⟩,fun⟨n,e,r⟩=>⟨n,(List.cons.inj e).1,r⟩⟩)) z)),fun vs H1 ws M1 k1 am1 ax ⟨n,e,hn,r⟩=>by
  subst e
  obtain⟨v,rfl,av⟩:=ax.one
  obtain rfl:=av.inv
  refine⟨n,rfl,hn,fun q hq=>iH am1 (k.kp k1) hq ?_ r⟩
  have:∀ l:List Nat,aL X.K H1 M1 (l.map fun(i:Nat)=>V.int i) (l.map fun(i:Nat)=>W.int i):=by
   intro l
   induction l with
   | nil=>exact .nil
   | cons i r ih=>exact .cons (.int _) ih
  exact this _⟩
end
end L3
namespace Rg
open PySem PySem.Spec PyProof.Rows L2 L3
def NM:List Str:=["S","A","BB","C_1"]
def W3:List Str:=["a","b","cat"]
def W4:List Str:=["a","b","cat","dog"]
def isN(t:Str):Bool:=decide (t∈NM)
theorem zV{t:Str}(h:t∈W4):isN t=false:=by
 have:∀ t∈W4,isN t=false:=by decide +kernel
 exact this t h
theorem nI{t:Str}(h:t∈W3):t∈W4:=by
 have:∀ t∈W3,t∈W4:=by decide +kernel
 exact this t h
structure gT(rs:List aY):Prop where
 ne:rs≠[]
 few:rs.length<=8
 nm:∀ r∈rs,r.name∈NM
 fp:∀ r∈rs,r.parts.length<=4
 prt:∀ r∈rs,∀ t∈r.parts,t∈W3\/(t∈NM/\∃ q∈rs,q.name=t)
 lo:∀ r∈rs,0<=r.cost
 hi:∀ r∈rs,r.cost < 10 ^ 60
structure Rw(row:List Str):Prop where
 few:row.length<=6
 wd:∀ t∈row,t∈W4
def lF(rs:List aY)(t:Str):Bool:=decide (t∈namesOf rs)
theorem IE{rs:List aY}{t:Str}:lF rs t=true↔∃ r∈rs,r.name=t:=by
 unfold lF;rw[decide_eq_true_eq,EM]
theorem gT.own{rs:List aY}(g:gT rs){r:aY}(c:r∈rs){t:Str}(ht:t∈r.parts):lF rs t=isN t:=by
 rcases g.prt r c t ht with h | ⟨b,d⟩
 ·rw[zV (nI h)]
  cases z:lF rs t with
  | false=>rfl
  | true=>
   obtain⟨q,a,rfl⟩:=IE.mp z
   have:=zV (nI h)
   unfold isN at this
   rw[decide_eq_true (g.nm q a)] at this;cases this
 ·rw[IE.mpr d];unfold isN;rw[decide_eq_true b]
def mG(a:List Str)(t:Str)(p:Int):List (Int×Int):=if 0<=p/\a[p.toNat]? = some t then [(p + 1,0)] else []
def e8(rs:List aY)(a:List Str):Sr:=⟨rs,lF rs,(Ce (a.length + 1)).map fun(i:Nat)=>(i:Int),mG a,fun _=>0⟩
theorem uK{a:List Str}{t:Str}{p e c:Int}:(e,c)∈mG a t p↔0<=p/\a[p.toNat]? = some t/\e=p + 1/\c=0:=by
 unfold mG
 split
 ·rename_i h;simp[h]
 ·rename_i h
  simp only[Ex,false_iff]
  exact fun z=>h ⟨z.1,z.2.1⟩
theorem zW{n:Nat}{p:Int}:p∈((Ce (n + 1)).map fun(i:Nat)=>(i:Int))↔0<=p/\p<=n:=by
 rw[Aw]
 constructor
 ·rintro⟨i,hi,rfl⟩
  have:=Eh.mp hi
  lia
 ·intro h
  exact⟨p.toNat,Eh.mpr (by lia),by lia⟩
inductive Rc(row:List Str)(K:b5->Prop)(b:Int):List Str->Int->Prop
 | nil:Rc row K b [] b
 | word {ps:List Str} {m:Int} {t:Str}:Rc row K b ps m->isN t=false->0<=m->row[m.toNat]? = some t->Rc row K b (ps ++ [t]) (m + 1)
 | name {ps:List Str} {m e:Int} {t:Str}:Rc row K b ps m->isN t=true->m<=e->e<=row.length->K (t,m,e)->Rc row K b (ps ++ [t]) e
theorem Rc.mono{g:List Str}{K j:b5->Prop}(h:∀ f,K f->j f){b e:Int}{ps:List Str}(r:Rc g K b ps e):Rc g j b ps e:=by
 induction r with
 | nil=>exact .nil
 | word _ a b c i=>exact .word i a b c
 | name _ a b c d i=>exact .name i a b c (h _ d)
theorem Rc.in_{a:List Str}{K:b5->Prop}{b e:Int}{ps:List Str}(hb:0<=b/\b<=a.length)(r:Rc a K b ps e):b<=e/\e<=a.length:=by
 induction r with
 | nil=>exact⟨Nu _,hb.2⟩
 | word _ _ d c f=>
  have:=(Ao.mp c).1
  lia
 | name _ _ d c _ f=>lia
def kG(rs:List aY)(a:List Str)(f:b5):Prop:=∃ n b c,DI (e8 rs a) n b c/\dA (e8 rs a) n b=none/\f=cI (e8 rs a) n b
theorem zX{rs:List aY}{a:List Str}{n:Nat}{b:List Int}{r:aY}(h:rs[n]? = some r):dA (e8 rs a) n b=r.parts[b.length - 1]?:=part_of (G:=e8 rs a) h
theorem IF(l:List Int)(z:Int):(l ++ [z]).getLastD 0=z:=by simp[Jl]
theorem zc5{rs:List aY}{i:List Str}(g:gT rs){n:Nat}{r:aY}(u:rs[n]? = some r){b:Int}(hb:0<=b/\b<=i.length){ps:List Str}{e:Int}(h:Rc i (kG rs i) b ps e) :
  ∀ k,ps=r.parts.take k->k<=r.parts.length->∃ a c,DI (e8 rs i) n a c/\a.length=k + 1/\a.headD 0=b/\a.getLastD 0=e:=by
 have s:r∈rs:=Be u
 have step:∀ {k:Nat} {ps:List Str} {t:Str},ps ++ [t]=r.parts.take k->k<=r.parts.length->∃ j,k=j + 1/\ps=r.parts.take j/\r.parts[j]? = some t:=fun {k ps t} f o=>by
  have hl:ps.length + 1=k:=by have:=congrArg Bb f;simp at this;lia
  refine⟨ps.length,hl.symm,?_,?_⟩
  ·have:=congrArg (List.take ps.length) f
   rw[List.take_left,List.take_take,Nd (by lia)] at this
   exact this
  ·have:=congrArg (fun l=>l[ps.length]?) f
   simp only[List.getElem?_concat_length] at this
   rw[List.getElem?_take_of_lt (by lia)] at this
   exact this.symm
 have snoc:∀ {a:List Int} {z:Int},a≠[]->(a ++ [z]).headD 0=a.headD 0/\(a ++ [z]).getLastD 0=z:=fun {a z} h=>by
  cases a with
  | nil=>exact absurd rfl h
  | cons x a=>exact⟨rfl,IF _ _⟩
 induction h with
 | nil=>
  intro k f o
  have:k=0:=by have:=congrArg Bb f;rw[Cf,List.length_nil] at this;lia
  subst this
  exact⟨[b],_,.start u (zW.mpr hb),rfl,rfl,rfl⟩
 | @word ps m t H y C D v=>
  intro k f o
  obtain⟨j,rfl,A,p⟩:=step f o
  obtain⟨a,c,d,l,a1,a2⟩:=v j A (by lia)
  have B:lF rs t=false:=by rw[g.own s (Be p)];exact y
  refine⟨a ++ [m + 1],_,.word (e:=m + 1) (pr:=0) d u (by rw[l];exact p) B (by rw[a2];exact uK.mpr ⟨C,D,rfl,rfl⟩),by simp[l],?_,?_⟩
  ·rw[(snoc d.ne).1,a1]
  ·exact(snoc d.ne).2
 | @name ps m e t H y C D I v=>
  intro k f o
  obtain⟨j,rfl,A,p⟩:=step f o
  obtain⟨a,c,d,l,a1,a2⟩:=v j A (by lia)
  have B:lF rs t=true:=by rw[g.own s (Be p)];exact y
  obtain⟨K,q,L,d',G,w⟩:=I
  unfold cI at w
  simp only[Dl] at w
  obtain⟨E,F,J⟩:=w
  refine⟨a ++ [q.getLastD 0],_,.name d u (by rw[l];exact p) B d' G E.symm (by rw[a2,F]),by simp[l],?_,?_⟩
  ·rw[(snoc d.ne).1,a1]
  ·rw[(snoc d.ne).2,J]
theorem zc6{rs:List aY}{a:List Str}(g:gT rs){r:aY}(k:r∈rs){b e:Int}(hb:0<=b/\b<=a.length)(h:Rc a (kG rs a) b r.parts e):kG rs a (r.name,b,e):=by
 obtain⟨n,j,rfl⟩:=Hg.mp k
 have f:rs[n]? = some rs[n]:=An j
 obtain⟨i,c,d,l,a1,a2⟩:=zc5 g f hb h _ (Ew.symm) (Ai _)
 refine⟨n,i,c,d,?_,?_⟩
 ·rw[zX f,l];simp
 ·unfold cI
  rw[a1,a2]
  have:cD (e8 rs a) n=rs[n].name:=by unfold cD;rw[show(e8 rs a).rs[n]? = some rs[n] from f]
  rw[this]
theorem IG{rs:List aY}{j:List Str}(g:gT rs){K:b5->Prop}(Q:∀ r∈rs,∀ b e:Int,0<=b->b<=e->e<=j.length->Rc j K b r.parts e->K (r.name,b,e)){f:b5}(h:kG rs j f):K f:=by
 have inn:∀ {n:Nat} {i:List Int} {c:aH},DI (e8 rs j) n i c->∀ r,rs[n]? = some r->(0<=i.headD 0/\i.headD 0<=j.length)/\i.length - 1<=r.parts.length/\Rc j K (i.headD 0) (r.parts.take (i.length - 1)) (i.getLastD 0):=by
  intro n i c h
  have snoc:∀ {i:List Int} {z:Int},i≠[]->(i ++ [z]).headD 0=i.headD 0/\(i ++ [z]).getLastD 0=z/\(i ++ [z]).length - 1=(i.length - 1) + 1:=fun {i z} h=>by
   cases i with
   | nil=>exact absurd rfl h
   | cons x i=>exact⟨rfl,IF _ _,by simp⟩
  induction h with
  | start l s=>intro r _;exact⟨zW.mp s,Co _,by simpa using Rc.nil⟩
  | @word n u i c k e pr d l s I E G=>
   intro r o
   have l:rs[n]? = some u:=l
   rw[l] at o;cases o
   obtain⟨H,W,J⟩:=G u l
   obtain⟨O,L,M⟩:=snoc (z:=e) d.ne
   have hl:=(Ao.mp s).1
   obtain⟨T,X,rfl,Y⟩:=uK.mp E
   rw[O,L,M]
   refine⟨H,by lia,?_⟩
   rw[Ga,s]
   exact .word J (by rw[<-g.own (Be l) (Be s)];exact I) T X
  | @name n B u i t c m k d l s I d' E y R G N=>
   intro r o
   have l:rs[n]? = some u:=l
   rw[l] at o;cases o
   obtain⟨H,W,J⟩:=G u l
   obtain⟨O,L,M⟩:=snoc (z:=t.getLastD 0) d.ne
   have hl:=(Ao.mp s).1
   obtain⟨q,D⟩:∃ q,rs[B]? = some q:=by
    cases z:rs[B]? with
    | some q=>exact⟨q,rfl⟩
    | none=>
     have:cD (e8 rs j) B=k:=y
     have hi:∀ {n:Nat} {i:List Int} {c:aH},DI (e8 rs j) n i c->∃ q,rs[n]? = some q:=fun h=>by
      cases h with
      | start a _=>exact⟨_,a⟩
      | word _ a _ _ _=>exact⟨_,a⟩
      | name _ a _ _ _ _ _ _=>exact⟨_,a⟩
     obtain⟨q,e⟩:=hi d'
     rw[z] at e;cases e
   obtain⟨A,V,v⟩:=N q D
   have U:q.name=k:=by
    have y:cD (e8 rs j) B=k:=y
    unfold cD at y
    rw[show(e8 rs j).rs[B]? = some q from D] at y;exact y
   rw[zX D] at E
   have S:u.parts.length=u.parts.length:=rfl
   have w:q.parts.take (t.length - 1)=q.parts:=Dw (List.getElem?_eq_none_iff.mp E)
   rw[w] at v
   obtain⟨C,F⟩:=v.in_ A
   have P:=Q q (Be D) _ _ A.1 C F v
   rw[O,L,M]
   refine⟨H,by lia,?_⟩
   rw[Ga,s]
   rw[U,R] at P
   rw[R] at C
   exact .name J (by rw[<-g.own (Be l) (Be s)];exact I) C F P
 obtain⟨n,i,c,d,p,rfl⟩:=h
 obtain⟨r,o⟩:∃ r,rs[n]? = some r:=by
  cases d with
  | start a _=>exact⟨_,a⟩
  | word _ a _ _ _=>exact⟨_,a⟩
  | name _ a _ _ _ _ _ _=>exact⟨_,a⟩
 obtain⟨A,V,v⟩:=inn d r o
 rw[zX o] at p
 rw[Dw (List.getElem?_eq_none_iff.mp p)] at v
 obtain⟨C,F⟩:=v.in_ A
 have:=Q r (Be o) _ _ A.1 C F v
 unfold cI
 have e:cD (e8 rs j) n=r.name:=by unfold cD;rw[show(e8 rs j).rs[n]? = some r from o]
 rw[e];exact this
structure uL(n:Nat)(f:b5):Prop where
 nm:f.1∈NM
 lo:0<=f.2.1
 le:f.2.1<=f.2.2
 hi:f.2.2<=n
theorem qW{rs:List aY}{a:List Str}(g:gT rs){f:b5}(h:kG rs a f):uL a.length f:=IG g (K:=uL a.length) (fun r i b e c j d _=>⟨g.nm r i,c,j,d⟩) h
def zY:List b5:=NM.flatMap fun s=>(Ce 7).flatMap fun b=>((Ce 7).filter fun(e:Nat)=>decide (b<=e)).map fun(e:Nat)=>(s,(b:Int),(e:Int))
theorem zc7{n:Nat}(i:n<=6){f:b5}(h:uL n f):f∈zY:=by
 obtain⟨s,b,e⟩:=f
 obtain⟨a,g,c,d⟩:=h
 simp only at a g c d
 refine Ht.mpr ⟨s,a,Ht.mpr ⟨b.toNat,Eh.mpr (by lia),Aw.mpr ⟨e.toNat,Fp.mpr ⟨Eh.mpr (by lia),by rw[decide_eq_true_eq];lia⟩,?_⟩⟩⟩
 simp only[Dl,true_and]
 lia
theorem uM{n:Nat}(a:n<=6){l:List b5}(nd:l.Nodup)(h:∀ f∈l,uL n f):l.length < 128:=by
 have:=len_sub (b:=zY) nd fun f hf=>zc7 a (h f hf)
 have e:zY.length=112:=by decide +kernel
 lia
theorem uN{G:Sr}{B:fH}(h:t7 G B):(B.map (·.1)).Nodup:=by
 obtain⟨S,g,st,P,cur,T,A,f,rfl⟩:=h
 have o:=A.ob.ord
 generalize st.best=B at o
 rw[List.nodup_iff_pairwise_ne,Gb]
 refine Fu.mpr fun i j hi d c e=>?_
 have sp:B=B.take j ++ B[j] :: B.drop (j + 1):=by rw[<-Hc d,Nf]
 have a:=(o _ _ _ sp).2
 have b:B[i]∈B.take j:=by
  rw[Hg]
  exact⟨i,by rw[Cf];lia,by rw[List.getElem_take]⟩
 unfold aF at a
 rw[Option.map_eq_none_iff,List.find?_eq_none] at a
 have:=a _ b
 rw[decide_eq_true_eq] at this
 exact this e
theorem II{rs:List aY}{g:List Str}{B:fH}(h:t7 (e8 rs g) B)(f:b5):f∈B.map (·.1)↔kG rs g f:=by
 have nd:=uN h
 obtain⟨S,t,st,P,cur,T,A,l,rfl⟩:=h
 constructor
 ·intro hf
  obtain⟨e,o,rfl⟩:=Aw.mp hf
  obtain⟨a,b,sp⟩:=List.append_of_mem o
  have d:=EU A.ob _ a e b rfl sp
  have at_:aF st.best e.1=some e.2:=by
   rw[sp] at nd ⊢
   rw[Bs,Ar,Gd] at nd
   unfold aF
   rw[List.find?_append,List.find?_eq_none.mpr fun x i=>by
    rw[decide_eq_true_eq]
    exact nd.2.2 _ (Gj i) _ Bi]
   simp
  obtain⟨⟨f⟩,c,n,j⟩:=e
  obtain⟨r,s,q⟩:=tJ A.ob at_
  exact⟨_,_,_,r,s,q⟩
 ·rintro⟨n,j,c,d,p,rfl⟩
  obtain⟨m,k,e,_⟩:=zay A.inv A.ob A.ini l d p
  unfold aF at e
  obtain⟨x,i,_⟩:=Bn.mp e
  have:=List.find?_some i
  rw[decide_eq_true_eq] at this
  rw[<-this]
  exact Gj (List.mem_of_find?_eq_some i)
end Rg
namespace L2
open PySem PySem.Spec PyProof.Rows
section
variable {X:Cx}{tg:Expr}
end
end L2
namespace L3
open PySem PySem.Spec PyProof.Rows L2
section
variable {X:Cx}{tg a b c:Expr}
def zZ:List W->Mm->K3->Prop
 | [.bl b],M,R=>R (.int (if b then 1 else 0)) M
 | _,_,_=>False
theorem zc8:cU X (.type "int") (gC X.K zZ):=by
 rintro c s i H xs us Q I rs ⟨ws,M,R,d,a,h,k⟩
 match ws,h with
 | [.bl b],h=>
  obtain⟨v,rfl,g⟩:=a.one
  obtain rfl:=g.inv
  cases rs with
  | cons r f=>
   cases f
   cases r
   exact call_int_bool ⟨.int _,H,I.kept fun _ _ e=>e,⟨_,rfl⟩,k.at d (.int _) h⟩
end
end L3
namespace Rg
open PySem PySem.Spec PyProof.Rows L2 L3
abbrev iB(a:List Str):W:=.rl (a.map W.str)
structure oW(rs:List aY)(row:List Str)(L:List (List aD)):Prop where
 mem:∀ k,k∈L↔∃ f,kG rs row f/\k=fK f
 nd:L.Nodup
 srt:mF L
def kH(L:List (List aD)):List W:=L.map fun k=>.tup (k.map wK)
def e9(fs:List b5):List (List aD×W):=fs.map fun f=>(fK f,.bl true)
def i8(a:List Str):List (List aD×W):=(a.zipIdx).map fun x=>([Sum.inr x.1,Sum.inl (x.2:Int)],.rl [.tup [.int ((x.2:Int) + 1),.int 0]])
def z9:bX:=fun ws M R=>∃ a:List Str,ws=[iB a]/\a.length<=6/\aQ ((Ce (a.length + 1)).map fun(i:Nat)=>W.int i) M R
def AA:bX:=fun ws M R=>∃ a:List Str,ws=[iB a]/\a.length<=6/\iG (i8 a) M R
def AB(C:Cc):bX:=fun ws M R=>∃ (rs:List aY) (a:List Str),ws=[eX rs,iB a,.rl (rs.map fun _=>W.int 0)]/\gT rs/\Rw a/\∀ B,t7 (e8 rs a) B->iG (d8 fK h9 B) M R
def AD:bX:=fun ws M R=>∃ rs:List aY,ws=[eX rs]/\rs.length<=100/\aQ (rs.map fun _=>W.int 0) M R
def uO(C:Cc):bX:=fun ws M R=>∃ (rs:List aY) (a:List Str),ws=[eX rs,iB a]/\gT rs/\Rw a/\∀ L,oW rs a L->aQ (kH L) M R
def oX:bX:=fun ws M R=>∃ (a:List Int) (k:Int),ws=[.sc (a.map W.int),.int k]/\a.length<=63/\∀ i,R (.int i) M
def AE:bX:=fun ws M R=>∃ c k:Int,ws=[.int c,.int k]/\0<=k/\k<=1000/\∀ z:Int,R (.int z) M
def oY:bX:=fun ws M R=>∃ (c:Int) (a:List Int),ws=[.int c,.rl (a.map W.int)]/\a.length<=100/\(∀ s∈a,0 < s/\s<=10 ^ 59)/\∀ b,Drawn b a->aQ (b.map W.int) M R
def AF:bX:=fun ws M R=>∃ a:List Int,ws=[.sc (a.map W.int)]/\a.length<=63/\∀ rs:List aY,gT rs->aQ (rs.map cB) M R
def qX:bX:=fun ws M R=>∃ t:Str,ws=[.str t]/\(t∈NM\/t∈W4)/\R (.bl (isN t)) M
def AG:bX:=fun ws M R=>∃ (b:List Int) (rs:List aY),ws=[.sc (b.map W.int),eX rs,.int 6]/\b.length<=63/\gT rs/\∀ a,Rw a->aQ (a.map W.str) M R
def AH:bX:=fun ws M R=>∃ (ps a:List Str) (p:Addr) (b e:Int) (fs:List b5),ws=[.tup (ps.map W.str),iB a,.ref p,.int b,.int e]/\ps.length<=4/\(∀ t∈ps,t∈NM\/t∈W4)/\Rw a/\M p=some (.dT (e9 fs))/\(0<=b/\b<=a.length)/\
 ∀ c:Bool,(c=true↔Rc a (fun f=>f∈fs) b ps e)->R (.bl c) M
def AI:bX:=fun ws M R=>∃ (rs:List aY) (a:List Str),ws=[eX rs,iB a]/\gT rs/\Rw a/\∀ fs:List b5,fs.Nodup->(∀ f,f∈fs↔kG rs a f)->iG (e9 fs) M R
def uP:bX:=fun ws M R=>∃ (x:W) (L:List (List aD)),ws=[x,.rl (kH L)]/\(x=.rl (kH L)\/∃ p,x=.ref p/\M p=some (.lst (kH L)))/\L.length<=1000/\(∀ k∈L,∃ f:b5,k=fK f/\f.1∈NM)/\R (.bl true) M
abbrev IJ:bX:=p9
abbrev zc9:List Str:=["row"]
def zda:aK:=
   (cP (ID (aG cA (bW cX (aB (aA 0) aE)) (vC (.int 1)))))
abbrev zdb:List Str:=["row"]
def AJ:aK:=
   (cP (bW G7 (aB (cV (fX (sY (aB (aA 0) aE)) (kA 2 (fD (bQ 0) (fD (bQ 1) j9))) iW (dD (aB (dD (aB (aA 1) (aB (aA 0) aE))) (aB (eV (aB (dD (aB (aG cA (aA 0) (vC (.int 1))) (aB (vC (.int 0)) aE))) aE)) aE))) [none,none])) aE)))
abbrev zdc:List Str:=["grammar","row","weights"]
def zdd(C:Cc):aK:=
   (cP (b6 (y6 C) (aB (aA 0) (aB (cV (b6 z9 (aB (aA 1) aE))) (aB (cV (b6 AA (aB (aA 1) aE))) (aB (aA 2) aE))))))
abbrev zde:List Str:=["grammar"]
def zdf:aK:=
   (cP (fX (eF d7 (aA 0)) (bQ 0) iW (vC (.int 0)) [none]))
abbrev zdg:List Str:=["grammar","row"]
def zdh(C:Cc):aK:=
   (cP (bW zU (aB (cV (b6 (AB C) (aB (aA 0) (aB (aA 1) (aB (cV (b6 AD (aB (aA 0) aE))) aE))))) aE)))
abbrev zdi:List Str:=["script","k"]
def IK:aK:=
   (aT (eE (dC (wY CY lU (vC (.int 0)) (aA 1) (bW cX (aB (aA 0) aE))))
    (cP (aG aV (aA 0) (aA 1)))
    fV)
   (cP (aA 1)))
abbrev zdj:List Str:=["cell","k","number"]
def IL:aK:=
   (bH 2 (aG iK (aG cA (aG cA (aG iV (aA 0) (aG sH (vC (.int 10)) (vC (.int 60)))) (aG iK (vC (.int 7919)) (aA 1))) (vC (.int 1))) (vC (.int 27182818284590452353602874713527))))
def IM:aK:=
   (bH 2 (aG iV (aA 2) (vC (.int 170141183460469231731687303715884105727))))
def IP:aK:=
   (bH 2 (aG iV (aG cA (aG cA (aG iK (aA 2) (aA 2)) (aG iK (vC (.int 104729)) (aA 1))) (vC (.int 1))) (vC (.int 170141183460469231731687303715884105727))))
def IQ:aK:=
   (cP (aG nW (aG iV (aG iK (aA 2) (aA 2)) (vC (.int 170141183460469231731687303715884105727))) (vC (.int 5))))
def AK:aK:=(aT IL (aT IM (aT IP IQ)))
abbrev zdk:List Str:=["cell","sizes","found","rest","k","size"]
def zdl:aK:=
   (bH 2 (kS aE))
def zdm:aK:=
   (bH 3 (aG nV (aA 0) (aG sH (vC (.int 10)) (vC (.int 18)))))
def IS:aK:=
   (eE (dC (aG C0 (aA 3) (vC (.int 0))))
    (aT (eN (fN "list" fU (aA 2) (aB (aG iV (aA 3) (aA 5)) aE)))
   (bH 3 (aG nW (aA 3) (aA 5))))
    (eN (fN "list" fU (aA 2) (aB (aG iV (b6 AE (aB (aA 0) (aB (aA 4) aE))) (aA 5)) aE))))
def zdn:aK:=
   (fE (sY (aB (aA 1) aE)) (kA 2 (fD (bQ 4) (fD (bQ 5) j9))) IS)
def zdo:aK:=
   (cP (aA 2))
def zdp:aK:=(aT zdl (aT zdm (aT zdn zdo)))
abbrev zdq:List Str:=["script","cells","heads","used","rules","head","cell","d","parts","number"]
def zdr:aK:=
   (bH 1 (cV (fX (l8 (aB (aG cA (vC (.int 1)) (aG iV (b6 oX (aB (aA 0) (aB (vC (.int 0)) aE))) (vC (.int 8)))) aE)) (bQ 0) iW (b6 oX (aB (aA 1) (aB (aG cA (vC (.int 1)) (aA 0)) aE))) [none,some 0])))
def zds:aK:=
   (bH 2 (cV (fX (eF d7 (aA 1)) (bQ 0) iW (aG aV (eV (aB (vC (.str "S")) (aB (vC (.str "A")) (aB (vC (.str "BB")) (aB (vC (.str "C_1")) aE))))) (aG aV (cV (b6 oY (aB (aA 0) (aB (eV (aB (vC (.int 4)) aE)) aE)))) (vC (.int 0)))) [none])))
def zdt:aK:=
   (bH 3 (cV (fX (l8 (aB (bW cX (aB (aA 2) aE)) aE)) (bQ 0) (dC (aG (rIn true) (aG aV (aA 1) (aA 0)) (mB (aA 1) mV (jF (aA 0))))) (aG aV (aA 1) (aA 0)) [none,some 2])))
def zdu:aK:=
   (bH 4 (kS aE))
def zdv:aK:=
   (aT (bH 7 (cV (b6 oY (aB (aA 6) (aB (eV (aB (vC (.int 4)) (aB (vC (.int 5)) (aB (vC (.int 8)) (aB (vC (.int 8)) (aB (vC (.int 8)) (aB (vC (.int 8)) (aB (vC (.int 4)) (aB (aG sH (vC (.int 10)) (vC (.int 6))) aE))))))))) aE)))))
   (aT (bH 8 (kS aE))
   (aT (fE (eF d7 (mB (aA 7) (jF (vC (.int 2))) (jF (aG cA (vC (.int 2)) (aG aV (aA 7) (vC (.int 1))))))) (bQ 9)
    (eE (dC (aG lU (aA 9) (vC (.int 3))))
    (eN (fN "list" fU (aA 8) (aB (aG aV (eV (aB (vC (.str "a")) (aB (vC (.str "b")) (aB (vC (.str "cat")) aE)))) (aA 9)) aE)))
    (eN (fN "list" fU (aA 8) (aB (aG aV (aA 3) (aG iV (aG nV (aA 9) (vC (.int 3))) (bW cX (aB (aA 3) aE)))) aE)))))
   (eN (fN "list" fU (aA 4) (aB (dD (aB (aA 5) (aB (bW n5 (aB (aA 8) aE)) (aB (aG aV (eV (aB (vC (.int 0)) (aB (vC (.int 1)) (aB (aG iV (aG aV (aA 7) (vC (.int 7))) (vC (.int 10))) (aB (aG aV (aA 7) (vC (.int 7))) aE))))) (aG aV (aA 7) (vC (.int 6)))) aE)))) aE))))))
def zdw:aK:=
   (fE (D8 (aB (aA 2) (aB (aA 1) aE))) (kA 2 (fD (bQ 5) (fD (bQ 6) j9))) zdv)
def zdx:aK:=
   (cP (aA 4))
def zdy:aK:=(aT zdr (aT zds (aT zdt (aT zdu (aT zdw zdx)))))
abbrev zdz:List Str:=["part"]
def zdA:aK:=
   (cP (aG (rIn false) (aG aV (aA 0) (vC (.int 0))) (vC (.str "ABCS"))))
abbrev zdB:List Str:=["script","rules","most","cells","row","k","open_now","at","own","rule"]
def zdC:aK:=
   (bH 3 (mB (aA 0) (jF (vC (.int 9))) (jF (aG cA (vC (.int 9)) (aA 2)))))
def zdD:aK:=
   (eE (dC (aG (rEq false) (aG iV (aG nW (b6 oX (aB (aA 0) (aB (vC (.int 0)) aE))) (vC (.int 8))) (vC (.int 3))) (vC (.int 0))))
    (cP (fX (eF d7 (aA 3)) (bQ 0) iW (aG aV (eV (aB (vC (.str "a")) (aB (vC (.str "b")) (aB (vC (.str "cat")) (aB (vC (.str "dog")) aE))))) (aG aV (cV (b6 oY (aB (aA 0) (aB (eV (aB (vC (.int 4)) aE)) aE)))) (vC (.int 0)))) [none]))
    fV)
def zdE:aK:=
   (bH 4 (eV (aB (aG aV (aG aV (aA 1) (vC (.int 0))) (vC (.int 0))) aE)))
def zdF:aK:=
   (aT (bH 6 (cV (fX (l8 (aB (bW cX (aB (aA 4) aE)) aE)) (bQ 0) (g9 (b6 qX (aB (aG aV (aA 1) (aA 0)) aE))) (aA 0) [none,some 4])))
   (eE (pR (dC (aG (rEq true) (aA 6) (eV aE))) (dC (aG lU (bW cX (aB (aA 4) aE)) (aG iK (vC (.int 2)) (aA 2)))))
    (aT (bH 7 (aG aV (aA 6) (vC (.int 0))))
   (aT (bH 8 (cV (fX (eF d7 (aA 1)) (bQ 0) (dC (aG (rEq false) (aG aV (aA 0) (vC (.int 0))) (aG aV (aA 1) (aA 2)))) (aA 0) [none,some 4,some 7])))
   (aT (bH 9 (aG aV (aA 8) (aG aV (cV (b6 oY (aB (aG cA (b6 oX (aB (aA 0) (aB (aG cA (vC (.int 9)) (aG iV (aA 5) (vC (.int 12)))) aE))) (aG iK (aG nW (aA 5) (vC (.int 12))) (vC (.int 7919)))) (aB (eV (aB (bW cX (aB (aA 8) aE)) aE)) aE)))) (vC (.int 0)))))
   (bH 4 (aG cA (aG cA (mB (aA 4) mV (jF (aA 7))) (bW k7 (aB (aG aV (aA 9) (vC (.int 1))) aE))) (mB (aA 4) (jF (aG cA (aA 7) (vC (.int 1)))) mV))))))
    fV))
def zdG:aK:=
   (fE (l8 (aB (vC (.int 24)) aE)) (bQ 5) zdF)
def zdH:aK:=
   (cP (wL (cV (fX (eF d7 (aA 4)) (bQ 0) (kR (g9 (b6 qX (aB (aA 0) aE)))) (aA 0) [none])) mV (jF (aA 2))))
def zdI:aK:=(aT zdC (aT zdD (aT zdE (aT zdG zdH))))
abbrev zdJ:List Str:=["parts","row","known","begin","end","places","part","further","place"]
def zdK:aK:=
   (bH 5 (eV (aB (aA 3) aE)))
def zdL:aK:=
   (aT (bH 7 (eV aE))
   (aT (fE (eF d7 (aA 5)) (bQ 8)
    (eE (kR (g9 (b6 qX (aB (aA 6) aE))))
    (bH 7 (aG cA (aA 7) (aG iK (eV (aB (aG cA (aA 8) (vC (.int 1))) aE)) (bW zZ (aB (pT (aG lU (aA 8) (bW cX (aB (aA 1) aE))) (aG (rEq false) (aG aV (aA 1) (aA 8)) (aA 6))) aE)))))
    (bH 7 (aG cA (aA 7) (cV (fX (sP (aB (aA 8) (aB (aG cA (bW cX (aB (aA 1) aE)) (vC (.int 1))) aE))) (bQ 0) (dC (aG (rIn false) (dD (aB (aA 2) (aB (aA 3) (aB (aA 0) aE)))) (aA 1))) (aA 0) [none,some 2,some 6,some 8]))))))
   (bH 5 (HK (aA 7)))))
def zdM:aK:=
   (fE (eF d7 (aA 0)) (bQ 6) zdL)
def zdN:aK:=
   (cP (aG (rIn false) (aA 4) (aA 5)))
def zdO:aK:=(aT zdK (aT zdM zdN))
abbrev zdP:List Str:=["rules","row","known","more","name","parts","cost","begin","end"]
def zdQ:aK:=
   (bH 2 lX)
def zdR:aK:=
   (bH 3 (vC (.bl true)))
def zdS:aK:=
   (aT (bH 3 (vC (.bl false)))
   (fE (eF jG (aA 0)) (kA 3 (fD (bQ 4) (fD (bQ 5) (fD (bQ 6) j9))))
    (fE (l8 (aB (aG cA (bW cX (aB (aA 1) aE)) (vC (.int 1))) aE)) (bQ 7)
    (fE (sP (aB (aA 7) (aB (aG cA (bW cX (aB (aA 1) aE)) (vC (.int 1))) aE))) (bQ 8)
    (eE (pR (dC (aG (rIn true) (dD (aB (aA 4) (aB (aA 7) (aB (aA 8) aE)))) (aA 2))) (g9 (b6 AH (aB (aA 5) (aB (aA 1) (aB (aA 2) (aB (aA 7) (aB (aA 8) aE))))))))
    (aT (lZ (vC (.bl true)) (mY (aA 2) (dD (aB (aA 4) (aB (aA 7) (aB (aA 8) aE))))))
   (bH 3 (vC (.bl true))))
    fV)))))
def zdT:aK:=
   (n9 (g9 (aA 3)) zdS)
def zdU:aK:=
   (cP (aA 2))
def zdV:aK:=(aT zdQ (aT zdR (aT zdT zdU)))
abbrev zdW:List Str:=["found","due","fact"]
def zdX:aK:=
   (eE (nT (kR (g9 (bW bY (aB (aA 0) (aB (vC (.ty "list")) aE))))) (dC (aG (rEq true) (aA 0) (aA 1))))
    (cP (vC (.bl false)))
    fV)
def zdY:aK:=
   (aT (eE (kR (g9 (bW bY (aB (aA 2) (aB (vC (.ty "tuple")) aE)))))
    (cP (vC (.bl false)))
    fV)
   (eE (dC (aG (rEq true) (cV (fX (eF d7 (mB (aA 2) (jF (vC (.int 1))) mV)) (bQ 0) (nT (kR (g9 (bW bY (aB (aA 0) (aB (vC (.ty "int")) aE))))) (g9 (bW bY (aB (aA 0) (aB (vC (.ty "bool")) aE))))) (aA 0) [none])) (eV aE)))
    (cP (vC (.bl false)))
    fV))
def zdZ:aK:=
   (fE (eF d7 (aA 0)) (bQ 2) zdY)
def zd0:aK:=
   (cP (vC (.bl true)))
def zd1:aK:=(aT zdX (aT zdZ zd0))
abbrev zd2:List Str:=["script","rules","row","grammar","due","handed","found"]
def zd3(C:Cc):aK:=
   (bH 1 (cV (b6 AF (aB (aA 0) aE))))
def zd4(C:Cc):aK:=
   (bH 2 (cV (b6 AG (aB (aA 0) (aB (aA 1) (aB (vC (.int 6)) aE))))))
def zd5(C:Cc):aK:=
   (bH 3 (cV (b6 yM (aB (aA 1) aE))))
def zd6(C:Cc):aK:=
   (bH 4 (cV (bW zU (aB (cV (b6 AI (aB (aA 1) (aB (aA 2) aE)))) aE))))
def zd7(C:Cc):aK:=
   (bH 5 (eV (aB (bW k7 (aB (aA 3) aE)) (aB (bW k7 (aB (aA 2) aE)) aE))))
def zd8(C:Cc):aK:=
   (bH 6 (b6 (uO C) (aB (aG aV (aA 5) (vC (.int 0))) (aB (aG aV (aA 5) (vC (.int 1))) aE))))
def zd9(C:Cc):aK:=
   (eE (nT (kR (g9 (b6 uP (aB (aA 6) (aB (aA 4) aE))))) (dC (aG (rEq true) (aA 5) (eV (aB (aA 3) (aB (aA 2) aE))))))
    (cP (vC (.bl false)))
    fV)
def zea(C:Cc):aK:=
   (eN (fN "list" fU (aA 6) (aB (dD (aB (vC (.str "S")) (aB (vC (.int 0)) (aB (vC (.int 0)) aE)))) aE)))
def zeb(C:Cc):aK:=
   (cP (b6 uP (aB (cV (b6 (uO C) (aB (aG aV (aA 5) (vC (.int 0))) (aB (aG aV (aA 5) (vC (.int 1))) aE)))) (aB (aA 4) aE))))
def zec(C:Cc):aK:=(aT (zd3 C) (aT (zd4 C) (aT (zd5 C) (aT (zd6 C) (aT (zd7 C) (aT (zd8 C) (aT (zd9 C) (aT (zea C) (zeb C)))))))))
theorem zed:∀ ws M R,z9 ws M R->ws.length=1:=by rintro ws M R ⟨_,rfl,_⟩;rfl
theorem zee:∀ ws M R,AA ws M R->ws.length=1:=by rintro ws M R ⟨_,rfl,_⟩;rfl
theorem zef{C:Cc}:∀ ws M R,AB C ws M R->ws.length=3:=by rintro ws M R ⟨_,_,rfl,_⟩;rfl
theorem zeg:∀ ws M R,AD ws M R->ws.length=1:=by rintro ws M R ⟨_,rfl,_⟩;rfl
theorem zeh{C:Cc}:∀ ws M R,uO C ws M R->ws.length=2:=by rintro ws M R ⟨_,_,rfl,_⟩;rfl
theorem zei:∀ ws M R,oX ws M R->ws.length=2:=by rintro ws M R ⟨_,_,rfl,_⟩;rfl
theorem zej:∀ ws M R,AE ws M R->ws.length=2:=by rintro ws M R ⟨_,_,rfl,_⟩;rfl
theorem zek:∀ ws M R,oY ws M R->ws.length=2:=by rintro ws M R ⟨_,_,rfl,_⟩;rfl
theorem zel:∀ ws M R,AF ws M R->ws.length=1:=by rintro ws M R ⟨_,rfl,_⟩;rfl
theorem zem:∀ ws M R,qX ws M R->ws.length=1:=by rintro ws M R ⟨_,rfl,_⟩;rfl
theorem zen:∀ ws M R,AG ws M R->ws.length=3:=by rintro ws M R ⟨_,_,rfl,_⟩;rfl
theorem zeo:∀ ws M R,AH ws M R->ws.length=5:=by rintro ws M R ⟨_,_,_,_,_,_,rfl,_⟩;rfl
theorem zep:∀ ws M R,AI ws M R->ws.length=2:=by rintro ws M R ⟨_,_,rfl,_⟩;rfl
theorem zeq:∀ ws M R,uP ws M R->ws.length=2:=by rintro ws M R ⟨_,_,rfl,_⟩;rfl
theorem zer:∀ ws M R,IJ ws M R->ws.length=1:=by rintro ws M R ⟨_,rfl,_⟩;rfl
theorem z0:0<=Aj:=Co _
theorem z8:8<=Aj:=eI (by decide)
theorem qY{ws:List W}{M:Mm}{R:K3}(r:aQ ws M R):aQ ws M fun w c=>∃ a,L3.Sub a c/\R w a:=fun p b=>⟨_,Sub.refl _,r p b⟩
theorem IT{ws:List (List aD×W)}{M:Mm}{R:K3}(r:iG ws M R):iG ws M fun w c=>∃ a,L3.Sub a c/\R w a:=fun p b=>⟨_,Sub.refl _,r p b⟩
theorem zes{ws:List W}{M:Mm}{R:K3}(h:z9 ws M R):zda (bK R) (cF zc9 ws) M:=by
 obtain⟨a,rfl,hl,r⟩:=h
 exact⟨_,rfl,a.length + 1,by rw[Ab];rfl,by lia,qY r⟩
theorem zet{ws:List W}{M:Mm}{R:K3}(h:AD ws M R):zdf (bK R) (cF zde ws) M:=by
 obtain⟨rs,rfl,hl,r⟩:=h
 refine⟨_,rfl,xC (rest:=[]) (fun _=>.int 0) (eI (by rw[Ab];lia)) (fun _ _=>trivial) (fun w hw b C sb a=>a) ?_⟩
 rw[Ed]
 exact qY r
theorem enum_zip(ws:List Str):∀ n:Nat,hW n (ws.map W.str)=(ws.zipIdx n).map fun x=>W.tup [.int (x.2:Int),.str x.1]:=by
 induction ws with
 | nil=>intro n;rfl
 | cons w ws a=>intro n;rw[Ar,hW,a,Jj,Ar]
theorem IU:∀ {ps acc:List (List aD×W)},((acc ++ ps).map (·.1)).Nodup->oJ acc ps=acc ++ ps
 | [],acc,_=>by simp[oJ]
 | p :: ps,acc,h=>by
  have b:bD acc p.1=none:=by
   rw[Bs,Gd] at h
   exact tQ fun e c z=>h.2.2 _ (Aw.mpr ⟨e,c,rfl⟩) p.1 (by simp) z
  have e:bZ acc p.1 p.2=acc ++ [p]:=by
   unfold bZ
   rw[if_neg (by rw[show(acc.any fun a=>decide (a.1=p.1))=(bD acc p.1).isSome from nB acc p.1,b];decide)]
  show oJ (bZ acc p.1 p.2) ps=_
  rw[e,IU (by rw[Cd];exact h),Cd];rfl
theorem zeu(a:List Str):((i8 a).map (·.1)).Nodup:=by
 unfold i8
 rw[Ed]
 have:∀ (a:List Str) (n:Nat),((a.zipIdx n).map ((fun x:List aD×W=>x.1) ∘ fun x:Str×Nat=>(([Sum.inr x.1,Sum.inl (x.2:Int)]:List aD),W.rl [.tup [.int ((x.2:Int) + 1),.int 0]]))).Nodup:=by
  intro a
  induction a with
  | nil=>intro n;exact Fz
  | cons t a c=>
   intro n
   rw[Jj,Ar,Dr]
   refine⟨fun b=>?_,c _⟩
   obtain⟨x,d,e⟩:=Aw.mp b
   have f:=List.mem_zipIdx d
   simp only[Lm,Cy,Sum.inr.injEq,Lp,and_true] at e
   lia
 exact this a 0
theorem zev(a:List Str)(t:Str)(p:Int):bD (i8 a) (eK (t,p))=if 0<=p/\a[p.toNat]? = some t then some (.rl [.tup [.int (p + 1),.int 0]]) else none:=by
 have:∀ (a:List Str) (n:Nat),bD ((a.zipIdx n).map fun x:Str×Nat=>(([Sum.inr x.1,Sum.inl (x.2:Int)]:List aD),W.rl [.tup [.int ((x.2:Int) + 1),.int 0]])) (eK (t,p))=if (n:Int)<=p/\a[(p - n).toNat]? = some t then some (.rl [.tup [.int (p + 1),.int 0]]) else none:=by
  intro a
  induction a with
  | nil=>intro n;simp[bD]
  | cons x a f=>
   intro n
   rw[Jj,Ar,nE,f]
   by_cases d:p=n
   ·subst d
    by_cases c:x=t
    ·subst c
     rw[if_pos (show([Sum.inr x,Sum.inl (n:Int)]:List aD)=eK (x,(n:Int)) from rfl),if_pos ⟨Nu _,by simp⟩]
    ·rw[if_neg (fun z=>c (by simpa [eK] using z)),if_neg (fun z=>by have:=z.1;lia),if_neg (fun z=>c (by simpa using z.2))]
   ·rw[if_neg (fun z=>d (show x=t/\(n:Int)=p by simpa [eK] using z).2.symm)]
    by_cases g:(n:Int) < p
    ·have e:(p - (n:Int)).toNat=(p - ((n + 1:Nat):Int)).toNat + 1:=by lia
     rw[e,Mp]
     by_cases b:a[(p - ((n + 1:Nat):Int)).toNat]? = some t
     ·rw[if_pos ⟨by lia,b⟩,if_pos ⟨by lia,b⟩]
     ·rw[if_neg (fun z=>b z.2),if_neg (fun z=>b z.2)]
    ·rw[if_neg (fun z=>by have:=z.1;lia),if_neg (fun z=>by have:=z.1;lia)]
 have h:=this a 0
 simpa [i8] using h
theorem zew{ws:List W}{M:Mm}{R:K3}(h:AA ws M R):AJ (bK R) (cF zdb ws) M:=by
 obtain⟨c,rfl,hl,r⟩:=h
 show AJ (bK R) [some (.rl (c.map W.str))] M
 simp? only[AJ,sY]
 refine VW (ws:=hW 0 (c.map W.str)) (rest:=[]) (fun w y=>∃ x:Str×Nat,w=W.tup [.int (x.2:Int),.str x.1]/\y=.tup [.tup (([Sum.inr x.1,Sum.inl (x.2:Int)]:List aD).map wK),.rl [.tup [.int ((x.2:Int) + 1),.int 0]]]) (fun w hw=>?_) (eI (by rw[qA,Ab];lia)) (fun _ _=>trivial) (fun a b d m C sb j=>?_) fun ys po=>?_
 ·rw[enum_zip] at hw;obtain⟨x,_,rfl⟩:=Aw.mp hw;exact⟨_,_,rfl⟩
 ·rw[enum_zip] at d
  obtain⟨x,_,e⟩:=Aw.mp d
  simp only[W.tup.injEq,Cy,and_true] at e
  obtain⟨rfl,rfl⟩:=e
  exact⟨_,rfl,_,rfl,z2,_,rfl,z2,z1,z2,j _ ⟨x,rfl,rfl⟩⟩
 ·have g:ys=oR (i8 c):=by
   rw[enum_zip] at po
   unfold oR i8
   rw[Ed]
   revert po
   generalize c.zipIdx=l
   intro po
   induction l generalizing ys with
   | nil=>cases po;rfl
   | cons x l i=>
    cases po with
    | cons h t=>
     obtain⟨k,f,rfl⟩:=h
     simp only[W.tup.injEq,Cy,W.int.injEq,W.str.injEq,and_true] at f
     have:x=k:=Prod.ext f.2 (by lia)
     subst this
     rw[i _ t];rfl
  subst g
  refine aQ.frz ⟨i8 c,rfl,eI (by unfold oR i8;rw[Ab,Ab,List.length_zipIdx];lia),?_⟩
  rw[IU (by simpa using zeu c),Lb]
  exact IT r
theorem zex(ts:List Str)(n:Str):(bD (ts.map fQ) (Sum.inr n:aD)).isSome=decide (n∈ts):=by
 induction ts with
 | nil=>rfl
 | cons t ts ih=>
  unfold bD at ih ⊢
  rw[Ar,Fq]
  by_cases h:t=n
  ·subst h;simp[fQ]
  ·rw[show decide ((fQ t).1=(Sum.inr n:aD))=false by simp[fQ,h]]
   rw[ih]
   have h2:¬ n=t:=fun e=>h e.symm
   simp[h2]
theorem zey(rs:List aY)(t:Str):(bD (ownOf rs) (Sum.inr t:aD)).isSome=lF rs t:=by
 unfold ownOf lF
 rw[zex,Es]
 simp only[decide_eq_true_eq]
 rw[xM];simp
theorem zez{C:Cc}{ws:List W}{M:Mm}{R:K3}(h:AB C ws M R):zdd C (bK R) (cF zdc ws) M:=by
 obtain⟨rs,a,rfl,g,w,r⟩:=h
 have hl:=w.few
 have hf:=g.few
 refine⟨_,rfl,_,rfl,a,rfl,hl,aQ.frz ⟨_,rfl,a,rfl,hl,iG.frz ⟨_,rfl,?_⟩⟩⟩
 refine⟨e8 rs a,⟨rs,ownOf rs,i8 a⟩,(e8 rs a).places,5,1,?_,by show rs.length<=100;lia,rfl,⟨rfl,zey rs,fun t p=>?_⟩,⟨fun _=>Nu _,fun t p e c h=>by rw[(uK.mp h).2.2.2];exact Nu _⟩,⟨fun p h=>h,fun t p e c q l=>?_,Ai _,fun r j=>?_⟩,by decide,?_,fun t p=>?_,?_,fun B d=>IT (r B d)⟩
 ·show [_,_,_,_]=[_,_,_,_]
  congr 2
  ·show W.rl _=W.rl (((Ce (a.length + 1)).map fun(i:Nat)=>(i:Int)).map W.int)
   rw[Ed];rfl
  ·congr 2
   show W.rl (rs.map fun _=>W.int 0)=W.rl ((Ce rs.length).map fun n=>W.int 0)
   rw[List.map_const',List.map_const',Ez]
 ·show(bD (i8 a) (eK (t,p))=none/\mG a t p=[])\/bD (i8 a) (eK (t,p))=some (.rl ((mG a t p).map fun z=>.tup [.int z.1,.int z.2]))
  rw[zev]
  unfold mG
  by_cases h:0<=p/\a[p.toNat]? = some t
  ·right;rw[if_pos h,if_pos h];rfl
  ·left;rw[if_neg h,if_neg h];exact⟨rfl,rfl⟩
 ·obtain⟨u,k,rfl,_⟩:=uK.mp l
  have:=(Ao.mp k).1
  exact zW.mpr ⟨by lia,by lia⟩
 ·have:=g.fp r j
  lia
 ·show((Ce (a.length + 1)).map _).length<=1000
  rw[Ab,Ez];lia
 ·show(mG a t p).length<=1
  unfold mG;split <;> simp
 ·have o:(jI (e8 rs a)).length=rs.length * ((Ce (a.length + 1)).map fun(i:Nat)=>(i:Int)).length:=zG (e8 rs a) rs.length
  rw[o]
  show rs.length * ((Ce (a.length + 1)).map fun(i:Nat)=>(i:Int)).length + rs.length * ((5 + 1) * (((Ce (a.length + 1)).map fun(i:Nat)=>(i:Int)).length * ((Ce (a.length + 1)).map fun(i:Nat)=>(i:Int)).length)) * (1 + ((Ce (a.length + 1)).map fun(i:Nat)=>(i:Int)).length) + rs.length * ((5 + 1) * (((Ce (a.length + 1)).map fun(i:Nat)=>(i:Int)).length * ((Ce (a.length + 1)).map fun(i:Nat)=>(i:Int)).length)) + ((Ce (a.length + 1)).map fun(i:Nat)=>(i:Int)).length + 1 + 1 < 10000000
  rw[Ab,Ez]
  have b:a.length + 1<=7:=by lia
  have f:=Nt b b
  have m:=Nt hf (Nat.mul_le_mul_left (5 + 1) f)
  have s:=Nt m (Lg b 1)
  have v:=Nt hf b
  lia
theorem zeA{c:Type}[DecidableEq c]{a b:List c}(ha:a.Nodup)(hb:b.Nodup)(h:∀ x,x∈a↔x∈b):a.Perm b:=(List.perm_ext_iff_of_nodup ha hb).mpr h
theorem zeB(f:b5):(fK f).map isStr=[true,false,false]:=rfl
theorem oW.eq{rs:List aY}{a:List Str}{L b:List (List aD)}(h:oW rs a L)(h':oW rs a b):L=b:=
 zc1 (zeA h.nd h'.nd fun k=>(h.mem k).trans (h'.mem k).symm) h.srt h'.srt fun k hk=>by obtain⟨f,_,rfl⟩:=(h.mem k).mp hk;exact zeB f
theorem AL{fs:List b5}(h:fs.Nodup):(fs.map fK).Nodup:=by
 rw[List.nodup_iff_pairwise_ne] at h ⊢
 rw[Gb]
 exact h.imp fun a e=>a (tX _ _ e)
theorem IV{rs:List aY}{a:List Str}{fs:List b5}{L:List (List aD)}(nd:fs.Nodup)(e:∀ f,f∈fs↔kG rs a f)(d:L.Perm (fs.map fK))(hs:mF L):oW rs a L:=
 ⟨fun k=>by
  rw[d.mem_iff,Aw]
  exact⟨fun⟨f,c,b⟩=>⟨f,(e f).mp c,b.symm⟩,fun⟨f,c,b⟩=>⟨f,(e f).mpr c,b.symm⟩⟩,d.nodup_iff.mpr (AL nd),hs⟩
theorem zeC{C:Cc}{ws:List W}{M:Mm}{R:K3}(h:uO C ws M R):zdh C (bK R) (cF zdg ws) M:=by
 obtain⟨rs,c,rfl,g,w,r⟩:=h
 have hf:=g.few
 refine⟨_,rfl,_,rfl,_,rfl,rs,rfl,by lia,aQ.frz ⟨rs,c,rfl,g,w,fun B a=>iG.frz ⟨_,d8 fK h9 B,[false,false],rfl,rfl,fun p b=>?_,?_,?_,fun L b hs=>qY (r L ?_)⟩⟩⟩
 ·obtain⟨e,_,rfl⟩:=Aw.mp b;rfl
 ·have:(d8 fK h9 B).map Dh=(B.map (·.1)).map fK:=by unfold d8;rw[Ed,Ed];rfl
  rw[this];exact AL (uN a)
 ·have:=uM w.few (uN a) fun f hf=>qW g ((II a f).mp hf)
  unfold d8;rw[Ab];rw[Ab] at this;exact this
 ·have e:(d8 fK h9 B).map Dh=(B.map (·.1)).map fK:=by unfold d8;rw[Ed,Ed];rfl
  rw[e] at b
  exact IV (uN a) (II a) b hs
theorem IW{b a:List Int}{i:Nat}{s d:Int}(h:Drawn b (a.take i))(hs:a[i]? = some s)(hd:Below d s):Drawn (b ++ [d]) (a.take (i + 1)):=by
 rw[Ga,hs]
 exact Paired.snoc h hd
theorem AN{lo:Int}{n i:Nat}{w:W}(h:(hV lo n)[i]? = some w):i < n/\w=.int (lo + i):=by
 unfold hV at h
 rw[Bh] at h
 obtain⟨j,c,rfl⟩:=Bn.mp h
 obtain⟨b,a⟩:=Ao.mp c
 simp at b a
 subst a
 exact⟨b,rfl⟩
theorem nJ{lo:Int}{n:Nat}:(hV lo n).length=n:=by unfold hV;simp
theorem uQ{ts:List Str}{k:Int}(b:0<=k)(c:k < ts.length):∃ t,bU (ts.map W.str) k=some (.str t)/\t∈ts:=by
 obtain⟨x,e,a,_⟩:=oH (xs:=ts.map W.str) b (by rw[Ab];exact c)
 rw[Bh] at a
 obtain⟨t,ht,rfl⟩:=Bn.mp a
 exact⟨t,e,Be ht⟩
theorem zeD{ws:List W}{M:Mm}{R:K3}(h:oX ws M R):IK (bK R) (cF zdi ws) M:=by
 obtain⟨a,k,rfl,hl,r⟩:=h
 have z:IK (bK R) [some (.sc (a.map W.int)),some (.int k)] M:=by
  refine⟨_,rfl,_,rfl,fL (fun b=>⟨_,rfl,_,rfl,fL (fun c=>?_) fun _=>⟨_,rfl,_,Sub.refl _,r _⟩⟩) fun _=>⟨_,rfl,fL (fun h=>nomatch h) fun _=>⟨_,rfl,_,Sub.refl _,r _⟩⟩⟩
  obtain⟨x,e,_,m⟩:=oH (xs:=a.map W.int) (i:=k) (of_decide_eq_true b) (of_decide_eq_true c)
  obtain⟨i,_,rfl⟩:=Aw.mp m
  exact⟨_,rfl,_,rfl,_,e,_,Sub.refl _,r _⟩
 exact z
theorem uR(a:Int):(a % 170141183460469231731687303715884105727).natAbs < 2 ^ 4096:=by
 have c:0<=a % 170141183460469231731687303715884105727:=Ih _ (by decide)
 have b:a % 170141183460469231731687303715884105727 < 170141183460469231731687303715884105727:=Ha _ (by decide)
 exact vY (m:=128) (by lia) (by decide)
theorem zeE{ws:List W}{M:Mm}{R:K3}(h:AE ws M R):AK (bK R) (cF zdj ws) M:=by
 obtain⟨c,k,rfl,b,d,r⟩:=h
 have a:0<=c % 10 ^ 60:=Ih _ (by decide)
 have a1:c % 10 ^ 60 < 10 ^ 60:=Ha _ (by decide)
 have b1:(c % 10 ^ 60 + 7919 * k + 1).natAbs < 2 ^ 4096:=vY (m:=210) (by lia) (by decide)
 have b2:(27182818284590452353602874713527:Int).natAbs < 2 ^ 4096:=vY (m:=128) (by decide) (by decide)
 show AK (bK R) [some (.int c),some (.int k),none] M
 simp? only[AK,IL,IM,IP,IQ]
 exact⟨⟨by decide,by decide,by decide⟩,by decide,.inl (.inl ⟨by decide,by decide⟩),.inr ⟨b1,b2⟩,.inr ⟨uR _,uR _⟩,.inl (.inl ⟨by decide,by decide⟩),.inr ⟨uR _,uR _⟩,_,Sub.refl _,r _⟩
theorem zeF{ws:List W}{M:Mm}{R:K3}(h:oY ws M R):zdp (bK R) (cF zdk ws) M:=by
 obtain⟨c,e,rfl,hl,hs,r⟩:=h
 refine⟨z0,fun p n=>⟨_,rfl,⟨by decide,by decide,by decide⟩,_,rfl,?_⟩⟩
 refine fF (ws:=hW 0 (e.map W.int)) (fun i l k=>∃ b rest m f,l=[some (.int c),some (.rl (e.map W.int)),some (.ref p),some (.int rest),m,f]/\k=put M p (.lst (b.map W.int))/\Drawn b (e.take i)) ⟨[],_,_,_,rfl,rfl,by simp;exact .nil⟩ (fun _ _ _ _ _=>trivial) ?_ ?_
 ·rintro i w l k hw ⟨b,rest,m,f,rfl,rfl,hd⟩
  rw[xE,Bh] at hw
  cases a:e[i]? with
  | none=>rw[a] at hw;cases hw
  | some s=>
   rw[a] at hw
   cases hw
   obtain⟨d,o⟩:=hs s (Be a)
   have hi:=(Ao.mp a).1
   have g:=Eo hd
   rw[Cf] at g
   have j:pL rest s:=⟨d,Int.lt_of_le_of_lt o (by decide)⟩
   simp? only[IS,Fy]
   split
   ·exact⟨d,by rw[Ab];lia,j,_,Sub.refl _,b ++ [rest % s],_,_,_,rfl,by rw[Bs];rfl,IW hd a ⟨Ih _ (by lia),Ha _ d⟩⟩
   ·refine⟨c,_,rfl,by lia,by lia,fun z=>?_⟩
    simp? only[]
    exact⟨d,by rw[Ab];lia,_,Sub.refl _,b ++ [z % s],_,_,_,rfl,by rw[Bs];rfl,IW hd a ⟨Ih _ (by lia),Ha _ d⟩⟩
 ·rintro l k ⟨b,rest,m,f,rfl,rfl,hd⟩
  rw[qA,Ab,Ew] at hd
  exact⟨_,rfl,_,Sub.refl _,r b hd p n⟩
theorem zeG{ws:List W}{M:Mm}{R:K3}(h:qX ws M R):zdA (bK R) (cF zdz ws) M:=by
 obtain⟨t,rfl,ht,r⟩:=h
 have key:∀ t∈NM ++ W4,t.length<=10/\((bU t.cps.toList 0).map fun c=>occ ⟨#[c]⟩ "ABCS")=some (isN t):=by decide +kernel
 obtain⟨f,e⟩:=key t (Bo.mpr ht)
 obtain⟨c,b,d⟩:=Bn.mp e
 refine⟨_,rfl,eI (by lia),c,b,?_⟩
 show ∃ a,L3.Sub a M/\R (.bl (occ ⟨#[c]⟩ "ABCS")) a
 rw[d]
 exact⟨_,Sub.refl _,r⟩
theorem AQ(fs:List b5)(f:b5):(bD (e9 fs) (fK f)).isSome=decide (f∈fs):=by
 unfold e9
 induction fs with
 | nil=>rfl
 | cons g fs a=>
  rw[Ar,nE]
  by_cases h:g=f
  ·subst h;rw[if_pos rfl];simp
  ·rw[if_neg (fun z=>h (tX _ _ z)),a]
   have:¬ f=g:=fun z=>h z.symm
   simp[this]
def nK(a:List Str)(fs:List b5)(t:Str)(m x:Int):Prop:=(isN t=false/\a[m.toNat]? = some t/\x=m + 1)\/(isN t=true/\m<=x/\x<=a.length/\(t,m,x)∈fs)
def lG(lo:Int)(k:Nat):List Int:=(Ce k).map fun(i:Nat)=>lo + (i:Int)
theorem AR{lo x:Int}{k:Nat}:x∈lG lo k↔lo<=x/\x < lo + k:=by
 unfold lG
 rw[Aw]
 constructor
 ·rintro⟨i,hi,rfl⟩
  have:=Eh.mp hi
  lia
 ·intro h
  exact⟨(x - lo).toNat,Eh.mpr (by lia),by lia⟩
def qZ(f:Int->Bool):W->Option W
 | .int x=>if f x=true then some (.int x) else none
 | _=>none
theorem IX(f:Int->Bool)(lo:Int)(k:Nat):(hV lo k).filterMap (qZ f)=((lG lo k).filter f).map W.int:=by
 unfold hV lG
 generalize Ce k=l
 induction l with
 | nil=>rfl
 | cons i l a=>
  have e:qZ f (W.int (lo + (i:Int)))=if f (lo + (i:Int))=true then some (.int (lo + (i:Int))) else none:=rfl
  rw[Ar,Ar,Gm,Ff,e]
  by_cases h:f (lo + (i:Int))=true
  ·rw[if_pos h,if_pos h,Ar,<-a]
  ·rw[if_neg h,if_neg h,<-a]
theorem IY{a:List Str}{fs:List b5}{b:Int}{ps:List Str}{t:Str}(hb:0<=b/\b<=a.length)(x:Int):Rc a (fun f=>f∈fs) b (ps ++ [t]) x↔∃ m,Rc a (fun f=>f∈fs) b ps m/\nK a fs t m x:=by
 constructor
 ·intro h
  generalize k:ps ++ [t]=qs at h
  cases h with
  | nil=>simp at k
  | word d c g i=>
   obtain⟨rfl,e⟩:=Mq k rfl
   cases e
   exact⟨_,d,.inl ⟨c,i,rfl⟩⟩
  | name d c g i j=>
   obtain⟨rfl,e⟩:=Mq k rfl
   cases e
   exact⟨_,d,.inr ⟨c,g,i,j⟩⟩
 ·rintro⟨m,d,⟨c,g,rfl⟩ | ⟨c,g,i,j⟩⟩
  ·exact .word d c (Int.le_trans hb.1 (d.in_ hb).1) g
  ·exact .name d c g i j
theorem take_snoc{a:Type}{l:List a}{k:Nat}{x:a}(h:l[k]? = some x):l.take (k + 1)=l.take k ++ [x]:=by
 rw[Ga,h];rfl
theorem zeH{ws:List W}{M:Mm}{R:K3}(h:AH ws M R):zdO (bK R) (cF zdJ ws) M:=by
 obtain⟨ps,d,p,b,e,fs,rfl,hps,O,hw,hM,hb,r⟩:=h
 have hl:=hw.few
 refine⟨_,rfl,z1,_,rfl,?_⟩
 refine fF (ws:=ps.map W.str) (fun i G L=>∃ (l:List Int) (T S A:Option W),G=[some (.tup (ps.map W.str)),some (iB d),some (.ref p),some (.int b),some (.int e),some (.rl (l.map W.int)),T,S,A]/\L=M/\l.length<=7/\∀ m,m∈l↔Rc d (fun f=>f∈fs) b (ps.take i) m)
  ⟨[b],_,_,_,rfl,rfl,by simp,fun m=>?_⟩ (fun _ _ _ _ _=>trivial) ?_ ?_
 ·rw[Ba,Nl]
  constructor
  ·rintro rfl;exact .nil
  ·intro h
   generalize Y:([]:List Str)=qs at h
   cases h with
   | nil=>rfl
   | word=>simp at Y
   | name=>simp at Y
 ·rintro i w G L J ⟨l,T,S,A,rfl,rfl,Q,o⟩
  rw[Bh] at J
  obtain⟨t,ht,rfl⟩:=Bn.mp J
  have P:=O t (Be ht)
  have X:∀ m∈l,0<=m/\m<=d.length:=fun m F=>by
   have:=((o m).mp F).in_ hb
   lia
  refine⟨z0,_,rfl,?_⟩
  refine fF (ws:=l.map W.int) (fun j G g=>∃ (xs:List Int) (A:Option W),G=[some (.tup (ps.map W.str)),some (iB d),some (.ref p),some (.int b),some (.int e),some (.rl (l.map W.int)),some (.str t),some (.rl (xs.map W.int)),A]/\g=L/\xs.length<=7 * j/\∀ x,x∈xs↔∃ m∈l.take j,nK d fs t m x)
   ⟨[],_,rfl,rfl,Co _,fun x=>by simp⟩ (fun _ _ _ _ _=>trivial) ?_ ?_
  ·rintro j w G g I ⟨xs,A,rfl,rfl,K,v⟩
   rw[Bh] at I
   obtain⟨m,F,rfl⟩:=Bn.mp I
   obtain⟨m0,m1⟩:=X m (Be F)
   have hj:=(Ao.mp F).1
   have fin:∀ (ys:List Int),ys.length<=7->(∀ x,x∈ys↔nK d fs t m x)->∃ H,L3.Sub H g/\∃ (n:List Int) (A:Option W),[some (W.tup (ps.map W.str)),some (iB d),some (.ref p),some (.int b),some (.int e),some (.rl (l.map W.int)),some (.str t),some (.rl (xs.map W.int ++ ys.map W.int)),some (.int m)]=[some (.tup (ps.map W.str)),some (iB d),some (.ref p),some (.int b),some (.int e),some (.rl (l.map W.int)),some (.str t),some (.rl (n.map W.int)),A]/\H=g/\n.length<=7 * (j + 1)/\∀ x,x∈n↔∃ m∈l.take (j + 1),nK d fs t m x:=fun ys s h2=>
    ⟨_,Sub.refl _,xs ++ ys,_,by rw[Bs],rfl,by rw[Av];lia,fun x=>by
     rw[Bo,v,h2,take_snoc F]
     constructor
     ·rintro(⟨B,a1,a2⟩ | a)
      ·exact⟨B,Ep _ a1,a2⟩
      ·exact⟨m,by simp,a⟩
     ·rintro⟨B,a1,a2⟩
      rcases Bo.mp a1 with a1 | a1
      ·exact .inl ⟨B,a1,a2⟩
      ·cases Ba.mp a1;exact .inr a2⟩
   have two:∀ {ys:List Int},ys.length<=7->(xs.map W.int).length + (ys.map W.int).length<=Aj:=fun {ys} h=>eI (by rw[Ab,Ab];lia)
   refine⟨_,rfl,t,rfl,P,fL (fun E=>?_) fun E=>?_⟩
   ·have E:isN t=false:=by simpa using E
    have go:∀ c:Bool,(c=true↔d[m.toNat]? = some t)->∃ H,L3.Sub H g/\_:=fun c hc=>fin (if c=true then [m + 1] else []) (by split <;> simp) fun x=>by
     unfold nK
     cases c with
     | true=>simp[E,hc.mp rfl]
     | false=>
      have hz:¬ d[m.toNat]? = some t:=fun z=>Am (hc.mpr z)
      simp[E,hz]
    have fl:∀ c:Bool,(Bu (if c=true then(1:Int) else 0).toNat [W.int (m + 1)]).flatten=(if c=true then [m + 1] else []).map W.int:=fun c=>by cases c <;> rfl
    have done:∀ c:Bool,(c=true↔d[m.toNat]? = some t)->zZ [.bl c] g fun y M2=>iK (.rl [.int (m + 1)]) y M2 fun z H=>cA (.rl (xs.map W.int)) z H fun w M1=>∃ M4,L3.Sub M4 M1/\∃ (n:List Int) (A:Option W),[some (W.tup (ps.map W.str)),some (iB d),some (.ref p),some (.int b),some (.int e),some (.rl (l.map W.int)),some (.str t),some w,some (.int m)]=[some (.tup (ps.map W.str)),some (iB d),some (.ref p),some (.int b),some (.int e),some (.rl (l.map W.int)),some (.str t),some (.rl (n.map W.int)),A]/\M4=g/\n.length<=7 * (j + 1)/\∀ x,x∈n↔∃ m∈l.take (j + 1),nK d fs t m x:=fun c hc=>by
     refine⟨by cases c <;> decide,by cases c <;> decide,eI (by cases c <;> simp),?_⟩
     rw[fl c]
     exact⟨two (by split <;> simp),go c hc⟩
    refine⟨_,rfl,_,rfl,z1,_,rfl,_,rfl,_,rfl,fL (fun s=>?_) fun s=>done false (Iff.intro (fun z=>nomatch z) fun z=>?_)⟩
    ·have s:=of_decide_eq_true s
     rw[Ab] at s
     obtain⟨x,ex,Z,_⟩:=oH (xs:=d.map W.str) (i:=m) m0 (by rw[Ab];exact s)
     rw[Bh] at Z
     obtain⟨u,hu,rfl⟩:=Bn.mp Z
     refine⟨_,rfl,_,rfl,_,ex,_,rfl,done (decide (u=t)) ?_⟩
     rw[decide_eq_true_eq,hu]
     simp
    ·have:=(Ao.mp z).1
     have s:=of_decide_eq_false s
     rw[Ab] at s
     lia
   ·have E:isN t=true:=by simpa using E
    refine⟨_,rfl,_,rfl,_,rfl,m,(d.length:Int) + 1,by rw[Ab],⟨by lia,by lia,by lia,by lia⟩,?_⟩
    refine oF (rest:=[some (.ref p),some (.str t),some (.int m)]) (qZ fun x=>decide ((t,m,x)∈fs)) (eI (by rw[G5];lia)) (fun _ _=>trivial) (fun w U H C D sb d1 d2=>?_) ?_
    ·obtain⟨k,hk,rfl⟩:=Aw.mp U
     refine⟨_,rfl,_,rfl,_,rfl,z3,_,rfl,.inr ⟨_,.inr ⟨e9 fs,fK (t,m,m + (k:Int)),sb p _ hM,rfl,rfl⟩,_,rfl,?_⟩⟩
     show if (bD (e9 fs) (fK (t,m,m + (k:Int)))).isSome=true then _ else _
     rw[AQ]
     refine fL (fun z=>⟨_,rfl,d1 _ (if_pos z)⟩) fun z=>d2 (if_neg (fun q=>Am (z.symm.trans q)))
    ·rw[IX]
     refine aQ.frz ⟨two ?_,fin _ ?_ fun x=>?_⟩
     ·exact Bp (Ik _ _) (by unfold lG;rw[Ab,Ez];lia)
     ·exact Bp (Ik _ _) (by unfold lG;rw[Ab,Ez];lia)
     ·rw[Fp,AR,decide_eq_true_eq]
      unfold nK
      constructor
      ·rintro⟨⟨a1,a2⟩,N⟩;exact .inr ⟨E,a1,by lia,N⟩
      ·rintro(⟨a,_⟩ | ⟨_,a1,a2,N⟩)
       ·rw[E] at a;cases a
       ·exact⟨⟨a1,by lia⟩,N⟩
  ·rintro G g ⟨xs,A,rfl,rfl,K,v⟩
   rw[Ab,Ew] at v
   rw[Ab] at K
   refine⟨_,rfl,xs,rfl,by lia,fun ns s h2 h3 h4=>?_⟩
   refine⟨_,Sub.refl _,ns,_,_,_,rfl,rfl,?_,fun m=>?_⟩
   ·have sub:∀ x∈ns,x∈lG 0 7:=fun x V=>by
     obtain⟨m,F,hs⟩:=(v x).mp ((s x).mp V)
     have hr:=(IY (t:=t) hb x).mpr ⟨m,(o m).mp F,hs⟩
     have:=hr.in_ hb
     exact AR.mpr ⟨by lia,by lia⟩
    exact Bp (len_sub h4 sub) (by unfold lG;rw[Ab,Ez];exact Ai _)
   ·rw[s,v,take_snoc ht,IY hb]
    exact⟨fun⟨B,a1,a2⟩=>⟨B,(o B).mp a1,a2⟩,fun⟨B,a1,a2⟩=>⟨B,(o B).mpr a1,a2⟩⟩
 ·rintro G L ⟨l,T,S,A,rfl,rfl,Q,o⟩
  rw[Ab,Ew] at o
  refine⟨_,rfl,_,rfl,rfl,?_,_,Sub.refl _,r _ ?_⟩
  ·rw[List.all_map,Kl];exact fun _ _=>rfl
  ·rw[<-o]
   show inW (.int e) (l.map W.int)=true↔_
   unfold inW
   rw[List.any_map,Mr]
   constructor
   ·rintro⟨x,V,h⟩
    have:x=e:=by simpa [nY] using h
    rw[<-this];exact V
   ·intro h
    exact⟨e,h,by simp[nY]⟩
structure FI(rs:List aY)(row:List Str)(fs0 fs:List b5)(b:Bool)(C:aY->Int->Int->Prop):Prop where
 nd:fs.Nodup
 der:∀ f∈fs,kG rs row f
 gr:b=true->fs0.length < fs.length
 st:b=false->fs=fs0/\∀ r i e,C r i e->Rc row (fun f=>f∈fs0) i r.parts e->(r.name,i,e)∈fs0
theorem FI.mono{rs:List aY}{d:List Str}{a fs:List b5}{b:Bool}{C f:aY->Int->Int->Prop}(h:FI rs d a fs b C)(k:∀ r i e,f r i e->C r i e):FI rs d a fs b f:=
 ⟨h.nd,h.der,h.gr,fun z=>⟨(h.st z).1,fun r i e c=>(h.st z).2 r i e (k r i e c)⟩⟩
theorem FI.same{rs:List aY}{a:List Str}{d fs:List b5}{b:Bool}{C m:aY->Int->Int->Prop}{r:aY}{i e:Int}(h:FI rs a d fs b C)(q:Rc a (fun f=>f∈fs) i r.parts e->(r.name,i,e)∈fs)
  (k:∀ g j l,m g j l->C g j l\/(g=r/\j=i/\l=e)):FI rs a d fs b m:=
 ⟨h.nd,h.der,h.gr,fun z=>⟨(h.st z).1,fun g j l c=>by
  rcases k _ _ _ c with c | ⟨rfl,rfl,rfl⟩
  ·exact(h.st z).2 _ _ _ c
  ·rw[<-(h.st z).1];exact q⟩⟩
theorem FI.more{rs:List aY}{a:List Str}{c fs:List b5}{b:Bool}{C l:aY->Int->Int->Prop}{r:aY}{i e:Int}(g:gT rs)(h:FI rs a c fs b C)(k:r∈rs)(hi:0<=i/\i<=a.length)(q:Rc a (fun f=>f∈fs) i r.parts e)(n:(r.name,i,e)∉fs):FI rs a c (fs ++ [(r.name,i,e)]) true l:=
 ⟨Gd.mpr ⟨h.nd,by simp,fun x d y j z=>by cases Ba.mp j;exact n (z ▸ d)⟩,fun f hf=>by
  rcases Bo.mp hf with hf | hf
  ·exact h.der f hf
  ·cases Ba.mp hf
   exact zc6 g k hi (q.mono h.der),fun _=>by
  rw[Av]
  cases z:b with
  | true=>exact Br (h.gr z) (Mv _ _)
  | false=>rw[(h.st z).1];exact Hy _,fun z=>nomatch z⟩
def KS(rs:List aY)(a:List Str)(e:Mm)(p:Addr)(c:List b5)(C:aY->Int->Int->Prop)(d f:S3)(M:Mm):Prop:=
 ∃ fs b,f=some (eX rs) :: some (iB a) :: some (.ref p) :: some (.bl b) :: d/\M=put e p (.dT (e9 fs))/\FI rs a c fs b C
theorem zeI{fs:List b5}{f:b5}(h:f∉fs):bZ (e9 fs) (fK f) (.bl true)=e9 (fs ++ [f]):=by
 unfold bZ
 rw[if_neg (by rw[show((e9 fs).any fun a=>decide (a.1=fK f))=(bD (e9 fs) (fK f)).isSome from nB _ _,AQ,decide_eq_true_eq];exact h)]
 unfold e9
 rw[Bs];rfl
abbrev C1(rs:List aY)(a:List Str)(i:Nat)(r:aY)(b e:Int):Prop:=r∈rs.take i/\0<=b/\b<=e/\e<=a.length
abbrev C2(rs:List aY)(a:List Str)(i:Nat)(q:aY)(j:Nat)(r:aY)(b e:Int):Prop:=C1 rs a i r b e\/(r=q/\0<=b/\b < j/\b<=e/\e<=a.length)
abbrev C3(rs:List aY)(a:List Str)(i:Nat)(q:aY)(j k:Nat)(r:aY)(b e:Int):Prop:=C2 rs a i q j r b e\/(r=q/\b=j/\(j:Int)<=e/\e < (j:Int) + k)
theorem zeJ{ws:List W}{M:Mm}{R:K3}(h:AI ws M R):zdV (bK R) (cF zdP ws) M:=by
 obtain⟨rs,a,rfl,g,w,r⟩:=h
 have hl:=w.few
 have few:∀ {l fs b C},FI rs a l fs b C->fs.length < 128:=fun h=>uM w.few h.nd fun f hf=>qW g (h.der f hf)
 intro p T
 refine⟨fun m n o=>∃ fs b D E B u s,n=[some (eX rs),some (iB a),some (.ref p),some (.bl b),D,E,B,u,s]/\o=put M p (.dT (e9 fs))/\FI rs a fs fs false (fun r i e=>b=false/\r∈rs/\0<=i/\i<=e/\e<=a.length)/\m=128 - fs.length + (if b=true then 1 else 0),
  ⟨_,[],true,_,_,_,_,_,rfl,rfl,⟨.nil,(fun f hf=>nomatch hf),(fun z=>nomatch z),fun _=>⟨rfl,fun _ _ _ z=>(nomatch z.1)⟩⟩,rfl⟩,?_⟩
 rintro m n o ⟨l,b,D,E,B,u,s,rfl,rfl,I,rfl⟩
 refine⟨_,rfl,fL (fun hb=>?_) fun hb=>?_⟩
 ·subst hb
  refine⟨_,rfl,?_⟩
  refine fF (ws:=rs.map cB) (fun i n o=>∃ D E B u s,KS rs a M p l (C1 rs a i) [D,E,B,u,s] n o)
   ⟨_,_,_,_,_,l,false,rfl,rfl,I.mono fun r i e z=>by have:=z.1;simp at this⟩ (fun _ _ _ _ _=>trivial) ?_ ?_
  ·rintro i wr n o hw ⟨D,E,B,u,s,fs,b,rfl,rfl,F⟩
   rw[Bh] at hw
   obtain⟨q,J,rfl⟩:=Bn.mp hw
   have y:=Be J
   refine⟨rfl,rfl,_,rfl,(a.length:Int) + 1,by rw[Ab],by lia,by lia,?_⟩
   refine fF (fun j n o=>∃ u s,KS rs a M p l (C2 rs a i q j) [some (.str q.name),some (.tup (q.parts.map W.str)),some (.int q.cost),u,s] n o)
    ⟨_,_,fs,b,rfl,rfl,F.mono fun r v e z=>z.elim id fun z=>by lia⟩ (fun _ _ _ _ _=>trivial) ?_ ?_
   ·rintro j wj n o Q ⟨u,s,fs,b,rfl,rfl,F⟩
    obtain⟨P,rfl⟩:=AN Q
    rw[Lj]
    refine⟨_,rfl,_,rfl,(j:Int),(a.length:Int) + 1,by rw[Ab],⟨by lia,by lia,by lia,by lia⟩,?_⟩
    refine fF (fun k n o=>∃ s,KS rs a M p l (C3 rs a i q j k) [some (.str q.name),some (.tup (q.parts.map W.str)),some (.int q.cost),some (.int j),s] n o)
     ⟨_,fs,b,rfl,rfl,F.mono fun r v e z=>z.elim id fun z=>by lia⟩ (fun _ _ _ _ _=>trivial) ?_ ?_
    ·rintro k Z n o hk ⟨s,fs,b,rfl,rfl,F⟩
     obtain⟨O,rfl⟩:=AN hk
     have cs:∀ H v A,C3 rs a i q j (k + 1) H v A->C3 rs a i q j k H v A\/(H=q/\v=j/\A=(j:Int) + k):=by
      rintro H v A (z | ⟨z0,z3,z1,z2⟩)
      ·exact .inl (.inl z)
      ·by_cases X:A=(j:Int) + k
       ·exact .inr ⟨z0,z3,X⟩
       ·exact .inl (.inr ⟨z0,z3,z1,by lia⟩)
     refine⟨_,rfl,_,rfl,_,rfl,z3,_,rfl,.inr ⟨_,.inr ⟨e9 fs,fK (q.name,(j:Int),(j:Int) + (k:Int)),bC,rfl,rfl⟩,_,rfl,?_⟩⟩
     show if (!(bD (e9 fs) (fK (q.name,(j:Int),(j:Int) + (k:Int)))).isSome)=true then _ else _
     rw[AQ]
     refine fL (fun x=>?_) fun x=>?_
     ·have x:(q.name,(j:Int),(j:Int) + (k:Int))∉fs:=by simpa using x
      refine⟨_,rfl,_,rfl,_,rfl,_,rfl,_,rfl,q.parts,a,p,j,(j:Int) + k,fs,rfl,g.fp q y,fun t ht=>(g.prt q y t ht).elim (fun z=>.inr (nI z)) fun z=>.inl z.1,w,bC,⟨by lia,by lia⟩,fun c hc=>fL (fun G=>?_) fun G=>?_⟩
      ·have hf:=few F
       refine⟨_,rfl,_,rfl,_,rfl,_,rfl,z3,sX (k:=fK (q.name,(j:Int),(j:Int) + (k:Int))) bC (by unfold e9;rw[Ab];exact Br hf (eI (by decide))) ?_⟩
       rw[zeI x,kO]
       exact⟨_,Sub.refl _,_,_,_,rfl,rfl,F.more g y ⟨by lia,by lia⟩ (hc.mp G) x⟩
      ·exact⟨_,Sub.refl _,_,_,_,rfl,rfl,F.same (fun z=>(Am (G.symm.trans (hc.mpr z))).elim) cs⟩
     ·have x:(q.name,(j:Int),(j:Int) + (k:Int))∈fs:=by simpa using x
      exact⟨_,Sub.refl _,_,_,_,rfl,rfl,F.same (fun _=>x) cs⟩
    ·rintro n o ⟨s,fs,b,rfl,rfl,F⟩
     rw[nJ] at F
     exact⟨_,Sub.refl _,_,_,_,_,rfl,rfl,F.mono fun r v e z=>z.elim (fun z=>.inl (.inl z)) fun z=>by
      by_cases hi:v=j
      ·exact .inr ⟨z.1,hi,by lia,by lia⟩
      ·exact .inl (.inr ⟨z.1,by lia,by lia,by lia,by lia⟩)⟩
   ·rintro n o ⟨u,s,fs,b,rfl,rfl,F⟩
    rw[nJ] at F
    refine⟨_,Sub.refl _,_,_,_,_,_,_,_,rfl,rfl,F.mono fun r v e z=>?_⟩
    rw[C1,take_snoc J,Bo,Ba] at z
    rcases z.1 with z1 | z1
    ·exact .inl ⟨z1,z.2⟩
    ·exact .inr ⟨z1,by lia,by lia,by lia,by lia⟩
  ·rintro n o ⟨D,E,B,u,s,fs,b,rfl,rfl,F⟩
   rw[Ab,show rs.length=rs.length from rfl] at F
   have f1:=few F
   refine⟨_,_,?_,Sub.refl _,fs,b,_,_,_,_,_,rfl,rfl,⟨F.nd,F.der,(fun z=>nomatch z),fun _=>⟨rfl,fun H v A z q=>?_⟩⟩,rfl⟩
   ·cases z:b with
    | true=>have:=F.gr z;simp;lia
    | false=>rw[(F.st z).1];simp
   ·obtain⟨V,S⟩:=F.st z.1
    rw[V] at q ⊢
    exact S _ _ _ ⟨by rw[Ew];exact z.2.1,z.2.2⟩ q
 ·subst hb
  refine⟨_,rfl,_,Sub.refl _,r l I.nd (fun f=>⟨I.der f,fun d=>?_⟩) p T⟩
  exact IG g (K:=fun f=>f∈l) (fun r U b e G Y N L=>(I.st rfl).2 r b e ⟨rfl,U,G,Y,N⟩ L) d
theorem IZ{ws:List W}{j:Nat}(h:j<=ws.length):cH ws none (some (j:Int))=ws.take j:=by
 unfold cH
 rw[HT.sIx_none,HT.sIx_nat,Nd h]
 simp
def oZ(hs:List Str):W->Option W
 | .int k=>(hs[k.toNat]?).bind fun t=>if t∈hs.take k.toNat then none else some (.str t)
 | _=>none
theorem zeK{hs:List Str}{xs:List W}(h:∀ w∈xs,∃ k:Nat,w=.int k):∃ us:List Str,xs.filterMap (oZ hs)=us.map W.str/\us.length<=xs.length/\∀ t∈us,t∈hs:=by
 induction xs with
 | nil=>exact⟨[],rfl,Ai _,fun _ z=>nomatch z⟩
 | cons w xs a=>
  obtain⟨us,e,l,m⟩:=a fun w hw=>h w (Bd _ hw)
  obtain⟨k,rfl⟩:=h w Bi
  rw[Gm]
  cases z:oZ hs (.int k) with
  | none=>exact⟨us,e,Nat.le_succ_of_le l,m⟩
  | some y=>
   unfold oZ at z
   obtain⟨t,ht,z⟩:=Option.bind_eq_some_iff.mp z
   split at z
   ·cases z
   ·cases z
    exact⟨t :: us,by rw[e];rfl,Nat.succ_le_succ l,fun t' h'=>(Az.mp h').elim (fun q=>q ▸ Be ht) (m t')⟩
theorem JA{P:W->W->Prop}{Q:Str->Prop}{xs ys:List W}(h:Iq P xs ys)(k:∀ x y,P x y->∃ t,y=.str t/\Q t):∃ ts:List Str,ys=ts.map W.str/\ts.length=xs.length/\∀ t∈ts,Q t:=by
 induction h with
 | nil=>exact⟨[],rfl,rfl,fun _ z=>nomatch z⟩
 | cons a _ b=>
  obtain⟨ts,rfl,l,m⟩:=b
  obtain⟨t,rfl,q⟩:=k _ _ a
  exact⟨t :: ts,rfl,by rw[Bt,Bt,l],fun t' h'=>(Az.mp h').elim (fun e=>e ▸ q) (m t')⟩
theorem zeL{P:W->W->Prop}{xs ys:List W}(h:Iq P xs ys)(k:∀ x y,P x y->∃ i,y=.int i):∃ ts:List Int,ys=ts.map W.int/\ts.length=xs.length:=by
 induction h with
 | nil=>exact⟨[],rfl,rfl⟩
 | cons a _ b=>
  obtain⟨ts,rfl,l⟩:=b
  obtain⟨t,rfl⟩:=k _ _ a
  exact⟨t :: ts,rfl,by rw[Bt,Bt,l]⟩
theorem zeM{a:List Int}{a1 a2 e b c f g d:Int}(h:Drawn a [a1,a2,e,b,c,f,g,d]):∃ x1 x2 x3 x4 x5 x6 x7 x8,a=[x1,x2,x3,x4,x5,x6,x7,x8]/\Below x2 a2/\(Below x3 e/\Below x4 b/\Below x5 c/\Below x6 f)/\Below x7 g/\Below x8 d:=by
 cases h with | cons p h=>cases h with | cons k h=>cases h with | cons o h=>cases h with | cons n h=>cases h with | cons j h=>cases h with | cons l h=>cases h with | cons m h=>cases h with | cons i h=>cases h;exact⟨_,_,_,_,_,_,_,_,rfl,k,⟨o,n,j,l⟩,m,i⟩
theorem AU{b:List Int}{a:Int}(h:Drawn b [a]):∃ x,b=[x]/\Below x a:=by
 cases h with | cons c h=>cases h;exact⟨_,rfl,c⟩
theorem zeN{x1 x2 x3 x4 x5 x6 x7 x8:Int}(h:Below x2 5)(a:Below x3 8/\Below x4 8/\Below x5 8/\Below x6 8):∃ b:List Int,cH ([x1,x2,x3,x4,x5,x6,x7,x8].map W.int) (some 2) (some (2 + x2))=b.map W.int/\b.length<=4/\∀ d∈b,Below d 8:=by
 refine⟨[x3,x4,x5,x6].take x2.toNat,?_,by rw[Cf];exact Nat.min_le_right _ _,fun d hd=>?_⟩
 ·obtain⟨c,e⟩:=h
  have:x2=0\/x2=1\/x2=2\/x2=3\/x2=4:=by lia
  rcases this with rfl | rfl | rfl | rfl | rfl <;> rfl
 ·have:=Kw hd
  simp only[Az,Ex,or_false] at this
  rcases this with rfl | rfl | rfl | rfl
  ·exact a.1
  ·exact a.2.1
  ·exact a.2.2.1
  ·exact a.2.2.2
theorem zeO{ws:List W}{M:Mm}{R:K3}(h:AF ws M R):zdy (bK R) (cF zdq ws) M:=by
 obtain⟨E,rfl,hz,r⟩:=h
 refine⟨_,rfl,E,0,rfl,hz,fun V=>⟨show(0:Int) < 8 by decide,1 + V % 8,rfl,?_⟩⟩
 have m0:=Ih V (b:=8) (by decide)
 have m1:=Ha V (b:=8) (by decide)
 refine⟨by lia,by lia,xD (rest:=[some (.sc (E.map W.int))]) (fun _ y=>∃ i,y=.int i) (eI (by rw[nJ];lia)) (fun _ _=>trivial) (fun w hw l C sb B=>?_) fun ys po=>aQ.frz ?_⟩
 ·obtain⟨k,hk,rfl⟩:=Aw.mp hw
  exact⟨_,rfl,_,rfl,E,_,rfl,hz,fun i=>B _ ⟨i,rfl⟩⟩
 obtain⟨cs,rfl,Y⟩:=zeL po fun _ _ h=>h
 rw[nJ] at Y
 refine⟨_,rfl,xD (rest:=[]) (fun _ y=>∃ t,y=.str t/\t∈NM) (eI (by rw[Ab];lia)) (fun _ _=>trivial) (fun w hw l C sb B=>?_) fun ys po=>aQ.frz ?_⟩
 ·obtain⟨c,hc,rfl⟩:=Aw.mp hw
  refine⟨z4,_,rfl,z1,c,[4],rfl,by decide,fun s hs=>by simp at hs;subst hs;decide,fun ds hd=>aQ.frz ?_⟩
  obtain⟨x,rfl,b0,b1⟩:=AU hd
  obtain⟨t,G,F⟩:=uQ (ts:=NM) (k:=x) b0 b1
  exact⟨_,rfl,_,G,B _ ⟨t,rfl,F⟩⟩
 obtain⟨hs,rfl,T,H⟩:=JA po fun _ _ h=>h
 rw[Ab] at T
 refine⟨_,rfl,(hs.length:Int),by rw[Ab],by lia,by lia,oF (rest:=[some (.rl (hs.map W.str))]) (oZ hs) (eI (by rw[nJ];lia)) (fun _ _=>trivial) (fun w hw l C D sb B P=>?_) (aQ.frz ?_)⟩
 ·obtain⟨k,hk,rfl⟩:=Aw.mp hw
  have hk:=Eh.mp hk
  have hk:k < hs.length:=by lia
  have N:hs[k]? = some hs[k]:=An hk
  have ea:bU (hs.map W.str) ((0:Int) + (k:Int))=some (.str hs[k]):=by rw[Lj];exact jO (by rw[Bh,N];rfl)
  have L:oZ hs (.int ((0:Int) + (k:Int)))=if hs[k]∈hs.take k then none else some (.str hs[k]):=by rw[Lj];show(hs[(k:Int).toNat]?).bind (fun t=>if t∈hs.take (k:Int).toNat then none else some (W.str t))=_;rw[Cm,N];rfl
  have ec:cH (hs.map W.str) none (some ((0:Int) + (k:Int)))=(hs.take k).map W.str:=by rw[Lj,IZ (by rw[Ab];lia),<-Ma]
  refine⟨_,rfl,_,rfl,_,ea,_,rfl,_,rfl,_,rfl,rfl,by rw[ec];exact F5 _,_,rfl,?_⟩
  show if (!inW (.str hs[k]) (cH (hs.map W.str) none (some ((0:Int) + (k:Int)))))=true then _ else _
  rw[ec,F2]
  refine fL (fun hn=>⟨_,rfl,_,rfl,_,ea,B _ (by rw[L,if_neg (by simpa using hn)])⟩) fun hn=>P (by rw[L,if_pos (by simpa using hn)])
 obtain⟨us,L,U,K⟩:=zeK (hs:=hs) (xs:=hV 0 (hs.length:Int).toNat) fun w hw=>by obtain⟨k,_,rfl⟩:=Aw.mp hw;exact⟨k,by simp⟩
 have Q:0 < hs.length:=by lia
 have une:0 < us.length:=by
  have h0:(W.int 0)∈hV 0 (hs.length:Int).toNat:=Aw.mpr ⟨0,Eh.mpr (by lia),rfl⟩
  have B:oZ hs (.int 0)=some (.str hs[0]):=by show(hs[(0:Int).toNat]?).bind (fun t=>if t∈hs.take (0:Int).toNat then none else some (W.str t))=_;rw[show hs[(0:Int).toNat]? = some hs[0] from An Q];rfl
  have P:=List.mem_filterMap.mpr ⟨_,h0,B⟩
  rw[L] at P
  obtain⟨t,ht,_⟩:=Aw.mp P
  exact My ht
 rw[L]
 rw[nJ] at U
 refine⟨z0,fun p hp=>⟨_,rfl,_,rfl,?_⟩⟩
 have zl:(iM (hs.map W.str) (cs.map W.int)).length=hs.length:=by rw[mC,Ab,Ab];lia
 refine fF (fun i u l=>∃ (rs:List aY) (S Z X o8 n:Option W),u=[some (.sc (E.map W.int)),some (.rl (cs.map W.int)),some (.rl (hs.map W.str)),some (.rl (us.map W.str)),some (.ref p),S,Z,X,o8,n]/\l=put M p (.lst (rs.map cB))/\rs.map aY.name=hs.take i/\(∀ r∈rs,r.parts.length<=4/\(∀ t∈r.parts,t∈W3\/t∈us)/\0<=r.cost/\r.cost < 10 ^ 60))
  ⟨[],_,_,_,_,_,rfl,rfl,by simp,fun _ z=>nomatch z⟩ (fun _ _ _ _ _=>trivial) ?_ ?_
 ·rintro i w u l hw ⟨rs,S,Z,X,o8,n,rfl,rfl,a,f⟩
  have hi:i < hs.length:=by have:=(Ao.mp hw).1;lia
  rw[sZ (x:=.str hs[i]) (y:=.int (cs[i]'(by lia))) (by rw[Bh,An hi];rfl) (by rw[Bh,An (by lia)];rfl)] at hw
  cases hw
  generalize cs[i]'(by lia)=c
  refine⟨rfl,rfl,_,rfl,⟨by decide,by decide,by decide⟩,z8,c,[4,5,8,8,8,8,4,10 ^ 6],rfl,by decide,by decide,fun ds hd=>aQ.frz ?_⟩
  obtain⟨x1,x2,x3,x4,x5,x6,x7,x8,rfl,b2,b36,b7,b8⟩:=zeM hd
  obtain⟨ds,ed,dl,db⟩:=zeN (x1:=x1) (x7:=x7) (x8:=x8) b2 b36
  refine⟨z0,fun q O=>⟨_,rfl,_,rfl,_,rfl,_,rfl,_,rfl,?_⟩⟩
  have g:p≠q:=fun z=>by rw[<-z,bC] at O;cases O
  have hMq:M q=none:=by rw[aP (fun z=>g z.symm)] at O;exact O
  refine fF (ws:=cH ([x1,x2,x3,x4,x5,x6,x7,x8].map W.int) (some 2) (some (2 + x2))) (fun j u l=>∃ (ps:List Str) (n:Option W),u=[some (.sc (E.map W.int)),some (.rl (cs.map W.int)),some (.rl (hs.map W.str)),some (.rl (us.map W.str)),some (.ref p),some (.str hs[i]),some (.int c),some (.rl ([x1,x2,x3,x4,x5,x6,x7,x8].map W.int)),some (.ref q),n]/\l=put (put M p (.lst (rs.map cB))) q (.lst (ps.map W.str))/\ps.length<=j/\∀ t∈ps,t∈W3\/t∈us)
   ⟨[],_,rfl,rfl,Ai _,fun _ z=>nomatch z⟩ (fun _ _ _ _ _=>trivial) ?_ ?_
  ·rintro j w u l hw ⟨ps,n,rfl,rfl,A,v⟩
   rw[ed,Bh] at hw
   obtain⟨d,I,rfl⟩:=Bn.mp hw
   obtain⟨d0,d1⟩:=db d (Be I)
   have hj:=(Ao.mp I).1
   have fin:∀ t:Str,t∈W3\/t∈us->fU (.ref q) [.str t] (put (put M p (.lst (rs.map cB))) q (.lst (ps.map W.str))) fun _ M1=>∃ J,L3.Sub J M1/\∃ (ps:List Str) (n:Option W),[some (W.sc (E.map W.int)),some (.rl (cs.map W.int)),some (.rl (hs.map W.str)),some (.rl (us.map W.str)),some (.ref p),some (.str hs[i]),some (.int c),some (.rl ([x1,x2,x3,x4,x5,x6,x7,x8].map W.int)),some (.ref q),some (.int d)]=[some (.sc (E.map W.int)),some (.rl (cs.map W.int)),some (.rl (hs.map W.str)),some (.rl (us.map W.str)),some (.ref p),some (.str hs[i]),some (.int c),some (.rl ([x1,x2,x3,x4,x5,x6,x7,x8].map W.int)),some (.ref q),n]/\J=put (put M p (.lst (rs.map cB))) q (.lst (ps.map W.str))/\ps.length<=j + 1/\∀ t∈ps,t∈W3\/t∈us:=fun t ht=>
    ⟨_,bC,Br (by rw[Ab];lia) z8,_,Sub.refl _,ps ++ [t],_,rfl,by rw[kO,Bs];rfl,by rw[Av];exact Nat.succ_le_succ A,fun t' h'=>(Bo.mp h').elim (v t') fun z=>by cases Ba.mp z;exact ht⟩
   refine⟨_,rfl,_,rfl,fL (fun h3=>?_) fun h3=>?_⟩
   ·obtain⟨t,G,F⟩:=uQ (ts:=W3) (k:=d) d0 (of_decide_eq_true h3)
    exact⟨_,rfl,iN bC,z3,_,rfl,_,G,fin t (.inl F)⟩
   ·have h4:0 < (us.length:Int):=by lia
    obtain⟨t,G,F⟩:=uQ (ts:=us) (k:=(d - 3) % us.length) (Ih _ (by lia)) (Ha _ h4)
    refine⟨_,rfl,iN bC,_,rfl,_,rfl,_,rfl,by rw[Ab];exact h4,_,by rw[Ab];exact G,fin t (.inr F)⟩
  ·rintro u l ⟨ps,n,rfl,rfl,A,v⟩
   rw[ed,Ab] at A
   obtain⟨y,ey,my⟩:∃ y:Int,bU ([0,1,x8 % 10,x8].map W.int) x7=some (.int y)/\y∈[0,1,x8 % 10,x8]:=by
    obtain⟨y,N,_,e2⟩:=oH (xs:=[0,1,x8 % 10,x8].map W.int) (i:=x7) b7.1 b7.2
    obtain⟨z,hz,rfl⟩:=Aw.mp e2
    exact⟨z,N,hz⟩
   have o:rs.length<=8:=by have:=congrArg Bb a;rw[Ab,Cf] at this;lia
   refine⟨_,rfl,iN ((aP g).trans bC),_,rfl,_,rfl,_,bC,_,rfl,_,rfl,show(0:Int) < 10 by decide,_,rfl,_,rfl,z4,_,rfl,_,rfl,_,ey,z3,_,(aP g).trans bC,Br (m:=9) (by rw[Ab];lia) (eI (by decide)),put M p (.lst ((rs ++ [aY.mk hs[i] ps y]).map cB)),?_,rs ++ [aY.mk hs[i] ps y],_,_,_,_,_,rfl,rfl,?_,fun r e=>?_⟩
   ·rw[TU (fun z=>g z.symm),kO,Bs]
    exact Sub.new (by rw[aP (fun z=>g z.symm)];exact hMq)
   ·rw[Bs,a,take_snoc (An hi)];rfl
   ·rcases Bo.mp e with e | e
    ·exact f r e
    ·cases Ba.mp e
     refine⟨by show ps.length<=4;lia,v,?_⟩
     have m0:=Ih x8 (b:=10) (by decide)
     have m1:=Ha x8 (b:=10) (by decide)
     obtain⟨b80,b81⟩:=b8
     have hy:0<=y/\y < 10 ^ 6:=by
      simp only[Az,Ex,or_false] at my
      lia
     exact⟨hy.1,Int.lt_trans hy.2 (by decide)⟩
 ·rintro u l ⟨rs,S,Z,X,o8,n,rfl,rfl,a,f⟩
  rw[zl,Ew] at a
  have o:rs.length=hs.length:=by rw[<-a,Ab]
  refine⟨_,rfl,_,Sub.refl _,r rs ⟨fun z=>?_,by lia,fun r e=>H _ ?_,fun r e=>(f r e).1,fun r e t ht=>((f r e).2.1 t ht).imp id fun z=>⟨H _ (K t z),?_⟩,fun r e=>(f r e).2.2.1,fun r e=>(f r e).2.2.2⟩ p hp⟩
  ·rw[z] at o;simp at o;lia
  ·rw[<-a];exact Gj e
  ·have:=K t z
   rw[<-a] at this
   exact Aw.mp this
theorem zeP{ws:List W}{j:Nat}(h:j<=ws.length):cH ws (some (j:Int)) none=ws.drop j:=by
 unfold cH
 rw[HT.sIx_none,HT.sIx_nat,Nd h]
 exact Dw (by rw[Gs];exact Ai _)
theorem _root_.Nat.min_sub_min(i j n:Nat):min j n - min i n<=j - i:=by
 rcases Nat.le_total i n with h | h
 ·rw[Nd h];exact Nat.sub_le_sub_right (Jw _ _) _
 ·rw[Nat.min_eq_right h,Nat.sub_eq_zero_of_le (Nat.min_le_right _ _)];exact Co _
theorem JB{a:Type}{f:a->W}(xs:List a)(i:Option Nat)(j:Nat):∃ ys:List a,cH (xs.map f) (i.map fun(k:Nat)=>(k:Int)) (some (j:Int))=ys.map f/\ys.length<=j - i.getD 0/\∀ y∈ys,y∈xs:=by
 refine⟨(xs.drop (HT.sIx xs.length 0 (i.map fun(k:Nat)=>(k:Int)))).take (HT.sIx xs.length xs.length (some (j:Int)) - HT.sIx xs.length 0 (i.map fun(k:Nat)=>(k:Int))),?_,?_,fun y b=>Nm (Kw b)⟩
 ·unfold cH;rw[Ab,Ma,Od]
 ·rw[Cf,Gs,HT.sIx_nat]
  cases i with
  | none=>show min (min j xs.length - HT.sIx xs.length 0 none) _<=j - 0;rw[HT.sIx_none];exact Bp (Jw _ _) (Jw _ _)
  | some i=>show min (min j xs.length - HT.sIx xs.length 0 (some (i:Int))) (xs.length - HT.sIx xs.length 0 (some (i:Int)))<=j - i;rw[HT.sIx_nat];exact Bp (Jw _ _) (Nat.min_sub_min i j xs.length)
def uS(n:Str):W->Option W
 | .tup (.str m :: r)=>if m=n then some (.tup (.str m :: r)) else none
 | _=>none
theorem zeQ{n:Str}{rs:List aY}:(rs.map cB).filterMap (uS n)=(rs.filter fun u=>decide (u.name=n)).map cB:=by
 induction rs with
 | nil=>rfl
 | cons q rs a=>
  have e:uS n (cB q)=if q.name=n then some (cB q) else none:=rfl
  rw[Ar,Gm,Ff,e,a]
  by_cases h:q.name=n
  ·rw[if_pos h,if_pos (by simpa using h),Ar]
  ·rw[if_neg h,if_neg (by simpa using h)]
def uU(f:Str->Bool):W->Option W
 | .str x=>if f x=true then some (.str x) else none
 | _=>none
theorem zeR(f:Str->Bool)(ts:List Str):(ts.map W.str).filterMap (uU f)=(ts.filter f).map W.str:=by
 induction ts with
 | nil=>rfl
 | cons t ts a=>
  have e:uU f (.str t)=if f t=true then some (.str t) else none:=rfl
  rw[Ar,Gm,Ff,e,a]
  by_cases h:f t=true
  ·rw[if_pos h,if_pos h,Ar]
  ·rw[if_neg h,if_neg h]
theorem JC{ws:List W}{M:Mm}{R:List W->(Mm->Prop)->Mm->Prop}(h:R ws (fun _=>True) M):d7 (.rl ws) M R:=h
theorem zeS{ws:List W}{M:Mm}{R:K3}(h:AG ws M R):zdI (bK R) (cF zdB ws) M:=by
 obtain⟨n,rs,rfl,hz,g,r⟩:=h
 obtain⟨cs,v,F,_⟩:=JB (f:=W.int) n (some 9) 15
 have F:cs.length<=6:=F
 have hf:=g.few
 have v:cH (n.map W.int) (some 9) (some (9 + 6))=cs.map W.int:=v
 refine⟨_,rfl,_,rfl,_,rfl,_,rfl,_,rfl,n,0,rfl,hz,fun c0=>⟨⟨by decide,by decide⟩,show(0:Int) < 3 by decide,_,rfl,fL (fun _=>?_) fun _=>?_⟩⟩
 ·refine⟨_,rfl,xD (ws:=cH (n.map W.int) (some 9) (some (9 + 6))) (rest:=[]) (fun _ y=>∃ t,y=.str t/\t∈W4) (eI (by rw[v,Ab];lia)) (fun _ _=>trivial) (fun w hw L C sb h1=>?_) fun ys po=>?_⟩
  ·rw[v] at hw
   obtain⟨c,hc,rfl⟩:=Aw.mp hw
   refine⟨z4,_,rfl,z1,c,[4],rfl,by decide,fun s hs=>by simp at hs;subst hs;decide,fun ds hd=>aQ.frz ?_⟩
   obtain⟨x,rfl,b0,b1⟩:=AU hd
   obtain⟨t,O,mt⟩:=uQ (ts:=W4) (k:=x) b0 b1
   exact⟨_,rfl,_,O,h1 _ ⟨t,rfl,mt⟩⟩
  obtain⟨ts,rfl,htl,Y⟩:=JA po fun _ _ h=>h
  rw[v,Ab] at htl
  exact qY (r ts ⟨by lia,Y⟩)
 ·obtain⟨l,J,e0⟩:∃ l J,rs=l :: J:=by
   cases rs with
   | nil=>exact(g.ne rfl).elim
   | cons q rs=>exact⟨_,_,rfl⟩
  have I:l∈rs:=by rw[e0];exact Bi
  refine⟨_,rfl,_,(show bU (rs.map cB) 0=some (cB l) by rw[e0];exact jO (j:=0) rfl),_,rfl,z1,24,rfl,by decide,by decide,?_⟩
  refine fF (fun i T L=>∃ (ts:List Str) (P Z V o8 X:Option W),T=[some (.sc (n.map W.int)),some (eX rs),some (.int 6),some (.rl (cH (n.map W.int) (some 9) (some (9 + 6)))),some (.rl (ts.map W.str)),P,Z,V,o8,X]/\L=M/\ts.length<=14/\∀ t∈ts,t∈W3\/(t∈NM/\∃ q∈rs,q.name=t))
   ⟨[l.name],_,_,_,_,_,rfl,rfl,by simp,fun t ht=>by cases Ba.mp ht;exact .inr ⟨g.nm l I,l,I,rfl⟩⟩ (fun _ _ _ _ _=>trivial) ?_ ?_
  ·rintro i w T L hw ⟨ts,P,Z,V,o8,X,rfl,rfl,hl,ht⟩
   obtain⟨hi,rfl⟩:=AN hw
   rw[Lj]
   refine⟨_,rfl,(ts.length:Int),by rw[Ab],by lia,by lia,oF (rest:=[some (.rl (ts.map W.str))]) (qZ fun x=>isN (ts.getD x.toNat "")) (eI (by rw[nJ];lia)) (fun _ _=>trivial) (fun w hw M3 C D sb K H=>?_) ?_⟩
   ·obtain⟨k,hk,rfl⟩:=Aw.mp hw
    have hk:=Eh.mp hk
    obtain⟨t,O,eg,mt⟩:=oH (xs:=ts.map W.str) (i:=(0:Int) + (k:Int)) (by lia) (by rw[Ab];lia)
    rw[Bh] at eg
    obtain⟨u,A,rfl⟩:=Bn.mp eg
    have U:=Be A
    have e:qZ (fun x=>isN (ts.getD x.toNat "")) (.int ((0:Int) + (k:Int)))=if isN u=true then some (.int ((0:Int) + (k:Int))) else none:=by
     show(if isN (ts.getD ((0:Int) + (k:Int)).toNat "")=true then _ else _)=_
     rw[List.getD_eq_getElem?_getD,A];rfl
    exact⟨_,rfl,_,rfl,_,O,u,rfl,(ht u U).elim (fun z=>.inr (nI z)) fun z=>.inl z.1,fL (fun z=>⟨_,rfl,K _ (by rw[e,if_pos z])⟩) fun z=>H (by rw[e,if_neg (by rw[z];decide)])⟩
   ·rw[IX]
    obtain⟨xs,E⟩:∃ xs,xs=(lG 0 (ts.length:Int).toNat).filter fun x=>isN (ts.getD x.toNat ""):=⟨_,rfl⟩
    rw[<-E]
    refine aQ.frz ⟨_,rfl,z0,?_⟩
    refine DY (x:=.rl (xs.map W.int)) (y:=.rl []) 1 (by decide) (fun w hw=>by obtain⟨x,_,rfl⟩:=Aw.mp hw;trivial) (fun w hw=>nomatch hw) fun b hb=>⟨_,rfl,fL (fun hn=>?_) fun _=>⟨_,Sub.refl _,ts,_,_,_,_,_,rfl,rfl,hl,ht⟩⟩
    refine⟨_,rfl,_,rfl,.inl (.inl ⟨by decide,by decide⟩),_,rfl,fL (fun p=>?_) fun _=>⟨_,Sub.refl _,ts,_,_,_,_,_,rfl,rfl,hl,ht⟩⟩
    have p:ts.length < 12:=by have:=of_decide_eq_true p;rw[Ab] at this;lia
    obtain⟨a,d,ex⟩:∃ a d,xs=a :: d:=by
     cases xs with
     | nil=>rw[hb.mpr rfl] at hn;cases hn
     | cons a d=>exact⟨_,_,rfl⟩
    have ha:a∈xs:=by rw[ex];exact Bi
    rw[E,Fp,AR] at ha
    obtain⟨k,rfl⟩:∃ k:Nat,a=k:=⟨a.toNat,by lia⟩
    have hk:k < ts.length:=by lia
    have ek:ts[k]? = some ts[k]:=An hk
    have A:isN ts[k]=true:=by have:=ha.2;rw[Cm,List.getD_eq_getElem?_getD,ek] at this;exact this
    have ekw:bU (ts.map W.str) (k:Int)=some (.str ts[k]):=jO (by rw[Bh,ek];rfl)
    obtain⟨q,hq,hqn⟩:∃ q∈rs,q.name=ts[k]:=by
     rcases ht _ (Be ek) with z | z
     ·rw[zV (nI z)] at A;cases A
     ·exact z.2
    refine⟨_,rfl,_,(show bU (xs.map W.int) 0=some (.int k) by rw[ex];exact jO (j:=0) rfl),_,rfl,JC (oF (rest:=[some (.rl (ts.map W.str)),some (.int k)]) (uS ts[k]) (eI (by rw[Ab];lia)) (fun _ _=>trivial) (fun w hw M3 C D sb K H=>?_) ?_)⟩
    ·obtain⟨o,hq',rfl⟩:=Aw.mp hw
     have e:uS ts[k] (cB o)=if o.name=ts[k] then some (cB o) else none:=rfl
     exact⟨_,rfl,_,rfl,_,rfl,_,rfl,_,ekw,_,rfl,fL (fun z=>⟨_,rfl,K _ (by rw[e,if_pos (of_decide_eq_true z)])⟩) fun z=>H (by rw[e,if_neg (of_decide_eq_false z)])⟩
    rw[zeQ]
    obtain⟨own,N⟩:∃ own,own=rs.filter fun u=>decide (u.name=ts[k]):=⟨_,rfl⟩
    rw[<-N]
    have B:∀ o∈own,o∈rs:=fun o h=>by rw[N] at h;exact(Fp.mp h).1
    have Q:q∈own:=by rw[N];exact Fp.mpr ⟨hq,decide_eq_true hqn⟩
    have hol:0 < own.length:=My Q
    have hol8:own.length<=8:=Bp (by rw[N];exact Ik _ _) hf
    refine aQ.frz ⟨_,rfl,_,rfl,_,rfl,show(0:Int) < 12 by decide,n,_,rfl,hz,fun c=>⟨_,rfl,⟨by decide,by decide⟩,.inl (.inr ⟨by decide,by decide⟩),_,rfl,z1,_,[((own.map cB).length:Int)],rfl,by simp,fun s hs=>?_,fun ds hd=>aQ.frz ?_⟩⟩
    ·cases Ba.mp hs
     rw[Ab]
     exact⟨by lia,Int.le_trans (b:=8) (by lia) (by decide)⟩
    obtain⟨x,rfl,b0,b1⟩:=AU hd
    obtain⟨m,e2,_,m2⟩:=oH (xs:=own.map cB) b0 b1
    obtain⟨m,G,rfl⟩:=Aw.mp m2
    have hp2:=g.fp m (B m G)
    have c1:cH (ts.map W.str) none (some (k:Int))=(ts.take k).map W.str:=by rw[IZ (by rw[Ab];lia),<-Ma]
    have c2:cH (ts.map W.str) (some ((k:Int) + 1)) none=(ts.drop (k + 1)).map W.str:=by rw[show(k:Int) + 1=((k + 1:Nat):Int) by lia,zeP (by rw[Ab];lia),<-Od]
    have S:(ts.take k).length=k:=by rw[Cf];lia
    have l2:(ts.drop (k + 1)).length=ts.length - (k + 1):=Gs
    refine⟨_,rfl,_,e2,_,rfl,_,rfl,_,rfl,_,rfl,_,rfl,?_⟩
    show(cH (ts.map W.str) none (some (k:Int))).length + (m.parts.map W.str).length<=Aj/\_
    rw[c1,Ab,Ab,S]
    refine⟨eI (by lia),_,rfl,_,rfl,_,rfl,eI (by rw[c2,<-Bs,Ab,Ab,Av,S,l2];lia),_,Sub.refl _,ts.take k ++ m.parts ++ ts.drop (k + 1),_,_,_,_,_,by rw[c2,<-Bs,<-Bs];rfl,rfl,by rw[Av,Av,S,l2];lia,fun t h'=>?_⟩
    rcases Bo.mp h' with h' | h'
    ·rcases Bo.mp h' with h' | h'
     ·exact ht t (Kw h')
     ·exact g.prt m (B m G) t h'
    ·exact ht t (Nm h')
  ·rintro T L ⟨ts,P,Z,V,o8,X,rfl,rfl,hl,ht⟩
   refine⟨_,rfl,JC (oF (rest:=[]) (uU fun t=>!isN t) (eI (by rw[Ab];lia)) (fun _ _=>trivial) (fun w hw M3 C D sb K H=>?_) ?_)⟩
   ·obtain⟨t,hm,rfl⟩:=Aw.mp hw
    have e:uU (fun t=>!isN t) (.str t)=if (!isN t)=true then some (.str t) else none:=rfl
    exact⟨_,rfl,t,rfl,(ht t hm).elim (fun z=>.inr (nI z)) fun z=>.inl z.1,fL (fun z=>⟨_,rfl,K _ (by rw[e,if_pos z])⟩) fun z=>H (by rw[e,if_neg (by rw[z];decide)])⟩
   ·rw[zeR]
    obtain⟨ys,ey,yl,ym⟩:=JB (f:=W.str) (ts.filter fun t=>!isN t) none 6
    have ey:cH ((ts.filter fun t=>!isN t).map W.str) none (some 6)=ys.map W.str:=ey
    refine aQ.frz ⟨_,rfl,_,rfl,?_⟩
    show aQ (cH ((ts.filter fun t=>!isN t).map W.str) none (some 6)) _ _
    rw[ey]
    refine qY (r ys ⟨yl,fun t hy=>?_⟩)
    obtain⟨a,b⟩:=Fp.mp (ym t hy)
    rcases ht t a with z | z
    ·exact nI z
    ·unfold isN at b;rw[decide_eq_true z.1] at b;cases b
theorem zeT{p:Addr}{ws:List W}{M:Mm}{R:K3}(h:M p=some (.lst ws))(r:R (.bl true) M):bY [.ref p,.ty "list"] M R:=⟨"list",true,.inl ⟨rfl,_,h⟩,by decide,r⟩
theorem zeU{x:W}{T:String}{b:S3}{M:Mm}{R:K3}(h:bY [x,.ty T] M R):aB (vC (.ty T)) aE b M fun xs a=>bY (x :: xs) a R:=h
theorem zeV{ws:List W}{M:Mm}{R:List W->(Mm->Prop)->Mm->Prop}(h:R ws (fun _=>True) M):d7 (.tup ws) M R:=h
theorem AW{t:Str}(h:t∈NM):m9 t:=by
 have:∀ t∈NM,m9 t:=by unfold NM m9;decide +kernel
 exact this t h
theorem zeW{L:List (List aD)}(h:∀ k∈L,∃ f:b5,k=fK f/\f.1∈NM):∀ w∈kH L,Pl 1 w:=fun w hw=>by
 obtain⟨k,hk,rfl⟩:=Aw.mp hw
 obtain⟨f,rfl,hf⟩:=h k hk
 intro z hz
 simp only[fK,Ar,Kg,Az,Ex,or_false] at hz
 rcases hz with rfl | rfl | rfl
 ·exact AW hf
 ·trivial
 ·trivial
theorem zeX{ws:List W}{M:Mm}{R:K3}(h:uP ws M R):zd1 (bK R) (cF zdW ws) M:=by
 obtain⟨x,L,rfl,d,hl,j,r⟩:=h
 have ex:der M x=.rl (kH L):=by
  rcases d with rfl | ⟨p,rfl,a⟩
  ·rfl
  ·simp[der,a]
 have f:∀ {R:K3},R (.bl true) M->bY [x,.ty "list"] M R:=fun {R} h=>by
  rcases d with rfl | ⟨p,rfl,a⟩
  ·exact⟨"list",true,rfl,by decide,h⟩
  ·exact zeT a h
 have it:∀ {R:List W->(Mm->Prop)->Mm->Prop},(∀ keep,keep M->R (kH L) keep M)->d7 x M R:=fun {R} h=>by
  rcases d with rfl | ⟨p,rfl,a⟩
  ·exact h _ trivial
  ·exact⟨_,a,h _ a⟩
 refine⟨_,rfl,zeU (f ⟨_,rfl,_,rfl,xA (neg:=true) 2 (by decide) (by rw[ex];exact zeW j) ex.symm ⟨_,rfl,_,rfl,it fun keep l=>?_⟩⟩)⟩
 refine fF (fun i c g=>∃ o,c=[some x,some (.rl (kH L)),o]/\g=M) ⟨_,rfl,rfl⟩ (fun _ _ _ _ ⟨_,_,e⟩=>e ▸ l) ?_ ?_
 ·rintro i w c g hw ⟨o,rfl,rfl⟩
  obtain⟨k,hk,rfl⟩:=Aw.mp (Be hw)
  obtain⟨⟨n,b,e⟩,rfl,hf⟩:=j k hk
  refine⟨_,rfl,⟨"tuple",true,rfl,by decide,_,rfl,_,rfl,⟨show ¬ (HT.sIx 3 0 (some 1)=0/\HT.sIx 3 3 none=3) by decide,zeV (ws:=[.int b,.int e]) (oF (rest:=[]) (fun _=>none) z2 (fun _ _=>trivial) (fun w hw q C D sb s m=>?_) (aQ.frz ?_))⟩⟩⟩
  ·have:∃ i,w=.int i:=by
    rcases Az.mp hw with rfl | hw
    ·exact⟨_,rfl⟩
    ·exact⟨_,Ba.mp hw⟩
   obtain⟨i,rfl⟩:=this
   exact⟨_,rfl,⟨"int",true,rfl,by decide,_,rfl,⟨"int",false,rfl,by decide,m rfl⟩⟩⟩
  ·exact⟨z0,xA (neg:=true) 1 (by decide) (fun w hw=>nomatch hw) rfl ⟨_,rfl,_,Sub.refl _,_,rfl,rfl⟩⟩
 ·rintro c g ⟨o,rfl,rfl⟩
  exact⟨_,Sub.refl _,r⟩
theorem gT.good{rs:List aY}(g:gT rs):xK rs:=by
 refine⟨g.ne,Bp g.few (by decide),rs.map aY.name,W3,by rw[Ab];exact Bp g.few (by decide),fun t ht=>?_,fun t ht=>?_,fun r a=>⟨Gj a,fun t ht=>(g.prt r a t ht).imp id fun z=>Aw.mpr z.2,g.fp r a,g.lo r a,g.hi r a⟩,fun t ht=>Aw.mp ht⟩
 ·obtain⟨r,a,rfl⟩:=Aw.mp ht
  have key:∀ t∈NM,t.length<=20/\jV t=true/\(cs t).head?.any (fun c=>decide (c∈cs mQ))=true/\∀ c∈cs t,c < 128:=by decide +kernel
  obtain⟨d,f,b,h⟩:=key _ (g.nm r a)
  refine⟨d,f,?_,h⟩
  cases e:cs r.name with
  | nil=>rw[e] at b;cases b
  | cons c l=>rw[e] at b;exact⟨c,l,rfl,of_decide_eq_true b⟩
 ·have key:∀ t∈W3,t.length<=20/\cs t≠[]/\∀ c∈cs t,c∈cs pM:=by decide +kernel
  obtain⟨d,f,b⟩:=key _ ht
  exact⟨d,f,b⟩
theorem zeY{rs:List aY}(g:gT rs):∀ w∈rs.map cB,Pl 2 w:=fun w hw=>by
 obtain⟨q,a,rfl⟩:=Aw.mp hw
 intro z hz
 simp only[Az,Ex,or_false] at hz
 rcases hz with rfl | rfl | rfl
 ·exact AW (g.nm q a)
 ·intro y b
  obtain⟨t,ht,rfl⟩:=Aw.mp b
  have c:∀ t∈W3,m9 t:=by unfold W3 m9;decide +kernel
  exact(g.prt q a t ht).elim (c t) fun z=>AW z.1
 ·trivial
theorem zeZ{C:Cc}{ws:List W}{M:Mm}{R:K3}(h:IJ ws M R):zec C (bK R) (cF zd2 ws) M:=by
 obtain⟨o,rfl,hz,_,r⟩:=h
 refine⟨_,rfl,o,rfl,hz,fun rs g=>aQ.frz ?_⟩
 refine⟨_,rfl,_,rfl,o,rs,rfl,hz,g,fun a w=>aQ.frz ?_⟩
 refine⟨_,rfl,rs,rfl,g.good,aQ.frz ?_⟩
 refine⟨_,rfl,_,rfl,rs,a,rfl,g,w,fun fs nd c=>iG.frz ⟨_,e9 fs,[false,false],rfl,rfl,fun p b=>?_,?_,?_,fun L b hs=>aQ.frz ?_⟩⟩
 ·obtain⟨f,_,rfl⟩:=Aw.mp b;rfl
 ·unfold e9;rw[Ed];exact AL nd
 ·unfold e9;rw[Ab];exact uM w.few nd fun f hf=>qW g ((c f).mp hf)
 have m:oW rs a L:=IV nd c (by unfold e9 at b;rw[Ed] at b;exact b) hs
 have n:∀ k∈L,∃ f:b5,k=fK f/\f.1∈NM:=fun k hk=>by
  obtain⟨f,d,rfl⟩:=(m.mem k).mp hk
  exact⟨f,rfl,(qW g d).nm⟩
 have e:L.length<=1000:=by
  have l:=b.length_eq
  rw[Ab] at l
  have u:=uM w.few nd fun f hf=>qW g ((c f).mp hf)
  unfold e9 at l
  rw[Ab] at l
  lia
 refine⟨_,rfl,_,rfl,z2,?_⟩
 refine⟨_,rfl,_,rfl,_,rfl,_,rfl,rs,a,rfl,g,w,fun x j p b=>?_⟩
 cases j.eq m
 refine⟨_,rfl,_,rfl,.ref p,L,rfl,.inr ⟨p,rfl,bC⟩,e,n,_,rfl,_,rfl,_,rfl,z2,xA (neg:=true) 4 (by decide) (fun v hw=>?_) rfl ⟨_,rfl,?_⟩⟩
 ·rcases Az.mp hw with rfl | hw
  ·exact zeY g
  ·cases Ba.mp hw
   intro y s
   obtain⟨t,ht,rfl⟩:=Aw.mp s
   have q:∀ t∈W4,m9 t:=by unfold W4 m9;decide +kernel
   exact q t (w.wd t ht)
 refine⟨_,rfl,iN bC,z3,_,bC,?_,_,rfl,_,rfl,_,rfl,_,rfl,rs,a,rfl,g,w,fun L2 i=>aQ.frz ⟨_,rfl,.rl (kH L2),L,rfl,.inl (by rw[i.eq m]),e,n,_,Sub.refl _,r _⟩⟩
 unfold kH
 rw[Ab]
 exact Ls e (Br (by decide:1000 < 1001) (eI (by decide)))
end Rg
namespace PySem
namespace Ll
open PyProof.Rows L2 PySem.Spec
open AutoSeq1 (wpAny_loadPart')
open MeetsSeq3 (plain_eq_loop entry_eq_loop)
end Ll
end PySem
namespace L3
open PySem PySem.Spec PyProof.Rows L2
section
variable {X:Cx}
end
section
variable {X:Cx}{pos:Pos}{a b:Expr}{ta tb te:aS}
theorem d9{i:Nat}{x:Str}(a:X.N.Nodup)(hi:X.N[i]? = some x:=by rfl)(b:Loc X.env.scope x:=by first | exact Or.inl rfl | exact Or.inr rfl)(hf:X.fn x=true\/X.env.scope.names.lookup x=some .local:=by first | exact .inl rfl | exact .inr rfl | assumption):PG X (.Name x pos) (gP X.K (bQ i)):=DF a hi b hf
theorem iC{i:Nat}{x:Str}(hi:X.N[i]? = some x:=by rfl)(b:Loc X.env.scope x:=by first | exact Or.inl rfl | exact Or.inr rfl)(a:X.N.Nodup:=by exact of_decide_eq_true (by kernel_rfl))(hf:X.fn x=true\/X.env.scope.names.lookup x=some .local:=by first | exact .inl rfl | exact .inr rfl | assumption):PG X (.Name x pos) (gP X.K (bQ i)):=DF a hi b hf
theorem bP{i:Nat}{x:Str}{e:Expr}{a:Pos}(b:X.N.Nodup)(c:E3 X e te)(hi:X.N[i]? = some x:=by rfl)(d:Loc X.env.scope x:=by first | exact Or.inl rfl | exact Or.inr rfl)(hs:Ki e (some (.Name x a)) pos.line X.env=pure false:=by rfl)(hf:X.fn x=true\/X.env.scope.names.lookup x=some .local:=by first | exact .inl rfl | exact .inr rfl | assumption) :
  P3 X (.Assign [.Name x a] e pos) (bH i te):=U7 b hi d c hs hf
theorem mH{op:CmpOp}{r:R3}(c:bB X (Ck op) (cE X.K r))(ha:E3 X a ta)(hb:E3 X b tb)(d:Iz op b=false:=by first | exact BE _ | with_unfolding_all rfl):E3 X (.Compare a [op] [b] pos) (aG r ta tb):=T5 c ha hb d
theorem eD{op:CmpOp}{r:R3}(c:bB X (Ck op) (cE X.K r))(ha:E3 X a ta)(hb:E3 X b tb)(d:Iz op b=false:=by first | exact BE _ | with_unfolding_all rfl):T3 X (.Compare a [op] [b] pos) (dC (aG r ta tb)):=T6 c ha hb d
variable {tg iter elt:Expr}{ifs:List Expr}{sc:Ke}{wi:hJ}{g:eT}{tt:dO}
theorem uV{i:Nat}{x:Str}{e a:Pos}(f:X.N.Nodup)(b:List Str)(js:List (Option Nat))(hi:PI X tg iter (hU X.K wi))
  (j:∀ B,PG (dN X sc b B) tg (gP X.K g)) (ht:∀ B,iF (dN X sc b B) ifs (jX X.K tt)) (m:∀ B,PE (dN X sc b B) elt (up X.K te)) (c:X.N[i]? = some x:=by rfl) (h:Loc X.env.scope x:=by first | exact Or.inl rfl | exact Or.inr rfl)
  (l:mP b sc X.env.scope=true:=by kernel_rfl) (k:fA b X.N sc js b=true:=by kernel_rfl) (hc:X.calm=true:=by rfl) (d:Ki (.ListComp elt [⟨tg,iter,ifs,0⟩] sc pos) (some (.Name x e)) a.line X.env=pure true:=by rfl)
  (hf:X.fn x=true\/X.env.scope.names.lookup x=some .local:=by first | exact .inl rfl | exact .inr rfl | assumption)
  (hs:∀ x,Ho iter X.env x=pure x:=by intro _;rfl):P3 X (.Assign [.Name x e] (.ListComp elt [⟨tg,iter,ifs,0⟩] sc pos) a) (bH i (cV (fX wi g tt te js))):=VP f c h b js hi j ht m l k hc d hf hs
end
theorem cQ{N ps:List Str}{sc:Ke}(a:sc.kind=.function:=by rfl)(b:sc.isCoroutine=false:=by rfl)(c:sc.isGenerator=false:=by rfl)(d:N.Nodup:=by decide +kernel)(e:N.take ps.length=ps:=by rfl)(f:∀ x∈ps,sc.names.lookup x=some .local\/sc.names.lookup x=some .cell:=by decide +kernel)(g:∀ y∈sc.names,y.2≠.free:=by decide +kernel):nN N ps sc:=⟨a,b,c,d,e,f,g⟩
end L3
namespace L2
open PySem PySem.Spec PyProof.Rows
end L2
namespace L3
open PySem PySem.Spec PyProof.Rows L2
theorem ze0{C:List Ac->Prop}(h:C [])(us:List Ac)(e:us.length=0):C us:=by rw[Mo.mp e];exact h
theorem rA{C:List Ac->Prop}{n:Nat}(k:∀ a us,us.length=n->C (a :: us)):∀ us:List Ac,us.length=n + 1->C us
 | a :: l,e=>k a l (Nat.succ.inj e)
theorem uW{C:List Ac->Prop}(h:∀ a,C [a]):∀ us:List Ac,us.length=1->C us:=rA fun a=>ze0 (h a)
theorem uX{C:List Ac->Prop}(h:∀ a b,C [a,b]):∀ us:List Ac,us.length=2->C us:=rA fun a=>uW (h a)
theorem uY{C:List Ac->Prop}(h:∀ a b c,C [a,b,c]):∀ us:List Ac,us.length=3->C us:=rA fun a=>uX (h a)
theorem uZ{C:List Ac->Prop}(h:∀ a b c d,C [a,b,c,d]):∀ us:List Ac,us.length=4->C us:=rA fun a=>uY (h a)
theorem AX{C:List Ac->Prop}(h:∀ a b c d e,C [a,b,c,d,e]):∀ us:List Ac,us.length=5->C us:=rA fun a=>uZ (h a)
def AY(x q:Str)(st:Stmt)(ps:List Str):Prop:=∀ (kV doc pm:Ac) (an:Option Addr) (cdv ct:Ac) (us:List Ac),us.length=ps.length->bindArgs (Fc x q (iT st) (gN st) (eR st) .none kV doc pm an cdv ct) ⟨us,[]⟩=pure (ps.zip us)
section
variable {K:Ae}{mg:Str->Option Ac}{h:Heap}{x q:Str}{st:Stmt}{C f:Addr}{ps:List Str}{an:Option Addr}{kV doc pm cdv ct:Ac}
theorem dF(X:K.In h)(G:h.Ns El mg)(hb:AY x x st ps:=by first | exact fun _ _ _ _ _ _=>uW fun _=>rfl | exact fun _ _ _ _ _ _=>uX fun _ _=>rfl | exact fun _ _ _ _ _ _=>uY fun _ _ _=>rfl | exact fun _ _ _ _ _ _=>uZ fun _ _ _ _=>rfl | exact fun _ _ _ _ _ _=>AX fun _ _ _ _ _=>rfl)(n:PySem.W.nsIn K El x=some (some (.ref f)):=by kernel_rfl)(l:K.lookup f=some ⟨.type "function",none,.func (Fc x x (iT st) (gN st) (eR st) .none kV doc pm an cdv ct),#[]⟩:=by kernel_rfl)(c:Jy K cdv x=true:=by kernel_rfl)(k:Fx K (.ref f)=true:=by kernel_rfl):Df K mg x st ps f (Fc x x (iT st) (gN st) (eR st) .none kV doc pm an cdv ct):=⟨nO l c k,Kj X G n,(nO l c k).binds hb⟩
theorem dM(hb:AY x q st ps:=by first | exact fun _ _ _ _ _ _=>uW fun _=>rfl | exact fun _ _ _ _ _ _=>uX fun _ _=>rfl | exact fun _ _ _ _ _ _=>uY fun _ _ _=>rfl | exact fun _ _ _ _ _ _=>uZ fun _ _ _ _=>rfl | exact fun _ _ _ _ _ _=>AX fun _ _ _ _ _=>rfl)(a:Cj K (.ref C) x=some (some (.ref f)):=by kernel_rfl)(n:Mf K (.ref f)=true:=by kernel_rfl)(l:K.lookup f=some ⟨.type "function",none,.func (Fc x q (iT st) (gN st) (eR st) .none kV doc pm an cdv ct),#[]⟩:=by kernel_rfl)(c:Jy K cdv q=true:=by kernel_rfl)(k:Fx K (.ref f)=true:=by kernel_rfl):Dm K C x q st ps f (Fc x q (iT st) (gN st) (eR st) .none kV doc pm an cdv ct):=⟨nO l c k,⟨a,n,k⟩,(nO l c k).binds hb⟩
theorem dI(hb:AY x q st ps:=by first | exact fun _ _ _ _ _ _=>uW fun _=>rfl | exact fun _ _ _ _ _ _=>uX fun _ _=>rfl | exact fun _ _ _ _ _ _=>uY fun _ _ _=>rfl | exact fun _ _ _ _ _ _=>uZ fun _ _ _ _=>rfl | exact fun _ _ _ _ _ _=>AX fun _ _ _ _ _=>rfl)(m:PySem.W.makesIn K C=true:=by kernel_rfl)(a:Cj K (.ref C) "__init__" = some (some (.ref f)):=by kernel_rfl)(n:Mf K (.ref f)=true:=by kernel_rfl)(d:Fx K (.ref C)=true:=by kernel_rfl)(l:K.lookup f=some ⟨.type "function",none,.func (Fc x q (iT st) (gN st) (eR st) .none kV doc pm an cdv ct),#[]⟩:=by kernel_rfl)(c:Jy K cdv q=true:=by kernel_rfl)(k:Fx K (.ref f)=true:=by kernel_rfl):Di K C x q st ps f (Fc x q (iT st) (gN st) (eR st) .none kV doc pm an cdv ct):=⟨nO l c k,⟨m,a,n,d⟩,(nO l c k).binds hb⟩
variable {P:Bl}{w:Cb}{base:Heap}{fd:Bw}{N:List Str}{k:Nat}{sp:bX}{rd:aK}
theorem cR(P:Bl)(w:Cb)(mg:Str->Option Ac)(base:Heap)(k:Nat)(F:jT K x q st f fd)(_:Binds K fd ps [])(S:nN N ps (eR st))(len:∀ ws M R,sp ws M R->ws.length=ps.length)(good:∀ {ws M R},sp ws M R->rd (bK R) (cF N ws) M)
  (b:∀ {cdv:Ac} {A:Bv} {outer:List Env} {s:Ah} {H:Hp} {E:XK},cJ k (A.deeper (Mz q (eR st) s.heap.objs.size f cdv))->(A.deeper (Mz q (eR st) s.heap.objs.size f cdv)).units + 1 < Gh->N.Nodup->j8 (lJ gB P w K mg base N q (eR st) f cdv A outer s H E).nox (gN st) rd):e6 P w K mg base gB (k + 1) f fd ps (gO K sp):=
 VI F S len fun _ _ _ _ _ _ _ _ _ a h=>⟨rd,b a (RW a) S.nd,good h⟩
end
section
variable {X:Cx}{pos p:Pos}{x:Str}{st:Stmt}{e:Expr}{es:List Expr}{t:dS}{k j:Nat}{f:Addr}{fd:Bw}{ps:List Str}{sp:bX}
theorem cL(F:e6 X.prog X.w X.K X.mg X.base gB k f fd ps (gO X.K sp))(D:Df X.K X.mg x st ps f fd)(g:cJ j X.A)(ha:A3 X (e :: es) t)(d:k<=j:=by decide)(c:Gl X x:=by rfl)(a:(x == ("__debug__" : Str))=false:=by decide)(h:Bj (e :: es) X.env=(false,eval e X.env) :: Bj es X.env:=by rfl)(b:(Hl pos (Bj es X.env)).any (·.1)=false:=by rfl) :
  E3 X (.Call (.Name x p) (e :: es) [] pos) (b6 sp t):=UA F (g.mono d) c D.at_ D.fn.kp D.bi ha a h b
end
end L3
namespace Rg
open PySem PySem.Spec PyProof.Rows L2 L3
noncomputable def bG(i:Nat):Stmt:=PySem.Challenge.pw_readgrove_k13_facts_of_rows.main.body.getD i (.Pass ⟨0,0,0,0⟩)
noncomputable abbrev JD:Stmt:=bG 6
noncomputable abbrev JE:Stmt:=bG 7
noncomputable abbrev JF:Stmt:=bG 8
noncomputable abbrev JG:Stmt:=bG 9
noncomputable abbrev JH:Stmt:=bG 10
noncomputable abbrev JI:Stmt:=bG 12
noncomputable abbrev JJ:Stmt:=bG 13
noncomputable abbrev JK:Stmt:=bG 14
noncomputable abbrev JL:Stmt:=jS (bG 16) 0
noncomputable abbrev JM:Stmt:=jS (bG 16) 1
noncomputable abbrev JN:Stmt:=jS (bG 16) 2
noncomputable abbrev JO:Stmt:=jS (bG 16) 3
noncomputable abbrev JP:Stmt:=jS (bG 16) 4
noncomputable abbrev JQ:Stmt:=bG 18
noncomputable abbrev JR:Stmt:=jS (bG 19) 0
noncomputable abbrev JS:Stmt:=jS (bG 19) 1
noncomputable abbrev JT:Stmt:=jS (bG 19) 2
noncomputable abbrev JU:Stmt:=jS (bG 19) 3
noncomputable abbrev JV:Stmt:=jS (bG 19) 4
noncomputable abbrev JW:Stmt:=bG 20
noncomputable abbrev JX:Stmt:=bG 22
noncomputable abbrev JY:Stmt:=bG 23
noncomputable abbrev JZ:Stmt:=bG 24
noncomputable abbrev J0:Stmt:=bG 26
noncomputable abbrev J1:Stmt:=bG 27
noncomputable abbrev J2:Stmt:=bG 28
noncomputable abbrev J3:Stmt:=bG 29
noncomputable abbrev J4:Stmt:=bG 30
noncomputable abbrev J5:Stmt:=bG 31
noncomputable abbrev J6:Stmt:=bG 32
noncomputable abbrev J7:Stmt:=bG 33
noncomputable abbrev J8:Stmt:=bG 34
noncomputable abbrev J9:Stmt:=bG 35
structure Tx(mg:Str->Option Ac):Prop where
 c_FIGURES:∃ t,mg "FIGURES" = some (.str "0123456789" t)
 c_GREAT_LETTERS:∃ t,mg "GREAT_LETTERS" = some (.str "ABCDEFGHIJKLMNOPQRSTUVWXYZ" t)
 all_:mg "all" = none
 bool_:mg "bool" = none
 dict_:mg "dict" = none
 enumerate_:mg "enumerate" = none
 int_:mg "int" = none
 isinstance_:mg "isinstance" = none
 len_:mg "len" = none
 list_:mg "list" = none
 range_:mg "range" = none
 set_:mg "set" = none
 sorted_:mg "sorted" = none
 tuple_:mg "tuple" = none
 zip_:mg "zip" = none
structure Kc(K:Ae)(mg:Str->Option Ac)(C:Cc):Prop where
 cls_Queue:gA K C.q
 at__Queue:mg "Queue" = some (.ref C.q)
 cls_Search:gA K C.s
 at__Search:mg "Search" = some (.ref C.s)
 na_costs:fS K C.q "costs"
 na_waiting:fS K C.q "waiting"
 na_grammar:fS K C.s "grammar"
 na_own:fS K C.s "own"
 na_steps:fS K C.s "steps"
 na_queue:fS K C.s "queue"
 na_reached:fS K C.s "reached"
 na_best:fS K C.s "best"
 na_ends:fS K C.s "ends"
 na_begun:fS K C.s "begun"
structure Al(K:Ae)(mg:Str->Option Ac)(C:Cc)(fa:Nat->Addr)(fb:Nat->Bw):Prop extends Tx mg,Kc K mg C where
 x0:Df K mg "made_of" JD ["text","signs"] (fa 0) (fb 0)
 x1:Df K mg "is_name" JE ["part"] (fa 1) (fb 1)
 x2:Df K mg "names" JF ["grammar"] (fa 2) (fb 2)
 x3:Df K mg "check_rule" JG ["rule","known"] (fa 3) (fb 3)
 x4:Df K mg "grammar_of" JH ["rules"] (fa 4) (fb 4)
 x5:Df K mg "marks" JI ["things"] (fa 5) (fb 5)
 x6:Df K mg "places_of" JJ ["row"] (fa 6) (fb 6)
 x7:Df K mg "row_steps" JK ["row"] (fa 7) (fb 7)
 x8:Di K C.q "__init__" "Queue.__init__" JL ["self"] (fa 8) (fb 8)
 x9:Dm K C.q "is_done" "Queue.is_done" JM ["self"] (fa 9) (fb 9)
 x10:Dm K C.q "place_of" "Queue.place_of" JO ["self","cost"] (fa 10) (fb 10)
 x11:Dm K C.q "put" "Queue.put" JN ["self","cost","thing"] (fa 11) (fb 11)
 x12:Dm K C.q "take" "Queue.take" JP ["self"] (fa 12) (fb 12)
 x13:Df K mg "added" JQ ["cost","other"] (fa 13) (fb 13)
 x14:Di K C.s "__init__" "Search.__init__" JR ["self","grammar","steps"] (fa 14) (fb 14)
 x15:Dm K C.s "reach" "Search.reach" JS ["self","number","cut","cost"] (fa 15) (fb 15)
 x16:Dm K C.s "settle" "Search.settle" JV ["self","number","cut","cost"] (fa 16) (fb 16)
 x17:Dm K C.s "step_by_name" "Search.step_by_name" JU ["self","number","cut","cost","key"] (fa 17) (fb 17)
 x18:Dm K C.s "take_next" "Search.take_next" JT ["self"] (fa 18) (fb 18)
 x19:Df K mg "least_trees" JW ["grammar","places","steps","weights"] (fa 19) (fb 19)
 x20:Df K mg "row_trees" JX ["grammar","row","weights"] (fa 20) (fb 20)
 x21:Df K mg "no_weights" JY ["grammar"] (fa 21) (fb 21)
 x22:Df K mg "facts" JZ ["grammar","row"] (fa 22) (fb 22)
 x23:Df K mg "_law_cell" J0 ["script","k"] (fa 23) (fb 23)
 x24:Df K mg "_law_stir" J1 ["cell","k"] (fa 24) (fb 24)
 x25:Df K mg "_law_drawn" J2 ["cell","sizes"] (fa 25) (fb 25)
 x26:Df K mg "_law_grammar" J3 ["script"] (fa 26) (fb 26)
 x27:Df K mg "_law_is_name" J4 ["part"] (fa 27) (fb 27)
 x28:Df K mg "_law_row" J5 ["script","rules","most"] (fa 28) (fb 28)
 x29:Df K mg "_law_covers" J6 ["parts","row","known","begin","end"] (fa 29) (fb 29)
 x30:Df K mg "_law_facts" J7 ["rules","row"] (fa 30) (fb 30)
 x31:Df K mg "_law_good" J8 ["found","due"] (fa 31) (fb 31)
 x32:Df K mg "law" J9 ["script"] (fa 32) (fb 32)
section
variable {P:Bl}{w:Cb}{K:Ae}{mg:Str->Option Ac}{base:Heap}{C:Cc}{fa:Nat->Addr}{fb:Nat->Bw}(Y:Al K mg C fa fb)
seal L2.PE L2.PA L2.PS L2.fR L2.PT L2.PG L2.PI L2.PO
def KA:=cR P w mg base 0 Y.x0.fn Y.x0.bi cQ za9 zbf fun a b nd=>(aX (cY (v_and (mH (pZ a.units) (v 0) gD) (sF (dE (U4 rfl) (by rfl) Y.all_ VY (aC (eL (kZ ["sign","signs"] [none,some 1] (gH (v 0)) (fun B=>(iC (i:=0))) (fun B=>m8) (fun B=>(mH (nZ b) (v 0) (v 1))))) aJ))))))
def ze1:=cR P w mg base 1 Y.x1.fn Y.x1.bi cQ zba zbi fun e f nd=>Y.c_GREAT_LETTERS.elim fun c a=>Y.c_FIGURES.elim fun d b=>(aU (bP (i:=1) nd (fZ F.plainAttrs_str F.slot_str_partition F.type_str_partition m_partition (v 0) (aC gD aJ)))
   (aU (bP (i:=2) nd (v_or (mH (mT e.units) (bA f (v 1) aM) gD) (sF (cL (KA Y) Y.x0 e (aC (bA f (v 1) aM) (aC (CT (y:=V.str "0123456789") (by rfl) b ⟨_,rfl⟩ (fun _ _=>.str _)) aJ))))))
   (aX (cY (v_and (v 2) (sF (cL (KA Y) Y.x0 e (aC (bA f (v 1) aM) (aC (CT (y:=V.str "ABCDEFGHIJKLMNOPQRSTUVWXYZ") (by rfl) a ⟨_,rfl⟩ (fun _ _=>.str _)) aJ)))))))))
def KC:=cR P w mg base 0 Y.x2.fn Y.x2.bi cQ zbb zbj fun b a nd=>(aU (bP (i:=1) nd U5)
   (aU (fW Cg rfl (gH (v 0)) (d9 (i:=2) nd)
    (aX (p7 jD (w_sub a (v 1) (bA a (v 2) aM)))))
   (aX (cY (kT (wN rfl) (by rfl) Y.list_ oG (aC (v 1) aJ))))))
def ze2:=cR P w mg base 2 Y.x3.fn Y.x3.bi cQ zbc zbk fun b a nd=>(aU (eU (eD nX (bA a (v 0) aM) aM)
    (aX wU)
    gF)
   (aX (fW Cg rfl (gH (bA a (v 0) aM)) (d9 (i:=2) nd)
    (aX (eU (PW.pt (v9 (iU (cL (ze1 Y) Y.x1 b (aC (v 2) aJ))) (v8 (eD (p6 a) (v 2) (v 1)))))
    (aX wU)
    gF)))))
def ze3:=cR P w mg base 3 Y.x4.fn Y.x4.bi cQ zbd zbl fun a b nd=>(aU (eU (eD (mT a.units) (dE eM (by rfl) Y.len_ eO (aC (v 0) aJ)) aM)
    (aX wU)
    gF)
   (aU (bP (i:=1) nd (eL (cL (KC Y) Y.x2 a (aC (v 0) aJ))))
   (aU (fW Cg rfl (gH (v 0)) (d9 (i:=2) nd)
    (aX (e7 (cL (ze2 Y) Y.x3 a (aC (v 2) (aC (v 1) aJ))))))
   (aX (cY (kT (wN rfl) (by rfl) Y.list_ oG (aC (v 0) aJ)))))))
def ze4:=cR P w mg base 0 Y.x5.fn Y.x5.bi cQ zbH zbP fun a b nd=>(aX (cY (kT (ZY rfl) (by rfl) Y.dict_ D2 (aC (eL (kZ ["thing"] [none] (gH (v 0)) (fun B=>(iC (i:=0))) (fun B=>m8) (fun B=>(dU (aC (v 0) (aC jD aJ)))))) aJ))))
def ze5:=cR P w mg base 0 Y.x6.fn Y.x6.bi cQ zed zes fun a b nd=>(aX (cY (zc4 (by rfl) Y.list_ (by rfl) Y.range_ (bF dG (dE eM (by rfl) Y.len_ eO (aC (v 0) aJ)) aM))))
def ze6:=cR P w mg base 0 Y.x7.fn Y.x7.bi cQ zee zew fun a b nd=>(aX (cY (kT (zb4 rfl (zaa a)) (by rfl) Y.dict_ D2 (aC (eL (kZ ["place","word"] [none,none] (D7 (by rfl) Y.enumerate_ (aC (v 0) aJ)) (fun B=>(mX rfl (gE (iC (i:=0)) (gE (iC (i:=1)) mW)))) (fun B=>m8) (fun B=>(dU (aC (dU (aC (v 1) (aC (v 0) aJ))) (aC (fG (aC (dU (aC (bF dG (v 0) aM) (aC aM aJ))) aJ)) aJ)))))) aJ))))
def ze7:=cR P w mg base 0 Y.x8.fn Y.x8.bi cQ zaR zaX fun a b nd=>(aU (kB Y.cls_Queue Y.na_costs (v 0) (mS aJ))
   (aX (kB Y.cls_Queue Y.na_waiting (v 0) n6)))
def ze8:=cR P w mg base 0 Y.x9.fn Y.x9.bi cQ zaS zaW fun a b nd=>(aX (cY (mH (mT a.units) (dE eM (by rfl) Y.len_ eO (aC (dP Y.cls_Queue Y.na_costs (v 0)) aJ)) aM)))
def ze9:=cR P w mg base 0 Y.x10.fn Y.x10.bi cQ zaT zaY fun b a nd=>(aU (bP (i:=2) nd aM)
   (aU (bP (i:=3) nd (dE eM (by rfl) Y.len_ eO (aC (dP Y.cls_Queue Y.na_costs (v 0)) aJ)))
   (aU (wV Cg (eD nX (v 2) (v 3))
    (aU (bP (i:=4) nd (bF pW (bF dG (v 2) (v 3)) aM))
   (aX (eU (eD (zae a) (bA a (dP Y.cls_Queue Y.na_costs (v 0)) (v 4)) (v 1))
    (aX (bP (i:=2) nd (bF dG (v 4) aM)))
    (aX (bP (i:=3) nd (v 4)))))))
   (aX (cY (v 2))))))
def zfa:=cR P w mg base 1 Y.x11.fn Y.x11.bi cQ zaU za0 fun b a nd=>(aU (eU (eD (p6 a) (v 1) (dP Y.cls_Queue Y.na_waiting (v 0)))
    (aU (p7 (mS aJ) (w_sub a (dP Y.cls_Queue Y.na_waiting (v 0)) (v 1)))
   (aX (e7 (fZ Ef F.slot_list_insert F.type_list_insert zaf (dP Y.cls_Queue Y.na_costs (v 0)) (aC (mD Y.cls_Queue Y.x10.me (ze9 Y) (b.mono (by decide)) Y.x10.bi (v 0) (aC (v 1) aJ)) (aC (v 1) aJ))))))
    gF)
   (aX (e7 (fZ Ef Eu Fg kY (bA a (dP Y.cls_Queue Y.na_waiting (v 0)) (v 1)) (aC (v 2) aJ)))))
def zfb:=cR P w mg base 0 Y.x12.fn Y.x12.bi cQ zaV za1 fun b a nd=>(aU (bP (i:=1) nd (bA a (dP Y.cls_Queue Y.na_costs (v 0)) (lO lT aM)))
   (aU (bP (i:=2) nd (bA a (dP Y.cls_Queue Y.na_waiting (v 0)) (v 1)))
   (aU (bP (i:=3) nd (CW Ef F.slot_list_pop F.type_list_pop DE (v 2)))
   (aU (eU (eD (mT b.units) (dE eM (by rfl) Y.len_ eO (aC (v 2) aJ)) aM)
    (aU (e7 (CW Ef F.slot_list_pop F.type_list_pop DE (dP Y.cls_Queue Y.na_costs (v 0))))
   (aX (e7 (fZ Jc F.slot_dict_pop F.type_dict_pop (Z7 a) (dP Y.cls_Queue Y.na_waiting (v 0)) (aC (v 1) aJ)))))
    gF)
   (aX (cY (dU (aC (v 1) (aC (v 3) aJ)))))))))
def KD:=cR P w mg base 0 Y.x13.fn Y.x13.bi cQ zbI zbQ fun b a nd=>(aX (cY (dU (aC (bF dG (bA a (v 0) aM) (bA a (v 1) aM)) (aC (bF dG (bA a (v 0) aM) (bA a (v 1) aM)) aJ)))))
def zfc:=cR P w mg base 2 Y.x14.fn Y.x14.bi cQ zbN zbY fun a b nd=>(aU (kB Y.cls_Search Y.na_grammar (v 0) (v 1))
   (aU (kB Y.cls_Search Y.na_own (v 0) (cL (ze4 Y) Y.x5 a (aC (eL (cL (KC Y) Y.x2 a (aC (v 1) aJ))) aJ)))
   (aU (kB Y.cls_Search Y.na_steps (v 0) (v 2))
   (aU (kB Y.cls_Search Y.na_queue (v 0) (Z1 Y.x8.mak (ze7 Y) (a.mono (by decide)) (by rfl) Y.at__Queue Y.x8.bi))
   (aU (kB Y.cls_Search Y.na_reached (v 0) n6)
   (aU (kB Y.cls_Search Y.na_best (v 0) n6)
   (aU (kB Y.cls_Search Y.na_ends (v 0) n6)
   (aX (kB Y.cls_Search Y.na_begun (v 0) n6)))))))))
def u0:=cR P w mg base 2 Y.x15.fn Y.x15.bi cQ zbJ zbS fun b a nd=>(aU (bP (i:=4) nd (dU (aC (v 1) (aC (dE eM (by rfl) Y.len_ eO (aC (v 2) aJ)) (aC (bA a (v 2) aM) (aC (bA a (v 2) (lO lT aM)) aJ))))))
   (aX (eU (PW.pt (sE (eD (p6 a) (v 4) (dP Y.cls_Search Y.na_reached (v 0))) (r9 (eD (EJ a) (v 3) (bA a (dP Y.cls_Search Y.na_reached (v 0)) (v 4))))))
    (aU (p7 (v 3) (w_sub a (dP Y.cls_Search Y.na_reached (v 0)) (v 4)))
   (aX (e7 (mD Y.cls_Queue Y.x11.me (zfa Y) (b.mono (by decide)) Y.x11.bi (dP Y.cls_Search Y.na_queue (v 0)) (aC (v 3) (aC (dU (aC (v 1) (aC (v 2) aJ))) aJ))))))
    gF)))
def zfd:=cR P w mg base 3 Y.x16.fn Y.x16.bi cQ zbL zbV fun b a nd=>(aU (bP (i:=4) nd (dU (aC (bA a (bA a (dP Y.cls_Search Y.na_grammar (v 0)) (v 1)) aM) (aC (bA a (v 2) aM) aJ))))
   (aU (bP (i:=5) nd (bF dG (v 4) (dU (aC (bA a (v 2) (lO lT aM)) aJ))))
   (aU (eU (eD (nZ a) (v 5) (dP Y.cls_Search Y.na_best (v 0)))
    (aX DH)
    gF)
   (aU (p7 (dU (aC (v 3) (aC (v 1) (aC (v 2) aJ)))) (w_sub a (dP Y.cls_Search Y.na_best (v 0)) (v 5)))
   (aU (e7 (fZ Ef Eu Fg kY (fZ Jc F.slot_dict_setdefault F.type_dict_setdefault (ED a) (dP Y.cls_Search Y.na_ends (v 0)) (aC (v 4) (aC (mS aJ) aJ))) (aC (dU (aC (bA a (v 2) (lO lT aM)) (aC (v 3) aJ))) aJ)))
   (aX (fW Cg rfl (sO (fZ Jc F.slot_dict_get F.type_dict_get (xH a) (dP Y.cls_Search Y.na_begun (v 0)) (aC (v 4) (aC (fG aJ) aJ)))) (mX rfl (gE (d9 (i:=6) nd) (gE (d9 (i:=7) nd) (gE (d9 (i:=8) nd) mW))))
    (aX (e7 (mD Y.cls_Search Y.x15.me (u0 Y) (b.mono (by decide)) Y.x15.bi (v 0) (aC (v 6) (aC (bF dG (v 7) (dU (aC (bA a (v 2) (lO lT aM)) aJ))) (aC (cL (KD Y) Y.x13 b (aC (v 8) (aC (v 3) aJ))) aJ)))))))))))))
def zfe:=cR P w mg base 3 Y.x17.fn Y.x17.bi cQ zbK zbT fun a b nd=>(aU (e7 (fZ Ef Eu Fg kY (fZ Jc F.slot_dict_setdefault F.type_dict_setdefault (ED b) (dP Y.cls_Search Y.na_begun (v 0)) (aC (v 4) (aC (mS aJ) aJ))) (aC (dU (aC (v 1) (aC (v 2) (aC (v 3) aJ)))) aJ)))
   (aX (fW Cg rfl (sO (fZ Jc F.slot_dict_get F.type_dict_get (xH b) (dP Y.cls_Search Y.na_ends (v 0)) (aC (v 4) (aC (fG aJ) aJ)))) (mX rfl (gE (d9 (i:=5) nd) (gE (d9 (i:=6) nd) mW)))
    (aX (e7 (mD Y.cls_Search Y.x15.me (u0 Y) (a.mono (by decide)) Y.x15.bi (v 0) (aC (v 1) (aC (bF dG (v 2) (dU (aC (v 5) aJ))) (aC (cL (KD Y) Y.x13 a (aC (v 3) (aC (v 6) aJ))) aJ)))))))))
def zff:=cR P w mg base 4 Y.x18.fn Y.x18.bi cQ zbM zbW fun b a nd=>(aU (bP (i:=1) nd (xG Y.cls_Queue Y.x12.me (zfb Y) (b.mono (by decide)) Y.x12.bi (dP Y.cls_Search Y.na_queue (v 0))))
   (aU (bP (i:=2) nd (bA a (v 1) aM))
   (aU (bP (i:=3) nd (bA a (bA a (v 1) aM) aM))
   (aU (bP (i:=4) nd (bA a (bA a (v 1) aM) aM))
   (aU (eU (eD (EJ a) (bA a (dP Y.cls_Search Y.na_reached (v 0)) (dU (aC (v 3) (aC (dE eM (by rfl) Y.len_ eO (aC (v 4) aJ)) (aC (bA a (v 4) aM) (aC (bA a (v 4) (lO lT aM)) aJ)))))) (v 2))
    (aX DH)
    gF)
   (aU (bP (i:=5) nd (bA a (bA a (dP Y.cls_Search Y.na_grammar (v 0)) (v 3)) aM))
   (aX (eU (eD UK (dE eM (by rfl) Y.len_ eO (aC (v 4) aJ)) (dE eM (by rfl) Y.len_ eO (aC (v 5) aJ)))
    (aX (e7 (mD Y.cls_Search Y.x16.me (zfd Y) (b.mono (by decide)) Y.x16.bi (v 0) (aC (v 3) (aC (v 4) (aC (v 2) aJ))))))
    (aX (eU (eD (nZ a) (bA a (v 5) (bF pV (dE eM (by rfl) Y.len_ eO (aC (v 4) aJ)) aM)) (dP Y.cls_Search Y.na_own (v 0)))
    (aX (e7 (mD Y.cls_Search Y.x17.me (zfe Y) (b.mono (by decide)) Y.x17.bi (v 0) (aC (v 3) (aC (v 4) (aC (v 2) (aC (dU (aC (bA a (v 5) (bF pV (dE eM (by rfl) Y.len_ eO (aC (v 4) aJ)) aM)) (aC (bA a (v 4) (lO lT aM)) aJ))) aJ)))))))
    (aX (fW Cg rfl (sO (fZ Jc F.slot_dict_get F.type_dict_get (xH a) (dP Y.cls_Search Y.na_steps (v 0)) (aC (dU (aC (bA a (v 5) (bF pV (dE eM (by rfl) Y.len_ eO (aC (v 4) aJ)) aM)) (aC (bA a (v 4) (lO lT aM)) aJ))) (aC (fG aJ) aJ)))) (mX rfl (gE (d9 (i:=6) nd) (gE (d9 (i:=7) nd) mW)))
    (aX (e7 (mD Y.cls_Search Y.x15.me (u0 Y) (b.mono (by decide)) Y.x15.bi (v 0) (aC (v 3) (aC (bF dG (v 4) (dU (aC (v 6) aJ))) (aC (dU (aC (bF dG (bA a (v 2) aM) (v 7)) (aC (bA a (v 2) aM) aJ))) aJ))))))))))))))))))
def zfg:=cR P w mg base 5 Y.x19.fn Y.x19.bi cQ zbO zb3 fun a b nd=>(aU (bP (i:=4) nd (Z0 Y.x14.mak (zfc Y) (a.mono (by decide)) (by rfl) Y.at__Search Y.x14.bi (aC (v 0) (aC (v 2) aJ))))
   (aU (fW Cg rfl (oA (by rfl) Y.range_ (aC (dE eM (by rfl) Y.len_ eO (aC (v 0) aJ)) aJ)) (d9 (i:=5) nd)
    (aX (fW Cg rfl (gH (v 1)) (d9 (i:=6) nd)
    (aX (e7 (mD Y.cls_Search Y.x15.me (u0 Y) (a.mono (by decide)) Y.x15.bi (v 4) (aC (v 5) (aC (dU (aC (v 6) aJ)) (aC (dU (aC (bA b (v 3) (v 5)) (aC aM aJ))) aJ)))))))))
   (aU (wV Cg (mR (iU (xG Y.cls_Queue Y.x9.me (ze8 Y) (a.mono (by decide)) Y.x9.bi (dP Y.cls_Search Y.na_queue (v 4)))))
    (aX (e7 (xG Y.cls_Search Y.x18.me (zff Y) (a.mono (by decide)) Y.x18.bi (v 4)))))
   (aX (cY (dP Y.cls_Search Y.na_best (v 4)))))))
def zfh:=cR P w mg base 6 Y.x20.fn Y.x20.bi cQ zef zez fun a b nd=>(aX (cY (cL (zfg Y) Y.x19 a (aC (v 0) (aC (eL (cL (ze5 Y) Y.x6 a (aC (v 1) aJ))) (aC (eL (cL (ze6 Y) Y.x7 a (aC (v 1) aJ))) (aC (v 2) aJ)))))))
def zfi:=cR P w mg base 0 Y.x21.fn Y.x21.bi cQ zeg zet fun a b nd=>(aX (cY (kZ ["rule"] [none] (gH (v 0)) (fun B=>(iC (i:=0))) (fun B=>m8) (fun B=>aM))))
def KG:=cR P w mg base 7 Y.x22.fn Y.x22.bi cQ zeh zeC fun a b nd=>(aX (cY (dE (IC rfl) (by rfl) Y.sorted_ D4 (aC (eL (cL (zfh Y) Y.x20 a (aC (v 0) (aC (v 1) (aC (eL (cL (zfi Y) Y.x21 a (aC (v 0) aJ))) aJ))))) aJ))))
def u3:=cR P w mg base 0 Y.x23.fn Y.x23.bi cQ zei zeD fun b a nd=>(aU (eU (W9 UJ nX aM (v 1) (dE eM (by rfl) Y.len_ eO (aC (v 0) aJ)))
    (aX (cY (bA a (v 0) (v 1))))
    gF)
   (aX (cY (v 1))))
def zfj:=cR P w mg base 0 Y.x24.fn Y.x24.bi cQ zej zeE fun a b nd=>(aU (bP (i:=2) nd (bF l9 (bF dG (bF dG (bF jE (v 0) (bF wF aM aM)) (bF l9 aM (v 1))) aM) aM))
   (aU (bP (i:=2) nd (bF jE (v 2) aM))
   (aU (bP (i:=2) nd (bF jE (bF dG (bF dG (bF l9 (v 2) (v 2)) (bF l9 aM (v 1))) aM) aM))
   (aX (cY (bF pW (bF jE (bF l9 (v 2) (v 2)) aM) aM))))))
def u5:=cR P w mg base 1 Y.x25.fn Y.x25.bi cQ zek zeF fun a b nd=>(aU (bP (i:=2) nd (mS aJ))
   (aU (bP (i:=3) nd (bF pV (v 0) (bF wF aM aM)))
   (aU (fW Cg rfl (D7 (by rfl) Y.enumerate_ (aC (v 1) aJ)) (mX rfl (gE (d9 (i:=4) nd) (gE (d9 (i:=5) nd) mW)))
    (aX (eU (eD UL (v 3) aM)
    (aU (e7 (fZ Ef Eu Fg kY (v 2) (aC (bF jE (v 3) (v 5)) aJ)))
   (aX (bP (i:=3) nd (bF pW (v 3) (v 5)))))
    (aX (e7 (fZ Ef Eu Fg kY (v 2) (aC (bF jE (cL (zfj Y) Y.x24 a (aC (v 0) (aC (v 4) aJ))) (v 5)) aJ)))))))
   (aX (cY (v 2))))))
def zfk:=cR P w mg base 2 Y.x26.fn Y.x26.bi cQ zel zeO fun b a nd=>(aU (uV (i:=1) nd ["k","script"] [none,some 0] (oA (by rfl) Y.range_ (aC (bF dG aM (bF jE (cL (u3 Y) Y.x23 b (aC (v 0) (aC aM aJ))) aM)) aJ)) (fun B=>(iC (i:=0))) (fun B=>m8) (fun B=>(cL (u3 Y) Y.x23 b (aC (v 1) (aC (bF dG aM (v 0)) aJ)))))
   (aU (bP (i:=2) nd (eL (kZ ["cell"] [none] (gH (v 1)) (fun B=>(iC (i:=0))) (fun B=>m8) (fun B=>(bA a (fG (aC gD (aC gD (aC gD (aC gD aJ))))) (bA a (eL (cL (u5 Y) Y.x25 b (aC (v 0) (aC (fG (aC aM aJ)) aJ)))) aM))))))
   (aU (uV (i:=3) nd ["k","heads"] [none,some 2] (oA (by rfl) Y.range_ (aC (dE eM (by rfl) Y.len_ eO (aC (v 2) aJ)) aJ)) (fun B=>(iC (i:=0))) (fun B=>(oB (eD (p6 a) (bA a (v 1) (v 0)) (oE (v 1) p5 (kW (v 0)))))) (fun B=>(bA a (v 1) (v 0))))
   (aU (bP (i:=4) nd (mS aJ))
   (aU (fW Cg rfl (ZV (by rfl) Y.zip_ (aC (v 2) (aC (v 1) aJ))) (mX rfl (gE (d9 (i:=5) nd) (gE (d9 (i:=6) nd) mW)))
    (aU (bP (i:=7) nd (eL (cL (u5 Y) Y.x25 b (aC (v 6) (aC (fG (aC aM (aC aM (aC aM (aC aM (aC aM (aC aM (aC aM (aC (bF wF aM aM) aJ))))))))) aJ)))))
   (aU (bP (i:=8) nd (mS aJ))
   (aU (fW Cg rfl (gH (oE (v 7) (kW aM) (kW (bF dG aM (bA a (v 7) aM))))) (d9 (i:=9) nd)
    (aX (eU (eD nX (v 9) aM)
    (aX (e7 (fZ Ef Eu Fg kY (v 8) (aC (bA a (fG (aC gD (aC gD (aC gD aJ)))) (v 9)) aJ))))
    (aX (e7 (fZ Ef Eu Fg kY (v 8) (aC (bA a (v 3) (bF jE (bF pV (v 9) aM) (dE eM (by rfl) Y.len_ eO (aC (v 3) aJ)))) aJ)))))))
   (aX (e7 (fZ Ef Eu Fg kY (v 4) (aC (dU (aC (v 5) (aC (kT U3 (by rfl) Y.tuple_ D0 (aC (v 8) aJ)) (aC (bA a (fG (aC aM (aC aM (aC (bF jE (bA a (v 7) aM) aM) (aC (bA a (v 7) aM) aJ))))) (bA a (v 7) aM)) aJ)))) aJ))))))))
   (aX (cY (v 4))))))))
def AZ:=cR P w mg base 0 Y.x27.fn Y.x27.bi cQ zem zeG fun b a nd=>(aX (cY (mH (nZ a) (bA a (v 0) aM) gD)))
def zfl:=cR P w mg base 2 Y.x28.fn Y.x28.bi cQ zen zeS fun b a nd=>(aU (bP (i:=3) nd (oE (v 0) (kW aM) (kW (bF dG aM (v 2)))))
   (aU (eU (eD (mT b.units) (bF jE (bF pW (cL (u3 Y) Y.x23 b (aC (v 0) (aC aM aJ))) aM) aM) aM)
    (aX (cY (kZ ["cell"] [none] (gH (v 3)) (fun B=>(iC (i:=0))) (fun B=>m8) (fun B=>(bA a (fG (aC gD (aC gD (aC gD (aC gD aJ))))) (bA a (eL (cL (u5 Y) Y.x25 b (aC (v 0) (aC (fG (aC aM aJ)) aJ)))) aM))))))
    gF)
   (aU (bP (i:=4) nd (fG (aC (bA a (bA a (v 1) aM) aM) aJ)))
   (aU (fW Cg rfl (oA (by rfl) Y.range_ (aC aM aJ)) (d9 (i:=5) nd)
    (aU (uV (i:=6) nd ["at","row"] [none,some 4] (oA (by rfl) Y.range_ (aC (dE eM (by rfl) Y.len_ eO (aC (v 4) aJ)) aJ)) (fun B=>(iC (i:=0))) (fun B=>(oB (iU (cL (AZ Y) Y.x27 b (aC (bA a (v 1) (v 0)) aJ))))) (fun B=>(v 0)))
   (aX (eU (PW.pt (v9 (eD (pZ b.units) (v 6) (fG aJ)) (v8 (eD nX (dE eM (by rfl) Y.len_ eO (aC (v 4) aJ)) (bF l9 aM (v 2))))))
    (aU (bP (i:=7) nd (bA a (v 6) aM))
   (aU (uV (i:=8) nd ["rule","row","at"] [none,some 4,some 7] (gH (v 1)) (fun B=>(iC (i:=0))) (fun B=>(oB (eD (mT b.units) (bA a (v 0) aM) (bA a (v 1) (v 2))))) (fun B=>(v 0)))
   (aU (bP (i:=9) nd (bA a (v 8) (bA a (eL (cL (u5 Y) Y.x25 b (aC (bF dG (cL (u3 Y) Y.x23 b (aC (v 0) (aC (bF dG aM (bF jE (v 5) aM)) aJ))) (bF l9 (bF pW (v 5) aM) aM)) (aC (fG (aC (dE eM (by rfl) Y.len_ eO (aC (v 8) aJ)) aJ)) aJ)))) aM)))
   (aX (bP (i:=4) nd (bF dG (bF dG (oE (v 4) p5 (kW (v 7))) (kT (w6 rfl) (by rfl) Y.list_ oG (aC (bA a (v 9) aM) aJ))) (oE (v 4) (kW (bF dG (v 7) aM)) p5)))))))
    gF))))
   (aX (cY (UW (eL (kZ ["word"] [none] (gH (v 4)) (fun B=>(iC (i:=0))) (fun B=>(oB (mR (iU (cL (AZ Y) Y.x27 b (aC (v 0) aJ)))))) (fun B=>(v 0)))) p5 (kW (v 2)))))))))
def zfm:=cR P w mg base 1 Y.x29.fn Y.x29.bi cQ zeo zeH fun b a nd=>(aU (bP (i:=5) nd (fG (aC (v 3) aJ)))
   (aU (fW Cg rfl (gH (v 0)) (d9 (i:=6) nd)
    (aU (bP (i:=7) nd (fG aJ))
   (aU (fW Cg rfl (gH (v 5)) (d9 (i:=8) nd)
    (aX (eU (mR (iU (cL (AZ Y) Y.x27 b (aC (v 6) aJ))))
    (aX (bP (i:=7) nd (bF dG (v 7) (bF l9 (fG (aC (bF dG (v 8) aM) aJ)) (kT zc8 (by rfl) Y.int_ D1 (aC (v_and (mH nX (v 8) (dE eM (by rfl) Y.len_ eO (aC (v 1) aJ))) (sF (mH (mT b.units) (bA a (v 1) (v 8)) (v 6)))) aJ))))))
    (aX (bP (i:=7) nd (bF dG (v 7) (eL (kZ ["to","known","part","place"] [none,some 2,some 6,some 8] (DO (by rfl) Y.range_ (aC (v 8) (aC (bF dG (dE eM (by rfl) Y.len_ eO (aC (v 1) aJ)) aM) aJ))) (fun B=>(iC (i:=0))) (fun B=>(oB (eD (nZ a) (dU (aC (v 2) (aC (v 3) (aC (v 0) aJ)))) (v 1)))) (fun B=>(v 0))))))))))
   (aX (bP (i:=5) nd (zcB (by rfl) Y.sorted_ (by rfl) Y.set_ (v 7)))))))
   (aX (cY (mH (nZ a) (v 4) (v 5))))))
def zfn:=cR P w mg base 2 Y.x30.fn Y.x30.bi cQ zep zeJ fun b a nd=>(aU (bP (i:=2) nd n6)
   (aU (bP (i:=3) nd jD)
   (aU (wV Cg (iU (v 3))
    (aU (bP (i:=3) nd jD)
   (aX (fW Cg rfl (sO (v 0)) (mX rfl (gE (d9 (i:=4) nd) (gE (d9 (i:=5) nd) (gE (d9 (i:=6) nd) mW))))
    (aX (fW Cg rfl (oA (by rfl) Y.range_ (aC (bF dG (dE eM (by rfl) Y.len_ eO (aC (v 1) aJ)) aM) aJ)) (d9 (i:=7) nd)
    (aX (fW Cg rfl (DO (by rfl) Y.range_ (aC (v 7) (aC (bF dG (dE eM (by rfl) Y.len_ eO (aC (v 1) aJ)) aM) aJ))) (d9 (i:=8) nd)
    (aX (eU (PW.pt (v9 (eD (p6 a) (dU (aC (v 4) (aC (v 7) (aC (v 8) aJ)))) (v 2)) (v8 (iU (cL (zfm Y) Y.x29 b (aC (v 5) (aC (v 1) (aC (v 2) (aC (v 7) (aC (v 8) aJ))))))))))
    (aU (p7 jD (w_sub a (v 2) (dU (aC (v 4) (aC (v 7) (aC (v 8) aJ))))))
   (aX (bP (i:=3) nd jD)))
    gF))))))))))
   (aX (cY (v 2))))))
def KH:=cR P w mg base 0 Y.x31.fn Y.x31.bi cQ zeq zeX fun a b nd=>(aU (eU (PW.pt (sE (mR (iU (dE sS (by rfl) Y.isinstance_ sW (aC (v 0) (aC (rZ (by rfl) Y.list_ oG (y:=.ty "list") rfl (fun _ _=>.ty _)) aJ))))) (r9 (eD (pZ a.units) (v 0) (v 1)))))
    (aX (cY jD))
    gF)
   (aU (fW Cg rfl (gH (v 0)) (d9 (i:=2) nd)
    (aU (eU (mR (iU (dE sS (by rfl) Y.isinstance_ sW (aC (v 2) (aC (rZ (by rfl) Y.tuple_ D0 (y:=.ty "tuple") rfl (fun _ _=>.ty _)) aJ)))))
    (aX (cY jD))
    gF)
   (aX (eU (eD (pZ a.units) (eL (kZ ["one"] [none] (gH (oE (v 2) (kW aM) p5)) (fun B=>(iC (i:=0))) (fun B=>(oB (PW.pt (sE (mR (iU (dE sS (by rfl) Y.isinstance_ sW (aC (v 0) (aC (rZ (by rfl) Y.int_ D1 (y:=.ty "int") rfl (fun _ _=>.ty _)) aJ))))) (r9 (iU (dE sS (by rfl) Y.isinstance_ sW (aC (v 0) (aC (rZ (by rfl) Y.bool_ VX (y:=.ty "bool") rfl (fun _ _=>.ty _)) aJ))))))))) (fun B=>(v 0)))) (fG aJ))
    (aX (cY jD))
    gF))))
   (aX (cY jD))))
def zfo:=cR P w mg base 8 Y.x32.fn Y.x32.bi cQ zer zeZ fun a b nd=>(aU (bP (i:=1) nd (eL (cL (zfk Y) Y.x26 a (aC (v 0) aJ))))
   (aU (bP (i:=2) nd (eL (cL (zfl Y) Y.x28 a (aC (v 0) (aC (v 1) (aC aM aJ))))))
   (aU (bP (i:=3) nd (eL (cL (ze3 Y) Y.x4 a (aC (v 1) aJ))))
   (aU (bP (i:=4) nd (eL (dE (IC rfl) (by rfl) Y.sorted_ D4 (aC (eL (cL (zfn Y) Y.x30 a (aC (v 1) (aC (v 2) aJ)))) aJ))))
   (aU (bP (i:=5) nd (fG (aC (kT (w6 rfl) (by rfl) Y.list_ oG (aC (v 3) aJ)) (aC (kT (w6 rfl) (by rfl) Y.list_ oG (aC (v 2) aJ)) aJ))))
   (aU (bP (i:=6) nd (cL (KG Y) Y.x22 a (aC (bA b (v 5) aM) (aC (bA b (v 5) aM) aJ))))
   (aU (eU (PW.pt (sE (mR (iU (cL (KH Y) Y.x31 a (aC (v 6) (aC (v 4) aJ))))) (r9 (eD (pZ a.units) (v 5) (fG (aC (v 3) (aC (v 2) aJ)))))))
    (aX (cY jD))
    gF)
   (aU (e7 (fZ Ef Eu Fg kY (v 6) (aC (dU (aC gD (aC aM (aC aM aJ)))) aJ)))
   (aX (cY (cL (KH Y) Y.x31 a (aC (eL (cL (KG Y) Y.x22 a (aC (bA b (v 5) aM) (aC (bA b (v 5) aM) aJ)))) (aC (v 4) aJ)))))))))))))
end
noncomputable def en(P:Params)(x:String)(t:Tok)(v:Ac):Ie:=⟨PyData.keyHash P (Cz x),.str (Cz x) t,v⟩
abbrev sT(x:String)(t:Tok):Ac:=.str (Cz x) t
abbrev cO(x:String)(a:Tok)(q:String)(b c:Tok)(l n:Int)(r:Addr)(u v w y z:Ac)(k:Int)(d:Tok):Obj:=⟨.type "code",none,.fields #[sT x a,sT q b,sT "/claim/cut.py" c,.int l 0,.int n 0,.int 0 0,.int 0 0,.int 3 0,.ref r,.bool true,.int 181 0,u,v,w,y,z,.int k 0,.int l 0,sT "/claim/cut.py" d],#[]⟩
abbrev fO(x q:Str)(s:Stmt)(m c:Ac):Bw:=Fc x q (iT s) (gN s) (eR s) .none .none .none m none c .none
noncomputable abbrev KI:Bw:=fO "made_of" "made_of" JD (sT "readgrove.grammars" 223) (.ref 43)
noncomputable abbrev KJ:Bw:=fO "is_name" "is_name" JE (sT "readgrove.grammars" 223) (.ref 50)
noncomputable abbrev KL:Bw:=fO "names" "names" JF (sT "readgrove.grammars" 223) (.ref 57)
noncomputable abbrev KN:Bw:=fO "check_rule" "check_rule" JG (sT "readgrove.grammars" 223) (.ref 64)
noncomputable abbrev KO:Bw:=fO "grammar_of" "grammar_of" JH (sT "readgrove.grammars" 223) (.ref 71)
noncomputable abbrev KP:Bw:=fO "marks" "marks" JI (sT "readgrove.covers" 271) (.ref 76)
noncomputable abbrev KQ:Bw:=fO "places_of" "places_of" JJ (sT "readgrove.covers" 271) (.ref 83)
noncomputable abbrev KR:Bw:=fO "row_steps" "row_steps" JK (sT "readgrove.covers" 271) (.ref 88)
noncomputable abbrev KU:Bw:=fO "__init__" "Queue.__init__" JL (sT "readgrove.queues" 292) (.ref 102)
noncomputable abbrev KW:Bw:=fO "is_done" "Queue.is_done" JM (sT "readgrove.queues" 292) (.ref 109)
noncomputable abbrev KY:Bw:=fO "put" "Queue.put" JN (sT "readgrove.queues" 292) (.ref 116)
noncomputable abbrev KZ:Bw:=fO "place_of" "Queue.place_of" JO (sT "readgrove.queues" 292) (.ref 123)
noncomputable abbrev K0:Bw:=fO "take" "Queue.take" JP (sT "readgrove.queues" 292) (.ref 130)
noncomputable abbrev K1:Bw:=fO "added" "added" JQ (sT "readgrove.leasts" 360) (.ref 144)
noncomputable abbrev K2:Bw:=fO "__init__" "Search.__init__" JR (sT "readgrove.leasts" 360) (.ref 158)
noncomputable abbrev K5:Bw:=fO "reach" "Search.reach" JS (sT "readgrove.leasts" 360) (.ref 165)
noncomputable abbrev K6:Bw:=fO "take_next" "Search.take_next" JT (sT "readgrove.leasts" 360) (.ref 172)
noncomputable abbrev K7:Bw:=fO "step_by_name" "Search.step_by_name" JU (sT "readgrove.leasts" 360) (.ref 179)
noncomputable abbrev K8:Bw:=fO "settle" "Search.settle" JV (sT "readgrove.leasts" 360) (.ref 186)
noncomputable abbrev K9:Bw:=fO "least_trees" "least_trees" JW (sT "readgrove.leasts" 360) (.ref 200)
noncomputable abbrev LA:Bw:=fO "row_trees" "row_trees" JX (sT "readgrove.spans" 473) (.ref 207)
noncomputable abbrev LB:Bw:=fO "no_weights" "no_weights" JY (sT "readgrove.spans" 473) (.ref 212)
noncomputable abbrev LC:Bw:=fO "facts" "facts" JZ (sT "readgrove.spans" 473) (.ref 219)
noncomputable abbrev LD:Bw:=fO "_law_cell" "_law_cell" J0 (sT "law_readgrove_k13_facts_of_rows" 498) (.ref 226)
noncomputable abbrev LF:Bw:=fO "_law_stir" "_law_stir" J1 (sT "law_readgrove_k13_facts_of_rows" 498) (.ref 233)
noncomputable abbrev LG:Bw:=fO "_law_drawn" "_law_drawn" J2 (sT "law_readgrove_k13_facts_of_rows" 498) (.ref 240)
noncomputable abbrev LH:Bw:=fO "_law_grammar" "_law_grammar" J3 (sT "law_readgrove_k13_facts_of_rows" 498) (.ref 245)
noncomputable abbrev LI:Bw:=fO "_law_is_name" "_law_is_name" J4 (sT "law_readgrove_k13_facts_of_rows" 498) (.ref 252)
noncomputable abbrev LJ:Bw:=fO "_law_row" "_law_row" J5 (sT "law_readgrove_k13_facts_of_rows" 498) (.ref 257)
noncomputable abbrev LK:Bw:=fO "_law_covers" "_law_covers" J6 (sT "law_readgrove_k13_facts_of_rows" 498) (.ref 262)
noncomputable abbrev LL:Bw:=fO "_law_facts" "_law_facts" J7 (sT "law_readgrove_k13_facts_of_rows" 498) (.ref 269)
noncomputable abbrev LM:Bw:=fO "_law_good" "_law_good" J8 (sT "law_readgrove_k13_facts_of_rows" 498) (.ref 274)
noncomputable abbrev u6:Bw:=fO "law" "law" J9 (sT "law_readgrove_k13_facts_of_rows" 498) (.ref 281)
noncomputable def hpK:Params->Ae:=fun P=>[(nat_lit 3,⟨(.type "dict"),none,.dict [en P "__name__" 165 (sT "law_readgrove_k13_facts_of_rows" 498),en P "__doc__" 166 .none,en P "__package__" 167 .none,en P "__loader__" 168 (.builtin "__main__.__loader__#opaque"),en P "__spec__" 169 .none,en P "__annotations__" 170 (.ref 6),en P "__builtins__" 171 (.ref 4),en P "__file__" 173 (sT "/claim/cut.py" 172),en P "__cached__" 174 .none,en P "GroveError" 206 (.ref 24),en P "NoGrammar" 222 (.ref 37),en P "GREAT_LETTERS" 226 (sT "ABCDEFGHIJKLMNOPQRSTUVWXYZ" 225),en P "FIGURES" 228 (sT "0123456789" 227),en P "made_of" 234 (.ref 44),en P "is_name" 243 (.ref 51),en P "names" 252 (.ref 58),en P "check_rule" 261 (.ref 65),en P "grammar_of" 270 (.ref 72),en P "marks" 278 (.ref 77),en P "places_of" 285 (.ref 84),en P "row_steps" 291 (.ref 89),en P "Queue" 359 (.ref 134),en P "added" 369 (.ref 145),en P "Search" 459 (.ref 190),en P "least_trees" 472 (.ref 201),en P "row_trees" 483 (.ref 208),en P "no_weights" 489 (.ref 213),en P "facts" 497 (.ref 220),en P "_law_cell" 507 (.ref 227),en P "_law_stir" 516 (.ref 234),en P "_law_drawn" 528 (.ref 241),en P "_law_grammar" 534 (.ref 246),en P "_law_is_name" 541 (.ref 253),en P "_law_row" 547 (.ref 258),en P "_law_covers" 553 (.ref 263),en P "_law_facts" 568 (.ref 270),en P "_law_good" 574 (.ref 275),en P "law" 587 (.ref 282)].toArray 38,#[]⟩),
 (nat_lit 23,⟨(.type "dict"),none,.dict [en P "__module__" 196 (sT "readgrove.errors" 187),en P "__firstlineno__" 200 (.int 2 199),en P "__static_attributes__" 201 (.ref 22),en P "__weakref__" 203 (.ref 25),en P "__doc__" 204 .none].toArray 3,#[]⟩),
 (nat_lit 24,⟨(.type "type"),none,.cls ⟨(Cz "GroveError"),[(.type "ValueError")],[(.ref 24),(.type "ValueError"),(.type "Exception"),(.type "BaseException"),(.type "object")],23,(Cz "GroveError"),true,[],[(.ref 37)],false,none,false⟩,#[some (.ref 15),none,some (sT "GroveError" 189),some (sT "GroveError" 197),some (.builtin "ValueError.__new__"),some (.bool true)]⟩),
 (nat_lit 36,⟨(.type "dict"),none,.dict [en P "__module__" 214 (sT "readgrove.errors" 187),en P "__firstlineno__" 218 (.int 4 217),en P "__static_attributes__" 219 (.ref 35),en P "__doc__" 220 .none].toArray 2,#[]⟩),
 (nat_lit 37,⟨(.type "type"),none,.cls ⟨(Cz "NoGrammar"),[(.ref 24)],[(.ref 37),(.ref 24),(.type "ValueError"),(.type "Exception"),(.type "BaseException"),(.type "object")],36,(Cz "NoGrammar"),true,[],[],false,none,false⟩,#[some (.ref 28),none,some (sT "NoGrammar" 207),some (sT "NoGrammar" 215),some (.builtin "ValueError.__new__"),some (.bool true)]⟩),
 (nat_lit 43,cO "made_of" 229 "made_of" 230 231 9 2 40 (.ref 41) .none .none .none (.ref 42) 232 233),
 (nat_lit 44,⟨(.type "function"),none,.func KI,#[]⟩),
 (nat_lit 50,cO "is_name" 235 "is_name" 236 237 11 1 45 (.ref 46) .none (.ref 47) (.ref 48) (.ref 49) 241 242),
 (nat_lit 51,⟨(.type "function"),none,.func KJ,#[]⟩),
 (nat_lit 57,cO "names" 244 "names" 245 246 15 1 52 (.ref 53) .none (.ref 54) (.ref 55) (.ref 56) 250 251),
 (nat_lit 58,⟨(.type "function"),none,.func KL,#[]⟩),
 (nat_lit 64,cO "check_rule" 253 "check_rule" 254 255 20 2 59 (.ref 60) .none (.ref 61) (.ref 62) (.ref 63) 259 260),
 (nat_lit 65,⟨(.type "function"),none,.func KN,#[]⟩),
 (nat_lit 71,cO "grammar_of" 262 "grammar_of" 263 264 26 1 66 (.ref 67) .none (.ref 68) (.ref 69) (.ref 70) 268 269),
 (nat_lit 72,⟨(.type "function"),none,.func KO,#[]⟩),
 (nat_lit 76,cO "marks" 273 "marks" 274 275 34 1 73 (.ref 74) .none .none .none (.ref 75) 276 277),
 (nat_lit 77,⟨(.type "function"),none,.func KP,#[]⟩),
 (nat_lit 83,cO "places_of" 279 "places_of" 280 281 36 1 78 (.ref 79) .none (.ref 80) (.ref 81) (.ref 82) 283 284),
 (nat_lit 84,⟨(.type "function"),none,.func KQ,#[]⟩),
 (nat_lit 88,cO "row_steps" 286 "row_steps" 287 288 38 1 85 (.ref 86) .none .none .none (.ref 87) 289 290),
 (nat_lit 89,⟨(.type "function"),none,.func KR,#[]⟩),
 (nat_lit 102,cO "__init__" 306 "Queue.__init__" 307 308 43 1 97 (.ref 98) .none (.ref 99) (.ref 100) (.ref 101) 310 311),
 (nat_lit 103,⟨(.type "function"),none,.func KU,#[]⟩),
 (nat_lit 109,cO "is_done" 313 "Queue.is_done" 314 315 47 1 104 (.ref 105) .none (.ref 106) (.ref 107) (.ref 108) 317 318),
 (nat_lit 110,⟨(.type "function"),none,.func KW,#[]⟩),
 (nat_lit 116,cO "put" 320 "Queue.put" 321 322 50 3 111 (.ref 112) .none (.ref 113) (.ref 114) (.ref 115) 326 327),
 (nat_lit 117,⟨(.type "function"),none,.func KY,#[]⟩),
 (nat_lit 123,cO "place_of" 329 "Queue.place_of" 330 331 56 2 118 (.ref 119) .none (.ref 120) (.ref 121) (.ref 122) 337 338),
 (nat_lit 124,⟨(.type "function"),none,.func KZ,#[]⟩),
 (nat_lit 130,cO "take" 340 "Queue.take" 341 342 67 1 125 (.ref 126) .none (.ref 127) (.ref 128) (.ref 129) 347 348),
 (nat_lit 131,⟨(.type "function"),none,.func K0,#[]⟩),
 (nat_lit 133,⟨(.type "dict"),none,.dict [en P "__module__" 301 (sT "readgrove.queues" 292),en P "__firstlineno__" 305 (.int 41 304),en P "__init__" 312 (.ref 103),en P "is_done" 319 (.ref 110),en P "put" 328 (.ref 117),en P "place_of" 339 (.ref 124),en P "take" 349 (.ref 131),en P "__static_attributes__" 352 (.ref 132),en P "__dict__" 354 (.ref 135),en P "__weakref__" 356 (.ref 136),en P "__doc__" 357 .none].toArray 4,#[]⟩),
 (nat_lit 134,⟨(.type "type"),none,.cls ⟨(Cz "Queue"),[(.type "object")],[(.ref 134),(.type "object")],133,(Cz "Queue"),true,[],[],false,none,false⟩,#[none,none,some (sT "Queue" 294),some (sT "Queue" 302),some (.builtin "object.__new__"),some (.bool true)]⟩),
 (nat_lit 144,cO "added" 362 "added" 363 364 76 2 139 (.ref 140) .none (.ref 141) (.ref 142) (.ref 143) 367 368),
 (nat_lit 145,⟨(.type "function"),none,.func K1,#[]⟩),
 (nat_lit 158,cO "__init__" 382 "Search.__init__" 383 384 80 3 153 (.ref 154) .none (.ref 155) (.ref 156) (.ref 157) 388 389),
 (nat_lit 159,⟨(.type "function"),none,.func K2,#[]⟩),
 (nat_lit 165,cO "reach" 391 "Search.reach" 392 393 90 4 160 (.ref 161) .none (.ref 162) (.ref 163) (.ref 164) 399 400),
 (nat_lit 166,⟨(.type "function"),none,.func K5,#[]⟩),
 (nat_lit 172,cO "take_next" 402 "Search.take_next" 403 404 96 1 167 (.ref 168) .none (.ref 169) (.ref 170) (.ref 171) 413 414),
 (nat_lit 173,⟨(.type "function"),none,.func K6,#[]⟩),
 (nat_lit 179,cO "step_by_name" 416 "Search.step_by_name" 417 418 112 5 174 (.ref 175) .none (.ref 176) (.ref 177) (.ref 178) 426 427),
 (nat_lit 180,⟨(.type "function"),none,.func K7,#[]⟩),
 (nat_lit 186,cO "settle" 429 "Search.settle" 430 431 117 4 181 (.ref 182) .none (.ref 183) (.ref 184) (.ref 185) 441 442),
 (nat_lit 187,⟨(.type "function"),none,.func K8,#[]⟩),
 (nat_lit 189,⟨(.type "dict"),none,.dict [en P "__module__" 377 (sT "readgrove.leasts" 360),en P "__firstlineno__" 381 (.int 78 380),en P "__init__" 390 (.ref 159),en P "reach" 401 (.ref 166),en P "take_next" 415 (.ref 173),en P "step_by_name" 428 (.ref 180),en P "settle" 443 (.ref 187),en P "__static_attributes__" 452 (.ref 188),en P "__dict__" 454 (.ref 191),en P "__weakref__" 456 (.ref 192),en P "__doc__" 457 .none].toArray 4,#[]⟩),
 (nat_lit 190,⟨(.type "type"),none,.cls ⟨(Cz "Search"),[(.type "object")],[(.ref 190),(.type "object")],189,(Cz "Search"),true,[],[],false,none,false⟩,#[none,none,some (sT "Search" 370),some (sT "Search" 378),some (.builtin "object.__new__"),some (.bool true)]⟩),
 (nat_lit 200,cO "least_trees" 460 "least_trees" 461 462 126 4 195 (.ref 196) .none (.ref 197) (.ref 198) (.ref 199) 470 471),
 (nat_lit 201,⟨(.type "function"),none,.func K9,#[]⟩),
 (nat_lit 207,cO "row_trees" 475 "row_trees" 476 477 135 3 202 (.ref 203) .none (.ref 204) (.ref 205) (.ref 206) 481 482),
 (nat_lit 208,⟨(.type "function"),none,.func LA,#[]⟩),
 (nat_lit 212,cO "no_weights" 484 "no_weights" 485 486 137 1 209 (.ref 210) .none .none .none (.ref 211) 487 488),
 (nat_lit 213,⟨(.type "function"),none,.func LB,#[]⟩),
 (nat_lit 219,cO "facts" 490 "facts" 491 492 139 2 214 (.ref 215) .none (.ref 216) (.ref 217) (.ref 218) 495 496),
 (nat_lit 220,⟨(.type "function"),none,.func LC,#[]⟩),
 (nat_lit 226,cO "_law_cell" 500 "_law_cell" 501 502 142 2 221 (.ref 222) .none (.ref 223) (.ref 224) (.ref 225) 505 506),
 (nat_lit 227,⟨(.type "function"),none,.func LD,#[]⟩),
 (nat_lit 233,cO "_law_stir" 508 "_law_stir" 509 510 146 2 228 (.ref 229) .none (.ref 230) (.ref 231) (.ref 232) 514 515),
 (nat_lit 234,⟨(.type "function"),none,.func LF,#[]⟩),
 (nat_lit 240,cO "_law_drawn" 517 "_law_drawn" 518 519 151 2 235 (.ref 236) .none (.ref 237) (.ref 238) (.ref 239) 526 527),
 (nat_lit 241,⟨(.type "function"),none,.func LG,#[]⟩),
 (nat_lit 245,cO "_law_grammar" 529 "_law_grammar" 530 531 161 1 242 (.ref 243) .none .none .none (.ref 244) 532 533),
 (nat_lit 246,⟨(.type "function"),none,.func LH,#[]⟩),
 (nat_lit 252,cO "_law_is_name" 535 "_law_is_name" 536 537 176 1 247 (.ref 248) .none (.ref 249) (.ref 250) (.ref 251) 539 540),
 (nat_lit 253,⟨(.type "function"),none,.func LI,#[]⟩),
 (nat_lit 257,cO "_law_row" 542 "_law_row" 543 544 178 3 254 (.ref 255) .none .none .none (.ref 256) 545 546),
 (nat_lit 258,⟨(.type "function"),none,.func LJ,#[]⟩),
 (nat_lit 262,cO "_law_covers" 548 "_law_covers" 549 550 191 5 259 (.ref 260) .none .none .none (.ref 261) 551 552),
 (nat_lit 263,⟨(.type "function"),none,.func LK,#[]⟩),
 (nat_lit 269,cO "_law_facts" 554 "_law_facts" 555 556 202 2 264 (.ref 265) .none (.ref 266) (.ref 267) (.ref 268) 566 567),
 (nat_lit 270,⟨(.type "function"),none,.func LL,#[]⟩),
 (nat_lit 274,cO "_law_good" 569 "_law_good" 570 571 214 2 271 (.ref 272) .none .none .none (.ref 273) 572 573),
 (nat_lit 275,⟨(.type "function"),none,.func LM,#[]⟩),
 (nat_lit 281,cO "law" 575 "law" 576 577 223 1 276 (.ref 277) .none (.ref 278) (.ref 279) (.ref 280) 585 586),
 (nat_lit 282,⟨(.type "function"),none,.func u6,#[]⟩)]
noncomputable def zfp:List Addr:=[nat_lit 3,nat_lit 23,nat_lit 24,nat_lit 36,nat_lit 37,nat_lit 43,nat_lit 44,nat_lit 50,nat_lit 51,nat_lit 57,nat_lit 58,nat_lit 64,nat_lit 65,nat_lit 71,nat_lit 72,nat_lit 76,nat_lit 77,nat_lit 83,nat_lit 84,nat_lit 88,nat_lit 89,nat_lit 102,nat_lit 103,nat_lit 109,nat_lit 110,nat_lit 116,nat_lit 117,nat_lit 123,nat_lit 124,nat_lit 130,nat_lit 131,nat_lit 133,nat_lit 134,nat_lit 144,nat_lit 145,nat_lit 158,nat_lit 159,nat_lit 165,nat_lit 166,nat_lit 172,nat_lit 173,nat_lit 179,nat_lit 180,nat_lit 186,nat_lit 187,nat_lit 189,nat_lit 190,nat_lit 200,nat_lit 201,nat_lit 207,nat_lit 208,nat_lit 212,nat_lit 213,nat_lit 219,nat_lit 220,nat_lit 226,nat_lit 227,nat_lit 233,nat_lit 234,nat_lit 240,nat_lit 241,nat_lit 245,nat_lit 246,nat_lit 252,nat_lit 253,nat_lit 257,nat_lit 258,nat_lit 262,nat_lit 263,nat_lit 269,nat_lit 270,nat_lit 274,nat_lit 275,nat_lit 281,nat_lit 282]
noncomputable def qv:Bl:={PySem.Challenge.pw_readgrove_k13_facts_of_rows with main:={PySem.Challenge.pw_readgrove_k13_facts_of_rows.main with body:=[bG 1,bG 2,bG 4,bG 5,bG 6,bG 7,bG 8,bG 9,bG 10,bG 12,bG 13,bG 14,bG 16,bG 18,bG 19,bG 20,bG 22,bG 23,bG 24,bG 26,bG 27,bG 28,bG 29,bG 30,bG 31,bG 32,bG 33,bG 34,bG 35]}}
noncomputable def hk:PySem.W.Hook:=PySem.W.kHook hpK zfp (fun _=>by kernel_rfl)
section
variable {w:Cb}{h:Heap}{mg:Str->Option Ac}
theorem mn{x:Str}(X:(hpK w.params).In h)(G:h.Ns El mg)(e:PySem.W.nsIn (hpK w.params) El x=some none:=by kernel_rfl):mg x=none:=PySem.W.mg_none_of X G e
theorem zfq(X:(hpK w.params).In h)(G:h.Ns El mg):Tx mg:=⟨⟨227,Kj (v:=.str "0123456789" 227) X G (by kernel_rfl)⟩,⟨225,Kj (v:=.str "ABCDEFGHIJKLMNOPQRSTUVWXYZ" 225) X G (by kernel_rfl)⟩,mn X G,mn X G,mn X G,mn X G,mn X G,mn X G,mn X G,mn X G,mn X G,mn X G,mn X G,mn X G,mn X G⟩
theorem zfr(X:(hpK w.params).In h)(G:h.Ns El mg):Kc (hpK w.params) mg ⟨134,190⟩:=⟨⟨by kernel_rfl,by kernel_rfl,by kernel_rfl,by kernel_rfl⟩,Kj (v:=.ref 134) X G (by kernel_rfl),⟨by kernel_rfl,by kernel_rfl,by kernel_rfl,by kernel_rfl⟩,Kj (v:=.ref 190) X G (by kernel_rfl),(show Cj (hpK w.params) (.ref 134) "costs" = some none by kernel_rfl),(show Cj (hpK w.params) (.ref 134) "waiting" = some none by kernel_rfl),(show Cj (hpK w.params) (.ref 190) "grammar" = some none by kernel_rfl),(show Cj (hpK w.params) (.ref 190) "own" = some none by kernel_rfl),(show Cj (hpK w.params) (.ref 190) "steps" = some none by kernel_rfl),(show Cj (hpK w.params) (.ref 190) "queue" = some none by kernel_rfl),(show Cj (hpK w.params) (.ref 190) "reached" = some none by kernel_rfl),(show Cj (hpK w.params) (.ref 190) "best" = some none by kernel_rfl),(show Cj (hpK w.params) (.ref 190) "ends" = some none by kernel_rfl),(show Cj (hpK w.params) (.ref 190) "begun" = some none by kernel_rfl)⟩
def zfs(i:Nat):Addr:=([44,51,58,65,72,77,84,89,103,110,124,117,131,145,159,166,187,180,173,201,208,213,220,227,234,241,246,253,258,263,270,275,282]:List Addr).getD i 0
noncomputable def zft(i:Nat):Bw:=[KI,KJ,KL,KN,KO,KP,KQ,KR,KU,KW,KZ,KY,K0,K1,K2,K5,K8,K7,K6,K9,LA,LB,LC,LD,LF,LG,LH,LI,LJ,LK,LL,LM,u6].getD i u6
theorem zfu(X:(hpK w.params).In h)(G:h.Ns El mg):Al (hpK w.params) mg ⟨134,190⟩ zfs zft:=⟨zfq X G,zfr X G,dF X G,dF X G,dF X G,dF X G,dF X G,dF X G,dF X G,dF X G,dI,dM,dM,dM,dM,dF X G,dI,dM,dM,dM,dM,dF X G,dF X G,dF X G,dF X G,dF X G,dF X G,dF X G,dF X G,dF X G,dF X G,dF X G,dF X G,dF X G,dF X G⟩
end
theorem zfv{l:PySem.W.OpenLaw}{w:Cb}{h:Heap}{mg:Str->Option Ac}{fa:Addr}(X:(hpK w.params).In h)(G:h.Ns El mg)(hfa:mg "law" = some (.ref fa)) :
  ∃ fd:Bw,(∀ (s:Ah) (v:Ac),BindsTo s fd ⟨[v],[]⟩ [("script",v)])/\∀ base:Heap,(hpK w.params).In base->base.Ns El mg->e6 l.prog w (hpK w.params) mg base gB 9 fa fd ["script"] (gO (hpK w.params) p9):=by
 have e:=hfa.symm.trans (Kj (v:=.ref 282) X G (by kernel_rfl))
 cases e
 exact⟨u6,fun s v=>.of_eq rfl,fun base _ _=>zfo (zfu X G)⟩
theorem zfw{l:PySem.W.OpenLaw}{q:Bl}{loose:List Str}{XP:(Str->Option Ac)->Heap->Prop}{YP:Cb->Heap->Prop}{d:DefRec}{K:Params->Ae}(hn:l.most=some 63)(hdf:d.params.defaults=[])
  (hY:∀ (w:Cb) (h:Heap),YP w h->(K w.params).In h)
  (F:∀ (w:Cb) (mg:Str->Option Ac) (fa:Addr) (h:Heap),(K w.params).In h->h.Ns El mg->mg d.name=some (.ref fa)->
   ∃ fd:Bw,(∀ (s:Ah) (u:Ac),BindsTo s fd ⟨[u],[]⟩ [("script",u)])/\∀ base:Heap,(K w.params).In base->base.Ns El mg->e6 l.prog w (K w.params) mg base gB 9 fa fd ["script"] (gO (K w.params) p9)) :
  PySem.W.WalkO q loose XP YP l.row.toRowW d [] (fun f vs=>PySem.call f vs):=
 L2.RV (n:=63) (k:=9) (x:="script") (CX:=fun _=>gB) (sp:=fun w=>gO (K w.params) p9) hn (by decide) hdf ⟨rfl,by decide,by decide⟩ hY F (fun _ _ a ns hl ho hS=>VJ hl ho hS) fun _ _ _ _ _ z=>z
end Rg
open PySem PySem.W PyProof.Rows
set_option maxRecDepth 100000 in
set_option maxHeartbeats 0 in
theorem PySem.Challenge.cw_readgrove_k13_facts_of_rows_holds : PySem.Challenge.rw_readgrove_k13_facts_of_rows.Holds := by
 w_on; o_law
 refine PySem.W.holds_open (r := PySem.Challenge.rw_readgrove_k13_facts_of_rows.row) (q := Rg.qv) (loose := []) (N := 3920)
  (Xt := fun s => xlAt Rg.qv [] s && recOk (RowW.records (OpenRow.toRowW PySem.Challenge.rw_readgrove_k13_facts_of_rows.row)) s)
  (XP := XL Rg.qv []) (Yf := Rg.hk.obs) (Ya := Rg.hk.val) (YP := Rg.hk.says) ?hl Rg.hk.of Rg.hk.keeps
  (fun s e => xl_of s (Kx.mp e).1) XL.keeps (by rfl) (by rfl) (by rfl) (fun s e => recFacts_of (Kx.mp e).2)
  (by rfl) (by assumption) (by decide +kernel) ⟨rfl, rfl, rfl, rfl, rfl, by decide +kernel⟩ ?hw ?hc
 case hw => w_witness2
 case hc => exact Rg.zfw (l := PySem.Challenge.rw_readgrove_k13_facts_of_rows) rfl rfl (fun w h Y => PySem.W.kIn_of Y) (fun w mg fa h KX G hmg => Rg.zfv KX G hmg)
 case hl => intro w; kernel_rfl
