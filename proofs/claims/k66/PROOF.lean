import PyProof.Rows.All
import KE.KDictOf
import KE.KEqDict
import KE.KFromBytes
import KE.KIntText
import KE.KIsAll
import KE.KItem
import KE.KItemsList
import KE.KLam
import KE.KPairComp
import KE.KRevIter
import PySem.Challenge.RW_readgrove_k66_whole_one_behind_the_other
open Option renaming some->aa,none->ae
open Bool renaming true->ab,false->ac
local macro_rules|`(↥$x)=>`($(x).length)
local macro_rules|`(⇑$x)=>`($(x).heap.objs.size)
local macro_rules|`(∅)=>`(by decide)
local macro_rules|`(↑$x)=>`(List $x)
local macro_rules|`(tactic|let $d:letDecl)=>`(tactic|have $d:letDecl)
local macro_rules|`(tactic|show $x)=>`(tactic|refine $x)
local macro_rules|`($x⁻¹)=>`(by simpa using $x)
local macro_rules|`($a<&>$b)=>`({$a with heap:=$b})
local macro_rules|`(#[$x])=>`(⟨$x⟩)|`(#[$x,$xs,*])=>`(⟨$x,$xs,*⟩)
local macro_rules|`(tactic|let #[$xs,*]:=$e)=>do{let ps←xs.getElems.mapM fun x=>match x with|`($i:ident)=>`(Lean.Parser.Tactic.rcasesPatLo|$i:ident)|_=>`(Lean.Parser.Tactic.rcasesPatLo|_);`(tactic|obtain ⟨$[$ps],*⟩:=$e)}
local macro_rules|`(tactic|ext $x:ident)=>`(tactic|first|cases $x:ident|unfold $x:ident)
local macro_rules|`(-$x)=>match x with|`($_:num)|`(($_))|`(($_ : $_))=>Lean.Macro.throwUnsupported|_=>`(some $x)
local macro_rules|`(!$x)=>match x with|`(($_))=>Lean.Macro.throwUnsupported|_=>`(.ref $x)
local macro_rules|`(¬$x)=>match x with|`(($_))=>Lean.Macro.throwUnsupported|_=>`(.int $x)
local macro_rules|`($x^$y)=>match y with|`(($_))|`($_:num)=>Lean.Macro.throwUnsupported|_=>`($(Lean.mkIdent `L2.aA) $x $y)
local macro_rules|`(7)=>`(rfl)
local macro_rules|`(8)=>`(?_)
local macro_rules|`(6)=>`(by simp)
local macro_rules|`(4)=>`(by rfl)
local macro_rules|`(9)=>`(by lia)
local macro_rules|`(5)=>`(by decide +kernel)
open PySem.Challenge renaming rw_readgrove_k66_whole_one_behind_the_other->Xy,pw_readgrove_k66_whole_one_behind_the_other->Xz
open PySem renaming wpAny_bind->Aa,Shared->Ai,wpAny_pure->Ak,Addr->Ao,Str->Av,sizeLine->Aw,Program->Bc,wpAny->Bm,World->Bq,Expr->Ck,wpAny_call_entry->Co,model->Cp,starEach->Cr,Around->Cw,bootBuiltins->Cy,Heap->Cz,wpAny_field->Dh,wpAny_callSpecial?_slot->Dj,compareOp->Dq,wpAny_newObj_type->Du,Paired->Dz,wpAny_holding->Eg,builtinLookup_eq_fast->Eh,wpAny_Call_Name_kw->Ek,mainGlobals->Es,DictEntry->Ey,binaryOp->Ez,eval->Ff,FuncData->Fi,wpAny_isInstance->Fp,cLine->Fs,tupleKind_room_in1->Gf,sysModules->Gg,wpAny_specialOf->Gi,typeLookup_type->Gj,wpAny_seqItems->Gx,wpAny_setField_rec->Hc,wpAny_attempt->Hq,attributeBase->Hr,Builtin->Hs,pyNext->Ia,wpAny_truthy_bool->Ib,tupleKind->Ic,rawInt->Ie,wpAny_of_eq->Ij,wpAny_tupleItemsOf->Im,wpAny_rule->Iq,wpAny_mono->Ir,assignEach->Iu,wpAny_notOrdered_dict->Iz,Pos->Ja,mem_of_lookup->Jh,wpAny_dictEntries->Ji,foldedSetIterable->Jj,IsPair->Jp,wpAny_typeNameOfWhole_valiter->Jx,wpAny_typeNameOfWhole_keyiter->Jy,wpAny_pyIter_tuple->Kb,call_meetsIn->Kd,wpAny_passesOwn->Kk,isSubtype_tuple_tuple->Kn,wpAny_pyIter_list->Ko,Stmt->Kt,typeLookup->Ky,sizeLine_eq->Kz,call_meets->La,NameKind->Lb,wpAny_forIn_list->Lg,Scope->Lm,wpAny_typeNameOf_valiter->Lx,wpAny_typeNameOf_keyiter->Ly,size_of_entries->Mb,holding->Mc,keywordEach->Ms,isSubtype_type->Nb,firstArgMember->Nc,Obj->Nh,atKey->Np,swapsWith->Nr,strLen_append->Nx,codeAny->Ny,behindInMarks->Nz,backTo->Og,wpAny_richCompare_same_room->Oq,wpAny_setField->Oy,getattributeRaised->Oz,PyData->Pc,plainId_quiet->Pp,assign->Pq,backToKw->Qd,wpAny_typeOf->Qo,storedH->Qp,pyIter->Qq,codeAny_mono->Qr,PlainAttrs->Qt,ItemsOf->Qw,wpAny_execs_nil->Ra,wpAny_dictEpoch->Rb,letOwnedTupleGo->Rf,codeAny_builtin->Rg,wpAny_isOneOf_valiter->Rj,wpAny_pyIter_keyiter->Ru,isSubtype_stop->Rw,standAt->Ry,getMethod->Rz,Keyword->Si,wpAny_standAt->Ss,field->Su,IsZip->Tb,entryOfKey->Tc,wpAny_pyIter_slot->Tt,valueAt->Tu,callerA->Tv,wpAny_pyIter_zip->Ud,wpAny_eqBool_int->Ue,wpAny_Dict_empty->Ug,noFill_tuple_add->Uh,entryFor_of_tree->Ui,Params->Uk,IsPart->Um,wpAny_letGo->Uo,storedH_new->Uq,wpAny_updateSeq->Uu,importedModules->Uv,Sem->Uw,Within->Ux,getItem->Vc,BindsTo->Vh,getAttr?->Vi,entry_at->Vj,entryFor->Vk,carriedByValue->Vl,wpAny_onRaise->Vq,wpAny_handled->Vr,signature?_of->Vt,seq_tuple_add->Vu,rangeSize_one->Vv,call->Vw,treeTable->Vy,bindL->Vz,bindC->Wa,PassesOwn->Wc,typeOf->Wg,stored->Wh,newExc->Wi,isTrue->Wj,dictSet->Wk,concat_meets->Wl,call_range_1->Wm,callType_new->Wn,argsOk->Wo,Tok->Wq,Result->Wr,Env->Ws,wpAny_throw->Wx,sliceBounds->Wy,seqIndex_of->Wz,callWith->Xa,CmpOp->Xb,wpAny_Name->Xc,typeIs_str->Xd,typeIs_int->Xe,reduceHash->Xf,isInstance->Xg,closureFor->Xh,builtinsNs->Xi,unaryOp->Xj,setItem->Xk,updateSeq->Xl,seqIndex?->Xm,eqIsQuiet->Xo,cellsFrom->Xp
open List renaming length_map->Ab,mem_singleton->Ae,length_append->Ag,mem_of_getElem?->Ah,getElem?_eq_some_iff->An,mem_map->Ap,map_append->Ar,getElem?_map->Au,mem_append->Az,mem_cons->Bd,map_cons->Be,mem_append_left->Bf,size_toArray->Bg,getElem?_eq_getElem->Bh,mem_cons_of_mem->Bi,mem_cons_self->Bj,length_cons->Bl,take_length->Bn,mem_append_right->Bo,map_map->Bp,append_assoc->Bs,append_nil->Bv,take_add_one->Bx,replicate->Cb,length_singleton->Cd,nodup_append->Cf,range->Ci,lookup->Cj,length_take->Ct,nodup_cons->Dc,find?_cons->De,filter_cons->Ds,mem_filter->Dy,length_reverse->Ec,map_congr_left->Ei,filterMap_cons->Ej,lookup_cons->Em,length_drop->Eo,exists_cons_of_ne_nil->Ep,drop_eq_getElem_cons->Eu,length_filter_le->Fc,mem_range->Fj,all_eq_true->Fl,mem_of_mem_take->Ft,getElem?_of_mem->Fu,any_cons->Fx,any_eq_true->Gb,getElem?_toArray->Gr,nodup_nil->Gu,foldl_cons->Gw,length_eq_zero_iff->Gz,getElem?_cons_succ->Ha,nodup_iff_pairwise_ne->Hh,length_range->Hi,replicate_succ->Hl,getElem?_eq_none->Hu,map_eq_cons_iff->Hx,mem_zipIdx_iff_getElem?->Hz,zip_cons_cons->Ih,getElem?_append_right->Ii,nil_append->Iv,length_nil->Iw,length_pos_iff->Jk,filter_sublist->Jl,mem_flatMap->Jn,cons_ne_nil->Jo,length->Js,filter_append->Jt,take_append_drop->Jz,length_replicate->Ka,reverse_cons->Ke,pairwise_map->Kf,flatten_cons->Kg,any_map->Kq,map_eq_nil_iff->Kx,all_cons->Lf,of_mem_zip->Lh,forIn_cons->Li,mem_filterMap->Lp,filterMap_map->Lq,length_eq_one_iff->Mf,foldl_append->Mg,flatMap_cons->Mh,all_map->Mi,getElem?_reverse->Mu,eq_nil_or_concat->Mv,concat_eq_append->Mw,perm_middle->My,sum_cons->Nj,mem_of_mem_drop->Nm,countP_eq_length_filter->Nq,mem_map_of_mem->Nw,map_nil->Oc,mem_of_find?_eq_some->Om,getElem?_append_left->Oo,not_mem_nil->Pg,take_of_length_le->Pm,length_pos_of_mem->Po,forall_mem_cons->Qh,forIn_nil->Qi,filter->Qj,getElem?_range->Rh,take_nil->Rm,map_drop->Rn,length_zipIdx->Rr,append_of_mem->Rt,map->Sg,zipIdx_cons->Sw,nodup_range->Sx,getElem_mem->Sy,drop_length->Sz,append_cons->Ta,take_left'->Tj,sum_append->Tn,map_const'->To,length_zip->Tp,filter_nil->Tq,drop_zero->Ub,drop_drop->Uc,map_take->Ur,getD->Va,foldl->We,Nodup->Xr
open PySem.W renaming Frag->Ac,findIn->Fq,kia_one->Gp,fnOf->Gq,keepIn->He,emptyDict->Hf,instObj->Ik,mg_of->Ku,kitOne->Lr,codeIn->Ls,callWith_K->Nt,plainGet->Ot,isFn->Pa,lookIn->Pr,plainGet_of->Qe,methodObj->Rk,hasDictIn->Rl,takerIn->Sj,makesIn->Sk,OpenLaw->Sl,nsIn->Uj
open PySem.Heap renaming get?_push_of_some->Af,get?_push_size->Ax,lt_size->Ba,size_push->Ew,SameBut->Fd,get?_update_self->Fo,get?_update_other->Hj,ExtBut->Qk,IsTuple->Vf
open Nat renaming le_refl->Aj,le_trans->Am,ne_of_lt->Bw,lt_of_lt_of_le->Ca,zero_le->Cu,ne_of_gt->Dr,succ_le_succ->Ea,lt_succ_self->Eb,lt_of_le_of_lt->Er,mul_le_mul->Fg,le_add_right->Fm,le_succ->Fw,mul_le_mul_left->Gm,add_le_add_right->Hb,le_of_lt->Hk,add_le_add_left->Hn,lt_trans->Hv,le_of_eq->Hw,add_assoc->Ig,zero_add->Jb,toDigits->Jc,pow_le_pow_right->Jd,lt_succ_of_lt->Je,lt_irrefl->Jg,lt_succ_of_le->Kh,min_le_right->Kv,le_add_left->Ln,sub_self->Mj,lt_of_succ_lt->Mo,le_of_succ_le_succ->Mp,add_comm->Mq,le_of_not_lt->Ni,min_le_left->Nu,min_eq_left->Nv,add_lt_add_left->Ob,sub_add_cancel->Oj,le_succ_of_le->Ow,lt_succ_iff_lt_or_eq->Pd,toDigits_of_lt_base->Pj,mul_le_mul_right->Qv,add_right_comm->Rx,succ_pos->Sn,succ_mul->So,sub_zero->Sq,lt_of_not_le->Tf,add_le_add->Ul,digitChar->Uz,pow_succ->Vm,mul_succ->Vn,log2_lt->Vx,sub_le->Wt
open Option renaming map_eq_some_iff->Ay,isSome_iff_exists->El,isSome_map->Lw,map_map->Qc
open Bool renaming false_ne_true->Bb,and_eq_true->Dg,eq_iff_iff->Ef,false_eq_true->Fv,not_not->Ge,false_or->Nl,or_true->Od,not_true->Ox,false_and->Qn,or_false->Rp,or_eq_true->Ts,true_and->Us
open False renaming elim->Br
open PySem.Str renaming ofString->Bz,empty->Te
open PyProof.Rows renaming callWith_type1->Ce,slot_tuple_getitem->Ld,envOfC->Nd,AllBare->Qy,IntsAre->Wv,len_tuple->Xn
open Prod renaming fst->Cg,snd->Le,ext->Pe
open Option.some renaming inj->Cm
open Int renaming toNat_natCast->Cq,emod_lt_of_pos->Fb,emod_nonneg->Ga,eq_ofNat_of_zero_le->Jq,natCast_nonneg->Lv,zero_add->Oe,le_trans->Pw,natCast_zero->Ti,natCast_add->Tz,sub_zero->Vo,lt_trans->Vp,not_lt->Ww
open Ne renaming symm->Cs
open PySem.Paired renaming length->Cv,snoc->Ve
open PySem.Builtin.SmallTypes renaming ownedTupleIsFree->Dk,nextOf->Ee,stopIteration->Ki
open PySem.Txt renaming partition->Dl,mul->Jm,upper->Td
open PySem.Builtin.Tuple renaming tupleHashOf->Fe,tupleExact->Hm
open List.cons renaming injEq->Fh,inj->Tg
open Classical renaming byContradiction->Fz
open PySem.F renaming slot_dict_valueiterator_next->Gh,slot_dict_keyiterator_next->Gv,slot_zip_next->Jf,slot_tuple_iterator_next->Kw,slot_tuple_hash->Lc,entry_dict_get->Lu,slot_tuple_eq->Md,slot_dict_get->Me,plainAttrs_list->Mx,slot_dict_setdefault->Nf,args_tuple_add_2->Oi,plainAttrs_dict->Ou,entry_tuple_add->Ov,slot_tuple_add->Pb,args_zip_next_1->Ph,slot_list_getattribute->Pk,slot_zip_getattribute->Px,entry_zip_next->Py,slot_list_pop->Ql,args_object_init_2->Ro
open Array renaming length_toList->Gk,getElem?_toList->Ht,toArray_toList->Iy,getElem?_eq_some_iff->Kl,forIn_toList->Ll,getElem?_eq_getElem->Ol,toList_append->Qx
open PySem.Heap.SameBut renaming update->Gy
open PySem.Builtin.Dict_items renaming ownsTuple->Ho
open PySem.Builtin.List renaming listLengthHint->Hy,listExtendWith->Jr,listFitsIndex->Ju,listTooLong->Kj
open PySem.Builtin.Range renaming rangeSize->Il
open PySem.Obj renaming data_mapFields->Jv,mapSeq->Ng,data_mapDictKeys->Nn,isFreed_of_fields->Qf,cls_mapFields->Sm,mapFields->Uy
open PySem.Builtin.Slice renaming slicePlaces->Jw,sliceAdjust->Nk
open PySem.PyData renaming depth->Km,eqv->Oa,eqvAll->Qs,strOk->Rq,depthAll->Sv
open PySem.Builtin.Str renaming occurrences->Kr,strSub->Qa
open PySem.AutoSeq1 renaming wpAny_loadPart'->Ks
open PySem.Calls renaming spliced_cons->Lj,spliced_nil->Lz,callWith_builtin->Ma
open PySem.Builtin.Dict renaming showsAll->Lk,keyAndDefault->Mz
open Function renaming comp->Mr
open PySem.Around renaming under_plainId->Na,under->Ut
open Prod.mk renaming inj->Of
open Sum.inl renaming injEq->Oh
open PySem.W.OpenRow renaming toRowW->Pu
open PySem.W.KT renaming len_num->Qb
open Sum.inr renaming injEq->Qg,inj->Sa
open Iff renaming rfl->Ri
open PySem.W.RowW renaming records->Sf
open PySem.Walks renaming list->Tw
open Nat.succ renaming inj->Ua
open PySem.IsRange renaming new->Vb
open PySem.Shared renaming heap->Vd
open PySem.Code renaming isFrame->Vg
open Char renaming toNat->Wf
open PyProof.Rows.IsTup renaming new->Wu
open PySem.SeqAt renaming EqAt->Xq
theorem Xs.{u}{c:Prop}{h:Decidable c}(n:¬(c)){O:Sort u}{t e:O}:ite c t e=e:=if_neg n
theorem Xu.{u}{c:Prop}{h:Decidable c}(n:c){O:Sort u}{t e:O}:ite c t e=t:=if_pos n
theorem Xv{p:Prop}[Decidable p](h:decide p=ab):p:=of_decide_eq_true h
theorem Xw{p:Prop}[Decidable p](h:p):decide p=ab:=decide_eq_true h
theorem Xx{p:Prop}[Decidable p](h:¬(p)):decide p=ac:=decide_eq_false h
set_option Elab.async false
set_option compiler.extract_closed false
set_option bootstrap.genMatcherCode false
set_option linter.all false
noncomputable section
set_option genSizeOf false
set_option maxRecDepth 100000
open PySem Spec PyProof.Rows
namespace L2
open PySem Spec PyProof.Rows
noncomputable def dY(s:Kt)(j:Nat):Kt:=match s with
 | .ClassDef _ _ _ Q _ _ _ _ _ _ _=>Q.getD j (.Pass #[0,0,0,0])
 | _=>.Pass #[0,0,0,0]
noncomputable def jA(s:Kt):Arguments:=match s with
 | .FunctionDef _ a _ _ _ _ _ _ _ _=>a
 | _=>{posonlyargs:=[],args:=[],vararg:=ae,kwonlyargs:=[],kw_defaults:=[],kwarg:=ae,defaults:=[]}
noncomputable def gD(s:Kt):↑Kt:=match s with
 | .FunctionDef _ _ b _ _ _ _ _ _ _=>b
 | _=>[]
noncomputable def dS(s:Kt):Lm:=match s with
 | .FunctionDef _ _ _ _ _ _ sc _ _ _=>sc
 | _=>{kind:=.function,names:=[],isGenerator:=ac,isCoroutine:=ac}
end L2
namespace L2
open PySem Spec PyProof.Rows L2
structure Q5 where
 x:String
 q:String
 s:Kt
 m:Value
 b:Bool
 r:Nat
 t:Nat
 l:Int
 n:Int
 k:Nat
def top(i:Nat):Kt:=Xz.main.body.getD i<|.Pass #[0,0,0,0]
def en(P:Uk)(x:String)(t:Wq)(v:Value):Ey:=#[PyData.keyHash P<|Bz x,.str (Bz x) t,v]
noncomputable abbrev sT(x:String)(t:Wq):Value:=.str (Bz x) t
noncomputable abbrev cO(x:String)(a:Wq)(q:String)(b c:Wq)(l n:Int)(r:Ao)(u v w y z:Value)(k:Int)(d:Wq):Nh:=#[.type "code",ae,.fields [sT x a,sT q b,sT "/claim/cut.py" c,.int l 0,.int n 0,.int 0 0,.int 0 0,.int 3 0,!r,.bool ab,.int 181 0,u,v,w,y,z,.int k 0,.int l 0,sT "/claim/cut.py" d].toArray,#[]]
noncomputable abbrev fO(x q:Av)(s:Kt)(m c:Value):Fi:=Gq x q (jA s) (gD s) (dS s) .none .none .none m ae c .none
abbrev m0:Value:=sT "readgrove.grammars" 223
abbrev m1:Value:=sT "readgrove.covers" 284
abbrev m2:Value:=sT "readgrove.queues" 311
abbrev m3:Value:=sT "readgrove.leasts" 379
abbrev m4:Value:=sT "readgrove.spans" 543
abbrev m5:Value:=sT "readgrove.nexts" 560
abbrev m6:Value:=sT "readgrove.trees" 579
abbrev m7:Value:=sT "readgrove.plainer" 619
abbrev m8:Value:=sT "law_readgrove_k66_whole_one_behind_the_other" 856
def Q5.c(d:Q5):Ao:=d.r+(if d.b then 3 else 05)
abbrev Q5.fd(d:Q5):Fi:=fO d.x d.q d.s d.m<|!d.c
def Q5.g(d:Q5)(i:Nat):Value:=if d.b then .none else .ref (d.r+i)
def Q5.o(d:Q5):↑(Ao×Nh):=[(d.c,cO d.x d.t d.q (d.t+1) (d.t+2) d.l d.n d.r (.ref<|d.r+1) .none (d.g 2) (d.g 3) (.ref<|d.r+(if d.b then 2 else 04)) d.k<|d.k+1),(d.c+1,#[.type "function",ae,.func d.fd,#[]])]
def tbl:↑Q5:=[#["made_of","made_of",top 06,m0,ab,40,229,09,2,232],
 #["is_name","is_name",top 07,m0,ac,45,235,11,1,241],
 #["names","names",top 08,m0,ac,52,244,15,1,250],
 #["first_name","first_name",top 09,m0,ac,59,253,20,1,257],
 #["rules_of","rules_of",top 10,m0,ab,66,260,22,2,263],
 #["check_rule","check_rule",top 11,m0,ac,71,266,24,2,272],
 #["grammar_of","grammar_of",top 12,m0,ac,78,275,30,1,281],
 #["marks","marks",top 14,m1,ab,85,286,38,1,289],
 #["places_of","places_of",top 15,m1,ac,90,292,40,1,296],
 #["row_steps","row_steps",top 16,m1,ab,97,299,42,1,302],
 #["part_facts","part_facts",top 17,m1,ab,102,305,44,3,308],
 #["__init__","Queue.__init__",dY (top 19) 0,m2,ac,114,325,49,1,329],
 #["is_done","Queue.is_done",dY (top 19) 1,m2,ac,121,332,53,1,336],
 #["place_of","Queue.place_of",dY (top 19) 3,m2,ac,135,348,62,2,356],
 #["put","Queue.put",dY (top 19) 2,m2,ac,128,339,56,3,345],
 #["take","Queue.take",dY (top 19) 04,m2,ac,142,359,73,1,366],
 #["added","added",top 21,m3,ac,156,381,82,2,386],
 #["__init__","Search.__init__",dY (top 22) 0,m3,ac,170,401,86,3,407],
 #["reach","Search.reach",dY (top 22) 1,m3,ac,177,410,96,04,418],
 #["settle","Search.settle",dY (top 22) 04,m3,ac,198,448,123,04,460],
 #["step_by_name","Search.step_by_name",dY (top 22) 3,m3,ac,191,435,118,05,445],
 #["take_next","Search.take_next",dY (top 22) 2,m3,ac,184,421,102,1,432],
 #["least_trees","least_trees",top 23,m3,ac,212,479,132,04,489],
 #["facts_within","facts_within",top 24,m3,ab,219,492,140,3,495],
 #["knot_of","knot_of",top 27,m3,ac,238,526,167,2,531],
 #["same_word","same_word",top 26,m3,ac,231,517,165,3,523],
 #["made_of_best","made_of_best",top 25,m3,ac,224,498,151,05,514],
 #["best_tree","best_tree",top 28,m3,ac,245,534,169,3,540],
 #["row_trees","row_trees",top 30,m4,ac,252,545,172,3,551],
 #["no_weights","no_weights",top 31,m4,ab,259,554,174,1,557],
 #["words_of","words_of",top 33,m5,ac,264,562,177,1,570],
 #["shortest_lengths","shortest_lengths",top 34,m5,ab,271,573,185,1,576],
 #["is_tree","is_tree",top 36,m6,ac,276,581,190,1,585],
 #["row_of","row_of",top 37,m6,ac,283,588,192,1,595],
 #["right_knot","right_knot",top 38,m6,ab,290,598,202,3,601],
 #["right_tree","right_tree",top 39,m6,ab,295,604,209,3,607],
 #["is_reading","is_reading",top 40,m6,ac,300,610,219,3,616],
 #["made_names","made_names",top 44,m7,ac,307,625,224,2,634],
 #["slots","slots",top 45,m7,ac,314,637,234,1,641],
 #["__init__","Plainer.__init__",dY (top 46) 0,m7,ac,328,656,238,1,660],
 #["put_rule","Plainer.put_rule",dY (top 46) 1,m7,ac,335,663,241,04,670],
 #["is_part","Plainer.is_part",dY (top 46) 2,m7,ab,342,673,244,2,676],
 #["grammar_and_backs","Plainer.grammar_and_backs",dY (top 46) 3,m7,ac,347,679,247,1,683],
 #["nothing_read","nothing_read",top 47,m7,ac,361,695,249,1,701],
 #["empty_trees","empty_trees",top 48,m7,ab,368,704,254,1,707],
 #["wordy_names","wordy_names",top 49,m7,ab,373,710,257,1,713],
 #["thinned","thinned",top 50,m7,ab,378,716,269,04,719],
 #["put_thinned","put_thinned",top 51,m7,ac,383,722,276,05,734],
 #["no_empty","no_empty",top 52,m7,ac,390,737,282,1,750],
 #["check_no_empty","check_no_empty",top 53,m7,ab,397,753,301,1,756],
 #["is_single","is_single",top 54,m7,ac,402,759,307,2,764],
 #["single_chains","single_chains",top 55,m7,ac,409,767,309,3,778],
 #["chain_pieces","chain_pieces",top 56,m7,ac,416,781,320,3,789],
 #["put_chained","put_chained",top 57,m7,ab,423,792,325,04,795],
 #["no_single","no_single",top 58,m7,ac,428,798,333,1,805],
 #["long_ends","long_ends",top 59,m7,ac,435,808,342,1,815],
 #["shortened","shortened",top 60,m7,ac,442,818,348,2,823],
 #["twos","twos",top 61,m7,ac,449,826,350,1,837],
 #["put_together","put_together",top 62,m7,ac,456,840,361,2,847],
 #["back_tree","back_tree",top 63,m7,ab,463,850,371,2,853],
 #["_law_cell_at","_law_cell_at",top 65,m8,ac,468,858,387,2,863],
 #["_law_stir","_law_stir",top 66,m8,ac,475,866,391,2,872],
 #["_law_drawn","_law_drawn",top 67,m8,ac,482,875,395,2,883],
 #["_law_unlike","_law_unlike",top 68,m8,ac,489,886,405,3,900],
 #["_law_rule","_law_rule",top 69,m8,ac,496,903,420,04,913],
 #["_law_rules","_law_rules",top 70,m8,ab,503,916,429,3,919],
 #["_law_is_name","_law_is_name",top 71,m8,ac,508,922,438,1,926],
 #["_law_all_in","_law_all_in",top 72,m8,ab,515,929,440,2,932],
 #["_law_chosen","_law_chosen",top 73,m8,ac,520,935,442,1,945],
 #["_law_grow","_law_grow",top 74,m8,ac,527,948,450,04,960],
 #["_law_number","_law_number",top 75,m8,ac,534,963,467,1,967],
 #["_law_ends","_law_ends",top 76,m8,ab,541,970,471,04,973],
 #["_law_reads","_law_reads",top 77,m8,ab,546,976,483,2,979],
 #["_law_form","_law_form",top 78,m8,ac,551,982,494,1,989],
 #["law","law",top 79,m8,ab,558,992,501,1,995]]
def xC(P:Uk)(x:String)(a t:Nat)(l:Int):↑(Ao×Nh):=[(a-1,#[.type "dict",ae,.dict [en P "__module__" (t+07)<|sT "readgrove.errors" 187,en P "__firstlineno__" (t+11)<|.int l<|t+10,en P "__static_attributes__" (t+12)<|.ref<|a-2,en P "__doc__" (t+13) .none].toArray 2,#[]]),(a,#[.type "type",ae,.cls #[x,[.ref 24],[!a,.ref 24,.type "ValueError",.type "Exception",.type "BaseException",.type "object"],a-1,x,ab,[],[],ac,ae,ac],[-.ref (a-09),ae,-sT x t,-sT x (t+08),-.builtin "ValueError.__new__",-.bool ab].toArray])]
def dL(i:Nat):Q5:=tbl.getD i #["","",top 0,.none,ab,0,0,0,0,0]
def C8(i:Nat):Ao:=(dL i).c+1
def eP(P:Uk)(i:Nat):Ey:=en P (dL i).x ((dL i).k+2)<|!C8 i
def hpK:Uk->Ac:=λP=>tbl.flatMap Q5.o++xC P "NoGrammar" 37 207 04++[(nat_lit 3,#[(.type "dict"),ae,.dict ([en P "__name__" 165<|sT "law_readgrove_k66_whole_one_behind_the_other" 856,en P "__doc__" 166 .none,en P "__package__" 167 .none,en P "__loader__" 168<|.builtin "__main__.__loader__#opaque",en P "__spec__" 169 .none,en P "__annotations__" 170<|.ref 06,en P "__builtins__" 171<|.ref 04,en P "__file__" 173<|sT "/claim/cut.py" 172,en P "__cached__" 174 .none,en P "GroveError" 206<|.ref 24,en P "NoGrammar" 222<|.ref 37,en P "GREAT_LETTERS" 226<|sT "ABCDEFGHIJKLMNOPQRSTUVWXYZ" 225,en P "FIGURES" 228<|sT "0123456789" 227]++[0,1,2,3,04,05,06,07,08,09,10].map (eP P)++[en P "Queue" 378<|.ref 151]++[16].map (eP P)++[en P "Search" 478<|.ref 207]++[22,23,26,25,24,27,28,29,30,31,32,33,34,35,36].map (eP P)++[en P "WHOLE" 622<|sT "whole" 621,en P "FIGURED_NAMES" 624<|.int 10000 623]++[37,38].map (eP P)++[en P "Plainer" 694<|.ref 356]++[43,44,45,46,47,48,49,50,51,52,53,54,55,56,57,58,59,60,61,62,63,64,65,66,67,68,69,70,71,72,73,74].map (eP P)).toArray 79,#[]]),
 (nat_lit 23,#[(.type "dict"),ae,.dict [en P "__module__" 196<|sT "readgrove.errors" 187,en P "__firstlineno__" 200<|.int 2 199,en P "__static_attributes__" 201<|.ref 22,en P "__weakref__" 203<|.ref 25,en P "__doc__" 204 .none].toArray 3,#[]]),
 (nat_lit 24,#[(.type "type"),ae,.cls #[(Bz "GroveError"),[(.type "ValueError")],[(.ref 24),(.type "ValueError"),(.type "Exception"),(.type "BaseException"),(.type "object")],23,(Bz "GroveError"),ab,[],[(.ref 37)],ac,ae,ac],[-.ref 15,ae,-sT "GroveError" 189,-sT "GroveError" 197,-.builtin "ValueError.__new__",-.bool ab].toArray]),
 (nat_lit 150,#[(.type "dict"),ae,.dict [en P "__module__" 320<|sT "readgrove.queues" 311,en P "__firstlineno__" 324<|.int 47 323,en P "__init__" 331<|.ref 120,en P "is_done" 338<|.ref 127,en P "put" 347<|.ref 134,en P "place_of" 358<|.ref 141,en P "take" 368<|.ref 148,en P "__static_attributes__" 371<|.ref 149,en P "__dict__" 373<|.ref 152,en P "__weakref__" 375<|.ref 153,en P "__doc__" 376 .none].toArray 04,#[]]),
 (nat_lit 151,#[(.type "type"),ae,.cls #[(Bz "Queue"),[(.type "object")],[(.ref 151),(.type "object")],150,(Bz "Queue"),ab,[],[],ac,ae,ac],[ae,ae,-sT "Queue" 313,-sT "Queue" 321,-.builtin "object.__new__",-.bool ab].toArray]),
 (nat_lit 206,#[(.type "dict"),ae,.dict [en P "__module__" 396<|sT "readgrove.leasts" 379,en P "__firstlineno__" 400<|.int 84 399,en P "__init__" 409<|.ref 176,en P "reach" 420<|.ref 183,en P "take_next" 434<|.ref 190,en P "step_by_name" 447<|.ref 197,en P "settle" 462<|.ref 204,en P "__static_attributes__" 471<|.ref 205,en P "__dict__" 473<|.ref 208,en P "__weakref__" 475<|.ref 209,en P "__doc__" 476 .none].toArray 04,#[]]),
 (nat_lit 207,#[(.type "type"),ae,.cls #[(Bz "Search"),[(.type "object")],[(.ref 207),(.type "object")],206,(Bz "Search"),ab,[],[],ac,ae,ac],[ae,ae,-sT "Search" 389,-sT "Search" 397,-.builtin "object.__new__",-.bool ab].toArray]),
 (nat_lit 355,#[(.type "dict"),ae,.dict [en P "__module__" 651<|sT "readgrove.plainer" 619,en P "__firstlineno__" 655<|.int 236 654,en P "__init__" 662<|.ref 334,en P "put_rule" 672<|.ref 341,en P "is_part" 678<|.ref 346,en P "grammar_and_backs" 685<|.ref 353,en P "__static_attributes__" 687<|.ref 354,en P "__dict__" 689<|.ref 357,en P "__weakref__" 691<|.ref 358,en P "__doc__" 692 .none].toArray 04,#[]]),
 (nat_lit 356,#[(.type "type"),ae,.cls #[(Bz "Plainer"),[(.type "object")],[(.ref 356),(.type "object")],355,(Bz "Plainer"),ab,[],[],ac,ae,ac],[ae,ae,-sT "Plainer" 644,-sT "Plainer" 652,-.builtin "object.__new__",-.bool ab].toArray])]
def PC:↑Ao:=tbl.flatMap (λd=>[d.c,d.c+1])++[36,37,3,23,24,150,151,206,207,355,356]
def qv:Bc:={Xz with main:={Xz.main with body:=([1,2,04,05,06,07,08,09,10,11,12,14,15,16,17,19,21,22,23,24,25,26,27,28,30,31,33,34,36,37,38,39,40,42,43,44,45,46,47,48,49,50,51,52,53,54,55,56,57,58,59,60,61,62,63,65,66,67,68,69,70,71,72,73,74,75,76,77,78,79]:↑Nat).map top}}
def hk:PySem.W.Hook:=PySem.W.kHook hpK PC (λ_=>by kernel_rfl)
theorem C9{Z O J:Type}{o:Option Z}{f:Z->O}{g:Z->J}{a:O}{b:J}(h:o.map f=-a)(k:o.map g=-b):o.map (λs=>(f s,g s))=-(a,b):=by
 cases o with
 | none=>ext h
 | some s=>ext h;ext k;rfl
open PySem.W in
theorem tP(p:Bc)(w:Bq)(N:Nat):openEnds Vy p w N=(fencedOpening Vy p w N).bind λs=>match s.heap.isNs Es&&s.gens.size==0 with
 | true=>(PySem.W.Fast.tw14082659384304107361 PySem.W.Fast.tw14364793385576792824 p w ⇑s (s.heap.nsMap Es "__annotations__") N s<|topStub p).bind λt=>match staticsOk (Uv p.main.body) s.heap t.heap&&namesBound p t.heap&&gensDone t&&laidKept s.heap t.heap with
  | true=>-t
  | false=>ae
 | false=>ae:=by rw[<-PySem.W.Fast.te14082659384304107361,<-PySem.W.Fast.te14364793385576792824];rfl
abbrev mR(w:Bq):=PySem.W.openEnds Vy Xy.row.prog w 6956
open PySem.W in
abbrev kE:=λs=>openSeen qv [] (Uv Xy.row.prog.main.body) (λs=>xlAt qv [] s&&recOk (Sf<|Pu Xy.row) s) ab s
set_option maxHeartbeats 0 in
theorem DA(w:Bq):(mR w).map hk.obs=-hk.val w:=by ext mR;rw[tP];kernel_rfl
set_option maxHeartbeats 0 in
open PySem.W in
theorem PD(w:Bq):(mR w).map (λs=>(kE s).1)=aa (openGood qv []).1:=by ext mR;rw[tP];kernel_rfl
set_option maxHeartbeats 0 in
open PySem.W in
theorem PF(w:Bq):(mR w).map (λs=>((kE s).2.1,(kE s).2.2.1,(kE s).2.2.2.1))=-(bltViewBooted,ab,ab):=by ext mR;rw[tP];kernel_rfl
set_option maxHeartbeats 0 in
open PySem.W in
theorem PH(w:Bq):(mR w).map (λs=>(kE s).2.2.2.2)=-(pinGoodD<|drecsOf qv,plainGoodE qv<|looseW qv [],plainGoodD qv [],wideGood qv,clsGoodW qv []):=by ext mR;rw[tP];kernel_rfl
theorem PJ{Z O J i j l:Type}{o:Option Z}{e:Z->l}{f:Z->O}{g:Z->J}{h:Z->i}{k:Z->j}{u:l}{a:O}{b:J}{c:i}{d:j}(v:o.map e=-u)(x:o.map (λs=>(f s,g s,h s))=-(a,b,c))(z:o.map k=-d):o.map (λs=>(e s,f s,g s,h s,k s))=-(u,a,b,c,d):=by
 cases o with
 | none=>ext v
 | some s=>ext v;ext x;ext z;rfl
open PySem.W in
theorem PK(w:Bq):(openEnds Vy Xy.row.prog w 6956).map (λs=>openSeen qv [] (Uv Xy.row.prog.main.body) (λs=>xlAt qv [] s&&recOk (Sf<|Pu Xy.row) s) ab s)=-openGood qv []:=PJ (e:=λs=>(kE s).1) (f:=λs=>(kE s).2.1) (g:=λs=>(kE s).2.2.1) (h:=λs=>(kE s).2.2.2.1) (k:=λs=>(kE s).2.2.2.2) (PD w) (PF w)<|PH w
set_option maxHeartbeats 0 in
theorem tQ:Xy.wellSaid=ab:=by kernel_rfl
open PySem.W in
theorem PL:LeftO Xy.row.prog qv [] (λs=>xlAt qv [] s&&recOk (Sf<|Pu Xy.row) s) hk.obs hk.val 6956:=λw=>C9 (PK w)<|DA w
end L2
namespace L2
abbrev Pn:=↑(Ao×Nh)
noncomputable abbrev lO(x:Array Value)(n:Nat:=0):Nh:={cls:=.type "list",data:=.seq x n}
abbrev Db(x:Av):Prop:=(x==("__debug__" : Av))=ac
abbrev aC:=Sum Int Av
noncomputable def n9:aC->Value->Bool
 | .inl k,v=>Value.isInt k v
 | .inr x,v=>Value.isStrOf x v
noncomputable def PM(w:Bq):aC->Int
 | .inl k=>hashInt k
 | .inr x=>hashStr w x
theorem kF:∀{k:aC} {v:Value},n9 k v=ab->(∃i t,k=Sum.inl i/\v=Value.int i t)\/(∃x t,k=Sum.inr x/\v=Value.str x t)
 | .inl i,v,h=>by
  let#[t,e]:=Value.isInt_shape (k:=i) (v:=v) h;show .inl #[i,t,7,e]
 | .inr x,v,h=>by
  let#[t,e]:=Value.isStrOf_shape (x:=x) (v:=v) h;show .inr #[x,t,7,e]
theorem PQ(i:Int)(t:Wq):n9 (.inl i) (.int i t)=ab:=by simp[n9,Value.isInt]
theorem PR(x:Av)(t:Wq):n9 (.inr x) (.str x t)=ab:=by simp[n9,Value.isStrOf]
theorem PU(a b:Int):decide ((Sum.inl a:aC)=Sum.inl b)=(a==b):=by
 by_cases e:a=b
 .subst e;simp
 .let h:¬((Sum.inl a:aC)=Sum.inl b):=λq=>e<|Sum.inl.inj q;rw[Xx h];show(beq_eq_false_iff_ne.mpr e).symm
theorem PV(a b:Av):decide ((Sum.inr a:aC)=Sum.inr b)=decide (a=b):=by
 by_cases e:a=b
 .subst e;simp
 .let h:¬((Sum.inr a:aC)=Sum.inr b):=λq=>e<|Sa q;rw[Xx h,Xx e]
theorem PX(a:Int)(b:Av):decide ((Sum.inl a:aC)=Sum.inr b)=ac:=Xx λq=>nomatch q
theorem PY(a:Av)(b:Int):decide ((Sum.inr a:aC)=Sum.inl b)=ac:=Xx λq=>nomatch q
noncomputable def bS(prog:Bc)(w:Bq):PySem.KeyKind prog w aC where
 is:=n9
 hash:=PM w
 inj:=λv a b S Z=>by
  rcases kF S with⟨i,t,rfl,rfl⟩|⟨x,t,rfl,rfl⟩
  .rcases kF Z with⟨j,u,rfl,e⟩|⟨y,u,rfl,e⟩
   .injection e with e1 _;rw[e1]
   .show nomatch e
  .rcases kF Z with⟨j,u,rfl,e⟩|⟨y,u,rfl,e⟩
   .show nomatch e
   .injection e with e1 _;rw[e1]
 byValue:=λk v h=>by
  rcases kF h with⟨i,t,rfl,rfl⟩|⟨x,t,rfl,rfl⟩<;>rfl
 pyHash:=λc h=>by
  rcases kF c with⟨i,t,rfl,rfl⟩|⟨x,t,rfl,rfl⟩
  .show wpAny_pyHash_int h
  .show wpAny_pyHash_str h
 eqBool:=λD c h=>by
  rcases kF D with⟨i,t,rfl,rfl⟩|⟨x,t,rfl,rfl⟩
  .rcases kF c with⟨j,u,rfl,rfl⟩|⟨y,u,rfl,rfl⟩
   .rw[PU]at h;show Ue h
   .rw[PX]at h;show SeqAt.EqAt.int_str i t y u _ _ _ _ h
  .rcases kF c with⟨j,u,rfl,rfl⟩|⟨y,u,rfl,rfl⟩
   .rw[PY]at h;show SeqAt.EqAt.str_int x t j u _ _ _ _ h
   .rw[PV]at h;show wpAny_eqBool_str h
 «strs»:=λk x t v h=>by
  rcases kF h with⟨i,u,rfl,e⟩|⟨y,u,rfl,e⟩
  .show nomatch e
  .injection e with e1 _;subst e1;cases v<;>rfl
theorem PZ(prog:Bc)(w:Bq)(i:Int)(t:Wq):(bS prog w).is (.inl i) (.int i t)=ab:=PQ i t
theorem P0(prog:Bc)(w:Bq)(x:Av)(t:Wq):(bS prog w).is (.inr x) (.str x t)=ab:=PR x t
inductive V where
 | non|bl (b:Bool)|int (i:Int)|str (x:Av)|byt (b:Array UInt8)|flt (b:UInt64)|ref (a:Ao)|ty (n:String)
 deriving DecidableEq
def RelV:V->Value->Prop
 | .non,u=>u=Value.none
 | .bl b,u=>u=Value.bool b
 | .int i,u=>∃t,u=Value.int i t
 | .str x,u=>∃t,u=Value.str x t
 | .byt b,u=>∃t,u=Value.bytes b t
 | .flt b,u=>∃t,u=Value.float b t
 | .ref a,u=>u=Value.ref a
 | .ty n,u=>u=Value.type n
abbrev a6:↑V->↑Value->Prop:=Dz RelV
section
variable {O J:Type}{F:O->J->Prop}{xs:↑O}{us:↑J}
theorem tR(r:Dz F xs us):∀{i:Nat} {x:O},xs[i]? = aa x->∃u,us[i]? = aa u/\F x u:=by
 induction r with
 | nil=>show λe=>nomatch e
 | cons a _ E=>
  intro i x e;cases i with
  | zero=>show#[_,7,Cm e▸a]
  | succ i=>show E e
theorem DB(r:Dz F xs us):Dz (λb a=>F a b) us xs:=by
 induction r with
 | nil=>show .nil
 | cons a _ E=>show .cons a E
theorem tS(h:Dz F xs us)(s:Dz F ys ws):Dz F (xs++ys) (us++ws):=by
 induction h with
 | nil=>show s
 | cons a _ E=>show .cons a E
theorem yD(x:F a b)(h:Dz F xs us):∀i:Nat,Dz F (xs.set i a) (us.set i b):=by
 induction h with
 | nil=>show λ_=>.nil
 | cons r t E=>
  intro i;cases i with
  | zero=>show .cons x t
  | succ i=>show .cons r<|E i
theorem yE(h:Dz F xs us):∀i:Nat,Dz F (xs.take i) (us.take i)/\Dz F (xs.drop i) (us.drop i):=by
 induction h with
 | nil=>show λi=>by rw[Rm,Rm,List.drop_nil,List.drop_nil];show#[.nil,.nil]
 | cons r t E=>
  intro i;cases i with
  | zero=>show#[.nil,.cons r t]
  | succ i=>show#[.cons r (E i).1,(E i).2]
theorem yF(n:Nat)(h:Dz F xs us):Dz F (xs.take n) (us.take n):=(yE h n).1
theorem DC(n:Nat)(h:Dz F xs us):Dz F (xs.drop n) (us.drop n):=(yE h n).2
theorem DD(h:Dz F xs us):Dz F xs.dropLast us.dropLast:=by rw[List.dropLast_eq_take,List.dropLast_eq_take,Cv h];show yF _ h
theorem DE(h:Dz F xs us):Dz F xs.reverse us.reverse:=by
 induction h with
 | nil=>show .nil
 | cons r t E=>rw[Ke,Ke];show tS E<|.cons r .nil
theorem DF(h:Dz F xs us)(k:Nat):Dz F (Cb k xs).flatten (Cb k us).flatten:=by
 induction k with
 | zero=>show .nil
 | succ k E=>rw[Hl,Hl,Kg,Kg];show tS h E
end
theorem a6.length(r:a6 xs us):↥xs=↥us:=Cv r
section
variable {xs ys:↑V}{us ws:↑Value}
theorem a6.get{i:Nat}(r:a6 xs us)(e:xs[i]? = aa x):∃u,us[i]? = aa u/\RelV x u:=tR r e
theorem a6.set(r:RelV x u)(i:Nat)(h:a6 xs us):a6 (xs.set i x) (us.set i u):=yD r h i
theorem a6.append(h:a6 xs us)(s:a6 ys ws):a6 (xs++ys) (us++ws):=tS h s
theorem a6.splitAt(i:Nat)(h:a6 xs us):a6 (xs.take i) (us.take i)/\a6 (xs.drop i) (us.drop i):=yE h i
theorem a6.take(n:Nat)(h:a6 xs us):a6 (xs.take n) (us.take n):=yF n h
theorem a6.drop(n:Nat)(h:a6 xs us):a6 (xs.drop n) (us.drop n):=DC n h
theorem a6.dropLast(h:a6 xs us):a6 xs.dropLast us.dropLast:=DD h
theorem a6.reverse(h:a6 xs us):a6 xs.reverse us.reverse:=DE h
theorem a6.rep(h:a6 xs us)(k:Nat):a6 (Cb k xs).flatten (Cb k us).flatten:=DF h k
end
def fS:Option V->Option Value->Prop
 | some v,-u=>RelV v u
 | none,ae=>True
 | _,_=>False
def KV{b:Type}:↑(b×V)->↑(b×Value)->Prop:=Dz λ(p:b×V) (q:b×Value)=>p.1=q.1/\RelV p.2 q.2
noncomputable def kV:aC->V
 | .inl i=>¬i
 | .inr x=>.str x
inductive HO where
 | lst (xs:↑V)
 | tup (xs:↑V)
 | dK (kvs:↑(aC×V))|dT (kvs:↑(↑aC×V))
 | set (S:Int->Bool) (n:Nat)
 | ins (C dx:Ao) (fs:↑(Av×V))
 | own (x:Ao)
 | xd (fs:↑(Av×V))
 | met (f x:Ao)
 | rng (lo hi:Int)
 | frz (o:Nh) (u:HO)
 | tbl (ps:Array Value)
 | ext (φ:Cz->Prop)
abbrev Hp:=Ao->Option HO
noncomputable def aK(H:Hp)(a:Ao)(o:HO):Hp:=λb=>if b=a then aa o else H b
theorem b8{H:Hp}{a:Ao}{o:HO}:aK H a o a=-o:=by ext aK;rw[Xu rfl]
theorem bB{H:Hp}{a b:Ao}{o:HO}(h:b≠a):aK H a o b=H b:=by ext aK;rw[Xs h]
theorem tT{H:Hp}{a b:Ao}{o u:HO}(h:H a=-o)(h':H b=-u)(d:o≠u):a≠b:=by
 intro e;subst e;rw[h]at h';show d<|Cm h'
theorem eW{H:Hp}{a b:Ao}{o:HO}(h:H a=-o)(h':H b=ae):a≠b:=by
 intro e;subst e;rw[h]at h';ext h'
section
variable (P:Bc)(w:Bq)
def b9(H:Hp)(h:Cz)(a:Ao):HO->Prop
 | .lst xs=>↥xs<=Aw/\∃(its:↑Value) (n:Nat),a6 xs its/\h.get? a=-lO its.toArray n
 | .tup xs=>↥xs<=Aw/\∃its:↑Value,a6 xs its/\IsTup h a its.toArray
 | .dK kvs=>↥kvs<=Aw/\(a==Gg)=ac/\∃vs,KV kvs vs/\h.DictOf (bS P w) a vs
 | .dT kvs=>↥kvs<=Aw/\(a==Gg)=ac/\∃xs:↑(↑aC×Ao×Value),
   Dz (λ(p:↑aC×V) (q:↑aC×Ao×Value)=>p.1=q.1/\H q.2.1=-.tup (p.1.map kV)/\RelV p.2 q.2.2) kvs xs/\
   ∃o es ep,h.get? a=-o/\o.ExactDict/\o.data=.dict es ep/\es.toList=xs.map (Tc<|Ic<|bS P w)/\(xs.map (·.1)).Nodup
 | .set S n=>h.SetOf (intKind P w) a S n
 | .ins C s fs=>H s=-.own a/\↥fs<=1000/\s≠a/\h.get? a=-Ik C s/\
   ∃g,h.Ns1 s g/\(∀f,fS (fs.lookup f)<|g f)/\Ux g (fs.map (·.1))
 | .own _=>∃o,h.get? a=-o
 | .xd fs=>∃g,h.Ns1 a g/\∀f,fS (fs.lookup f) (g f)
 | .rng lo hi=>∃t u v,h.get? a=aa {cls:=.type "range",data:=.fields [.int lo t,.int hi u,.int 1 v].toArray}
 | .frz o u=>h.get? a=-o/\b9 H h a u
 | .tbl ps=>h.get? a=aa {cls:=.none,data:=.fields ps}
 | .met f x=>h.get? a=aa (Rk (!f) !x)
 | .ext i=>i h/\(∃o,h.get? a=-o)/\∀h1 h2:Cz,i h1->(∀o,h1.get? a=-o->h2.get? a=-o)->i h2
def cZ(H:Hp)(h:Cz):Prop:=∀a o,H a=-o->b9 P w H h a o
end
section
variable {P:Bc}{w:Bq}{H H':Hp}{h h':Cz}{a:Ao}{o:HO}
theorem b9.lt(x:b9 P w H h a o):a<h.objs.size:=by
 cases o with
 | lst xs=>let#[_,_,_,_,e]:=x;show Ba e
 | tup xs=>let#[_,_,_,p]:=x;show p.lt
 | dK kvs=>let#[_,_,_,_,o,_,_,e,_]:=x;show Ba e
 | dT kvs=>let#[_,_,_,_,o,_,_,e,_]:=x;show Ba e
 | set S n=>let#[o,_,_,_,e,_]:=x;show Ba e
 | ins C s fs=>let#[_,_,_,e,_]:=x;show Ba e
 | own y=>let#[_,e]:=x;show Ba e
 | xd fs=>obtain⟨_,⟨_,_,_,e,_⟩,_⟩:=x;show Ba e
 | rng lo hi=>let#[_,_,_,e]:=x;show Ba e
 | frz ob u=>let#[e,_]:=x;show Ba e
 | tbl ps=>show Ba (show h.get? a=aa _ from x)
 | met f y=>show Ba (show h.get? a=aa _ from x)
 | ext i=>obtain⟨_,⟨_,e⟩,_⟩:=x;show Ba e
theorem Paired.mapP{O J:Type}{F G:O->J->Prop}:∀{c:↑O} {d:↑J},Dz F c d->(∀a b,F a b->G a b)->Dz G c d:=by
 intro c d h f
 induction h with
 | nil=>show .nil
 | cons r t E=>show .cons (f _ _ r) E
theorem b9.stay(x:b9 P w H h a o)(k:∀b u,(b=a\/H b=-.own a)->h.get? b=-u->h'.get? b=-u)(D:∀b,H b=-.own a->H' b=-.own a)(ht:∀b xs,H b=-.tup xs->H' b=-.tup xs):b9 P w H' h' a o:=by
 induction o with
 | lst xs=>let#[z,its,n,r,e]:=x;show#[z,its,n,r,k _ _ (.inl rfl) e]
 | tup xs=>let#[z,its,r,ob,e,c]:=x;show#[z,its,r,ob,k _ _ (.inl rfl) e,c]
 | dK kvs=>let#[z,y,vs,r,ob,es,ep,e,c]:=x;show#[z,y,vs,r,ob,es,ep,k _ _ (.inl rfl) e,c]
 | dT kvs=>
  let#[z,y,xs,r,ob,es,ep,e,c]:=x;show#[z,y,xs,Paired.mapP r λp q z=>#[z.1,ht _ _ z.2.1,z.2.2],ob,es,ep,k _ _ (.inl rfl) e,c]
 | set S n=>let#[ob,es,ep,t,e,c]:=x;show#[ob,es,ep,t,k _ _ (.inl rfl) e,c]
 | ins C s fs=>
  obtain⟨d,z,ne,e,g,⟨M,es,ep,J,c⟩,r⟩:=x;show#[D _ d,z,ne,k _ _ (.inl rfl) e,g,#[M,es,ep,k _ _ (.inr d) J,c],r]
 | own y=>let#[ob,e]:=x;show#[ob,k _ _ (.inl rfl) e]
 | xd fs=>obtain⟨g,⟨M,es,ep,e,c⟩,r⟩:=x;show#[g,#[M,es,ep,k _ _ (.inl rfl) e,c],r]
 | rng lo hi=>let#[t,u,v,e]:=x;show#[t,u,v,k _ _ (.inl rfl) e]
 | frz ob u E=>let#[e,q]:=x;show#[k _ _ (.inl rfl) e,E q]
 | tbl ps=>
  let e:h.get? a=aa {cls:=.none,data:=.fields ps}:=x;change h'.get? a=aa {cls:=.none,data:=.fields ps};show k a _ (.inl rfl) e
 | met f y=>
  let e:h.get? a=aa (Rk (!f) !y):=x;change h'.get? a=aa (Rk (!f) !y);show k a _ (.inl rfl) e
 | ext i=>obtain⟨p,⟨o,e⟩,st⟩:=x;show#[st _ _ p λo q=>k _ _ (.inl rfl) q,#[o,k _ _ (.inl rfl) e],st]
theorem cZ.lt(x:cZ P w H h)(e:H a=-o):a<h.objs.size:=(x a o e).lt
theorem cZ.fresh(x:cZ P w H h)(e:h.objs.size<=a):H a=ae:=by
 cases q:H a with
 | none=>rfl
 | some u=>show absurd (Ca (x.lt q) e)<|Jg _
theorem cZ.kept(x:cZ P w H h)(k:∀b u,h.get? b=-u->h'.get? b=-u):cZ P w H h':=λa o e=>
 (x a o e).stay (λb u _ q=>k b u q) (λ_ q=>q) λ_ _ q=>q
theorem cZ.laid(x:cZ P w H h)(k:∀b u,h.get? b=-u->h'.get? b=-u)(B:h.objs.size<=a)(new:b9 P w (aK H a o) h' a o):cZ P w (aK H a o) h':=λb u e=>by
 let K:=x.fresh B
 by_cases Z:b=a
 .subst Z;rw[b8]at e;ext e;show new
 .rw[bB Z]at e;show(x b u e).stay (λc v _ q=>k c v q) (λc q=>by rw[bB<|eW q K];show q) λc xs q=>by rw[bB<|eW q K];show q
end
def Rd(H:Hp)(a:Ao)(u:HO):Prop:=H a=-u\/∃o,H a=-.frz o u
theorem Rd.ok(r:Rd H a u)(x:cZ P w H h):b9 P w H h a u:=by
 rcases r with r|⟨o,r⟩
 .show x a u r
 .let#[_,q]:=x a _ r;show q
def rD:Option HO->Prop
 | some (.lst _)=>True
 | some (.dK _)=>True
 | some (.dT _)=>True
 | some (.set _ _)=>True
 | some (.ins _ _ _)=>True
 | some (.ext _)=>True
 | _=>False
section
variable {P:Bc}{w:Bq}{H:Hp}{h h':Cz}{x e:Ao}{o':HO}
theorem cZ.write(ok:cZ P w H h)(f:rD<|H x)(d:e=x\/H e=-.own x)(k:∀b u,b≠e->h.get? b=-u->h'.get? b=-u)(g:∃u,h'.get? e=-u)(new:b9 P w (aK H x o') h' x o'):cZ P w (aK H x o') h':=λb u q=>by
 let i:∀c y,H c=-.own y->c≠x:=λc y r z=>by subst z;rw[r]at f;show f
 let j:∀c xs,H c=-.tup xs->c≠x:=λc xs r z=>by subst z;rw[r]at f;show f
 by_cases Z:b=x
 .subst Z;rw[b8]at q;ext q;show new
 .rw[bB Z]at q
  by_cases a:b=e
  .let N:H b=-.own x:=by
    rcases d with z|z
    .show absurd (a.trans z) Z
    .rw[a];show z
   rw[q]at N;ext N;let#[v,T]:=g;show#[v,by rw[a];show T]
  .show(ok b u q).stay (λc v hc r=>k c v 8 r) (λc r=>by rw[bB<|i c b r];show r) λc xs r=>by rw[bB<|j c xs r];show r
   rcases hc with rfl|hc
   .show a
   .rintro rfl;rcases d with z|z
    .show i c b hc z
    .rw[hc]at z;ext z;show Z rfl
end
structure Un(fs ex:↑Ao)(H H':Hp)(h h':Cz):Prop where
 keep:∀b o,h.get? b=-o->H b=ae->b∉fs->b∉ex->h'.get? b=-o
 slot:∀b o,h.get? b=-o->H b=ae->b∈fs->b∉ex->∃sl,h'.get? b=aa {o with slots:=sl}
 free:∀b o,h.get? b=-o->H b=ae->b∉ex->H' b=ae
 there:∀b o,h.get? b=-o->b∉ex->∃o',h'.get? b=-o'
 tups:∀b xs,H b=-.tup xs->H' b=-.tup xs
 frzs:∀b o u,H b=-.frz o u->H' b=-.frz o u
 tbls:∀b ps,H b=-.tbl ps->∃more,H' b=-.tbl (ps++more)
section
variable {fs fs' ex ex':↑Ao}{H H1 H2:Hp}{h h1 h2 h':Cz}{a x e:Ao}{o:HO}
theorem Un.any(u:Un fs ex H H1 h h1)(q:h.get? b=-ob)(n:H b=ae)(S:b∉ex):∃sl,h1.get? b=aa {ob with slots:=sl}:=by
 by_cases Z:b∈fs
 .show u.slot b ob q n Z S
 .show#[ob.slots,u.keep b ob q n Z S]
theorem Un.kept(k:∀b u,h.get? b=-u->h'.get? b=-u):Un fs ex H H h h':=
 #[λb ob q _ _ _=>k b ob q,λb ob q _ _ _=>#[ob.slots,k b ob q],λ_ _ _ n _=>n,λb ob q _=>#[ob,k b ob q],λ_ _ q=>q,λ_ _ _ q=>q,λ_ ps q=>#[#[],by rw[q];simp]]
theorem Un.refl:Un fs ex H H h h:=Un.kept λ_ _ q=>q
theorem Un.laid(k:∀b u,h.get? b=-u->h'.get? b=-u)(B:h.objs.size<=a)(K:H a=ae):Un fs ex H (aK H a o) h h' where
 keep:=λb u q _ _ _=>k b u q
 slot:=λb u q _ _ _=>#[u.slots,k b u q]
 free:=λb u q n _=>by rw[bB<|Bw<|Ca (Ba q) B];show n
 there:=λb u q _=>#[u,k b u q]
 tups:=λb xs q=>by rw[bB<|eW q K];show q
 frzs:=λb u xs q=>by rw[bB<|eW q K];show q
 tbls:=λb ps q=>#[#[],by rw[bB<|eW q K,q];simp]
theorem Un.write(f:rD<|H x)(P:e=x\/H e=-.own x)(k:∀b u,b≠e->h.get? b=-u->h'.get? b=-u)(g:∃u,h'.get? e=-u):Un fs ex H (aK H x o) h h':=by
 let S:∀b,H b=ae->b≠x:=λb n z=>by subst z;rw[n]at f;show f
 let Z:∀b,H b=ae->b≠e:=λb n z=>by
  subst z;rcases P with r|r
  .show S b n r
  .rw[n]at r;ext r
 let J:∀b u,H b=-u->¬(rD<|-u)->b≠x:=λb u q nm z=>by subst z;rw[q]at f;show nm f
 show#[λb u q n _ _=>k b u (Z b n) q,λb u q n _ _=>#[u.slots,k b u (Z b n) q],λb u q n _=>by rw[bB<|S b n];show n,λb u q _=>8,
  λb xs q=>by rw[bB<|J b _ q λz=>z];show q,λb u xs q=>by rw[bB<|J b _ q λz=>z];show q,λb ps q=>#[#[],by rw[bB<|J b _ q λz=>z,q];simp]]
 by_cases a:b=e
 .subst a;show g
 .show#[u,k b u a q]
end
noncomputable def tU(h:Cz)(H:Hp):↑Ao:=(Ci h.objs.size).filter λa=>(H a).isSome
noncomputable def lH(h:Cz)(H:Hp):Cz:=PySem.W.hideAll h<|tU h H
theorem P1(h:Cz)(H:Hp):(lH h H).objs.size=h.objs.size:=PySem.W.hideAll_size _ _
theorem P2(e:h.get? b=-o)(n:H b=ae):(lH h H).get? b=-o:=
 PySem.W.hideAll_get _ e λJ=>by
  let q:(H b).isSome=ab:=(Dy.mp J).2;rw[n]at q;simp at q
theorem P4(e:(lH h H).get? b=-o):h.get? b=-o/\H b=ae:=by
 let O:h.get? b=-o:=PySem.W.of_hideAll (tU h H) e;show#[O,8];cases q:H b with
 | none=>rfl
 | some x=>
  let J:b∈tU h H:=Dy.mpr #[Fj.mpr<|Ba O,by simp[q]];let z:(lH h H).get? b=ae:=PySem.W.hideAll_none (tU h H) J;rw[z]at e;ext e
structure Mod(K:Ac)(mg:Av->Option Value)(base:Cz):Prop where
 kin:K.In base
 glob:base.Ns Es mg
 blt:∃mb,base.Ns Xi mb/\∀x:Av,x≠"__name__"->mb x=Cy x
 nolimit:base.NoLimit
structure Cx where
 prog:Bc
 w:Bq
 K:Ac
 mg:Av->Option Value
 base:Cz
 A:Cw
 N:↑Av
 s₀:Ai
 H₀:Hp
 env:Env
 outer:↑Env
 stack:↑Env
 ex:↑Ao
 fn:Av->Bool
 calm:Bool
 pn:↑(Ao×Nh)
 xe:Value->Ai->Prop
noncomputable abbrev Cx.m(X:Cx):=Cp X.prog X.w
abbrev Cx.a(X:Cx){O:Type}(t:Uw O)(Q:O->Ai->Prop)(E:Value->Ai->Prop)(s:Ai):Prop:=Bm X.m X.A t Q E s
abbrev Se(X:Cx)(e:Ck)(es:↑Ck):Prop:=Cr (e::es) X.env=(ac,Ff e X.env)::Cr es X.env
abbrev Sb(X:Cx)(pos:Ja)(es:↑Ck):Prop:=(Og pos<|Cr es X.env).any (·.1)=ac
abbrev Fy(X:Cx)(x:Av):Prop:=X.fn x=ab\/X.env.scope.names.lookup x=-.local
noncomputable def iI(l:↑Env):↑Ao:=l.filterMap (·.frame)
noncomputable abbrev Cx.fs(X:Cx):↑Ao:=iI X.outer
def tV(sc:Lm)(x:Av):Prop:=sc.names.lookup x=-.local\/sc.names.lookup x=-.cell\/sc.names.lookup x=-.free
def Loc(sc:Lm)(x:Av):Prop:=sc.names.lookup x=-.local\/sc.names.lookup x=-.cell
def Look(env:Env)(h:Cz)(m:Av->Option Value)(x:Av)(u:Value):Prop:=
 (env.kindOf x=-.local/\m x=-u)\/((env.kindOf x=-.cell\/env.kindOf x=-.free)/\∃c,env.cells.lookup x=-c/\h.IsCell c (-u))
structure Cx.Ok(X:Cx):Prop where
 mod:Mod X.K X.mg X.base
 kind:X.env.scope.kind=.function
 glob:X.env.globals=Es
 blt:X.env.builtins=Xi
 above:⇑X.s₀<=X.env.locals
 inj:∀x y c,X.env.cells.lookup x=-c->X.env.cells.lookup y=-c->x=y
 has:∀x,(X.env.kindOf x=-.cell\/X.env.kindOf x=-.free)->∃c,X.env.cells.lookup x=-c
 cab:∀x c,X.fn x=ab->X.env.cells.lookup x=-c->⇑X.s₀<=c
 hd:X.calm=ab->X.A.handled=ae
 frames:X.A.frames=-X.stack
 stk:X.stack=X.outer\/(X.stack=X.env::X.outer/\X.env.frame=-X.env.locals)
 exf:∀b∈X.ex,b≠X.env.locals/\∀x c,X.env.cells.lookup x=-c->c≠b
 bs:∀b o,X.base.get? b=-o->X.s₀.heap.get? b=-o/\X.H₀ b=ae
 bsz:X.base.objs.size<=⇑X.s₀
 noex:∀b o,X.base.get? b=-o->b∉X.ex
 exfs:∀b∈X.ex,b∉X.fs
 funs:X.s₀.heap.FunFrames X.base X.outer
 frf:∀b∈X.fs,X.H₀ b=ae
structure Inv(X:Cx)(af:Pn)(Z:↑(Option V))(H:Hp)(s:Ai):Prop where
 ok:X.Ok
 os:s.os=X.s₀.os
 bare:Qy s.gens
 base:Un X.fs X.ex X.H₀ H X.s₀.heap s.heap
 loc:∃m,s.heap.Ns X.env.locals m/\∀(i:Nat) (x:Av) (v:V),X.N[i]? = aa x->Z[i]? = aa (-v)->tV X.env.scope x->∃u,RelV v u/\Look X.env s.heap m x u
 cell:∀x c,X.env.cells.lookup x=-c->∃v,s.heap.IsCell c v
 free:H X.env.locals=ae
 freeC:∀x c,X.env.cells.lookup x=-c->H c=ae
 pin:∀p∈X.pn++af,s.heap.get? p.1=-p.2/\H p.1=ae/\p.1≠X.env.locals/\p.1∉X.fs/\∀v,p.2.data≠.cell v
 hok:cZ X.prog X.w H s.heap
 len:↥Z=↥X.N
section
variable {X:Cx}{af:Pn}{Z:↑(Option V)}{H H':Hp}{s:Ai}{h':Cz}
theorem Cx.Ok.nofr(ok:X.Ok)(e:X.base.get? b=-o):b∉X.fs:=λZ=>by
 have:=(ok.funs.mem Z).1;rw[e]at this;ext this
theorem Inv.bs(I:Inv X af Z H s):∀b o,X.base.get? b=-o->s.heap.get? b=-o/\H b=ae:=λb o e=>
 #[I.base.keep b o (I.ok.bs b o e).1 (I.ok.bs b o e).2 (I.ok.nofr e)<|I.ok.noex b o e,I.base.free b o (I.ok.bs b o e).1 (I.ok.bs b o e).2<|I.ok.noex b o e]
theorem Inv.bk(I:Inv X af Z H s):∀b o,X.base.get? b=-o->s.heap.get? b=-o:=λb o e=>(I.bs b o e).1
theorem Inv.mod(I:Inv X af Z H s):Mod X.K X.mg X.base:=I.ok.mod
theorem Inv.kIn(I:Inv X af Z H s):X.K.In s.heap:=I.ok.mod.kin.keeps I.bk
theorem Inv.lt(I:Inv X af Z H s):X.env.locals<⇑s:=let #[_,hn,_]:=I.loc;hn.lt
theorem Inv.sz(I:Inv X af Z H s):⇑X.s₀<=⇑s:=Am I.ok.above<|Hk I.lt
theorem Inv.nofs(I:Inv X af Z H s)(h:⇑s<=a):a∉X.fs:=λY=>by
 let#[_,o,f,_]:=I.ok.funs.mem Y;show absurd (Ca (Ba f)<|Am I.sz h)<|Jg _
theorem Inv.cne(I:Inv X af Z H s):∀x c,X.env.cells.lookup x=-c->c≠X.env.locals:=λx c e z=>by
 let#[v,o,f,hd]:=I.cell x c e;obtain⟨m,⟨o',es,ep,E,u,_⟩,_⟩:=I.loc;rw[z,E]at f;ext f;rw[u]at hd;ext hd
theorem Inv.funs(I:Inv X af Z H s):s.heap.FunFrames X.base X.outer:=by
 let all:∀(l:↑Env),(∀b∈iI l,b∈X.fs)->X.s₀.heap.FunFrames X.base l->s.heap.FunFrames X.base l:=by
  intro l
  induction l with
  | nil=>intro _ _;trivial
  | cons env r E=>
   intro U hl;obtain⟨hk,⟨L,o,hf,K,f,hd⟩,G⟩:=hl;let C:L∈X.fs:=U L (by ext iI;rw[Ej,hf];show Bj);let#[sl,e]:=I.base.slot L o f (I.ok.frf L C) C λz=>I.ok.exfs L z C;show#[hk,#[L,_,hf,K,e,hd],E (λb Y=>U b<|by ext iI;rw[Ej,hf];show Bi _ Y) G]
 show all X.outer (λ_ Y=>Y) I.ok.funs
theorem Inv.stack(I:Inv X af Z H s):s.heap.FunFrames X.base X.stack:=by
 rcases I.ok.stk with e|⟨e,hf⟩
 .rw[e];show I.funs
 .rw[e];let#[m,K,_]:=I.loc;show .cons (by rw[I.ok.kind];decide) hf K 8 I.funs;show Heap.get?_none_of_le<|Am I.ok.bsz I.ok.above
theorem Inv.stkSub(I:Inv X af Z H s):∀b∈iI X.stack,b∈X.env.locals::X.fs:=λb Y=>by
 rcases I.ok.stk with e|⟨e,hf⟩
 .rw[e]at Y;show Bi _ Y
 .rw[e]at Y;unfold iI at Y;rw[Ej,hf]at Y;show Y
theorem Inv.stkFree(I:Inv X af Z H s):∀b∈iI X.stack,H b=ae:=λb Y=>by
 rcases Bd.mp (I.stkSub b Y) with e|Y
 .rw[e];show I.free
 .let#[_,o,f,_]:=I.ok.funs.mem Y;show I.base.free b o f (I.ok.frf b Y) λz=>I.ok.exfs b z Y
theorem Inv.step{g':Array GenState}{t':Nat}{d':Drawn}{ch:↑Ao}(I:Inv X af Z H s)(a:∀b∈ch,(b∈X.ex\/⇑X.s₀<=b)/\b≠X.env.locals/\(∀x c,X.env.cells.lookup x=-c->c≠b)/\∀p∈X.pn++af,p.1≠b)(keep:∀b o,b≠X.env.locals->b∉X.fs->b∉ch->s.heap.get? b=-o->H b=ae->h'.get? b=-o)(slot:∀b o,b≠X.env.locals->b∈X.fs->b∉ch->s.heap.get? b=-o->H b=ae->∃sl,h'.get? b=aa {o with slots:=sl})(free:∀b o,b∉ch->s.heap.get? b=-o->H b=ae->H' b=ae)(there:∀b o,b∉ch->s.heap.get? b=-o->∃o',h'.get? b=-o')(tups:∀b xs,H b=-.tup xs->H' b=-.tup xs)(frzs:∀b o u,H b=-.frz o u->H' b=-.frz o u)(tbls:∀b ps,H b=-.tbl ps->∃more,H' b=-.tbl (ps++more))(ns:∀m,s.heap.Ns X.env.locals m->h'.Ns X.env.locals m)(hok:cZ X.prog X.w H' h')(hg:Qy g'):
  Inv X af Z H' {s with heap:=h',gens:=g',drawn:=d',toks:=t'}:=by
 let y:∀b o,X.s₀.heap.get? b=-o->b≠X.env.locals:=λb o e=>Bw<|Ca (Ba e) I.ok.above;let t:∀b o,X.s₀.heap.get? b=-o->b∉X.ex->b∉ch:=λb o e S Y=>by
  rcases(a b Y).1 with z|z
  .show S z
  .show absurd (Ca (Ba e) z)<|Jg _
 let h:∀x c,X.env.cells.lookup x=-c->∀v,s.heap.IsCell c v->h'.IsCell c v:=λx c e v #[o,f,hd]=>by
  let j:c∉ch:=λz=>(a c z).2.2.1 x c e rfl
  by_cases hc:c∈X.fs
  .let#[sl,q]:=slot c o (I.cne x c e) hc j f<|I.freeC x c e;show#[_,q,hd]
  .show#[o,keep c o (I.cne x c e) hc j f<|I.freeC x c e,hd]
 show#[I.ok,I.os,hg,#[λb o e n Y S=>8,λb o e n Y S=>8,λb o e n S=>8,λb o e S=>8,λb xs e=>tups b xs<|I.base.tups b xs e,λb o xs e=>frzs b o xs<|I.base.frzs b o xs e,λb ps e=>8],8,λx c e=>8,8,λx c e=>8,λp B=>8,hok,I.len]
 .show keep b o (y b o e) Y (t b o e S) (I.base.keep b o e n Y S)<|I.base.free b o e n S
 .let#[sl,T]:=I.base.slot b o e n Y S;let#[A,J]:=slot b _ (y b o e) Y (t b o e S) T<|I.base.free b o e n S;show#[A,J]
 .let#[o',T]:=I.base.there b o e S;show free b o' (t b o e S) T<|I.base.free b o e n S
 .let#[o',T]:=I.base.there b o e S;show there b o' (t b o e S) T
 .let#[m1,T]:=I.base.tbls b ps e;let#[m2,J]:=tbls b _ T;show#[m1++m2,by rw[J,Array.append_assoc]]
 .let#[m,K,hl]:=I.loc;show#[m,ns m K,λi x v T J W=>8];let#[u,r,l]:=hl i x v T J W;show#[u,r,8];rcases l with l|⟨k,c,e,z⟩
  .show .inl l
  .show .inr #[k,c,e,h x c e _ z]
 .let#[v,z]:=I.cell x c e;show#[v,h x c e v z]
 .obtain⟨m,⟨o,_,_,f,_⟩,_⟩:=I.loc;show free _ o (λz=>(a _ z).2.1 rfl) f I.free
 .let#[v,o,f,hd]:=I.cell x c e;show free c o (λz=>(a c z).2.2.1 x c e rfl) f<|I.freeC x c e
 .let#[e,n,ne,g,d]:=I.pin p B;let j:p.1∉ch:=λz=>(a p.1 z).2.2.2 p B rfl;show#[keep p.1 p.2 ne g j e n,free p.1 p.2 j e n,ne,g,d]
theorem Inv.un{t':Nat}(I:Inv X af Z H s)(u:Un X.fs [] H H' s.heap h')(hok:cZ X.prog X.w H' h'):Inv X af Z H' {s with heap:=h',toks:=t'}:=by
 obtain⟨m,⟨o,es,ep,f,r⟩,_⟩:=id I.loc;let#[sl,C]:=u.any f I.free 6;show I.step (g':=s.gens) (d':=s.drawn) (ch:=[]) (λ_ z=>nomatch z) (λb o _ W _ e n=>u.keep b o e n W<|6) (λb o _ W _ e n=>u.slot b o e n W<|6) (λb o _ e n=>u.free b o e n<|6) (λb o _ e=>u.there b o e<|6) u.tups u.frzs u.tbls (λq J=>by
  let#[o',d,Y,E,g]:=J;rw[f]at E;ext E;show#[_,d,Y,C,g]) hok I.bare
theorem Inv.call{g':Array GenState}{t':Nat}{d':Drawn}{ch:↑Ao}(I:Inv X af Z H s)(u:Un (iI X.stack) ch H H' s.heap h')(hok:cZ X.prog X.w H' h')(hg:Qy g')(a:∀b∈ch,(b∈X.ex\/⇑X.s₀<=b)/\b≠X.env.locals/\(∀x c,X.env.cells.lookup x=-c->c≠b)/\∀p∈X.pn++af,p.1≠b):
  Inv X af Z H' {s with heap:=h',gens:=g',drawn:=d',toks:=t'}:=by
 obtain⟨m,⟨o,es,ep,f,r⟩,_⟩:=id I.loc;let#[sl,C]:=u.any f I.free λz=>(a _ z).2.1 rfl;show I.step (ch:=ch) a (λb o C W hc e n=>u.keep b o e n (λz=>(Bd.mp<|I.stkSub b z).elim C W) hc) (λb o _ _ hc e n=>u.any e n hc) (λb o hc e n=>u.free b o e n hc) (λb o hc e=>u.there b o e hc) u.tups u.frzs u.tbls (λq J=>by
  let#[o',d,Y,E,g]:=J;rw[f]at E;ext E;show#[_,d,Y,C,g]) hok hg
theorem Inv.turned{t':Nat}{it:Ao}(I:Inv X af Z H s)(k:∀b o,b≠it->s.heap.get? b=-o->h'.get? b=-o)(K:H it=ae)(C:it≠X.env.locals)(h1:it∈X.ex\/⇑X.s₀<=it)(h2:∀x c,X.env.cells.lookup x=-c->c≠it)(O:∀p∈X.pn++af,p.1≠it):Inv X af Z H {s with heap:=h',toks:=t'}:=by
 let a:∀b u,H b=-u->b≠it:=λb u e z=>by rw[z,K]at e;ext e
 show I.step (g':=s.gens) (d':=s.drawn) (ch:=[it]) (λb Y=>8) (λb o _ _ hc e _=>k b o (λz=>hc<|by simp[z]) e) (λb o _ _ hc e _=>#[o.slots,k b o (λz=>hc<|by simp[z]) e]) (λ_ _ _ _ n=>n)
  (λb o hc e=>#[o,k b o (λz=>hc<|by simp[z]) e]) (λ_ _ e=>e) (λ_ _ _ e=>e) (λb ps e=>#[#[],by rw[e];simp]) (λm J=>8) (λb u e=>8) I.bare
 .let e:b=it:=by simpa using Y
  subst e;show#[h1,C,h2,O]
 .let#[o,es,ep,f,r]:=J;show#[o,es,ep,k _ o (Cs C) f,r]
 .show(I.hok b u e).stay (λc v hc q=>k c v 8 q) (λ_ q=>q) λ_ _ q=>q;rcases hc with z|z
  .rw[z];show a b u e
  .show a c _ z
theorem Inv.tok(I:Inv X af Z H s)(t:Nat):Inv X af Z H {s with toks:=t}:=I.un (h':=s.heap) (t':=t) Un.refl I.hok
theorem Inv.kept{t':Nat}(I:Inv X af Z H s)(k:∀b u,s.heap.get? b=-u->h'.get? b=-u):Inv X af Z H {s with heap:=h',toks:=t'}:=I.un (Un.kept k)<|I.hok.kept k
theorem Inv.laid{t':Nat}(I:Inv X af Z H s)(k:∀b u,s.heap.get? b=-u->h'.get? b=-u)(B:⇑s<=a)(new:b9 X.prog X.w (aK H a o) h' a o):
  Inv X af Z (aK H a o) {s with heap:=h',toks:=t'}:=I.un (Un.laid k B<|I.hok.fresh B) (I.hok.laid k B new)
theorem Inv.write{t':Nat}(I:Inv X af Z H s)(f:rD<|H x)(P:e=x\/H e=-.own x)(k:∀b u,b≠e->s.heap.get? b=-u->h'.get? b=-u)(g:∃u,h'.get? e=-u)(new:b9 X.prog X.w (aK H x o) h' x o):Inv X af Z (aK H x o) {s with heap:=h',toks:=t'}:=I.un (Un.write f P k g)<|I.hok.write f P k g new
theorem Inv.pins_of(I:Inv X af Z H s)(h:∀p∈a,s.heap.get? p.1=-p.2/\H p.1=ae/\p.1≠X.env.locals/\p.1∉X.fs/\∀v,p.2.data≠.cell v):Inv X a Z H s:=
 #[I.ok,I.os,I.bare,I.base,I.loc,I.cell,I.free,I.freeC,λp B=>(Az.mp B).elim (λz=>I.pin p<|Bf _ z)<|h p,I.hok,I.len]
theorem DG{N:↑Av}(f:N.Nodup){i j:Nat}{x:Av}(a:N[i]? = aa x)(b:N[j]? = aa x):i=j:=by
 let#[h1,T]:=An.mp a;let#[h2,J]:=An.mp b;show(List.getElem_inj f).mp<|T.trans J.symm
theorem DH{M:Model}{A:Cw}{E:Value->Ai->Prop}{i:Nat}{x:Av}{v:V}{u:Value}{Q:Unit->Ai->Prop}(I:Inv X af Z H s)(f:X.N.Nodup)(hi:X.N[i]? = aa x)(S:Loc X.env.scope x)(r:RelV v u)(h:∀C,Inv X af (Z.set i<|-v) H C->(∃a,Fd a s.heap C.heap/\(a=X.env.locals\/X.env.cells.lookup x=-a))->Q () C)(hf:Fy X x:=by first|exact .inl rfl|exact .inr rfl|assumption):Bm M A (storeName X.env x u) Q E s:=by
 let#[m,K,hl]:=id I.loc;let hcls:(X.env.scope.kind==.class||(X.env.scope.kind==.module&&X.env.locals !=X.env.globals))=ac:=by rw[I.ok.kind];rfl
 let hiσ:i<↥Z:=by rw[I.len];show(An.mp hi).1
 let cne:=I.cne;let G:∀{a:Ao} {h':Cz},(∃o,s.heap.get? a=-o/\H a=ae)->Fd a s.heap h'->cZ X.prog X.w H h':=λ{a h'} D l b ob e=>by
  let#[_,_,t]:=D;show(I.hok b ob e).stay (λc L hc q=>(l.2 c 8).trans q) (λ_ q=>q) λ_ _ q=>q;rintro rfl;rcases hc with rfl|hc
  .rw[t]at e;ext e
  .rw[t]at hc;ext hc
 rcases S with hk|hk
 .show wpAny_storeName_local hk K (λh' hn' l=>8) hcls;let#[oL,_,_,hoL,_]:=id K;show h _ #[I.ok,I.os,I.bare,#[λb o e n N S=>8,λb o e n N S=>8,I.base.free,λb o e S=>8,I.base.tups,I.base.frzs,I.base.tbls],#[_,hn',λj y v' T J W=>8],λy c e=>8,I.free,I.freeC,λp B=>8,G #[oL,hoL,I.free] l,by simpa using I.len] #[_,l,.inl rfl]
  .show(l.2 b<|Bw<|Ca (Ba e) I.ok.above).trans<|I.base.keep b o e n N S
  .let#[sl,T]:=I.base.slot b o e n N S;show#[sl,(l.2 b<|Bw<|Ca (Ba e) I.ok.above).trans T]
  .let#[o',T]:=I.base.there b o e S;show#[o',(l.2 b<|Bw<|Ca (Ba e) I.ok.above).trans T]
  .by_cases F:j=i
   .subst F;rw[hi]at T;ext T;rw[List.getElem?_set_self hiσ]at J;ext J;show#[u,r,.inl #[hk,6]]
   .rw[List.getElem?_set_ne<|Cs F]at J;let#[U,g,q]:=hl j y v' T J W;show#[U,g,8];rcases q with⟨k,e⟩|⟨k,c,e,z⟩
    .show .inl #[k,8];have:y≠x:=λe=>F<|DG f T<|e▸hi;simp[this,e]
    .show .inr #[k,c,e,z.sameBut l<|cne y c e]
  .let#[L,z]:=I.cell y c e;show#[L,z.sameBut l<|cne y c e]
  .let#[e,n,ne,nf,d]:=I.pin p B;show#[(l.2 p.1 ne).trans e,n,ne,nf,d]
 .let hfn:X.fn x=ab:=by
   rcases hf with z|z
   .show z
   .rw[z]at hk;ext hk
  let#[c,hc]:=I.ok.has x<|.inl hk;let#[L,z]:=I.cell x c hc;show wpAny_storeName_cell I.ok.kind hk hc z λh' hc' l=>8;let#[oc,O,hocd]:=id z;show h (s<&>h') #[I.ok,I.os,I.bare,#[λb o e n N S=>8,λb o e n N S=>8,I.base.free,λb o e S=>8,I.base.tups,I.base.frzs,I.base.tbls],#[m,K.sameBut l<|Cs<|cne x c hc,λj y v' T J W=>8],λy P e=>8,I.free,I.freeC,λp B=>8,G #[oc,O,I.freeC x c hc] l,by simpa using I.len] #[c,l,.inr hc]
  .show(l.2 b<|Bw<|Ca (Ba e)<|I.ok.cab x c hfn hc).trans<|I.base.keep b o e n N S
  .let#[sl,T]:=I.base.slot b o e n N S;show#[sl,(l.2 b<|Bw<|Ca (Ba e)<|I.ok.cab x c hfn hc).trans T]
  .let#[o',T]:=I.base.there b o e S;show#[o',(l.2 b<|Bw<|Ca (Ba e)<|I.ok.cab x c hfn hc).trans T]
  .by_cases F:j=i
   .subst F;rw[hi]at T;ext T;rw[List.getElem?_set_self hiσ]at J;ext J;show#[u,r,.inr #[.inl hk,c,hc,hc']]
   .rw[List.getElem?_set_ne<|Cs F]at J;let#[U,g,q]:=hl j y v' T J W;show#[U,g,8];rcases q with q|⟨k,P,e,z'⟩
    .show .inl q
    .show .inr #[k,P,e,z'.sameBut l 8];rintro rfl;show F<|DG f T<|I.ok.inj _ _ _ e hc▸hi
  .by_cases hcc:P=c
   .subst hcc;show#[_,hc']
   .let#[w2,Y]:=I.cell y P e;show#[w2,Y.sameBut l hcc]
  .let#[e,n,ne,nf,d]:=I.pin p B;show#[(l.2 p.1 8).trans e,n,ne,nf,d];intro q;rw[q,O]at e;let R:oc=p.2:=Cm e;show d L (by rw[<-R];show hocd)
theorem DI{E:Value->Ai->Prop}{i:Nat}{Q:Unit->Ai->Prop}(I:Inv X af Z H s)(a:X.N.Nodup)(hi:X.N[i]? = aa x)(S:Loc X.env.scope x)(r:RelV v u)(h:∀C,Inv X af (Z.set i<|-v) H C->Q () C)(hf:Fy X x:=by first|exact .inl rfl|exact .inr rfl|assumption):Bm M A (storeName X.env x u) Q E s:=
 DH I a hi S r (λC w _=>h C w) hf
theorem Inv.call'(I:Inv X af Z H s)(f:M.os=s.os)(u:Un (iI X.stack) ch H H' s.heap M.heap)(hok:cZ X.prog X.w H' M.heap)(hg:Qy M.gens)(a:∀b∈ch,(b∈X.ex\/⇑X.s₀<=b)/\b≠X.env.locals/\(∀x c,X.env.cells.lookup x=-c->c≠b)/\∀p∈X.pn++af,p.1≠b):Inv X af Z H' M:=by
 let#[h',g',d',t',o']:=M;let e:o'=s.os:=f;subst e;show I.call (g':=g') (t':=t') (d':=d') u hok hg a
end
abbrev XK:=Value->Option Ao->Hp->Prop
abbrev St:=↑(Option V)
abbrev VK:=V->Hp->Prop
abbrev TE:=St->Hp->VK->Prop
abbrev TT:=St->Hp->(Bool->Hp->Prop)->Prop
abbrev TA:=St->Hp->(↑V->Hp->Prop)->Prop
structure lK where
 nx:St->Hp->Prop
 rt:VK
 bk:St->Hp->Prop:=λ_ _=>False
 ct:St->Hp->Prop:=λ_ _=>False
abbrev TS:=lK->St->Hp->Prop
def EP(X:Cx)(af:Pn)(Z:St)(Q:VK)(u:Value)(M:Ai):Prop:=∃v L,Inv X af Z L M/\RelV v u/\Q v L
def TP(X:Cx)(af:Pn)(Z:St)(Q:Bool->Hp->Prop)(b:Bool)(M:Ai):Prop:=∃L,Inv X af Z L M/\Q b L
def AP(X:Cx)(af:Pn)(Z:St)(Q:↑V->Hp->Prop)(us:↑Value)(M:Ai):Prop:=∃vs L,Inv X af Z L M/\a6 vs us/\Q vs L
def SP(X:Cx)(af:Pn)(D:lK)(f:Flow)(M:Ai):Prop:=
 match f with
 | .next=>∃c L,Inv X af c L M/\D.nx c L
 | .brk=>∃c L,Inv X af c L M/\D.bk c L
 | .cont=>∃c L,Inv X af c L M/\D.ct c L
 | .ret u=>∃v c L,Inv X af c L M/\RelV v u/\D.rt v L
def PE(X:Cx)(e:Ck)(t:TE):Prop:=
 ∀(af:Pn) (s:Ai) (Z:St) (H:Hp) (Q:VK),Inv X af Z H s->t Z H Q->X.a (Ff e X.env) (EP X af Z Q) X.xe s
def PT(X:Cx)(e:Ck)(t:TT):Prop:=
 ∀(af:Pn) (s:Ai) (Z:St) (H:Hp) (Q:Bool->Hp->Prop),Inv X af Z H s->t Z H Q->X.a (Wj e X.env<|Ff e X.env) (TP X af Z Q) X.xe s
def PW(X:Cx)(e:Ck)(t:TT):Prop:=
 ∀(whole:Uw Value) (af:Pn) (s:Ai) (Z:St) (H:Hp) (Q:Bool->Hp->Prop),Inv X af Z H s->t Z H Q->X.a (Wj e X.env whole) (TP X af Z Q) X.xe s
def PW.pt(h:PW X e t):PT X e t:=h _
def PA(X:Cx)(es:↑Ck)(t:TA):Prop:=
 ∀(pos:Ja) (af:Pn) (s:Ai) (Z:St) (H:Hp) (Q:↑V->Hp->Prop),Inv X af Z H s->t Z H Q->X.a (spliced<|Og pos<|Cr es X.env) (AP X af Z Q) X.xe s
def PS(X:Cx)(st:Kt)(t:TS):Prop:=
 ∀(af:Pn) (s:Ai) (Z:St) (H:Hp) (D:lK),Inv X af Z H s->t D Z H->X.a (exec st X.env) (SP X af D) X.xe s
def fT(X:Cx)(st:↑Kt)(t:TS):Prop:=
 ∀(af:Pn) (s:Ai) (Z:St) (H:Hp) (D:lK),Inv X af Z H s->t D Z H->X.a (execs st X.env) (SP X af D) X.xe s
def aY{g:Type}{t:Uw g}{Q j:g->Ai->Prop}{M:Model}{A:Cw}{E:Value->Ai->Prop}{s:Ai}(h:Bm M A t Q E s)(H:∀a s,Q a s->j a s):Bm M A t j E s:=Ir h H λ_ _ x=>x
section
variable {X:Cx}
def P5(i:Nat):TE:=λZ H Q=>∃v,Z[i]? = aa (-v)/\Q v H
def tC(v:V):TE:=λ_ H Q=>Q v H
def DJ{i:Nat}(a:X.N[i]? = aa x)(T:tV X.env.scope x)(hd:Db x:=by decide)(z:(x==("__classdict__" : Av))=ac:=by decide):PE X (.Name x pos) (P5 i):=by
 intro af s Z H Q I h;let#[v,e,h]:=h;let#[m,K,hl]:=I.loc;let#[u,r,l]:=hl i x v a e T;let fin:EP X af Z Q u s:=#[v,H,I,r,h];rcases l with⟨hk,J⟩|⟨hk,c,hc,b⟩
 .show Xc (wpAny_loadName_local I.ok.kind hk K J fin) hd
 .rcases hk with hk|hk
  .show Xc (wpAny_loadName_cell I.ok.kind hk hc b fin) hd
  .show Xc (wpAny_loadName_free I.ok.kind hk hc b fin z) hd
def P6{i j pos}:PE X (.Constant (¬i) j pos) (tC ¬i):=λ_ _ _ H _ I h=>wpAny_Constant_int #[¬i,H,I.tok _,#[_,7],h]
def P7{b j pos}:PE X (.Constant (.bool b) j pos) (tC<|.bl b):=λ_ _ _ H _ I h=>Constant_bool #[.bl b,H,I,7,h]
def P8{x j pos}:PE X (.Constant (.str x) j pos) (tC<|.str x):=λ_ _ _ H _ I h=>Calls.Constant_str #[.str x,H,I.tok _,#[_,7],h]
def Gl(X:Cx)(x:Av):Prop:=X.env.kindOf x=-.globalImplicit
def tW{E:Value->Ai->Prop}{Q:Value->Ai->Prop}(I:Inv X af Z H s)(hg:Gl X x)(J:X.mg x=-u)(h:Q u s)(hd:Db x:=by decide):X.a (Ff (.Name x pos) X.env) Q E s:=
 Calls.Name_function_global I.ok.kind hg (Calls.loadGlobal_global (by rw[I.ok.glob];show I.mod.glob.keeps I.bk) J h) hd
def gO{E:Value->Ai->Prop}{Q:Value->Ai->Prop}(I:Inv X af Z H s)(hg:Gl X x)(J:X.mg x=ae)(c:Cy x=-u)(h:Q u s)(K:x≠"__name__":=by decide)(hd:Db x:=by decide):X.a (Ff (.Name x pos) X.env) Q E s:=by
 let#[R,L,Y]:=I.mod.blt;show Calls.Name_function_global I.ok.kind hg (Calls.loadGlobal_builtin (by rw[I.ok.glob];show I.mod.glob.keeps I.bk) J (by rw[I.ok.blt];show L.keeps I.bk) ((Y x K).trans c) h) hd
def P9(hg:Gl X x)(J:X.mg x=-u)(r:RelV v u)(hd:Db x:=by decide):PE X (.Name x pos) (tC v):=
 λ_ _ _ H _ I h=>tW I hg J #[v,H,I,r,h] hd
def QA(hg:Gl X x)(J:X.mg x=ae)(c:Cy x=-u)(r:RelV v u)(K:x≠"__name__":=by decide)(hd:Db x:=by decide):PE X (.Name x pos) (tC v):=
 λ_ _ _ H _ I h=>gO I hg J c #[v,H,I,r,h] K hd
variable {a b:Ck}{ta tb:TE}{pos:Ja}
variable {tA tB':TT}{rest:↑Ck}
def QB(t u:TT):TT:=λZ H Q=>t Z H λc B=>if c=ab then u Z B Q else Q ac B
def QC(t u:TT):TT:=λZ H Q=>t Z H λc B=>if c=ab then Q ab B else u Z B Q
def QD(t:TT):TT:=λZ H Q=>t Z H λc B=>Q (!(c)) B
def QE(S:PT X a tA):PW X (.BoolOp .And [a] pos) tA:=by
 intro d af s Z H Q I h;show isTrue_and<|aY (S af s Z H Q I h) λc s1 e=>8;cases c with
 | true=>show isTrue_and_nil e
 | false=>show e
def QF(S:PT X a tA):PW X (.BoolOp .Or [a] pos) tA:=by
 intro d af s Z H Q I h;show isTrue_or<|aY (S af s Z H Q I h) λc s1 e=>8;cases c with
 | false=>show isTrue_or_nil e
 | true=>show e
def QG(S:PT X a tA)(Y:PW X (.BoolOp .And (b::rest) pos) tB'):PW X (.BoolOp .And (a::b::rest) pos) (QB tA tB'):=by
 intro d af s Z H Q I h;show isTrue_and<|aY (S af s Z H _ I h) λc s1 V=>8;let#[B,g,C]:=V;cases c with
 | true=>show Y d af s1 Z B Q g C
 | false=>show#[B,g,C]
def QH(S:PT X a tA)(Y:PW X (.BoolOp .Or (b::rest) pos) tB'):PW X (.BoolOp .Or (a::b::rest) pos) (QC tA tB'):=by
 intro d af s Z H Q I h;show isTrue_or<|aY (S af s Z H _ I h) λc s1 V=>8;let#[B,g,C]:=V;cases c with
 | true=>show#[B,g,C]
 | false=>show Y d af s1 Z B Q g C
def QI(S:PT X a tA):PT X (.UnaryOp .Not a pos) (QD tA):=by
 intro af s Z H Q I h;show isTrue_not<|S af s Z H (λc B=>Q (!(c)) B) I h
def QJ(ta tb:TE):TE:=λZ H Q=>ta Z H λx B=>∃c,x=.bl c/\if c=ab then tb Z B Q else Q (.bl ac) B
def QK(ta tb:TE):TE:=λZ H Q=>ta Z H λx B=>∃c,x=.bl c/\if c=ab then Q (.bl ab) B else tb Z B Q
def QL{op}(h:PE X a t):PE X (.BoolOp op [a] pos) t:=λaf s Z H Q I hw=>BoolOp_one<|h af s Z H Q I hw
def QM(S:PE X a ta)(Y:PE X (.BoolOp .And (b::rest) pos) tb):PE X (.BoolOp .And (a::b::rest) pos) (QJ ta tb):=by
 intro af s Z H Q I h;show BoolOp_and<|aY (S af s Z H _ I h) λv s1 V=>8;let#[x,B,g,F,C]:=V;let#[c,rfl,C]:=C;ext F;show Ib 8;cases c with
 | true=>show Y af s1 Z B Q g C
 | false=>show#[.bl ac,B,g,7,C]
def QN(S:PE X a ta)(Y:PE X (.BoolOp .Or (b::rest) pos) tb):PE X (.BoolOp .Or (a::b::rest) pos) (QK ta tb):=by
 intro af s Z H Q I h;show BoolOp_or<|aY (S af s Z H _ I h) λv s1 V=>8;let#[x,B,g,F,C]:=V;let#[c,rfl,C]:=C;ext F;show Ib 8;cases c with
 | false=>show Y af s1 Z B Q g C
 | true=>show#[.bl ab,B,g,7,C]
def QO(t:TT)(ta tb:TE):TE:=λZ H Q=>t Z H λc B=>if c=ab then ta Z B Q else tb Z B Q
def QP{c:Ck}(hc:PT X c tA)(S:PE X a ta)(Y:PE X b tb):PE X (.IfExp c a b pos) (QO tA ta tb):=by
 intro af s Z H Q I h;show wpAny_IfExp<|aY (hc af s Z H _ I h) λd s1 V=>8;let#[B,g,C]:=V;cases d with
 | true=>show S af s1 Z B Q g C
 | false=>show Y af s1 Z B Q g C
end
def bO(K:Ac)(H:Hp)(a:Ao)(xs:↑V):Prop:=
 Rd H a (.lst xs)\/
  ∃(o:Nh) (its:Array Value) (n:Nat),K.lookup a=-o/\o.cls=.type "list"/\o.dict=ae/\o.data=.seq its n/\its.size<=Aw/\a6 xs its.toList
def bJ(K:Ac)(H:Hp)(a:Ao)(xs:↑V):Prop:=
 Rd H a (.tup xs)\/
  ∃(o:Nh) (its:Array Value) (n:Nat),K.lookup a=-o/\o.cls=.type "tuple"/\o.data=.seq its n/\its.size<=Aw/\a6 xs its.toList
noncomputable def QS:Value->Option V
 | .none=>-.non
 | .bool b=>-.bl b
 | .int i _=>-¬i
 | .str x _=>-.str x
 | .bytes b _=>-.byt b
 | .float b _=>-.flt b
 | .ref a=>-!a
 | .type n=>-.ty n
 | _=>ae
def RelV.abs(r:RelV x u):QS u=-x:=by
 cases x with
 | non=>ext r;rfl
 | bl _=>ext r;rfl
 | int _=>let#[t,rfl]:=r;rfl
 | str _=>let#[t,rfl]:=r;rfl
 | byt _=>let#[t,rfl]:=r;rfl
 | flt _=>let#[t,rfl]:=r;rfl
 | ref _=>ext r;rfl
 | ty _=>ext r;rfl
def RelV.inj(r:RelV x u)(q:RelV y u):x=y:=Cm<|r.abs.symm.trans q.abs
def a6.inj:∀{xs ys:↑V} {us:↑Value},a6 xs us->a6 ys us->xs=ys:=by
 intro xs ys us h k
 induction h generalizing ys with
 | nil=>ext k;rfl
 | cons r t E=>
  cases k with
  | cons g t'=>rw[r.inj g,E t']
section
variable {X:Cx}{af:Pn}{Z:St}{H:Hp}{s:Ai}{a:Ao}{xs ys:↑V}
def bO.of{K:Ac}(h:H a=-.lst xs):bO K H a xs:=.inl<|.inl h
def bJ.of{K:Ac}(h:H a=-.tup xs):bJ K H a xs:=.inl<|.inl h
def Inv.list(I:Inv X af Z H s)(h:bO X.K H a xs):∃its:↑Value,a6 xs its/\PlainL s.heap a its.toArray/\↥xs<=Aw:=by
 rcases h with h|⟨o,its,n,hk,hc,hd,l,hz,r⟩
 .let#[z,its,n,r,e]:=h.ok I.hok;show#[its,r,#[_,n,e,7,7,7],z]
 .show#[its.toList,r,#[o,n,I.kIn a o hk,hc,hd,by simpa using l],8];let e:=↥r;simp only[Gk]at e;lia
def Inv.tuple(I:Inv X af Z H s)(h:bJ X.K H a xs):∃its:↑Value,a6 xs its/\IsTup s.heap a its.toArray/\↥xs<=Aw:=by
 rcases h with h|⟨o,its,n,hk,hc,l,hz,r⟩
 .let#[z,its,r,p]:=h.ok I.hok;show#[its,r,p,z]
 .show#[its.toList,r,#[o,I.kIn a o hk,hc,n,by simpa using l],8];let e:=↥r;simp only[Gk]at e;lia
def Inv.list_inj(I:Inv X af Z H s)(h:bO X.K H a xs)(h':bO X.K H a ys):xs=ys:=by
 obtain⟨its,r,⟨o,n,e,_,_,d⟩,_⟩:=I.list h;obtain⟨its',g,⟨D,l,O,_,_,d'⟩,_⟩:=I.list h';rw[e]at O;ext O;rw[d]at d';injection d' with d1 _;have:its=its':=by simpa using congrArg Array.toList d1
 subst this;show r.inj g
def Inv.tuple_inj(I:Inv X af Z H s)(h:bJ X.K H a xs)(h':bJ X.K H a ys):xs=ys:=by
 obtain⟨its,r,⟨o,e,_,n,d⟩,_⟩:=I.tuple h;obtain⟨its',g,⟨D,O,_,l,d'⟩,_⟩:=I.tuple h';rw[e]at O;ext O;rw[d]at d';injection d' with d1 _;have:its=its':=by simpa using congrArg Array.toList d1
 subst this;show r.inj g
end
noncomputable abbrev Cx.wish(X:Cx)(E:Value->Ai->Prop):Cx:={X with xe:=E}
noncomputable abbrev Cx.nox(X:Cx):Cx:=X.wish λ_ _=>False
def Cx.Ok.wish{X:Cx}(ok:X.Ok)(E:Value->Ai->Prop):(X.wish E).Ok:=
 #[ok.mod,ok.kind,ok.glob,ok.blt,ok.above,ok.inj,ok.has,ok.cab,ok.hd,ok.frames,ok.stk,ok.exf,ok.bs,ok.bsz,ok.noex,ok.exfs,ok.funs,ok.frf]
def Cx.Ok.unwish{X:Cx}{E:Value->Ai->Prop}(ok:(X.wish E).Ok):X.Ok:=
 #[ok.mod,ok.kind,ok.glob,ok.blt,ok.above,ok.inj,ok.has,ok.cab,ok.hd,ok.frames,ok.stk,ok.exf,ok.bs,ok.bsz,ok.noex,ok.exfs,ok.funs,ok.frf]
section
variable {X:Cx}{af:Pn}{Z:St}{H:Hp}{s:Ai}{E:Value->Ai->Prop}
def Inv.wish(I:Inv X af Z H s)(E:Value->Ai->Prop):Inv (X.wish E) af Z H s:=#[I.ok.wish E,I.os,I.bare,I.base,I.loc,I.cell,I.free,I.freeC,I.pin,I.hok,I.len]
def Inv.unwish(I:Inv (X.wish E) af Z H s):Inv X af Z H s:=#[I.ok.unwish,I.os,I.bare,I.base,I.loc,I.cell,I.free,I.freeC,I.pin,I.hok,I.len]
def SP.unwish(h:SP (X.wish E) af D f s'):SP X af D f s':=by
 cases f with
 | next=>let#[σ',H',I,q]:=h;show#[σ',H',I.unwish,q]
 | brk=>let#[σ',H',I,q]:=h;show#[σ',H',I.unwish,q]
 | cont=>let#[σ',H',I,q]:=h;show#[σ',H',I.unwish,q]
 | ret u=>let#[v,σ',H',I,r,q]:=h;show#[v,σ',H',I.unwish,r,q]
def fT.nox{st:↑Kt}{t:TS}(h:fT X.nox st t):fT X st t:=λaf s Z H D I hw=>
 Ir (h af s Z H D (I.wish _) hw) (λ_ _ q=>q.unwish) λ_ _ z=>Br z
end
section
variable {X:Cx}{st:Kt}{rest:↑Kt}{t u:TS}{e:Ck}{te:TE}{pos:Ja}
def QT:TS:=λD Z H=>D.nx Z H
def QU(t u:TS):TS:=λD Z H=>t {D with nx:=u D} Z H
def QV:fT X [] QT:=λ_ _ Z H _ I h=>Ra #[Z,H,I,h]
def QW(h1:PS X st t)(h2:fT X rest u):fT X (st::rest) (QU t u):=by
 intro af s Z H D I h;show wpAny_execs_cons<|aY (h1 af s Z H {D with nx:=u D} I h) λf s1 q=>8;cases f with
 | next=>
  let#[σ',H',I',q]:=q;show h2 af s1 σ' H' D I' q
 | ret v=>show q
 | brk=>show q
 | cont=>show q
def QX(h1:PS X st t):fT X [st] t:=by
 intro af s Z H D I h;show wpAny_execs_cons<|aY (h1 af s Z H D I h) λf s1 q=>8;cases f with
 | next=>show Ra q
 | ret v=>show q
 | brk=>show q
 | cont=>show q
def Inv.quiet(I:Inv X af Z H s):interactive X.env=ac:=by simp[interactive,I.ok.kind]
def QY(te:TE):TS:=λD Z H=>te Z H λ_ B=>D.nx Z B
def QZ(P:PE X e te)(l:Nr e ae pos.line X.env=pure ac:=by rfl):PS X (.Expr e pos) (QY te):=by
 intro af s Z H D I h;show wpAny_Expr_any (aY (P af s Z H _ I h) λv s1 V=>by let#[x,B,g,F,C]:=V;show#[Z,B,g,C]) I.quiet l
def Q0(te:TE):TS:=λD Z H=>te Z H D.rt
def Q1(P:PE X e te):PS X (.Return (-e) pos) (Q0 te):=by
 intro af s Z H D I h;show wpAny_Return_some (aY (P af s Z H _ I h) λv s1 V=>by let#[x,B,g,F,C]:=V;show#[x,Z,B,g,F,C])
def Q2:TS:=λD _ H=>D.rt .non H
def Q3:PS X (.Return ae pos) Q2:=λ_ _ Z H _ I h=>wpAny_Return_none #[.non,Z,H,I,7,h]
def Q4(c:TT)(t u:TS):TS:=λD Z H=>c Z H λb B=>if b=ab then t D Z B else u D Z B
def Q6{c:Ck}{a b:↑Kt}{tc:TT}(hc:PT X c tc)(S:fT X a t)(Y:fT X b u):PS X (.If c a b pos) (Q4 tc t u):=by
 intro af s Z H D I h;show wpAny_If<|aY (hc af s Z H _ I h) λd s1 V=>8;let#[B,g,C]:=V;cases d with
 | true=>show S af s1 Z B D g C
 | false=>show Y af s1 Z B D g C
def Q7:TS:=λ_ _ _=>False
def Q8:PS X st Q7:=λ_ _ _ _ _ _ h=>h.elim
end
abbrev TG:=V->St->Hp->(St->Hp->Prop)->Prop
abbrev jX:=↑V->St->Hp->(St->Hp->Prop)->Prop
def PG(X:Cx)(b:Ck)(t:TG):Prop:=
 ∀(af:Pn) (s:Ai) (Z:St) (H:Hp) (v:V) (u:Value) (Q:St->Hp->Prop),Inv X af Z H s->RelV v u->t v Z H Q->
  X.a (Pq b X.env u) (λ_ M=>∃c L,Inv X af c L M/\Q c L) X.xe s
def iU(X:Cx)(ts:↑Ck)(t:jX):Prop:=
 ∀(af:Pn) (s:Ai) (Z:St) (H:Hp) (vs:↑V) (us:↑Value) (Q:St->Hp->Prop),Inv X af Z H s->a6 vs us->t vs Z H Q->
  X.a (assignInOrder ((Iu ts X.env).map (·.2)) us) (λ_ M=>∃c L,Inv X af c L M/\Q c L) X.xe s
abbrev tX:=V->V->V->Hp->(Hp->Prop)->Prop
def tY(X:Cx)(t:tX):Prop:=
 ∀(af:Pn) (s:Ai) (Z:St) (H:Hp) (o i v:V) (p c u:Value) (Q:Hp->Prop),Inv X af Z H s->RelV o p->RelV i c->RelV v u->t o i v H Q->
  X.a (Xk p c u) (λ_ M=>∃L,Inv X af Z L M/\Q L) X.xe s
section
variable {X:Cx}{pos:Ja}
def yG(i:Nat):TG:=λv Z H Q=>Q (Z.set i<|-v) H
def Q9{i:Nat}(a:X.N.Nodup)(hi:X.N[i]? = aa x)(S:Loc X.env.scope x)(hf:Fy X x:=by first|exact .inl rfl|exact .inr rfl|assumption):PG X (.Name x pos) (yG i):=by
 intro af s Z H v u Q I r h;show wpAny_assign_Name<|DI I a hi S r (λM w=>#[_,H,w,h]) hf
def RA:jX:=λvs Z H Q=>vs=[]/\Q Z H
def RB(t:TG)(u:jX):jX:=λvs Z H Q=>∃v r,vs=v::r/\t v Z H λc L=>u r c L Q
def RC:iU X [] RA:=by
 intro af s Z H vs us Q I r h;let#[e,h]:=h;subst e;ext r;show assignInOrder_nil #[Z,H,I,h]
def RD{e:Ck}{es:↑Ck}{t:TG}{u:jX}(L:PG X e t)(Y:iU X es u)(l:(Iu (e::es) X.env).map (·.2)=Pq e X.env::(Iu es X.env).map (·.2):=by rfl):iU X (e::es) (RB t u):=by
 intro af s Z H vs us Q I r h;let#[v,a,T,h]:=h;subst T;cases r with
 | cons r d=>
  rw[l];show assignInOrder_cons<|aY (L af s Z H _ _ _ I r h) λ_ s1 V=>8;let#[x,B,g,C]:=V;show Y af s1 x B _ _ Q g d C
def RE(K:Ac)(n:Nat)(t:jX):TG:=λv Z H Q=>∃a xs,v=!a/\bJ K H a xs/\↥xs=n/\t xs Z H Q
def RF{k:Nat}{n:Nat}(hc:X.calm=ab)(h:iU X es t)(V:↥(Iu es X.env)=n:=by rfl)(j:(Iu es X.env).findIdx? (·.1)=ae:=by rfl):PG X (.Tuple es k pos) (RE X.K n t):=by
 intro af s Z H v u Q I r hw;let#[a,xs,T,N,hl,hw]:=hw;subst T;ext r;let#[its,m,ht,hz]:=I.tuple N;show assign_Tuple_tuple (I.ok.hd hc) ht (by simp[V,<-hl,↥m]) j λh' S=>8;let g:Inv X af Z H (s<&>h'):=I.kept (t':=s.toks) λb o e=>S b o (Bw<|Ba e) e;show h af _ Z H xs _ Q g m⁻¹ hw
def RG(to a:TE)(t:tX):TG:=λv Z H Q=>to Z H λo B=>a Z B λi z=>t o i v z λE=>Q Z E
def RH{o i:Ck}{to a:TE}{t:tX}(f:PE X o to)(hi:PE X i a)(l:tY X t)(S:∀v,Pq (.Subscript o i pos) X.env v=(do
   let p <-Mc [v] (Ff o X.env)
   let c <-Mc [v,p] (Ff i X.env)
   Ry pos
   Mc [v,p,c] (Xk p c v)
   release [v,p,c] []):=by intro _;rfl):PG X (.Subscript o i pos) (RG to a t):=by
 intro af s Z H v u Q I r h;rw[S];show Aa<|Eg<|aY (f af s Z H _ I h) λp s1 V=>8;let#[x,B,g,F,C]:=V;show Aa<|Eg<|aY (hi af s1 Z B _ g C) λc n A=>8;let#[y,z,d,R,O]:=A;show Aa<|Ss<|Aa<|Eg<|aY (l af n Z z x y v p c u _ d F R r O) λ_ j Y=>8;let#[E,w,P]:=Y;show wpAny_release #[Z,E,w,P]
def tZ(te:TE)(g:TG):TS:=λD Z H=>te Z H λx B=>g x Z B D.nx
def RI{tg e:Ck}{te:TE}{g:TG}(P:PE X e te)(hg:PG X tg g)(l:swapsWithSole [tg] e pos.line X.env=pure ac:=by rfl)(hw:swappedStores [tg] e X.env=pure ae:=by rfl)(L:(Iu [tg] X.env).map (·.2)=[Pq tg X.env]:=by rfl):PS X (.Assign [tg] e pos) (tZ te g):=by
 intro af s Z H D I h;show wpAny_Assign_stores (aY (P af s Z H _ I h) λv s1 V=>8) l hw;let#[x,B,n,F,C]:=V;rw[L];show aY (hg af s1 Z B x v _ n F C) λ_ A q=>q
def RJ{i:Nat}{x:Av}{e:Ck}{te:TE}{b:Ja}(a:X.N.Nodup)(hi:X.N[i]? = aa x)(S:Loc X.env.scope x)(P:PE X e te)(l:Nr e (-.Name x b) pos.line X.env=pure ac:=by rfl)(hf:Fy X x:=by first|exact .inl rfl|exact .inr rfl|assumption):
  PS X (.Assign [.Name x b] e pos) (tZ te<|yG i):=by
 intro af s Z H D I h;show wpAny_Assign_Name (aY (P af s Z H _ I h) λv s1 V=>8) l;let#[y,B,g,F,C]:=V;show DI g a hi S F (λn d=>#[_,B,d,C]) hf
end
section
variable {X:Cx}{pos:Ja}
def RK(c:TT)(tb:TS):TS:=λD Z H=>∃W:Nat->St->Hp->Prop,(∃m,W m Z H)/\∀m Z H,W m Z H->
 c Z H λb B=>if b=ab then ∃N:St->Hp->Prop,(∀p L,N p L->∃q,q<m/\W q p L)/\tb {D with nx:=N,ct:=N,bk:=D.nx} Z B else D.nx Z B
def RL{c:Ck}{body:↑Kt}{tc:TT}{tb:TS}(hp:Wc X.m X.A X.env X.xe)(hc:PT X c tc)(hb:fT X body tb):PS X (.While c body [] pos) (RK tc tb):=by
 intro af s Z H D I h;obtain⟨W,⟨m0,w0⟩,turn⟩:=h;show wpAny_While<|codeAny_whileLoop (λn s'=>∃σ' H',Inv X af σ' H' s'/\W n σ' H') 8 m0 #[Z,H,I,w0];rintro n s1 ⟨σ1,H1,I1,w1⟩;show Kk hp<|aY (hc af s1 σ1 H1 _ I1<|turn n σ1 H1 w1) λb s2 z0=>8;let#[H2,I2,q2]:=z0;cases b with
 | true=>
  let#[N,hN,q2]:=q2;rw[Xu rfl];show Kk hp<|aY (hb af s2 σ1 H2 _ I2 q2) λf s3 q3=>8;cases f with
  | next=>
   let#[σ3,H3,I3,n3]:=q3;let#[m',hm,w3]:=hN σ3 H3 n3;show#[m',hm,σ3,H3,I3,w3]
  | cont=>
   let#[σ3,H3,I3,n3]:=q3;let#[m',hm,w3]:=hN σ3 H3 n3;show#[m',hm,σ3,H3,I3,w3]
  | brk=>show q3
  | ret v=>show q3
 | false=>
  rw[Xs Bb];show Ra #[σ1,H2,I2,q2]
end
structure It where
 go:Nat->Hp->Prop
 yld:Nat->Hp->V->Hp->Prop
 stop:Nat->Hp->Prop
def gP(X:Cx)(af:Pn)(H:Hp)(b:Ao):Prop:=
 H b=ae/\b≠X.env.locals/\b∉X.fs/\(b∈X.ex\/⇑X.s₀<=b)/\(∀x c,X.env.cells.lookup x=-c->c≠b)/\∀p∈X.pn++af,p.1≠b
def Inv.fpOk(I:Inv X af Z H s)(Y:⇑s<=b)(K:L b=ae):gP X af L b:=by
 show#[K,Dr<|Ca I.lt Y,I.nofs Y,.inr<|Am I.sz Y,λx c e z=>8,λp B z=>8]
 .let#[v,q]:=I.cell x c e;show absurd (Ca q.lt<|by rw[z];show Y)<|Jg _
 .show absurd (Ca (Ba (I.pin p B).1)<|by rw[z];show Y)<|Jg _
structure jB(P:Bc)(w:Bq)(K:Ac)(tg:Ck)(J:It)(fp:↑Ao)(it:Ao)(tn:Nat->Cz->Prop):Prop where
 mem:it∈fp
 obj:∀i h,tn i h->∀b∈fp,∃o,h.get? b=-o/\∀v,o.data≠.cell v
 keep:∀i h h',tn i h->(∀b∈fp,∀o,h.get? b=-o->h'.get? b=-o)->tn i h'
 item:∀(X:Cx),X.prog=P->X.w=w->X.K=K->X.calm=ab->∀(i:Nat) (af:Pn) (s:Ai) (Z:St) (H:Hp) (E:Value->Ai->Prop),Inv X af Z H s->(∀b∈fp,gP X af H b)->tn i s.heap->J.go i H->
  Bm (Cp P w) X.A (Ia !it) (λr s1=>∃u,r=-u/\
   Bm (Cp P w) X.A (Rf tg (!it) u) (λ_ s2=>∃x H',Inv X af Z H' s2/\RelV x u/\J.yld i H x H'/\tn (i+1) s2.heap/\∀b∈fp,H' b=ae) E s1) E s
 done:∀(X:Cx),X.prog=P->X.w=w->X.K=K->X.calm=ab->∀(i:Nat) (af:Pn) (s:Ai) (Z:St) (H:Hp) (E:Value->Ai->Prop),Inv X af Z H s->(∀b∈fp,gP X af H b)->tn i s.heap->J.stop i H->
  Bm (Cp P w) X.A (Ia !it) (λr s1=>r=ae/\Inv X af Z H s1) E s
 self:∀(A:Cw) (i:Nat) (s:Ai) (Q:Value->Ai->Prop) (E:Value->Ai->Prop),tn i s.heap->Q (!it) s->Bm (Cp P w) A (Qq !it) Q E s
abbrev TI:=St->Hp->(It->Hp->Prop)->Prop
def rE(X:Cx)(af:Pn)(Z:St)(tg:Ck)(R:It->Hp->Prop)(d:Value)(n:Ai):Prop:=
 ∃(it:Ao) (fp:↑Ao) (c:Nat->Cz->Prop) (J:It) (L:Hp),d=!it/\Inv X af Z L n/\jB X.prog X.w X.K tg J fp it c/\c 0 n.heap/\(∀b∈fp,gP X af L b)/\R J L
def PI(X:Cx)(tg b:Ck)(d:TI):Prop:=
 ∀(af:Pn) (s:Ai) (Z:St) (H:Hp) (R:It->Hp->Prop),Inv X af Z H s->d Z H R->
  X.a (Ff b X.env) (λv s1=>X.a (Qq v) (rE X af Z tg R) X.xe s1) X.xe s
def pG{E:Value->Ai->Prop}{Q:Unit->Ai->Prop}(f:s.heap.get? it=-o)(hc:o.cls=.type n)(hd:o.data=.fields vs)(K : ["enumerate","zip","dict_itemiterator","dict_reverseitemiterator","odict_iterator","itertools.zip_longest","itertools.pairwise"].contains n=ac)(H:Q () s):Bm M A (Rf tg (!it) u) Q E s:=by
 unfold Rf;cases tg<;>first
  | exact Ak H
  | (cases u<;>first
    | exact Ak H
    | (refine Aa (wpAny_load f 8)
       rw[hc,hd];change Bm M A (if (["enumerate","zip","dict_itemiterator","dict_reverseitemiterator","odict_iterator","itertools.zip_longest","itertools.pairwise"].contains n&&vs[0]?==-Ie _)=ab then _ else _) Q E s;rw[Xs<|by intro h;rw[K,Qn]at h;ext h];exact Ak H))
def pH(K:Ac)(a:Ao):It:=
 #[λi H=>∃xs x,bO K H a xs/\xs[i]? = aa x,λi H x L=>L=H/\∀xs,bO K H a xs->xs[i]? = aa x,λi H=>∃xs,bO K H a xs/\↥xs<=i]
def yH(K:Ac)(a:Ao):It:=
 #[λi H=>∃xs x,bJ K H a xs/\xs[i]? = aa x,λi H x L=>L=H/\∀xs,bJ K H a xs->xs[i]? = aa x,λi H=>∃xs,bJ K H a xs/\↥xs<=i]
def rF(lo:Int)(n:Nat):It:=#[λi _=>i<n,λi H x L=>L=H/\x=.int (lo+i),λi _=>n<=i]
theorem RM{P:Bc}{w:Bq}{K:Ac}{tg:Ck}(a it:Ao):jB P w K tg (pH K a) [it] it (λi h=>h.IsListIter it a i) where
 mem:=by simp
 obj:=λi h st b Y=>by
  let e:b=it:=by simpa using Y
  subst e;let#[o,e,c,d]:=st;show#[o,e,λv z=>by rw[d]at z;ext z]
 keep:=λi h h' st k=>st.at λo e=>k it 6 o e
 item:=by
  intro X M hw R hc i af s Z H E I hf st hg;subst M hw R;let#[xs,x,N,S]:=hg;let#[its,m,p,hz]:=I.list N;let#[u,D,ru]:=m.get S;let#[f0,F,y,L,J,O]:=hf it 6;show wpAny_pyNext_list_item st p.isList (x:=u) D⁻¹ λh' Q sb=>8;let g:Inv X af Z H (s<&>h'):=I.turned (t':=s.toks) (λb o Y e=>(sb.2 b Y).trans e) f0 F L J O;let#[o,e,c,d]:=id Q;show#[u,7,pG (s:=(s<&>h')) e c d ∅ #[x,H,g,ru,#[7,λys U=>by rw[I.list_inj U N];show S],Q,λb Y=>(hf b Y).1]]
 done:=by
  intro X M hw R hc i af s Z H E I hf st hg;subst M hw R;let#[xs,N,S]:=hg;let#[its,m,p,hz]:=I.list N;let#[f0,F,y,L,J,O]:=hf it 6;let hl:=↥m;show wpAny_pyNext_list_end (I.ok.hd hc) st p.isList (by simp;lia) λh' W=>#[7,I.turned (t':=s.toks) (λb o Y e=>W b o Y e) f0 F L J O]
 self:=λ_ _ _ _ _ st h=>wpAny_pyIter_listiter st h
theorem RN{P:Bc}{w:Bq}{K:Ac}{tg:Ck}(a it:Ao):jB P w K tg (yH K a) [it] it (λi h=>h.IsTupleIter it a i) where
 mem:=by simp
 obj:=λi h st b Y=>by
  let e:b=it:=by simpa using Y
  subst e;let#[o,e,c,d]:=st;show#[o,e,λv z=>by rw[d]at z;ext z]
 keep:=λi h h' st k=>st.at λo e=>k it 6 o e
 item:=by
  intro X M hw R hc i af s Z H E I hf st hg;subst M hw R;let#[xs,x,N,S]:=hg;let#[its,m,p,hz]:=I.tuple N;let#[u,D,ru]:=m.get S;let#[f0,F,y,L,J,O]:=hf it 6;show wpAny_pyNext_tuple_item st (show s.heap.IsTuple a its.toArray from p) (x:=u) D⁻¹ λh' Q sb=>8;let g:Inv X af Z H (s<&>h'):=I.turned (t':=s.toks) (λb o Y e=>(sb.2 b Y).trans e) f0 F L J O;let#[o,e,c,d]:=id Q;show#[u,7,pG (s:=(s<&>h')) e c d ∅ #[x,H,g,ru,#[7,λys U=>by rw[I.tuple_inj U N];show S],Q,λb Y=>(hf b Y).1]]
 done:=by
  intro X M hw R hc i af s Z H E I hf st hg;subst M hw R;let#[xs,N,S]:=hg;let#[its,m,p,hz]:=I.tuple N;let#[f0,F,y,L,J,O]:=hf it 6;let hl:=↥m;show wpAny_pyNext_tuple_end (I.ok.hd hc) st (show s.heap.IsTuple a its.toArray from p) (by simp;lia) λh' W=>#[7,I.turned (t':=s.toks) (λb o Y e=>W b o Y e) f0 F L J O]
 self:=λ_ _ _ _ _ st h=>wpAny_pyIter_tupleiter st h
theorem RO{P:Bc}{w:Bq}{K:Ac}{tg:Ck}(it:Ao)(lo:Int)(n:Nat):jB P w K tg (rF lo n) [it] it (λi h=>IsRangeIter h it (lo+(i:Nat)*1) ((n:Int)-(i:Nat)) 1) where
 mem:=by simp
 obj:=λi h st b Y=>by
  let e:b=it:=by simpa using Y
  subst e;show#[_,st,λv z=>by
   let A:Data.fields _=Data.cell v:=z;ext A]
 keep:=λi h h' st k=>k it 6 _ st
 item:=by
  intro X M hw R hc i af s Z H E I hf st hg;subst M hw R;let#[f0,F,y,L,J,O]:=hf it 6;let W:=Walks.range (prog:=X.prog) (w:=X.w) (I.ok.hd hc) it lo 1 n;show W.item i s _ _ hg st λv h' tk c Q kk=>8;let#[t,rfl]:=c;let g:Inv X af Z H {s with heap:=h',toks:=tk}:=I.turned (λb o Y e=>kk b o Y⁻¹ e) f0 F L J O;show#[_,7,pG (s:={s with heap:=h',toks:=tk}) (n:="range_iterator") Q rfl rfl ∅ #[.int<|lo+i,H,g,#[t,8],#[7,7],Q,λb Y=>(hf b Y).1]];rw[Int.mul_one]
 done:=by
  intro X M hw R hc i af s Z H E I hf st hg;subst M hw R;let#[f0,F,y,L,J,O]:=hf it 6;show wpAny_pyNext_range_end (I.ok.hd hc) st (by have:n<=i:=hg;lia) λh' d=>#[7,I.turned (t':=s.toks) (λb o Y e=>d b o Y e) f0 F L J O]
 self:=λ_ _ _ _ _ st h=>wpAny_pyIter_rangeiter st h
section
variable {X:Cx}{tg:Ck}
def DK{R:It->Hp->Prop}{E:Value->Ai->Prop}{lo hi:Int}{tk:Nat}(I:Inv X af Z H s)(L : -(2 ^ 62)<=lo)(Y:lo<2 ^ 62)(O : -(2 ^ 62)<=hi)(W:hi<2 ^ 62)(q:R (rF lo (hi-lo).toNat) H):X.a (Qq !⇑s) (rE X af Z tg R) E {s with heap:=s.heap.push {cls:=.type "range",data:=.fields [.int lo t,.int hi u,.int 1 v].toArray},toks:=tk}:=by
 show wpAny_pyIter_range (Vb ..) (small_one L Y O W) 8;let g:Inv X af Z H {s with heap:=s.heap.push {cls:=.type "range",data:=.fields [.int lo t,.int hi u,.int 1 v].toArray},toks:=tk}:=I.kept λb o e=>Af _ e;show#[(s.heap.push {cls:=.type "range",data:=.fields [.int lo t,.int hi u,.int 1 v].toArray}).objs.size,[(s.heap.push {cls:=.type "range",data:=.fields [.int lo t,.int hi u,.int 1 v].toArray}).objs.size],_,_,H,7,
  g.kept (t':=tk) λb o e=>Af _ e,RO _ lo (hi-lo).toNat,8,λb V=>8,q]
 .let T:lo+((0:Nat):Int)*1=lo:=by simp
  let J:(((hi-lo).toNat:Nat):Int)-((0:Nat):Int)=Il lo hi 1:=by rw[Vv];split<;>lia
  change IsRangeIter _ _ (lo+((0:Nat):Int)*1) ((((hi-lo).toNat:Nat):Int)-((0:Nat):Int)) 1;rw[T,J];show Ax _ rfl
 .let e:b=(s.heap.push {cls:=.type "range",data:=.fields [.int lo t,.int hi u,.int 1 v].toArray}).objs.size:=by simpa using V
  subst e;show g.fpOk (Aj _)<|g.hok.fresh<|Aj _
def RP(ta:TA):TI:=λZ H R=>ta Z H λvs B=>∃j:Int,vs=[¬j]/\-(2 ^ 62)<=j/\j<2 ^ 62/\R (rF 0 j.toNat) B
def RQ(ta:TA):TI:=λZ H R=>ta Z H λvs B=>∃i j:Int,vs=[¬i,¬j]/\(-(2 ^ 62)<=i/\i<2 ^ 62/\-(2 ^ 62)<=j/\j<2 ^ 62)/\R (rF i (j-i).toNat) B
def RS{a:Ck}{ta:TA}{p pos:Ja}(hg:Gl X "range")(J:X.mg "range" = ae)(S:PA X [a] ta)(l:Cr [a] X.env=[(ac,Ff a X.env)]:=by rfl):PI X tg (.Call (.Name "range" p) [a] [] pos) (RP ta):=by
 intro af s Z H R I h;show Call_<|gO I hg J boot_range<|Ce (aY (S pos af s Z H _ I h) λus s1 V=>8) l rfl;let#[vs,B,g,F,C]:=V;let#[j,e,C,O,q]:=C;subst e;cases F with
 | cons r d=>
  ext d;let#[t,rfl]:=r;show Wm<|DK g 9 9 C O q⁻¹
def RU{a b:Ck}{ta:TA}{p pos:Ja}(hg:Gl X "range")(J:X.mg "range" = ae)(S:PA X [a,b] ta)(l:Cr [a,b] X.env=[(ac,Ff a X.env),(ac,Ff b X.env)]:=by rfl)(L:Cr [b] X.env=[(ac,Ff b X.env)]:=by rfl):
  PI X tg (.Call (.Name "range" p) [a,b] [] pos) (RQ ta):=by
 intro af s Z H R I h;show Call_ (gO I hg J boot_range<|Ce (aY (S pos af s Z H _ I h) λus s1 V=>8) (by rw[l,L])<|by rw[L];rfl);let#[vs,B,g,F,C]:=V;obtain⟨i,j,e,⟨C,O,o,m⟩,q⟩:=C;subst e;cases F with
 | cons r d=>
  cases d with
  | cons D d=>
   ext d;let#[t,rfl]:=r;let#[t',rfl]:=D;show call_range_2<|DK g C O o m q
def RV(d:TI)(g:TG)(tb:TS):TS:=λD Z H=>d Z H λJ B=>∃W:Nat->Nat->St->Hp->Prop,(∃m,W 0 m Z B)/\∀i m Z H,W i m Z H->
 (J.stop i H/\D.nx Z H)\/(J.go i H/\∃N:St->Hp->Prop,(∀c L,N c L->∃q,q<m/\W (i+1) q c L)/\∀x L,J.yld i H x L->g x Z L λs z=>tb {D with nx:=N,ct:=N,bk:=D.nx} s z)
noncomputable def rG(fp:↑Ao)(h:Cz):Pn:=fp.filterMap λb=>(h.get? b).map λo=>(b,o)
def t5(Z:b∈fp)(e:h.get? b=-o):(b,o)∈rG fp h:=Lp.mpr #[b,Z,by rw[e];rfl]
def RW(B:p∈rG fp h):p.1∈fp/\h.get? p.1=-p.2:=by
 let#[b,Z,e]:=Lp.mp B;cases q:h.get? b with
 | none=>rw[q]at e;ext e
 | some o=>
  rw[q]at e;let O:(b,o)=p:=Cm e;subst O;show#[Z,q]
def Inv.pinned(I:Inv X af Z H s)(hf:∀b∈fp,gP X af H b)(f:∀b∈fp,∃o,s.heap.get? b=-o/\∀v,o.data≠.cell v):Inv X (af++rG fp s.heap) Z H s:=
 I.pins_of λp B=>(Az.mp B).elim (λz=>I.pin p<|Bo _ z) λz=>by
  let#[Y,e]:=RW z;let#[f0,F,y,_]:=hf p.1 Y;let#[o,O,d]:=f p.1 Y;rw[e]at O;ext O;show#[e,f0,F,y,d]
def Inv.unpinned(I:Inv X (af++pl) Z H s):Inv X af Z H s:=I.pins_of λp B=>I.pin p<|Bo _<|Bf _ B
def RX{iter:Ck}{body:↑Kt}{wi:TI}{g:TG}{tb:TS}{pos:Ja}(hp:Wc X.m X.A X.env X.xe)(hc:X.calm=ab)(hi:PI X tg iter wi)(hg:PG X tg g)(hb:fT X body tb)(hs:∀x,Jj iter X.env x=pure x:=by intro _;rfl):PS X (.For tg iter body [] pos) (RV wi g tb):=by
 intro af s Z H D I h;show wpAny_For (aY (hi af s Z H _ I h) λv s1 h1=>aY h1 λitv s2 h2=>8) hs;obtain⟨it,fp,tn,J,H2,e,I2,T,st2,f2,W,⟨m0,w0⟩,turn⟩:=h2;subst e;let stat:∀{H':Hp},(∀b∈fp,H' b=ae)->∀b∈fp,gP X af H' b:=λhn b hb=>#[hn b hb,(f2 b hb).2]
 show codeAny_forLoop_any (λn s'=>∃i σ' H',Inv X af σ' H' s'/\tn i s'.heap/\(∀b∈fp,H' b=ae)/\W i n σ' H') 8 m0 #[0,Z,H2,I2,st2,λb hb=>(f2 b hb).1,w0];rintro n s3 ⟨i,σ3,H3,I3,st3,fr3,w3⟩;rcases turn i n σ3 H3 w3 with⟨stop,qn⟩|⟨go,N,hN,step⟩
 .show Kk hp<|aY (T.done X rfl rfl rfl hc i af s3 σ3 H3 X.xe I3 (stat fr3) st3 stop) λr s4 z0=>8;let#[hr,I4]:=z0;subst hr;show Ra #[σ3,H3,I4,qn]
 .show Kk hp<|aY (T.item X rfl rfl rfl hc i af s3 σ3 H3 X.xe I3 (stat fr3) st3 go) λr s4 z1=>8;let#[u,hr,h4]:=z1;subst hr;show Kk hp<|aY h4 λ_ s5 z2=>8;let#[x,H5,I5,r5,y5,st5,fr5]:=z2;let I5':=I5.pinned (stat fr5)<|T.obj _ _ st5;show Kk hp<|aY (hg _ s5 σ3 H5 x u _ I5' r5<|step x H5 y5) λ_ s6 z3=>8;let#[σ6,H6,I6,q6]:=z3;show Kk hp<|aY (hb _ s6 σ6 H6 _ I6 q6) λf s7 q7=>8;let again:∀{σ7:St} {H7:Hp},Inv X (af++rG fp s5.heap) σ7 H7 s7->N σ7 H7->∃m,m<n/\∃i σ' H',Inv X af σ' H' s7/\tn i s7.heap/\(∀b∈fp,H' b=ae)/\W i m σ' H':=λ{σ7 H7} I7 n7=>by
   let#[m',hm,w7]:=hN σ7 H7 n7;show#[m',hm,i+1,σ7,H7,I7.unpinned,T.keep _ _ _ st5 λb hb o e=>(I7.pin (b,o)<|Bo _<|Bo _<|t5 hb e).1,λb hb=>8,w7];let#[o,e,d]:=T.obj _ _ st5 b hb;show(I7.pin (b,o)<|Bo _<|Bo _<|t5 hb e).2.1
  cases f with
  | next=>let#[σ7,H7,I7,n7]:=q7;show again I7 n7
  | cont=>let#[σ7,H7,I7,n7]:=q7;show again I7 n7
  | brk=>let#[σ7,H7,I7,q7]:=q7;show#[σ7,H7,I7.unpinned,q7]
  | ret v=>let#[x7,σ7,H7,I7,r7,q7]:=q7;show#[x7,σ7,H7,I7.unpinned,r7,q7]
end
abbrev R2:=V->V->Hp->VK->Prop
def bF(X:Cx)(f:Value->Value->Uw Value)(r:R2):Prop:=
 ∀(af:Pn) (s:Ai) (Z:St) (H:Hp) (x y:V) (v u:Value) (Q:VK),Inv X af Z H s->RelV x v->RelV y u->r x y H Q->
  X.a (f v u) (EP X af Z Q) X.xe s
def rH(X:Cx)(f:Value->Uw Value)(r:V->Hp->VK->Prop):Prop:=
 ∀(af:Pn) (s:Ai) (Z:St) (H:Hp) (x:V) (v:Value) (Q:VK),Inv X af Z H s->RelV x v->r x H Q->
  X.a (f v) (EP X af Z Q) X.xe s
def cM(X:Cx)(f:Value)(r:↑V->Hp->VK->Prop):Prop:=
 ∀(af:Pn) (s:Ai) (Z:St) (H:Hp) (xs:↑V) (us:↑Value) (Q:VK),Inv X af Z H s->a6 xs us->r xs H Q->
  X.a (call f us) (EP X af Z Q) X.xe s
def RY(X:Cx)(r:V->Hp->(Bool->Hp->Prop)->Prop):Prop:=
 ∀(af:Pn) (s:Ai) (Z:St) (H:Hp) (x:V) (v:Value) (Q:Bool->Hp->Prop),Inv X af Z H s->RelV x v->r x H Q->
  X.a (truthy v) (TP X af Z Q) X.xe s
def rJ(r:R2)(ta tb:TE):TE:=λZ H Q=>ta Z H λx B=>tb Z B λy z=>r x y z Q
def RZ(r:V->Hp->VK->Prop)(ta:TE):TE:=λZ H Q=>ta Z H λx B=>r x B Q
def rI(C:Int->Int->Prop)(g:Int->Int->V):R2:=λx y H Q=>∃i j,x=¬i/\y=¬j/\C i j/\Q (g i j) H
def kG(g:Int->Int->V):R2:=λx y H Q=>∃i j,x=¬i/\y=¬j/\Q (g i j) H
def rU(g:Int->V):V->Hp->VK->Prop:=λx H Q=>∃i,x=¬i/\Q (g i) H
section
variable {X:Cx}{a b c:Ck}{ta tb tc:TE}{pos:Ja}
def yI(S:PE X a ta)(W:PE X b tb){af:Pn}{s:Ai}{Z:St}{H:Hp}{R:V->V->Hp->Prop}(I:Inv X af Z H s)(h:ta Z H λx B=>tb Z B λy z=>R x y z){Q:Value->Ai->Prop}{f:Value->Value->Uw Value}(hf:∀v u n x y z,Inv X af Z z n->RelV x v->RelV y u->R x y z->X.a (f v u) Q X.xe n):
  X.a (Ff a X.env) (λv j=>X.a (Ff b X.env) (λu Y=>X.a (f v u) Q X.xe Y) X.xe j) X.xe s:=by
 show aY (S af s Z H _ I h) λv s1 m=>8;let#[x,B,g,F,C]:=m;show aY (W af s1 Z B _ g C) λu n A=>8;let#[y,z,i,U,O]:=A;show hf v u n x y z i F U O
def R0(f:bF X (Ez op) r)(S:PE X a ta)(Y:PE X b tb):PE X (.BinOp a op b pos) (rJ r ta tb):=by
 intro af s Z H Q I h;show wpAny_BinOp<|yI S Y I h λv u n x y z i B T q=>f af n Z z x y v u Q i B T q
def R1{op:UnaryOp}{r:V->Hp->VK->Prop}(f:rH X (Xj op) r)(S:PE X a ta):PE X (.UnaryOp op a pos) (RZ r ta):=by
 intro af s Z H Q I h;show UnaryOp_ (aY (S af s Z H _ I h) λv s1 m=>by let#[x,B,g,F,C]:=m;show f af s1 Z B x v Q g F C)
def pI{f:Value->Value->Uw Value}{C:Int->Int->Prop}{g:Int->Int->Int}(b:∀(i j:Int) (t u:Wq) (s:Ai) (Q:Value->Ai->Prop) (E:Value->Ai->Prop),C i j->Q (.int (g i j) s.toks) {s with toks:=s.toks+1}->X.a (f (.int i t)<|.int j u) Q E s):
  bF X f (rI C λi j=>¬g i j):=by
 intro af s Z H x y v u Q I B T h;let#[i,j,rfl,rfl,hc,q]:=h;let#[t,rfl]:=B;let#[t',rfl]:=T;show b i j t t' s _ _ hc #[¬g i j,H,I.tok _,#[_,7],q]
def yJ{f:Value->Value->Uw Value}{g:Int->Int->Int}(b:∀(i j:Int) (t u:Wq) (s:Ai) (Q:Value->Ai->Prop) (E:Value->Ai->Prop),Q (.int (g i j) s.toks) {s with toks:=s.toks+1}->X.a (f (.int i t)<|.int j u) Q E s):
  bF X f (kG λi j=>¬g i j):=by
 intro af s Z H x y v u Q I B T h;let#[i,j,rfl,rfl,q]:=h;let#[t,rfl]:=B;let#[t',rfl]:=T;show b i j t t' s _ _ #[¬g i j,H,I.tok _,#[_,7],q]
def t6{f:Value->Value->Uw Value}{g:Int->Int->Bool}(b:∀(i j:Int) (t u:Wq) (s:Ai) (Q:Value->Ai->Prop) (E:Value->Ai->Prop),Q (.bool<|g i j) s->X.a (f (.int i t)<|.int j u) Q E s):
  bF X f (kG λi j=>.bl<|g i j):=by
 intro af s Z H x y v u Q I B T h;let#[i,j,rfl,rfl,q]:=h;let#[t,rfl]:=B;let#[t',rfl]:=T;show b i j t t' s _ _ #[.bl<|g i j,H,I,7,q]
def pJ(i j:Int):Prop:=0<=j/\j<=1000000/\i.natAbs<2 ^ 64
def pK(i j:Int):Prop:=(-(2 ^ 64)<i/\i<2 ^ 64)\/(-(2 ^ 64)<j/\j<2 ^ 64)
def pK.ok{i j:Int}(h:pK i j):IntMulOk i j:=by
 rcases h with⟨L,Y⟩|⟨L,Y⟩
 .show .of_left<|intBits_le_64 L Y
 .show .of_right<|intBits_le_64 L Y
def R4(k:Nat):(0:Int)<=2 ^ (k):=by
 rw[two_pow_cast];show Lv _
def R5:bF X (Ez .Add) (kG λi j=>.int<|i+j):=yJ λ_ _ _ _ _ _ _ q=>add_int q
def R6:bF X (Ez .Sub) (kG λi j=>.int<|i-j):=yJ λ_ _ _ _ _ _ _ q=>sub_int q
def R7:bF X (Ez .Mult) (rI pK λi j=>.int<|i*j):=pI λ_ _ _ _ _ _ _ hc q=>mul_int q hc.ok
def R8:bF X (Ez .Mod) (rI (λ_ j=>0<j) λi j=>.int<|i % j):=pI λi j _ _ _ _ _ hc q=>by
 let L:(0:Int)<j:=hc;show mod_int' 9 (by rw[Int.fmod_eq_emod_of_nonneg i 9];show q)
def R9:bF X (Ez .Pow) (rI pJ λi j=>.int<|i ^ (j.toNat)):=pI λ_ _ _ _ _ _ _ hc q=>pow_int_small hc.1 hc.2.1 hc.2.2 q
def SA:bF X (Ez .RShift) (rI (λ_ j=>0<=j) λi j=>.int<|i/2 ^ (j.toNat)):=pI λi j _ _ _ _ _ hc q=>
 rshift_int hc (by rw[Int.fdiv_eq_ediv_of_nonneg i<|R4 _];show q)
def SD:bF X (Ez .BitAnd) (kG λi j=>¬Builtin.bitAnd i j):=yJ λ_ _ _ _ _ _ _ q=>and_int q
def SE{f:Value->Uw Value}{g:Int->Int}(b:∀(i:Int) (t:Wq) (s:Ai) (Q:Value->Ai->Prop) (E:Value->Ai->Prop),Q (.int (g i) s.toks) {s with toks:=s.toks+1}->X.a (f<|.int i t) Q E s):
  rH X f (rU λi=>¬g i):=by
 intro af s Z H x v Q I B h;let#[i,rfl,q]:=h;let#[t,rfl]:=B;show b i t s _ _ #[¬g i,H,I.tok _,#[_,7],q]
def SF:rH X (Xj .USub) (rU λi=>.int<|-(i)):=SE λ_ _ _ _ _ q=>neg_int q
end
noncomputable def t7:V->V->Bool
 | .non,.non=>ab|.non,¬_=>ab|¬_,.non=>ab|.non,.bl _=>ab|.bl _,.non=>ab|.non,.str _=>ab|.str _,.non=>ab
 | .int _,¬_=>ab|.bl _,.bl _=>ab|.str _,.str _=>ab|.byt _,.byt _=>ab
 | .int _,.str _=>ab|.str _,¬_=>ab|.bl _,.str _=>ab|.str _,.bl _=>ab
 | _,_=>ac
def SG:R2:=λx y H Q=>t7 x y=ab/\Q (.bl<|decide<|x=y) H
def SH:R2:=λx y H Q=>t7 x y=ab/\Q (.bl<|!(decide<|x=y)) H
def DL{i j:Int}:decide (V.int i=V.int j)=(i==j):=by
 rw[Ef];simp
def DM{i j:Bool}:decide (V.bl i=V.bl j)=(i==j):=by
 rw[Ef];simp
def DN:decide (V.str i=V.str j)=(i==j):=by
 rw[Ef];simp
def DO:decide (V.byt i=V.byt j)=(i.toList==j.toList):=by
 rw[Ef];ext i;ext j;simp
section
variable {X:Cx}{a b c:Ck}{ta tb tc:TE}{pos:Ja}
def dN{k Y:Bool}(I:Inv X af Z H s)(q:Q (.bl k) H)(e:k=Y):EP X af Z Q (.bool Y) s:=by
 subst e;show#[.bl k,H,I,7,q]
def SI:bF X (Dq .Eq) SG:=by
 intro af s Z H x y v u Q I rx ry h;let#[hs,q]:=h;cases x with
 | non=>
  ext rx;cases y with
  | non=>ext ry;show PySem.EqNone.eq_none_none (dN I q<|6)
  | bl j=>ext ry;show PySem.EqNone.eq_none_bool (dN I q<|6)
  | int j=>let#[t',rfl]:=ry;show PySem.EqNone.eq_none_int (dN I q<|6)
  | str j=>let#[t',rfl]:=ry;show PySem.EqNone.eq_none_str (dN I q<|6)
  | _=>show absurd (show ac=ab from hs) Bb
 | bl i=>
  ext rx;cases y with
  | non=>ext ry;show PySem.EqNone.eq_bool_none (dN I q<|6)
  | bl j=>ext ry;show eq_bool (dN I q DM)
  | str j=>let#[t',rfl]:=ry;show PySem.EqMixed.eq_bool_str (dN I q<|6)
  | _=>show absurd (show ac=ab from hs) Bb
 | int i=>
  let#[t,rfl]:=rx;cases y with
  | non=>ext ry;show PySem.EqNone.eq_int_none (dN I q<|6)
  | int j=>let#[t',rfl]:=ry;show eq_int (dN I q DL)
  | str j=>let#[t',rfl]:=ry;show PySem.EqMixed.eq_int_str (dN I q<|6)
  | _=>show absurd (show ac=ab from hs) Bb
 | str i=>
  let#[t,rfl]:=rx;cases y with
  | non=>ext ry;show PySem.EqNone.eq_str_none (dN I q<|6)
  | bl j=>ext ry;show PySem.EqMixed.eq_str_bool (dN I q<|6)
  | int j=>let#[t',rfl]:=ry;show PySem.EqMixed.eq_str_int (dN I q<|6)
  | str j=>let#[t',rfl]:=ry;show eq_str (dN I q DN)
  | _=>show absurd (show ac=ab from hs) Bb
 | byt i=>
  let#[t,rfl]:=rx;cases y with
  | byt j=>let#[t',rfl]:=ry;show PySem.W.eq_bytes (dN I q DO)
  | _=>show absurd (show ac=ab from hs) Bb
 | _=>cases y<;>exact absurd (show ac=ab from hs) Bb
def SJ:bF X (Dq .NotEq) SH:=by
 intro af s Z H x y v u Q I rx ry h;let#[hs,q]:=h;cases x with
 | non=>
  ext rx;cases y with
  | non=>ext ry;show PySem.EqNone.ne_none_none (dN I q<|6)
  | bl j=>ext ry;show PySem.EqNone.ne_none_bool (dN I q<|6)
  | int j=>let#[t',rfl]:=ry;show PySem.EqNone.ne_none_int (dN I q<|6)
  | str j=>let#[t',rfl]:=ry;show PySem.EqNone.ne_none_str (dN I q<|6)
  | _=>show absurd (show ac=ab from hs) Bb
 | bl i=>
  ext rx;cases y with
  | non=>ext ry;show PySem.EqNone.ne_bool_none (dN I q<|6)
  | bl j=>ext ry;show ne_bool (dN I q<|congrArg not DM)
  | str j=>let#[t',rfl]:=ry;show PySem.EqMixed.ne_bool_str (dN I q<|6)
  | _=>show absurd (show ac=ab from hs) Bb
 | int i=>
  let#[t,rfl]:=rx;cases y with
  | non=>ext ry;show PySem.EqNone.ne_int_none (dN I q<|6)
  | int j=>let#[t',rfl]:=ry;show ne_int (dN I q<|congrArg not DL)
  | str j=>let#[t',rfl]:=ry;show PySem.EqMixed.ne_int_str (dN I q<|6)
  | _=>show absurd (show ac=ab from hs) Bb
 | str i=>
  let#[t,rfl]:=rx;cases y with
  | non=>ext ry;show PySem.EqNone.ne_str_none (dN I q<|6)
  | bl j=>ext ry;show PySem.EqMixed.ne_str_bool (dN I q<|6)
  | int j=>let#[t',rfl]:=ry;show PySem.EqMixed.ne_str_int (dN I q<|6)
  | str j=>let#[t',rfl]:=ry;show ne_str (dN I q<|congrArg not DN)
  | _=>show absurd (show ac=ab from hs) Bb
 | byt i=>
  let#[t,rfl]:=rx;cases y with
  | byt j=>let#[t',rfl]:=ry;show PySem.W.ne_bytes (dN I q<|congrArg not DO)
  | _=>show absurd (show ac=ab from hs) Bb
 | _=>cases y<;>exact absurd (show ac=ab from hs) Bb
def SM:bF X (Dq .Lt) (kG λi j=>.bl<|decide<|i<j):=t6 λ_ _ _ _ _ _ _ q=>lt_int q
def SN:bF X (Dq .LtE) (kG λi j=>.bl<|decide<|i<=j):=t6 λ_ _ _ _ _ _ _ q=>le_int q
def SO:bF X (Dq .Gt) (kG λi j=>.bl<|decide<|j<i):=t6 λ_ _ _ _ _ _ _ q=>gt_int q
def SQ:bF X (Dq .GtE) (kG λi j=>.bl<|decide<|j<=i):=t6 λ_ _ _ _ _ _ _ q=>ge_int q
def SU:bF X (Dq .In) (λx y H Q=>∃i j,x=.str i/\y=.str j/\Q (.bl<|!((Kr j i 0 ↥j 1).isEmpty)) H):=by
 intro af s Z H x y v u Q I B T h;let#[i,j,rfl,rfl,q]:=h;let#[t,rfl]:=B;let#[t',rfl]:=T;show in_str<|dN I q rfl
def SW:bF X (Dq .NotIn) (λx y H Q=>∃i j,x=.str i/\y=.str j/\Q (.bl<|!(!((Kr j i 0 ↥j 1).isEmpty))) H):=by
 intro af s Z H x y v u Q I B T h;let#[i,j,rfl,rfl,q]:=h;let#[t,rfl]:=B;let#[t',rfl]:=T;show notIn_str<|dN I q rfl
def bF.or{f:Value->Value->Uw Value}(h:bF X f r)(h':bF X f g):bF X f (λx y H Q=>r x y H Q\/g x y H Q):=by
 intro af s Z H x y v u Q I B T q;rcases q with q|q
 .show h af s Z H x y v u Q I B T q
 .show h' af s Z H x y v u Q I B T q
def DP(b:Ck)(h:op≠.In:=by decide)(Y:op≠.NotIn:=by decide):Nz op b=ac:=by
 let T:(op==CmpOp.In)=ac:=by cases op<;>first|rfl|exact absurd rfl h
 let J:(op==CmpOp.NotIn)=ac:=by cases op<;>first|rfl|exact absurd rfl Y
 cases b<;>simp[Nz,T,J]
def SX(f:bF X (Dq op) r)(S:PE X a ta)(Y:PE X b tb)(J:Nz op b=ac):PE X (.Compare a [op] [b] pos) (rJ r ta tb):=by
 intro af s Z H Q I h;show wpAny_Compare1 (yI S Y I h λv u n x y z i B T q=>f af n Z z x y v u Q i B T q) J
def DQ(t:TE):TT:=λZ H Q=>t Z H λx L=>∃k,x=.bl k/\Q k L
def SY{op:Xb}{r:R2}(f:bF X (Dq op) r)(S:PE X a ta)(Y:PE X b tb)(J:Nz op b=ac):PT X (.Compare a [op] [b] pos) (DQ<|rJ r ta tb):=by
 intro af s Z H Q I h;show wpAny_isTrue_Compare1 (aY (S af s Z H _ I h) λv s1 #[x,B,g,F,C]=>aY (Y af s1 Z B _ g C) λu n #[y,w,i,R,O]=>
  aY (f af n Z w x y v u _ i F R O) λc j #[z,t,U,p,k,e,o]=>8) J
 subst e;ext p;show Ib #[t,U,o]
def DR(r g:R2)(ta tb tc:TE):TE:=λZ H Q=>ta Z H λx B=>tb Z B λy w=>r x y w λz t=>∃k,z=.bl k/\
 (if k=ab then tc Z t λL T=>g y L T Q else Q (.bl ac) t)
def S4{op q:Xb}{r D:R2}(f:bF X (Dq op) r)(E:bF X (Dq q) D)(S:PE X a ta)(Z:PE X b tb)(hc:PE X c tc)(J:lastMarks [op,q] [b,c]=ac:=by with_unfolding_all rfl):PT X (.Compare a [op,q] [b,c] pos) (DQ<|DR r D ta tb tc):=by
 intro af s σ H Q I h;show isTrue_chain (aY (S af s σ H _ I h) λv s1 #[x,B,g,F,C]=>test_link (aY (Z af s1 σ B _ g C) λu n #[y,w,i,R,O]=>
  aY (f af n σ w x y v u _ i F R O) λd j #[z,t,U,p,k,e,o]=>8)) J
 subst e;ext p;show Ib 8;cases k with
 | false=>
  let#[Y,A,N]:=o;ext A;show ite_ff #[t,U,N]
 | true=>
  show ite_tt<|test_last<|aY (hc af j σ t _ U o) λL M #[W,T,V,r4,m]=>aY (E af M σ T y W u L _ V R r4 m) λd' K z3=>8;let#[l,H5,I5,r5,k2,G,P]:=z3;subst G;ext r5;show Ib #[H5,I5,P]
def DS(K:Ac)(x:V)(H:Hp)(k:Bool):Prop:=
 match x with
 | .non=>k=ac
 | .bl b=>k=b
 | .int i=>k=(i !=0)
 | .str y=>↥y<=Aw/\k=((↥y:Int) !=0)
 | .byt y=>y.size<=Aw/\k=((y.size:Int) !=0)
 | .ref p=>(∃xs,bO K H p xs/\k = !(xs.isEmpty))\/(∃xs,bJ K H p xs/\k = !(xs.isEmpty))\/∃kvs,H p=-.dK kvs/\k = !(kvs.isEmpty)
 | _=>False
def S5{b:Type}{kvs:↑(b×V)}{vs:↑(b×Value)}(r:KV kvs vs):(!(vs.isEmpty)) = !(kvs.isEmpty):=by
 cases r<;>rfl
def DT{xs:↑V}{its:↑Value}(r:a6 xs its):(!(its.toArray.isEmpty)) = !(xs.isEmpty):=by
 cases r<;>simp
def jC:(Aw:Nat)<2 ^ 63:=by rw[Kz];decide
def S6:RY X (λx H Q=>∃k,DS X.K x H k/\Q k H):=by
 intro af s Z H x v Q I rx h;let#[k,e,q]:=h;let hl:=jC;let hs:Aw=16777216:=Kz;cases x with
 | non=>
  ext rx;let e':k=ac:=e;subst e';show truthy_none #[H,I,q]
 | bl b=>
  ext rx;let e':k=b:=e;subst e';show Ib #[H,I,q]
 | int i=>
  let#[t,rfl]:=rx;let e':k=(i !=0):=e;subst e';show PySem.P.truthy_int #[H,I,q]
 | str y=>
  let#[t,rfl]:=rx;obtain⟨hy,e'⟩:↥y<=Aw/\k=((↥y:Int) !=0):=e;subst e';show PySem.P.truthy_str 9 #[H,I.tok _,q]
 | byt y=>
  let#[t,rfl]:=rx;obtain⟨hy,e'⟩:y.size<=Aw/\k=((y.size:Int) !=0):=e;subst e';show PySem.W.truthy_bytes 9 #[H,I.tok _,q]
 | ref p=>
  ext rx;let e':(∃xs,bO X.K H p xs/\k = !(xs.isEmpty))\/(∃xs,bJ X.K H p xs/\k = !(xs.isEmpty))\/∃kvs,H p=-.dK kvs/\k = !(kvs.isEmpty):=e;rcases e' with⟨xs,hx,e'⟩|⟨xs,hx,e'⟩|⟨kvs,hx,e'⟩
  .subst e';let#[its,r,pl,hz]:=I.list hx;let hlen:=↥r;show wpAny_truthy_list pl.isList (by simp only[Bg];lia) #[H,I.tok _,by rw[DT r];show q]
  .subst e';let#[its,r,pl,hz]:=I.tuple hx;let hlen:=↥r;show truthy_tuple pl (by simp only[Bg];lia) #[H,I.tok _,by rw[DT r];show q]
  .subst e';obtain⟨hz,hS,vs,r,m⟩:↥kvs<=Aw/\(p==Gg)=ac/\∃vs,KV kvs vs/\s.heap.DictOf (bS X.prog X.w) p vs:=I.hok p _ hx;let hlen:↥kvs=↥vs:=Cv r;show wpAny_truthy_dict hS m 9 #[H,I.tok _,by rw[S5 r];show q]
 | _=>show Br e
def S7(S:PE X a ta)(P:∀whole,Wj a X.env whole=(do let v <-whole;Ry a.pos;Mc [v]<|truthy v)):
  PT X a (λZ H Q=>ta Z H λx L=>∃k,DS X.K x L k/\Q k L):=by
 intro af s Z H Q I h;show isTrue_plain (aY (S af s Z H _ I h) λv s1 V=>by let#[x,B,g,F,C]:=V;show S6 af s1 Z B x v Q g F C)<|P _
def S8:bF X (Ez .Add) (λx y H Q=>∃i j,x=.str i/\y=.str j/\↥i+↥j<=Aw/\Q (.str<|i++j) H):=by
 intro af s Z H x y v u Q I B T h;let#[i,j,rfl,rfl,hz,q]:=h;let#[t,rfl]:=B;let#[t',rfl]:=T;show add_str (λt' tk=>#[.str<|i++j,H,I.tok _,#[_,7],q]) hz
def vals1(r:a6 [x] us):∃u,us=[u]/\RelV x u:=by
 cases r with
 | cons F R=>ext R;show#[_,7,F]
def vals2(r:a6 [x,y] us):∃u L,us=[u,L]/\RelV x u/\RelV y L:=by
 cases r with
 | cons F R=>
  cases R with
  | cons p e=>ext e;show#[_,_,7,F,p]
def S9:cM X (.type "str") (λxs H Q=>∃i,xs=[¬i]/\i.natAbs.log2<1920/\Q (.str<|toString i) H):=by
 intro af s Z H xs us Q I r h;let#[i,rfl,hz,q]:=h;let#[u,rfl,t,rfl]:=vals1 r;show PySem.P.str_of_int hz #[.str _,H,I.tok _,#[_,7],q]
end
structure oA(h:Cz)(x dx C:Ao)(mA:Av->Option Value):Prop where
 obj:h.get? x=-Ik C dx
 ns:h.Ns1 dx mA
 ne:dx≠x
def TB{h:Cz}{dx:Ao}{mA:Av->Option Value}(n:h.Ns1 dx mA):∃M,h.get? dx=-M/\∀name,Pr name M=-mA name:=by
 let#[o,es,ep,f,hd,hk,_,J]:=n;show#[o,f,λname=>8];let e:=J name;unfold nsFind findBy at e;rw[<-Array.find?_toList]at e;unfold Pr;rw[hd];dsimp only;split
 .rename_i y q;rw[q]at e;show congrArg aa e
 .rename_i q;rw[q]at e;let a:es.toList.any (·.refKey)=ac:=by
   rw[List.any_eq_false];intro y U;let#[z,t,m]:=hk y<|Array.mem_toList_iff.mp U;simp[DictEntry.refKey,m]
  let c:¬(es.toList.any (·.refKey)=ab):=by rw[a];show Bb
  rw[Xs c];show congrArg aa e
def oA.look{mA:Av->Option Value}(I:oA h x dx C mA):∃M,PySem.W.InstAt h x (Ik C dx) C (-M)/\∀name,Pr name M=-mA name:=
 let #[M,ho,hl]:=TB I.ns
 #[M,#[I.obj,7,7,ho],hl]
section
variable {prog:Bc}{w:Bq}{A:Cw}{E:Value->Ai->Prop}{s:Ai}{K:Ac}{x dx C f:Ao}{mA:Av->Option Value}{name:Av}{v:Value}
def TC{a:Bool}{Q:Value->Ai->Prop}(X:K.In s.heap)(I:oA s.heap x dx C mA)(hg:Ot K C name=ab)(hh:Rl K C=ab)(S:Fq K (!C) name=-ae)(c:mA name=-v)(d:PySem.W.handedIn v=ab)(h:Q v {s with toks:=s.toks+1}):
  Bm (Cp prog w) A (getAttr (!x) name a) Q E s:=by
 let#[M,J,hl]:=I.look;show PySem.W.get_value X J (Qe hg).1 (PySem.W.findObj_own hh S rfl<|by rw[hl,c]) d h
def TF{Q:Value×↑Value->Ai->Prop}(X:K.In s.heap)(I:oA s.heap x dx C mA)(hg:Ot K C name=ab)(hf:Fq K (!C) name=aa (aa !f))(ht:Pa K (!f)=ab)(c:mA name=ae)(h:Q (!f,[!x]) s):
  Bm (Cp prog w) A (Rz (!x) name pl) Q E s:=by
 let#[M,J,hl]:=I.look;show PySem.W.method_fn X J (Qe hg).1 (Qe hg).2 hf (beq_iff_eq.mp ht) (by change(Pr name M).map (·.isSome)=-ac;rw[hl,c];rfl) h
def TH{Q:Unit->Ai->Prop}(X:K.In s.heap)(I:oA s.heap x dx C mA)(l:Fq K (!C) "__setattr__" = aa (-.builtin "object.__setattr__"))(B:PySem.W.plainOver K C=ab)(ht:Sj K C name=-ae)(hh:Rl K C=ab)(hw:Ux mA ns)(hsz:↥ns<=Aw)(h:∀h',oA h' x dx C (λy=>if y=name then aa v else mA y)->Fd dx s.heap h'->Q () {s with heap:=h',toks:=s.toks+2}):
  Bm (Cp prog w) A (setAttr (!x) name v) Q E s:=by
 let#[M,J,hl]:=I.look;show PySem.W.set_plain X J l<|PySem.W.osa_open (s:={s with toks:=s.toks+1}) (r:=ae) X J B ht λb=>8;let#[t,hc,u]:=PySem.W.any_some hh;let S:s.heap.get? x=-#[!C,-dx,.plain,#[]]:=I.obj;show Aa<|Ak<|Aa<|Aa<|wpAny_loadPart S<|Aa<|PySem.W.Looks.here (s:={s with toks:=s.toks+1}) (PySem.W.looks_clsIn X hc) 8;rw[u];show Ak (a:=-dx)<|Aa<|Ak<|Aa 8;show wpAny_nsSet1 (s:={s with toks:=s.toks+1}) I.ns λh' m L=>8;let#[i,g,f,c,e,d]:=m.count<|PySem.Within.cons name v hw;show Aa<|wpAny_lookBehind c (by rw[e];show pastItsLine_dict<|Am d<|by rw[Bl];lia) 8;show Ak<|h _ #[(L.2 _<|Cs I.ne).trans I.obj,m,I.ne] L
def TJ{R:Wr->Ai->Prop}(X:K.In s.heap)(J:Sk K C=ab)(hi:Fq K (!C) "__init__" = aa (aa !f))(hf:PySem.W.typeIn K (!f)=-.type "function")(h:Ny (Cp prog w) (A.under<|.builtin "type.__call__" #[.ref C::vs,b]) (.call (!f) #[.ref (⇑s+1)::vs,b]) (PySem.W.InitBack (⇑s+1) R)
   (s<&>(s.heap.push Hf).push (Ik C ⇑s))):
  Ny (Cp prog w) A (.call (!C) #[vs,b]) R s:=by
 let#[hh,g,d,t,os]:=s;show PySem.W.make_core (PySem.W.makes_of X J) (PySem.W.looks_findIn X hi) (λself=>PySem.W.bind_fn X self hf) (.inl rfl) h
end
noncomputable def putF(f:Av)(v:V):↑(Av×V)->↑(Av×V)
 | []=>[(f,v)]
 | (g,x)::r=>if g=f then(g,v)::r else(g,x)::putF f v r
theorem DU(f g:Av)(v:V):∀fs:↑(Av×V),(putF f v fs).lookup g=if g=f then aa v else fs.lookup g
 | []=>by
  change Cj g [(f,v)]=_
  by_cases h:g=f
  .let Z:(g==f)=ab:=beq_iff_eq.mpr h;simp only[Cj,Z,Xu h]
  .let Z:(g==f)=ac:=beq_eq_false_iff_ne.mpr h;simp only[Cj,Z,Xs h]
 | (k,x)::r=>by
  let E:=DU f g v r;rw[show putF f v ((k,x)::r)=(if k=f then(k,v)::r else(k,x)::putF f v r) from rfl]
  by_cases hk:k=f
  .rw[Xu hk]
   by_cases h:g=k
   .let Z:(g==k)=ab:=beq_iff_eq.mpr h;simp only[Cj,Z,Xu<|h.trans hk]
   .let Z:(g==k)=ac:=beq_eq_false_iff_ne.mpr h;simp only[Cj,Z,Xs (λe:g=f=>h<|e.trans hk.symm)]
  .rw[Xs hk]
   by_cases h:g=k
   .let Z:(g==k)=ab:=beq_iff_eq.mpr h;simp only[Cj,Z,Xs (λe:g=f=>hk<|h.symm.trans e)]
   .let Z:(g==k)=ac:=beq_eq_false_iff_ne.mpr h;simp only[Cj,Z];show E
theorem yK(f:Av)(v:V):∀fs:↑(Av×V),f∈(putF f v fs).map (·.1)/\∀g,g∈fs.map (·.1)->g∈(putF f v fs).map (·.1)
 | []=>#[by simp[putF],λg h=>by simp at h]
 | (k,x)::r=>by
  let#[a,i]:=yK f v r;rw[show putF f v ((k,x)::r)=(if k=f then(k,v)::r else(k,x)::putF f v r) from rfl]
  by_cases hk:k=f
  .rw[Xu hk];subst hk;show#[6,λg h=>by simpa using h]
  .rw[Xs hk];show#[8,λg h=>8]
   .rw[Be];show Bi _ a
   .rw[Be]at h⊢;rcases Bd.mp h with e|e
    .show Bd.mpr<|.inl e
    .show Bi _<|i g e
theorem DV(f:Av)(v:V):∀fs:↑(Av×V),↥(putF f v fs)<=↥fs+1
 | []=>by simp[putF]
 | (k,x)::r=>by
  let E:=DV f v r;rw[show putF f v ((k,x)::r)=(if k=f then(k,v)::r else(k,x)::putF f v r) from rfl]
  by_cases hk:k=f
  .rw[Xu hk,Bl,Bl];lia
  .rw[Xs hk,Bl,Bl];lia
def fS.some_of(r:fS (-v) o):∃u,o=-u/\RelV v u:=by
 cases o with
 | none=>show Br r
 | some u=>show#[u,7,r]
def fS.none_of(r:fS ae o):o=ae:=by
 cases o with
 | none=>rfl
 | some u=>show Br r
def TL(r:RelV v u):PySem.W.handedIn u=ab:=by
 cases v with
 | non=>cases (show u=Value.none from r);rfl
 | bl b=>cases (show u=Value.bool b from r);rfl
 | int i=>let#[t,e]:=(show ∃t,u=Value.int i t from r);ext e;rfl
 | str x=>let#[t,e]:=(show ∃t,u=Value.str x t from r);ext e;rfl
 | byt b=>let#[t,e]:=(show ∃t,u=Value.bytes b t from r);ext e;rfl
 | flt b=>let#[t,e]:=(show ∃t,u=Value.float b t from r);ext e;rfl
 | ref a=>cases (show u=Value.ref a from r);rfl
 | ty n=>cases (show u=Value.type n from r);rfl
section
variable {P:Bc}{w:Bq}{H H':Hp}{h h':Cz}{a C dx:Ao}{fs fs':↑(Av×V)}
def t9(hok:cZ P w H h)(e:H a=-.ins C dx fs):∃mA,oA h a dx C mA/\(∀f,fS (fs.lookup f)<|mA f)/\Ux mA (fs.map (·.1))/\↥fs<=1000/\H dx=-.own a:=by
 let#[d,z,ne,ob,mA,n,r,q]:=(show b9 P w H h a (.ins C dx fs) from hok a _ e);show#[mA,#[ob,n,ne],r,q,z,d]
end
structure gE(K:Ac)(C:Ao):Prop where
 pg:Ot K C Te=ab
 hd:Rl K C=ab
 po:PySem.W.plainOver K C=ab
 sa:Fq K (!C) "__setattr__" = aa (-.builtin "object.__setattr__")
def gE.get{K:Ac}{C:Ao}(c:gE K C)(f:Av):Ot K C f=ab:=c.pg
def fF(K:Ac)(C:Ao)(f:Av):Prop:=Fq K (!C) f=-ae
def fF.taker{K:Ac}{C:Ao}{f:Av}(n:fF K C f):Sj K C f=-ae:=by
 unfold Sj;rw[show Fq K (!C) f=aa ae from n];rfl
structure pL(K:Ac)(C:Ao)(m:Av)(f:Ao):Prop where
 at_:Fq K (!C) m=aa (aa !f)
 fn:Pa K (!f)=ab
 kp:He K (!f)=ab
section
variable {X:Cx}{af:Pn}{Z:St}{H:Hp}{s:Ai}{a C dx:Ao}{fs:↑(Av×V)}{f:Av}{v:V}{A:Cw}{E:Value->Ai->Prop}
def TM{b:Bool}{Q:Value->Ai->Prop}(I:Inv X af Z H s)(e:H a=-.ins C dx fs)(c:gE X.K C)(n:fF X.K C f)(l:fs.lookup f=-v)(h:∀u s',Inv X af Z H s'->RelV v u->Q u s'):Bm X.m A (getAttr (!a) f b) Q E s:=by
 let#[mA,O,r,_,_,_]:=t9 I.hok e;let#[u,D,ru]:=fS.some_of (v:=v) (o:=mA f) (by rw[<-l];show r f);show TC I.kIn O (c.get f) c.hd n D (TL ru)<|h u _ (I.tok _) ru
def DW{Q:Value×↑Value->Ai->Prop}(I:Inv X af Z H s)(e:H a=-.ins C dx fs)(c:gE X.K C)(k:pL X.K C m g)(l:fs.lookup m=ae)(h:Q (!g,[!a]) s):Bm X.m A (Rz (!a) m pl) Q E s:=by
 let#[mA,O,r,_,_,_]:=t9 I.hok e;let V:mA m=ae:=fS.none_of (by rw[<-l];show r m);show TF I.kIn O (c.get m) k.at_ k.fn V h
def TN{Q:Unit->Ai->Prop}(I:Inv X af Z H s)(e:H a=-.ins C dx fs)(c:gE X.K C)(n:fF X.K C f)(hl:↥fs<1000)(T:RelV y u)(h:∀s',Inv X af Z (aK H a<|.ins C dx<|putF f y fs) s'->Q () s'):Bm X.m A (setAttr (!a) f u) Q E s:=by
 let#[mA,O,r,d,_,D]:=t9 I.hok e;let hz:↥(fs.map (·.1))<=Aw:=by rw[Ab,Kz];lia
 show TH I.kIn O c.sa c.po n.taker c.hd d hz λh' i sb=>h _ 8;let hd:∃o,h'.get? dx=-o:=let #[o,_,_,e',_]:=i.ns;#[o,e'];show I.write (x:=a) (e:=dx) (by rw[e];show True.intro) (.inr D) (λb q Y z=>(sb.2 b Y).trans z) hd 8;show#[by rw[bB O.ne];show D,8,O.ne,i.obj,_,i.ns,λg=>8,λg hg=>8]
 .have:=DV f y fs;lia
 .change fS ((putF f y fs).lookup g) (if g=f then aa u else mA g);rw[DU]
  by_cases q:g=f
  .rw[Xu q,Xu q];show T
  .rw[Xs q,Xs q];show r g
 .by_cases q:g=f
  .rw[q];show(yK f y fs).1
  .show(yK f y fs).2 g<|d g λz=>hg 8;change(if g=f then aa u else mA g)=ae;rw[Xs q];show z
def Inv.made(I:Inv X af Z H s):Inv X af Z (aK (aK H ⇑s<|.own<|⇑s+1) (⇑s+1)<|.ins C ⇑s [])
  (s<&>(s.heap.push Hf).push (Ik C ⇑s)):=by
 let T:(s.heap.push Hf).get? ⇑s=-Hf:=Ax s.heap rfl;let J:((s.heap.push Hf).push<|Ik C ⇑s).get? (⇑s+1)=-Ik C ⇑s:=by
  have:=Ax (s.heap.push Hf) (o:=Ik C ⇑s) rfl;rwa [Ew]at this
 let W:(s.heap.push Hf).Ns ⇑s (λ_=>ae):=#[Hf,#[],_,T,7,(λe P=>absurd P<|6),λ_=>rfl];let g:=I.laid (a:=⇑s) (o:=.own<|⇑s+1) (h':=s.heap.push Hf) (t':=s.toks) (λb u q=>Af _ q) (Aj _) #[_,T];show g.laid (a:=⇑s+1) (o:=.ins C ⇑s []) (t':=s.toks) (λb u q=>Af _ q) (Hw<|Ew _ _) 8;let ne:⇑s≠⇑s+1:=Bw<|Eb _;show#[by rw[bB ne,b8],Cu _,ne,J,λ_=>ae,(Heap.Ns1.of_empty W).at λo q=>Af _ q,λ_=>True.intro,λy U=>absurd rfl U]
def TQ{Q:Value->Ai->Prop}(Z:Hr e f env (Ff e env)=Ff e env)(h:Bm (Cp prog w) A (Ff e env) (λo j=>Bm (Cp prog w) A (getAttr o f ab) Q E j) E s):Bm (Cp prog w) A (Ff (.Attribute e f pos) env) Q E s:=
 Attribute_any_ h (by rw[arm_eval_Attribute,Z])
end
def TR(K:Ac)(ta:TE)(f:Av):TE:=λZ H Q=>ta Z H λx B=>∃a C dx fs v,x=!a/\B a=-.ins C dx fs/\gE K C/\fF K C f/\fs.lookup f=-v/\Q v B
def TU(K:Ac)(ta tv:TE)(f:Av):TS:=λD Z H=>tv Z H λy B=>ta Z B λx z=>∃a C dx fs,x=!a/\z a=-.ins C dx fs/\gE K C/\fF K C f/\↥fs<1000/\
 D.nx Z (aK z a<|.ins C dx<|putF f y fs)
section
variable {X:Cx}{o e value:Ck}{f:Av}{pos pos' tpos:Ja}{ta tv:TE}
def TV(P:PE X e ta)(Y:Hr e f X.env (Ff e X.env)=Ff e X.env):PE X (.Attribute e f pos) (TR X.K ta f):=by
 intro af s Z H Q I h;show TQ Y<|aY (P af s Z H _ I h) λu s1 V=>8;let#[x,B,g,d,a,C,dx,fs,v,ex,N,c,n,l,q]:=V;subst ex;obtain rfl:u=Value.ref a:=d;show TM g N c n l λz A i ru=>#[v,B,i,ru,q]
def TX(S:PE X o ta)(T:PE X value tv)(U:Nr value (-.Attribute o f pos') pos.line X.env=pure ac):PS X (.Assign [.Attribute o f pos'] value pos) (TU X.K ta tv f):=by
 intro af s Z H D I h;show plainObj_wpAny_Assign_Attribute (aY (T af s Z H _ I h) λu s1 #[y,B,g,J,q]=>aY (S af s1 Z B _ g q) λp V A=>8) U;let#[x,z,i,d,a,C,dx,fs,ex,N,c,n,l,O]:=A;subst ex;obtain rfl:p=Value.ref a:=d;show TN i N c n l J λj w=>#[Z,_,w,O]
end
section
variable {X:Cx}{af:Pn}{Z:St}{H:Hp}{s:Ai}{A:Cw}{E:Value->Ai->Prop}{Q:Value->Ai->Prop}{c:Value}{b:Bool}
inductive iJ(K:Ac)(H:Hp):V->Value->Prop where
 | non:iJ K H .non (.type "NoneType")
 | bl (x:Bool):iJ K H (.bl x) (.type "bool")
 | int (i:Int):iJ K H (¬i) (.type "int")
 | str (x:Av):iJ K H (.str x) (.type "str")
 | flt (x:UInt64):iJ K H (.flt x) (.type "float")
 | lst {a:Ao} {xs:↑V} (e:H a=-.lst xs):iJ K H (!a) (.type "list")
 | frz {a:Ao} {o:Nh} {xs:↑V} (e:H a=-.frz o (.lst xs)):iJ K H (!a) (.type "list")
 | tup {a:Ao} {xs:↑V} (e:H a=-.tup xs):iJ K H (!a) (.type "tuple")
 | dK {a:Ao} {kvs:↑(aC×V)} (e:H a=-.dK kvs):iJ K H (!a) (.type "dict")
 | dT {a:Ao} {kvs:↑(↑aC×V)} (e:H a=-.dT kvs):iJ K H (!a) (.type "dict")
 | ins {a C dx:Ao} {fs:↑(Av×V)} (e:H a=-.ins C dx fs) (cl:gE K C) (ha:Fq K (!C) "__class__" = aa (-.builtin "object.__class__"))
   (hn:PySem.W.specialIn K (.builtin "object.__class__") "__get__" = aa (-.builtin "getset_descriptor.__get__")) (htk:PySem.W.takesIn K (.builtin "object.__class__")=-ab)
   (hm:PySem.W.mroIn K C (.type "object")=-ab):iJ K H (!a)<|!C
def TY(I:Inv X af Z H s)(B:RelV x u)(ty:iJ X.K H x t)(e:Lr X.K t c=-b)(h:∀tk,Q (.bool b) {s with toks:=tk}):
  Bm X.m A (call (.builtin "isinstance") [u,c]) Q E s:=by
 cases ty with
 | non=>cases (show u=Value.none from B);show Gp PySem.W.kitx_none I.kIn True.intro e (λz=>nomatch z) h
 | bl y=>cases (show u=Value.bool y from B);show Gp PySem.W.kitx_bool I.kIn True.intro e (λz=>nomatch z) h
 | int i=>let#[t,q]:=(show ∃t,u=Value.int i t from B);ext q;show Gp PySem.W.kitx_int I.kIn True.intro e (λz=>nomatch z) h
 | str y=>let#[t,q]:=(show ∃t,u=Value.str y t from B);ext q;show Gp PySem.W.kitx_str I.kIn True.intro e (λz=>nomatch z) h
 | flt y=>let#[t,q]:=(show ∃t,u=Value.float y t from B);ext q;show Gp PySem.W.kitx_float I.kIn True.intro e (λz=>nomatch z) h
 | @lst a xs N=>
  cases (show u=Value.ref a from B);let#[_,_,n,_,L]:=(show b9 X.prog X.w H s.heap a (.lst xs) from I.hok a _ N);show Gp PySem.W.kitx_list I.kIn #[_,L,7] e (λz=>nomatch z) h
 | @frz a ob xs N=>
  cases (show u=Value.ref a from B);let#[_,_,_,n,_,L]:=(show b9 X.prog X.w H s.heap a (.frz ob<|.lst xs) from I.hok a _ N);show Gp PySem.W.kitx_list I.kIn #[_,L,7] e (λz=>nomatch z) h
 | @tup a xs N=>
  cases (show u=Value.ref a from B);let#[_,_,_,p]:=(show b9 X.prog X.w H s.heap a (.tup xs) from I.hok a _ N);let#[o,L,Y,_]:=p;show Gp PySem.W.kitx_tuple I.kIn #[o,L,Y] e (λz=>nomatch z) h
 | @dK a kvs N=>
  cases (show u=Value.ref a from B);let#[_,_,vs,_,p]:=(show b9 X.prog X.w H s.heap a (.dK kvs) from I.hok a _ N);let#[o,es,ep,L,Y,_]:=p;show Gp PySem.W.kitx_dict I.kIn #[o,L,Y.1] e (λz=>nomatch z) h
 | @dT a kvs N=>
  cases (show u=Value.ref a from B);let#[_,_,xs,_,o,es,ep,L,Y,_]:=(show b9 X.prog X.w H s.heap a (.dT kvs) from I.hok a _ N);show Gp PySem.W.kitx_dict I.kIn #[o,L,Y.1] e (λz=>nomatch z) h
 | @ins a C dx fs N cl S d f T=>
  cases (show u=Value.ref a from B);let#[mA,O,_]:=t9 I.hok N;let#[M,J,_]:=O.look;show Gp (PySem.W.kitx_own (cl.get _) cl.hd S d f T) I.kIn J e (λz=>nomatch z) h
end
structure cT(k:Nat)(A:Cw):Prop where
 hd:A.handled=ae
 dp:A.depth+3*k+05<recursionLimit
 un:A.units+16*k+200<Fs
def cT.mono{j k:Nat}(r:cT k A)(h:j<=k):cT j A:=#[r.hd,Er (Hb (Hn (Gm 3 h) _) _) r.dp,Er (Hb (Hn (Gm 16 h) _) _) r.un]
def up1{a b c d k:Nat}(h:a+d*(k+1)+b<c){e:Nat}(P:e<=d:=by decide):a+e+d*k+b<c:=Er (Hb (by rw[Ig,Vn,Mq e];show Hn (Hn P _) _) _) h
def cT.deeper{k:Nat}(r:cT (k+1) A)(env:Env):cT k (A.deeper env):=#[r.hd,up1 (e:=1) r.dp,up1 (e:=3) r.un]
def TZ{A:Cw}{C:Ao}{us:↑Value}{b:↑(Av×Value)}:(A.under<|.builtin "type.__call__" #[.ref C::us,b]).depth=A.depth+1:=by
 first|rfl|simp[Ut,Code.weight,Code.isCreation,Code.isGuard,Code.isCaller,Code.frames,Vg,guardIds]
def T4{A:Cw}{C:Ao}{us:↑Value}{b:↑(Av×Value)}:(A.under<|.builtin "type.__call__" #[.ref C::us,b]).units=A.units+1:=by
 first|rfl|simp[Ut,Code.cUnits,Code.frames,Vg]
def cT.make{k:Nat}(r:cT (k+1) A)(C:Ao)(us:↑Value)(b:↑(Av×Value)):cT k (A.under<|.builtin "type.__call__" #[.ref C::us,b]):=
 #[r.hd,by rw[TZ];show up1 (e:=1) r.dp,by rw[T4];show up1 (e:=1) r.un]
def cT.depth{k:Nat}(r:cT k A):A.depth<recursionLimit:=by have:=r.dp;lia
def cT.units{k:Nat}(r:cT k A):A.units+64<Fs:=by have:=r.un;lia
def yL:TA:=λ_ H Q=>Q [] H
def T5(ta:TE)(a:TA):TA:=λZ H Q=>ta Z H λx B=>a Z B λxs z=>Q (x::xs) z
section
variable {X:Cx}{e:Ck}{es:↑Ck}{te:TE}{t:TA}{pos:Ja}
def T6:PA X [] yL:=λ_ _ _ _ H Q I h=>Lz #[[],H,I,.nil,h]
def T7(S:PE X e te)(G:PA X es t)(l:Se X e es:=by rfl):PA X (e::es) (T5 te t):=by
 intro pos af s Z H Q I h;rw[l];change Bm _ _ (spliced<|(ac,Ff e X.env)::Og pos (Cr es X.env)) _ _ s;show Lj<|aY (S af s Z H _ I h) λu s1 V=>8;let#[x,B,g,F,C]:=V;show aY (G pos af s1 Z B _ g C) λus n A=>by let#[xs,z,i,R,O]:=A;show#[x::xs,z,i,.cons F R,O]
def T8(t:TA):TE:=λZ H Q=>t Z H λxs B=>↥xs<=Aw/\∀p,B p=ae->Q (!p) (aK B p<|.tup xs)
def T9(t:TA):TE:=λZ H Q=>t Z H λxs B=>↥xs<=Aw/\∀p,B p=ae->Q (!p) (aK B p<|.lst xs)
def UA{x1}(h:PA X es t):PE X (.Tuple es x1 pos) (T8 t):=by
 intro af s Z H Q I N;show wpAny_Tuple_spliced<|aY (h pos af s Z H _ I N) λus s1 #[xs,B,g,r,z,q]=>#[by rw[<-↥r];show z,8];let hf:B ⇑s1=ae:=g.hok.fresh<|Aj _;show#[!⇑s1,aK B ⇑s1<|.tup xs,g.laid (t':=s1.toks) (λb u e=>Af _ e) (Aj _) 8,7,q _ hf];show#[z,us,r,#[_,Ax _ rfl,7,_,7]]
def DX(h:PA X es t):PE X (.List es pos) (T9 t):=by
 intro af s Z H Q I N;show wpAny_List_spliced<|aY (h pos af s Z H _ I N) λus s1 #[xs,B,g,r,z,q]=>#[by rw[<-↥r];show z,8];let hf:B ⇑s1=ae:=g.hok.fresh<|Aj _;show#[!⇑s1,aK B ⇑s1<|.lst xs,g.laid (t':=s1.toks) (λb u e=>Af _ e) (Aj _) 8,7,q _ hf];show#[z,us,0,r,Ax _ rfl]
end
abbrev Sp:=↑V->Hp->VK->XK->Prop
abbrev kH:=↑Env->Hp->Ai->XK->Value->Ai->Prop
structure oB(P:Bc)(w:Bq)(K:Ac)(mg:Av->Option Value)(base:Cz)(A:Cw)(outer:↑Env)(s:Ai)(H:Hp):Prop where
 frames:A.frames=-outer
 mod:Mod K mg base
 bs:∀b o,base.get? b=-o->s.heap.get? b=-o/\H b=ae
 bsz:base.objs.size<=⇑s
 funs:s.heap.FunFrames base outer
 frf:∀b∈iI outer,H b=ae
 hok:cZ P w H s.heap
 bare:Qy s.gens
def CE(outer:↑Env)(P:Bc)(w:Bq)(H:Hp)(s:Ai)(Q:VK)(u:Value)(s':Ai):Prop:=
 ∃v H',s'.os=s.os/\Qy s'.gens/\Un (iI outer) [] H H' s.heap s'.heap/\cZ P w H' s'.heap/\RelV v u/\Q v H'
def CR(CX:kH)(outer:↑Env)(P:Bc)(w:Bq)(H:Hp)(s:Ai)(Q:VK)(E:XK)(r:Wr)(s':Ai):Prop:=
 match r with
 | .ok (.ret u)=>CE outer P w H s Q u s'
 | .ok _=>False
 | .error e=>CX outer H s E e s'
structure iV(P:Bc)(w:Bq)(K:Ac)(mg:Av->Option Value)(base:Cz)(CX:kH)(k:Nat)(f:Ao)(fd:Fi)(ps:↑Av)(sp:Sp):Prop where
 len:∀vs H Q E,sp vs H Q E->↥vs=↥ps
 run:∀(A:Cw) (outer:↑Env) (s:Ai) (H:Hp) (args:Args) (us:↑Value) (vs:↑V) (Q:VK) (E:XK),cT k A->oB P w K mg base A outer s H->Vh s fd args (ps.zip us)->a6 vs us->sp vs H Q E->
  Ny (Cp P w) A (.call (!f) args) (CR CX outer P w H s Q E) s
abbrev Cx.f(X:Cx):=iV X.prog X.w X.K X.mg X.base
def oB.make{P:Bc}{w:Bq}{K:Ac}{mg:Av->Option Value}{base:Cz}{A:Cw}{outer:↑Env}{s:Ai}{H:Hp}(e:oB P w K mg base A outer s H)(C:Ao)(us:↑Value)(b:↑(Av×Value)):
  oB P w K mg base (A.under<|.builtin "type.__call__" #[.ref C::us,b]) outer s H:=#[by first|exact e.frames|(simpa [Ut,Code.envs,Vg,pushEnvs] using e.frames),e.mod,e.bs,e.bsz,e.funs,e.frf,e.hok,e.bare]
section
variable {X:Cx}{af:Pn}{Z:St}{H:Hp}{s s':Ai}
def Inv.env0(I:Inv X af Z H s):oB X.prog X.w X.K X.mg X.base X.A X.stack s H:=
 #[I.ok.frames,I.ok.mod,I.bs,Am I.ok.bsz I.sz,I.stack,I.stkFree,I.hok,I.bare]
def Inv.after(I:Inv X af Z H s)(h:CE X.stack X.prog X.w H s Q u s'):EP X af Z Q u s':=by
 let#[v,H',os,bare,un,hok,r,q]:=h;let#[hh,g,d,t,a]:=s';obtain rfl:a=s.os:=os;show#[v,H',I.call (h':=hh) (g':=g) (d':=d) (t':=t) (ch:=[]) un hok bare (λb z=>absurd z<|6),r,q]
end
def DY(sp:Sp)(dvs:↑V)(E:XK)(t:TA):TE:=λZ H Q=>t Z H λvs B=>sp (vs++dvs) B Q E
def yM(C:Ao)(m:Av)(sp:Sp)(dvs:↑V)(E:XK)(ta:TE)(t:TA):TE:=λZ H Q=>ta Z H λx B=>∃a dx fs,x=!a/\B a=-.ins C dx fs/\fs.lookup m=ae/\
 t Z B λvs z=>sp (x::(vs++dvs)) z Q E
def DZ(C:Ao)(sp:Sp)(dvs:↑V)(E:XK)(t:TA):TE:=λZ H Q=>t Z H λvs B=>∀x dx,B x=ae->B dx=ae->dx≠x->
 sp (.ref x::(vs++dvs)) (aK (aK B dx<|.own x) x<|.ins C dx []) (λv z=>v=.non/\Q (!x) z) E
def Binds(K:Ac)(fd:Fi)(ps:↑Av)(ds:↑Value):Prop:=
 ∀(s:Ai) (us:↑Value),K.In s.heap->↥(us++ds)=↥ps->Vh s fd #[us,[]] (ps.zip<|us++ds)
def Binds.all{K:Ac}{fd:Fi}{ps:↑Av}(h:∀us:↑Value,↥us=↥ps->bindArgs fd #[us,[]]=pure (ps.zip us)):Binds K fd ps []:=λs us _ hl=>by
 rw[Bv]at hl⊢;show .of_eq<|h us hl
def mS(CX:kH)(X:Cx)(E:XK):Prop:=∀(af:Pn) (Z:St) (H:Hp) (s:Ai) (e:Value) (s':Ai),Inv X af Z H s->CX X.stack H s E e s'->X.xe e s'
section
variable {X:Cx}{CX:kH}{k:Nat}{f C:Ao}{fd:Fi}{ps:↑Av}{sp:Sp}{dvs:↑V}{ds:↑Value}{E:XK}{x m:Av}{p pos apos:Ja}{e o:Ck}{es:↑Ck}{ta:TE}{t:TA}
def uA(F:X.f CX k f fd ps sp)(hr:cT k X.A)(hb:Binds X.K fd ps ds)(hd:a6 dvs ds)(hx:mS CX X E)(I:Inv X af Z H s)(r:a6 vs us)(h:sp (vs++dvs) H Q E):X.a (call (!f) us) (EP X af Z Q) X.xe s:=by
 let r2:a6 (vs++dvs) (us++ds):=r.append hd;let hl:↥(us++ds)=↥ps:=by rw[<-↥r2];show F.len _ _ _ _ h
 show wpAny_call<|Qr (F.run X.A X.stack s H #[us,[]] (us++ds) (vs++dvs) Q E hr I.env0 (hb s us I.kIn hl) r2 h) λr s' hq=>8;cases r with
 | error e=>show hx af Z H s e s' I hq
 | ok fl=>
  cases fl with
  | ret u=>show I.after hq
  | next=>show Br hq
  | brk=>show Br hq
  | cont=>show Br hq
def UB(F:X.f CX k f fd ps sp)(G:cT k X.A)(hg:Gl X x)(J:X.mg x=aa !f)(hk:He X.K (!f)=ab)(Y:Binds X.K fd ps ds)(hd:a6 dvs ds)(S:mS CX X E)(D:PA X (e::es) t)(o:Db x:=by decide)(P:Se X e es:=by rfl)(y:Sb X pos es:=by rfl):
  PE X (.Call (.Name x p) (e::es) [] pos) (DY sp dvs E t):=by
 intro af s Z H Q I h;show Ek<|tW I hg J 8 o;show Nt (h₀:=X.base) I.ok.mod.kin hk (aY (D pos af s Z H _ I h) λus s1 #[vs,B,g,r,q]=>#[g.kIn,8]) P y;show uA F G Y hd S g r q
def UC(P:PE X o ta)(c:gE X.K C)(J:pL X.K C m f)(F:X.f CX k f fd ps sp)(G:cT k X.A)(Y:Binds X.K fd ps ds)(hd:a6 dvs ds)(S:mS CX X E)(D:PA X (e::es) t)(j:Se X e es:=by rfl)(y:Sb X pos es:=by rfl)(ht:Ff (.Call (.Attribute o m apos) (e::es) [] pos) X.env=(do
   let p <-Ff o X.env
   Ry apos.atName
   let (f,first) <-Mc [p] (Rz p m pl)
   Xa pos f first (Og pos<|Cr (e::es) X.env) (Qd pos<|Ms [] X.env)):=by rfl):
  PE X (.Call (.Attribute o m apos) (e::es) [] pos) (yM C m sp dvs E ta t):=by
 intro af s Z H Q I h;show PySem.W.methodCall_KW (pl:=pl) (aY (P af s Z H _ I h) λu s1 V=>8) ht;let#[x,B,g,d,a,dx,fs,ex,N,l,q]:=V;subst ex;obtain rfl:u=Value.ref a:=d;show DW g N c J l 8;show Nt (first:=[!a]) (h₀:=X.base) I.ok.mod.kin J.kp (aY (D pos af s1 Z B _ g q) λus n #[vs,z,i,r,O]=>#[i.kIn,8]) j y;show uA (us:=.ref a::us) (vs:=.ref a::vs) F G Y hd S i (.cons rfl r) O
def UD(P:PE X o ta)(c:gE X.K C)(J:pL X.K C m f)(F:X.f CX k f fd ps sp)(G:cT k X.A)(Y:Binds X.K fd ps ds)(hd:a6 dvs ds)(S:mS CX X E)(ht:Ff (.Call (.Attribute o m apos) [] [] pos) X.env=(do
   let p <-Ff o X.env
   Ry apos.atName
   let (f,first) <-Mc [p] (Rz p m pl)
   Xa pos f first (Og pos<|Cr [] X.env) (Qd pos<|Ms [] X.env)):=by rfl):
  PE X (.Call (.Attribute o m apos) [] [] pos) (yM C m sp dvs E ta yL):=by
 intro af s Z H Q I h;show PySem.W.methodCall_KW (pl:=pl) (aY (P af s Z H _ I h) λu s1 V=>8) ht;let#[x,B,g,d,a,dx,fs,ex,N,l,q]:=V;subst ex;obtain rfl:u=Value.ref a:=d;show DW g N c J l 8;show PySem.W.callWith_K0 (first:=[!a]) g.kIn J.kp<|uA (us:=[!a]) (vs:=[!a]) F G Y hd S g (.cons rfl .nil) q
structure Mk(K:Ac)(C f:Ao):Prop where
 makes:Sk K C=ab
 init:Fq K (!C) "__init__" = aa (aa !f)
 fn:Pa K (!f)=ab
 kp:He K (!C)=ab
def D0(M:Mk X.K C f)(F:X.f CX k f fd ps sp)(hr:cT (k+1) X.A)(hb:Binds X.K fd ps ds)(hd:a6 dvs ds)(hx:mS CX X E)(I:Inv X af Z H s)(r:a6 vs us)(h:∀x dx,H x=ae->H dx=ae->dx≠x->sp (.ref x::(vs++dvs)) (aK (aK H dx<|.own x) x<|.ins C dx []) (λv H2=>v=.non/\Q (!x) H2) E):
  X.a (call (!C) us) (EP X af Z Q) X.xe s:=by
 let hq:=h (⇑s+1) ⇑s (I.hok.fresh<|Fw _) (I.hok.fresh<|Aj _)<|Bw<|Eb _;let I2:=Inv.made (C:=C) I;let r2:a6 (V.ref (⇑s+1)::(vs++dvs)) (Value.ref (⇑s+1)::(us++ds)):=.cons rfl<|r.append hd;let hl:↥(Value.ref (⇑s+1)::us++ds)=↥ps:=by
  let e:=↥r2;rw[F.len _ _ _ _ hq]at e;show e.symm
 show wpAny_call (TJ (f:=f) I.kIn M.makes M.init (beq_iff_eq.mp M.fn) (Qr (F.run _ X.stack _ _ #[Value.ref (⇑s+1)::us,[]] (Value.ref (⇑s+1)::(us++ds)) _ _ E (hr.make C us [])
  (I2.env0.make C us []) (hb _ (Value.ref (⇑s+1)::us) I2.kIn hl) r2 hq) λr s' hq'=>8))
 cases r with
 | error e=>show hx af Z _ _ e s' I2 hq'
 | ok fl=>
  cases fl with
  | ret u=>
   let#[v,H',I3,rv,ev,q3]:=I2.after hq';subst ev;show#[rv,#[V.ref<|⇑s+1,H',I3,7,q3]]
  | next=>show Br hq'
  | brk=>show Br hq'
  | cont=>show Br hq'
def UE(M:Mk X.K C f)(F:X.f CX k f fd ps sp)(G:cT (k+1) X.A)(hg:Gl X x)(J:X.mg x=aa !C)(Y:Binds X.K fd ps ds)(hd:a6 dvs ds)(S:mS CX X E)(D:PA X (e::es) t)(o:Db x:=by decide)(P:Se X e es:=by rfl)(y:Sb X pos es:=by rfl):
  PE X (.Call (.Name x p) (e::es) [] pos) (DZ C sp dvs E t):=by
 intro af s Z H Q I h;show Ek<|tW I hg J 8 o;show Nt (h₀:=X.base) I.ok.mod.kin M.kp (aY (D pos af s Z H _ I h) λus s1 #[vs,B,g,r,q]=>#[g.kIn,8]) P y;show D0 M F G Y hd S g r q
def UG(M:Mk X.K C f)(F:X.f CX k f fd ps sp)(G:cT (k+1) X.A)(hg:Gl X x)(J:X.mg x=aa !C)(Y:Binds X.K fd ps ds)(hd:a6 dvs ds)(S:mS CX X E)(o:Db x:=by decide):PE X (.Call (.Name x p) [] [] pos) (DZ C sp dvs E yL):=by
 intro af s Z H Q I h;show Ek<|tW I hg J 8 o;show PySem.W.callWith_K0 I.kIn M.kp<|D0 (us:=[]) M F G Y hd S I .nil h
end
structure mT(N P:↑Av)(sc:Lm):Prop where
 kind:sc.kind=.function
 co:sc.isCoroutine=ac
 gen:sc.isGenerator=ac
 nd:N.Nodup
 pre:N.take ↥P=P
 par:∀x∈P,sc.names.lookup x=-.local\/sc.names.lookup x=-.cell
 nofree:∀y∈sc.names,y.2≠.free
theorem D4{a:Av->Option Lb}:∀{binds:↑(Av×Value)} {m:Av->Option Value},(∀v,(x,v)∉binds)->Vz a binds m x=m x
 | [],_,_=>rfl
 | (n,v)::r,m,h=>by
  unfold Vz;rw[D4 λw hw=>h w<|Bi _ hw];split
  .have:x≠n:=by rintro rfl;show h v Bj
   simp[this]
  .rfl
theorem D5{a:Av->Option Lb}:∀{binds:↑(Av×Value)} {m:Av->Option Value},(∀v,(x,v)∉binds)->Wa a binds m x=m x
 | [],_,_=>rfl
 | (n,v)::r,m,h=>by
  unfold Wa;rw[D5 λw hw=>h w<|Bi _ hw];split
  .rfl
  .have:x≠n:=by rintro rfl;show h v Bj
   simp[this]
theorem D6{a:Av->Option Lb}{x:Av}{v:Value}:∀{P:↑Av} {vs:↑Value} {i:Nat} {m:Av->Option Value},P.Nodup->P[i]? = aa x->vs[i]? = aa v->a x=-.local->
  Vz a (P.zip vs) m x=-v
 | [],_,_,_,_,h,_,_=>by simp at h
 | _::_,[],_,_,_,_,h,_=>by simp at h
 | p::P,w::vs,0,m,nd,L,Y,hk=>by
  simp at L Y;subst L;subst Y;change Vz a ((p,w)::P.zip vs) m p=_;unfold Vz;rw[D4 λv c=>(Dc.mp nd).1 (Lh c).1,Xu hk];simp
 | p::P,w::vs,i+1,m,nd,L,Y,hk=>by
  change Vz a ((p,w)::P.zip vs) m x=_;unfold Vz;show D6 (i:=i) (Dc.mp nd).2 L⁻¹ Y⁻¹ hk
theorem D7{a:Av->Option Lb}{x:Av}{v:Value}:∀{P:↑Av} {vs:↑Value} {i:Nat} {m:Av->Option Value},P.Nodup->P[i]? = aa x->vs[i]? = aa v->a x≠aa .local->
  Wa a (P.zip vs) m x=-v
 | [],_,_,_,_,h,_,_=>by simp at h
 | _::_,[],_,_,_,_,h,_=>by simp at h
 | p::P,w::vs,0,m,nd,L,Y,hk=>by
  simp at L Y;subst L;subst Y;change Wa a ((p,w)::P.zip vs) m p=_;unfold Wa;rw[D5 λv c=>(Dc.mp nd).1 (Lh c).1,Xs hk];simp
 | p::P,w::vs,i+1,m,nd,L,Y,hk=>by
  change Wa a ((p,w)::P.zip vs) m x=_;unfold Wa;show D7 (i:=i) (Dc.mp nd).2 L⁻¹ Y⁻¹ hk
noncomputable def start(N:↑Av)(vs:↑V):St:=vs.map aa++Cb (↥N-↥vs) ae
noncomputable def kI(CX:kH)(P:Bc)(w:Bq)(K:Ac)(mg:Av->Option Value)(base:Cz)(N:↑Av)(j:Av)(g:Lm)(f:Ao)(t:Value)(A:Cw)(outer:↑Env)(s:Ai)(H:Hp)(E:XK):Cx where
 prog:=P
 w:=w
 K:=K
 mg:=mg
 base:=base
 A:=A.deeper (Nd j g ⇑s f t)
 N:=N
 s₀:=s
 H₀:=H
 env:=Nd j g ⇑s f t
 outer:=outer
 stack:=Nd j g ⇑s f t::outer
 ex:=[]
 calm:=ab
 fn:=λ_=>ab
 pn:=[]
 xe:=λe s'=>Bm (Cp P w) (A.deeper<|Nd j g ⇑s f t) (leaving (Nd j g ⇑s f t) e) (λ_ d=>CX outer H s E e d) (λO d=>CX outer H s E O d) s'
def D8{sc:Lm}{n:Nat}{x:Av}(h:sc.names.lookup x=-.cell):∃c,(Xp n sc.names []).lookup x=-c:=by
 let q:=PySem.W.cellsFrom_some sc.names n []<|.inl h;show El.mp q
def UH{CX:kH}{P:Bc}{w:Bq}{K:Ac}{mg:Av->Option Value}{base:Cz}{N ps:↑Av}{j:Av}{g:Lm}{f:Ao}{t:Value}{A:Cw}{outer:↑Env}{s s1:Ai}{H:Hp}{E:XK}{us:↑Value}{vs:↑V}(S:mT N ps g)(hd:A.handled=ae)(C:oB P w K mg base A outer s H)(hl:↥vs=↥ps)(r:a6 vs us)(x:InCallC s ⇑s (Vz (Nd j g ⇑s f t).kindOf (ps.zip us) λ_=>ae) (Xp (⇑s+1) g.names []) (Wa (Nd j g ⇑s f t).kindOf (ps.zip us) λ_=>ae) s1):
  Inv (kI CX P w K mg base N j g f t A outer s H E) [] (start N vs) H s1:=by
 let o:↥ps<=↥N:=by have:=congrArg Js S.pre;rw[Ct]at this;lia
 let#[L,tk,rfl,hk]:=x.done;let I:∀b:Ao,b∉(kI CX P w K mg base N j g f t A outer s H E).ex:=λb z=>absurd (show b∈([]:↑Ao) from z) 6;show#[#[C.mod,S.kind,7,7,Aj _,λy z c L Y=>8,λy U=>8,λy c _ h=>8,λ_=>hd,Around.frames_deeper C.frames,.inr #[7,7],λb z=>absurd z<|I b,C.bs,C.bsz,λb _ _=>I b,λb z=>absurd z<|I b,C.funs,C.frf],
  rfl,C.bare,Un.kept hk,#[_,x.toInCall.ns,λi y v L Y O=>8],λy c h=>#[_,x.cell y c h],C.hok.fresh<|Aj _,λy c h=>8,λp B=>absurd (show p∈([]:↑(Ao×Nh)) from B) 6,C.hok.kept hk,8]
 .show name_of_addr x.apart (Jh L)<|Jh Y
 .let U:g.names.lookup y=-.cell\/g.names.lookup y=-.free:=U;rcases U with U|U
  .show D8 U
  .show absurd rfl<|S.nofree _<|Jh U
 .show Hk<|x.above y c<|Jh h
 .let hi:i<↥vs:=by
   unfold start at Y
   by_cases hi:i<↥vs
   .show hi
   .rw[Ii hi⁻¹]at Y;rw[List.getElem?_replicate]at Y;split at Y<;>ext Y
  let D:vs[i]? = aa v:=by
   unfold start at Y;rw[Oo hi⁻¹,Au]at Y;cases e:vs[i]? with
   | none=>rw[e]at Y;ext Y
   | some a=>rw[e]at Y;ext Y;rfl
  let#[u,Z,m]:=r.get D;let B:ps[i]? = aa y:=by
   rw[<-S.pre,List.getElem?_take_of_lt 9];show L
  let d:ps.Nodup:=by rw[<-S.pre];show S.nd.sublist<|List.take_sublist _ _
  show#[u,m,8];rcases S.par y (Ah B) with k|k
  .show .inl #[k,D6 d B Z k]
  .let#[c,e]:=D8 (n:=⇑s+1) k;show .inr #[.inl k,c,e,8];let q:=x.cell y c e;rw[D7 d B Z<|by change g.names.lookup y≠_;rw[k];decide]at q;show q
 .show C.hok.fresh<|Hk<|x.above y c<|Jh h
 .unfold start;change _=↥N;rw[Ag,Ab,Ka];lia
def UI{CX:kH}{P:Bc}{w:Bq}{K:Ac}{mg:Av->Option Value}{base:Cz}{k:Nat}{f:Ao}{name qual:Av}{params:Arguments}{body:↑Kt}{scope:Lm}{dV kV doc pm cdv ct oc:Value}{an od:Option Ao}{osl:Array (Option Value)}{N ps:↑Av}{sp:Sp}(lk:K.lookup f=-#[oc,od,.func<|Gq name qual params body scope dV kV doc pm an cdv ct,osl])(hcd:Ls K cdv qual=ab)(S:mT N ps scope)(len:∀vs H Q E,sp vs H Q E->↥vs=↥ps)(hbody:∀(A:Cw) (outer:↑Env) (s:Ai) (H:Hp) (vs:↑V) (Q:VK) (E:XK),cT k (A.deeper<|Nd qual scope ⇑s f cdv)->sp vs H Q E->
   ∃t,fT (kI CX P w K mg base N qual scope f cdv A outer s H E) body t/\t {nx:=λ_ H'=>Q .non H',rt:=Q} (start N vs) H):
  iV P w K mg base CX (k+1) f (Gq name qual params body scope dV kV doc pm an cdv ct) ps sp:=by
 show#[len,λA outer s H args us vs Q E hr e0 hb r hsp=>8];let hl:=len _ _ _ _ hsp;let KX:K.In s.heap:=e0.mod.kin.keeps λb o e=>(e0.bs b o e).1;let lim:s.heap.NoLimit:=e0.mod.nolimit.keeps λb o e=>(e0.bs b o e).1;let hkind:∀y∈ps.zip us,scope.names.lookup y.1=-.local\/(scope.names.lookup y.1=-.cell/\((Xp (⇑s+1) scope.names []).lookup y.1).isSome=ab):=λ#[n,v] hy=>by
  rcases S.par n (Lh hy).1 with q|q
  .show .inl q
  .show .inr #[q,PySem.W.cellsFrom_some _ _ _<|.inl q]
 show codeAny_call_function hr.depth (KX _ _ lk) rfl S.co S.gen rfl (PySem.W.codeRec_of KX hcd)<|hb _ _ _ _ 8;show wpAny_newFunctionEnv_cells S.kind hkind λenv he s1 x=>8;subst he;show#[lim.keeps x.toInCall.keep,codeAny_func 8];let#[t,ht,hq]:=hbody A outer s H vs Q E (hr.deeper _) hsp;let I:Inv (kI CX P w K mg base N qual scope f cdv A outer s H E) [] (start N vs) H s1:=UH S hr.hd e0 hl r x;show Ir (ht [] s1 (start N vs) H _ I hq) (λfl s' hs=>8) λe s' hs=>hs;let fin:∀{σ':St} {H':Hp} {v:V} {u:Value},Inv (kI CX P w K mg base N qual scope f cdv A outer s H E) [] σ' H' s'->RelV v u->Q v H'->CE outer P w H s Q u s':=
  λ{σ' H' v u} J rv q=>#[v,H',J.os,J.bare,J.base,J.hok,rv,q]
 cases fl with
 | ret u=>
  let#[v,σ',H',J,rv,q]:=hs;show fin J rv q
 | next=>
  let#[σ',H',J,q]:=hs;show fin (v:=V.non) (u:=Value.none) J rfl q
 | brk=>
  let#[_,_,_,q]:=hs;show Br q
 | cont=>
  let#[_,_,_,q]:=hs;show Br q
section
variable {X:Cx}{x:Av}{p pos:Ja}{e:Ck}{es:↑Ck}{t:TA}{id T:String}{r:↑V->Hp->VK->Prop}
def yN(r:↑V->Hp->VK->Prop)(t:TA):TE:=λZ H Q=>t Z H λvs B=>r vs B Q
def UJ(hc:cM X (.builtin id) r)(hg:Gl X x)(J:X.mg x=ae)(c:Cy x=-.builtin id)(S:PA X (e::es) t)(K:x≠"__name__":=by decide)(o:Db x:=by decide)(P:Se X e es:=by rfl)(y:Sb X pos es:=by rfl):PE X (.Call (.Name x p) (e::es) [] pos) (yN r t):=by
 intro af s Z H Q I h;show Ek<|gO I hg J c 8 K o;show PyProof.Rows.callWith_builtin1 (aY (S pos af s Z H _ I h) λus s1 V=>by let#[vs,B,g,F,C]:=V;show hc af s1 Z B vs us Q g F C) P y
def UK(hc:cM X (.type T) r)(hg:Gl X x)(J:X.mg x=ae)(c:Cy x=-.type T)(S:PA X (e::es) t)(K:x≠"__name__":=by decide)(o:Db x:=by decide)(P:Se X e es:=by rfl)(y:Sb X pos es:=by rfl):PE X (.Call (.Name x p) (e::es) [] pos) (yN r t):=by
 intro af s Z H Q I h;show Ek<|gO I hg J c 8 K o;show Ce (aY (S pos af s Z H _ I h) λus s1 #[vs,B,g,F,C]=>hc af s1 Z B vs us Q g F C) P y
end
end L2
namespace HT
section
variable {prog:Bc}{w:Bq}{A:Cw}{E:Value->Ai->Prop}{s:Ai}
def cat_tup{Q:Value->Ai->Prop}(ht:IsTup s.heap t vs.toArray)(Z:IsTup s.heap b ws.toArray)(c:vs≠[])(L:ws=[]->Q (!t) s)(Y:ws≠[]->Q (!⇑s) (s<&>s.heap.push {cls:=.type "tuple",data:=.seq (vs++ws).toArray}))(hsz:↥vs+↥ws<=Aw):Bm (Cp prog w) A (Ez .Add (!t) !b) Q E s:=by
 obtain⟨⟨cls,x,data,sl⟩,f,hc,n,hd⟩:=id ht;obtain⟨⟨p,j,k,g⟩,d,o,D,l⟩:=id Z;simp only at hc hd o l;subst hc hd o l;let e:vs.toArray++ws.toArray=(vs++ws).toArray:=by simp
 by_cases hw:ws=[]
 .show Wl #[_,f,7] #[_,d,7] Uh Vu Pb Ov (Oi _ _)
   (tuple_addW1 t b vs.toArray ws.toArray n D x j sl g c⁻¹<|by simp[hw]) #[f,d,L hw]
 .show Wl #[_,f,7] #[_,d,7] Uh Vu Pb Ov (Oi _ _)
   (tuple_addW2 t b vs.toArray ws.toArray n D x j sl g c⁻¹ hw⁻¹<|by rw[Bg,Bg];show hsz) #[f,d,8]
  rw[e];show Y hw
def sIx(n d:Nat):Option Int->Nat
 | none=>d
 | some v=>if v<0 then(v+(n:Int)).toNat else min v.toNat n
def sIx_nat(n d k:Nat):sIx n d (aa (k:Int))=min k n:=rfl
def UL(n d:Nat)(hd:d<=n)(o:Option Int):sIx n d o<=n:=by
 cases o with
 | none=>show hd
 | some v=>
  change(if v<0 then(v+(n:Int)).toNat else min v.toNat n)<=n
  by_cases c:v<0
  .rw[Xu c];lia
  .rw[Xs c];show Kv _ _
def clip_eq(v:Int)(n d:Nat):(if v<0 then max (v+(n:Int)) 0 else min v (n:Int))=((sIx n d (-v):Nat):Int):=by
 change(if v<0 then max (v+(n:Int)) 0 else min v (n:Int))=(((if v<0 then(v+(n:Int)).toNat else min v.toNat n):Nat):Int)
 by_cases c:v<0
 .rw[Xu c,Xu c];show(Int.toNat_eq_max _).symm
 .rw[Xs c,Xs c,Lean.Omega.Int.ofNat_min,Int.toNat_of_nonneg<|Ww.mp c]
def UM(lo hi:Option Int)(n:Nat):Nk lo hi 1 (n:Int)=(((sIx n 0 lo:Nat):Int),((sIx n n hi:Nat):Int)):=by
 let L:¬((1:Int)<0):=9
 unfold Nk;simp only[L,if_false];show Pe 8 8
 .cases lo with
  | none=>rfl
  | some v=>show clip_eq v n 0
 .cases hi with
  | none=>rfl
  | some v=>show clip_eq v n n
def UN(i j:Nat):Jw (i:Int) (j:Int) 1=j-i:=by
 unfold Jw;rw[Xu ∅,Int.ediv_one,Int.sub_add_cancel];split
 .show Int.toNat_sub ..
 .show(Nat.sub_eq_zero_of_le<|Ni λh=>‹¬((i:Int)<j)› (Int.ofNat_lt.mpr h)).symm
def D9{Q:Option Int->Ai->Prop}(p:Um v o)(h:Q o s):Bm (Cp prog w) A (Builtin.Slice.slicePartIndex v) Q E s:=by
 cases p with
 | none=>show slicePart_none h
 | int i t=>show slicePart_int h
def UO{sl:Ao}{y c:Value}{lo hi:Option Int}{n:Nat}{Q:Int×Int×Nat->Ai->Prop}(l:s.heap.IsSliceOf sl y c .none)(pl:Um y lo)(J:Um c hi)(h:Q (((sIx n 0 lo:Nat):Int),1,sIx n n hi-sIx n 0 lo) s):Bm (Cp prog w) A (Builtin.Slice.sliceApplied (!sl)<|pure (n:Int)) Q E s:=by
 let#[os,d,e,b]:=id l;unfold Builtin.Slice.sliceApplied Builtin.Slice.sliceFields;show Aa<|Aa<|Dh d b (x:=y) rfl<|Aa<|Dh d b (x:=c) rfl<|Aa<|Dh d b (x:=.none) rfl<|Ak 8;show Aa<|slicePart_none 8;change Bm _ _ (if ((1:Int)==0)=ab then _ else _) _ _ s;rw[Xs ∅];show Aa<|D9 pl<|Aa<|D9 J<|Aa<|Ak 8;change Bm _ _ (match Nk lo hi 1 (n:Int) with|(lo,hi)=>pure (lo,(1:Int),Jw lo hi 1)) _ _ s;rw[UM lo hi n];change Bm _ _ (pure (((sIx n 0 lo:Nat):Int),(1:Int),Jw ((sIx n 0 lo:Nat):Int) ((sIx n n hi:Nat):Int) 1)) _ _ s;rw[UN];show Ak h
def UP(xs:Array Value)(i k:Nat):((Ci k).filterMap λ(m:Nat)=>xs[((i:Int)+(m:Int)*1).toNat]?).toArray=((xs.toList.drop i).take k).toArray:=by
 let e:(λ(m:Nat)=>xs[((i:Int)+(m:Int)*1).toNat]?)=λm=>xs[i+m]?:=by
  funext m;have:((i:Int)+(m:Int)*1).toNat=i+m:=by rw[Int.mul_one,<-Tz,Cq]
  rw[this]
 rw[e];have:=pick_run xs i k;rw[Lq]at this;let J:((λx=>xs[x]?) ∘ λx=>i+x)=λm=>xs[i+m]?:=rfl;rw[J]at this;rw[this]
def getItem_tuple_cut{t sl:Ao}{items:Array Value}{y c:Value}{lo hi:Option Int}{Q:Value->Ai->Prop}(ht:IsTup s.heap t items)(l:s.heap.IsSliceOf sl y c .none)(pl:Um y lo)(J:Um c hi)(hw:¬(sIx items.size 0 lo=0/\sIx items.size items.size hi=items.size))(h:Q (!⇑s)<|s<&>s.heap.push {cls:=.type "tuple",data:=.seq ((items.toList.drop<|sIx items.size 0 lo).take<|sIx items.size items.size hi-sIx items.size 0 lo).toArray})(hsz:items.size<=Aw):Bm (Cp prog w) A (Vc (!t) !sl) Q E s:=by
 let a:sizeOk (.seq ((items.toList.drop<|sIx items.size 0 lo).take<|sIx items.size items.size hi-sIx items.size 0 lo).toArray):=by
  change((items.toList.drop<|sIx items.size 0 lo).take<|sIx items.size items.size hi-sIx items.size 0 lo).toArray.size<=Aw;rw[Bg,Ct,Eo,Gk];show Am (Kv _ _)<|Am (Wt _ _) hsz
 let F:sIx items.size items.size hi<=items.size:=UL _ _ (Aj _) hi;let#[os,d,e,b]:=id l;let f:s.TypeIs (!sl) "slice":=#[os,d,e];unfold Vc
 try with_reducible refine Eg 8
 first|refine Aa (Ak 8)|skip
 show Aa<|wpAny_sequenceKey ht.typeIs ∅ 8;show Aa (Dj (name:=Bz "__getitem__") ht.typeIs Ld
  (Co Ld ht.typeIs entry_tuple_getitem 8<|args_tuple_getitem _ _))
 change Bm _ _ (Builtin.Tuple.tupleItemsOf (!t)>>=_) _ _ s;show Aa<|tupleItemsOf_ ht 8;show Aa<|Qo f 8;rw[Xu ∅];show Aa<|UO l pl J 8;let g:¬((((sIx items.size 0 lo:Nat):Int)==0&&(1:Int)==1&&(sIx items.size items.size hi-sIx items.size 0 lo)==items.size)=ab):=by
  intro q;rw[Dg,Dg]at q;let C:((sIx items.size 0 lo:Nat):Int)=0:=eq_of_beq q.1.1;let O:sIx items.size items.size hi-sIx items.size 0 lo=items.size:=eq_of_beq q.2;show hw #[by omega,by omega]
 change Bm _ _ (if (((sIx items.size 0 lo:Nat):Int)==0&&(1:Int)==1&&(sIx items.size items.size hi-sIx items.size 0 lo)==items.size)=ab then _ else _) _ _ s;rw[Xs g,UP]
 first
  | exact Aa (m:=Hm _) (Du (Ak #[_,7,Ak h]) a)
  | exact Aa (m:=Hm _) (Du (Aa<|Ak<|Ak #[_,7,Ak h]) a)
  | exact Aa (Aa (m:=Hm _)<|Du (Ak<|Ak #[_,7,Ak h]) a)
  | exact Aa (Aa (m:=Hm _)<|Du (Ak #[_,7,Ak h]) a)
end
end HT
namespace L2
abbrev TO:=St->Hp->(Option Int->Hp->Prop)->Prop
def PO(X:Cx)(e:Option Ck)(t:TO):Prop:=
 ∀(af:Pn) (s:Ai) (Z:St) (H:Hp) (Q:Option Int->Hp->Prop),Inv X af Z H s->t Z H Q->
  X.a (evalPart e X.env) (λu M=>∃o L,Inv X af Z L M/\Um u o/\Q o L) X.xe s
def UQ:TO:=λ_ H Q=>Q ae H
def UR(t:TE):TO:=λZ H Q=>t Z H λx B=>∃i,x=¬i/\Q (-i) B
section
variable {X:Cx}{e:Ck}{te:TE}{lo hi:Option Ck}{tl th:TO}{pos p2:Ja}
def US:PO X ae UQ:=by
 intro af s Z H Q I h;rw[evalPart_none];show Ak #[ae,H,I,.none,h]
def UT(h:PE X e te):PO X (-e) (UR te):=by
 intro af s Z H Q I hw;rw[evalPart_some];show aY (h af s Z H _ I hw) λu s1 V=>8;let#[x,B,g,F,C]:=V;let#[i,rfl,q]:=C;let#[t,rfl]:=F;show#[-i,B,g,.int i t,q]
def uB(X:Cx)(r:V->Option Int->Option Int->Hp->VK->Prop):Prop:=
 ∀(af:Pn) (s:Ai) (Z:St) (H:Hp) (x:V) (v y c:Value) (lo hi:Option Int) (sl:Ao) (Q:VK),Inv X af Z H s->RelV x v->s.heap.IsSliceOf sl y c .none->Um y lo->Um c hi->r x lo hi H Q->
  ∃T id,Ky (.type T) "__getitem__" = pure (-.builtin id)/\s.TypeIs v T/\X.a (Vc v !sl) (EP X af Z Q) X.xe s
def UU(r:V->Option Int->Option Int->Hp->VK->Prop)(te:TE)(tl th:TO):TE:=λZ H Q=>te Z H λx B=>tl Z B λl z=>th Z z λu t=>r x l u t Q
def UW{r:V->Option Int->Option Int->Hp->VK->Prop}(G:uB X r)(P:PE X e te)(hl:PO X lo tl)(D:PO X hi th):PE X (.Subscript e (.Slice lo hi ae p2) pos) (UU r te tl th):=by
 intro af s Z H Q I h;show Subscript_<|aY (P af s Z H _ I h) λv s1 m=>8;let#[x,B,g,F,C]:=m;show wpAny_Slice<|aY (hl af s1 Z B _ g C) λy n #[l,z,i,pl,O]=>aY (D af n Z z _ i O) λc j f=>8;let#[u,t,w,J,o]:=f;rw[evalPart_none];show Ak 8;let S:Inv X af Z t (j<&>j.heap.push {cls:=.type "slice",data:=.fields [y,c,.none].toArray}):=w.kept (t':=j.toks) λb ob q=>Af _ q;let#[T,id,K,ht,hg]:=G af (j<&>j.heap.push {cls:=.type "slice",data:=.fields [y,c,.none].toArray}) Z t x v y c l u ⇑j Q S F (Heap.IsSliceOf.new ..) pl J o;change X.a (subscriptTail e (.Slice lo hi ae p2) v !⇑j) (EP X af Z Q) X.xe<|j<&>j.heap.push {cls:=.type "slice",data:=.fields [y,c,.none].toArray};show tail_any (ops:=[!⇑j,v]) ht K hg (by with_unfolding_all rfl)
noncomputable def mU(xs:↑V)(lo hi:Option Int):↑V:=(xs.drop<|HT.sIx ↥xs 0 lo).take<|HT.sIx ↥xs ↥xs hi-HT.sIx ↥xs 0 lo
def EA(xs:↑V)(lo hi:Option Int):↥(mU xs lo hi)<=↥xs:=by
 ext mU;rw[Ct,Eo];show Am (Kv _ _)<|Wt _ _
def UX(K:Ac):V->Option Int->Option Int->Hp->VK->Prop:=λx lo hi H Q=>∃a xs,x=!a/\bJ K H a xs/\
 ¬(HT.sIx ↥xs 0 lo=0/\HT.sIx ↥xs ↥xs hi=↥xs)/\∀p,H p=ae->Q (!p) (aK H p<|.tup<|mU xs lo hi)
def UY:uB X (UX X.K):=by
 intro af s Z H x v y c lo hi sl Q I B l pl J h;let#[a,xs,rfl,S,hw,q]:=h;ext B;let#[its,r,ht,hz]:=I.tuple S;let Y:its.toArray.size=↥xs:=by rw[Bg];show r.length.symm
 show#["tuple",_,Ld.lookup,ht.typeIs,8];show HT.getItem_tuple_cut ht l pl J (by rw[Y];show hw) 8 (by rw[Y];show hz);rw[Y];show#[!⇑s,_,I.laid (t':=s.toks) (o:=.tup<|mU xs lo hi) (λb ob q=>Af _ q) (Aj _) 8,7,q _<|I.hok.fresh<|Aj _];show#[Am (EA xs lo hi) hz,_,(r.drop<|HT.sIx ↥xs 0 lo).take<|HT.sIx ↥xs ↥xs hi-HT.sIx ↥xs 0 lo,Wu _ _]
def UZ(K:Ac):R2:=λx y H Q=>∃a b xs ys,x=!a/\y=!b/\bJ K H a xs/\bJ K H b ys/\xs≠[]/\↥xs+↥ys<=Aw/\
 (ys=[]->Q (!a) H)/\(ys≠[]->∀p,H p=ae->Q (!p) (aK H p<|.tup<|xs++ys))
def a6.nil_iff(r:a6 xs us):us=[]↔xs=[]:=by
 cases r with
 | nil=>simp
 | cons _ _=>simp
def U0:bF X (Ez .Add) (UZ X.K):=by
 intro af s Z H x y v u Q I B T h;let#[a,b,xs,ys,rfl,rfl,D,Y,S,hz,C,O]:=h;ext B;ext T;let#[its,F,G,_]:=I.tuple D;let#[i,R,p2,_]:=I.tuple Y;show HT.cat_tup G p2 (λz=>S<|F.nil_iff.mp z) (λz=>#[!a,H,I,7,C<|R.nil_iff.mp z]) (λz=>8) (by rw[<-↥F,<-↥R];show hz);show#[!⇑s,_,I.laid (t':=s.toks) (o:=.tup<|xs++ys) (λb ob q=>Af _ q) (Aj _) 8,7,O (λw=>z<|R.nil_iff.mpr w) _<|I.hok.fresh<|Aj _];show#[by rw[Ag];show hz,_,F.append R,Wu _ _]
end
noncomputable def gQ(n:Nat)(i:Int):Option Nat:=if 0<=i then(if i<n then aa i.toNat else ae) else if -(n:Int)<=i then aa (i+n).toNat else ae
noncomputable def bP{g:Type}(xs:↑g)(i:Int):Option g:=(gQ ↥xs i).bind λj=>xs[j]?
def yO{n:Nat}{i:Int}{j:Nat}(h:gQ n i=-j):Xm i n=-j/\j<n/\-(n:Int)<=i/\i<n:=by
 unfold gQ at h
 by_cases Z:0<=i
 .rw[Xu Z]at h
  by_cases L:i<n
  .rw[Xu L]at h;let e:i.toNat=j:=Cm h;show#[by rw[Wz Z L,e],9,9,L]
  .rw[Xs L]at h;ext h
 .rw[Xs Z]at h
  by_cases L : -(n:Int)<=i
  .rw[Xu L]at h;let e:(i+n).toNat=j:=Cm h;show#[by rw[seqIndex_neg 9 L,e],9,L,9]
  .rw[Xs L]at h;ext h
def yP{g:Type}{xs:↑g}{i:Int}{v:g}(h:bP xs i=-v):∃j,Xm i ↥xs=-j/\xs[j]? = aa v/\j<↥xs/\-(↥xs:Int)<=i/\i<↥xs:=by
 unfold bP at h;cases e:gQ ↥xs i with
 | none=>rw[e]at h;ext h
 | some j=>
  rw[e]at h;let#[L,Y,O,W]:=yO e;show#[j,L,h,Y,O,W]
def g9{g:Type}{xs:↑g}{j:Nat}{v:g}(h:xs[j]? = aa v):bP xs (j:Int)=-v:=by
 let F:j<↥xs:=(An.mp h).1;let e:gQ ↥xs (j:Int)=-j:=by
  ext gQ;rw[Xu 9,Xu 9];simp
 ext bP;rw[e];show h
def EB{g:Type}(xs:↑g)(v:g):bP (xs++[v]) (-1)=-v:=by
 let hl:↥(xs++[v])=↥xs+1:=by simp
 let e:gQ ↥(xs++[v]) (-1)=-↥xs:=by
  ext gQ;rw[hl,Xs ∅,Xu 9];congr 1;lia
 ext bP;rw[e];change(xs++[v])[↥xs]? = aa v;simp
def EC(b:Ck):Prop:=∀o i,subscripted b ac o i=operate [o,i] (Vc o i)
def jD(X:Cx)(r:R2):Prop:=
 ∀(e b:Ck) (af:Pn) (s:Ai) (Z:St) (H:Hp) (x y:V) (v u:Value) (Q:VK),Inv X af Z H s->RelV x v->RelV y u->r x y H Q->
  subscripted b ac v u=operate [v,u] (Vc v u)->X.a (subscriptTail e b v u) (EP X af Z Q) X.xe s
def e9(X:Cx)(id:String)(r:V->↑V->Hp->VK->Prop):Prop:=
 ∀(af:Pn) (s:Ai) (Z:St) (H:Hp) (x:V) (xs:↑V) (v:Value) (us:↑Value) (Q:VK),Inv X af Z H s->RelV x v->a6 xs us->r x xs H Q->
  X.a (call (.builtin id)<|v::us) (EP X af Z Q) X.xe s
section
variable {X:Cx}{a b:Ck}{ta tb:TE}{pos:Ja}
def jD.or(h:jD X r)(h':jD X g):jD X (λx y H Q=>r x y H Q\/g x y H Q):=by
 intro e b af s Z H x y v u Q I B T q l;rcases q with q|q
 .show h e b af s Z H x y v u Q I B T q l
 .show h' e b af s Z H x y v u Q I B T q l
def U1(G:jD X r)(S:PE X a ta)(Y:PE X b tb)(l:EC b):PE X (.Subscript a b pos) (rJ r ta tb):=by
 intro af s Z H Q I h;show Subscript_<|yI S Y I h λv u n x y z i B T q=>G a b af n Z z x y v u Q i B T q<|l _ _
def U2(K:Ac):R2:=λx y H Q=>∃p xs i v,x=!p/\y=¬i/\bO K H p xs/\bP xs i=-v/\Q v H
def U3(K:Ac):R2:=λx y H Q=>∃p xs i v,x=!p/\y=¬i/\bJ K H p xs/\bP xs i=-v/\Q v H
def U4:R2:=λx y H Q=>∃z i c,x=.str z/\y=¬i/\↥z<=Aw/\bP z.cps.toList i=-c/\Q (.str #[[c].toArray]) H
def U5:jD X (U2 X.K):=by
 intro e b af s Z H x y v u Q I B T h l;let#[p,xs,i,z,rfl,rfl,N,P,q]:=h;ext B;let#[t,rfl]:=T;let#[its,r,pl,hz]:=I.list N;let#[j,L,Y,O,W,U]:=yP P;let#[w,n,d]:=r.get Y;let hl:=↥r;let V:=jC;let fin:EP X af Z Q w s:=#[z,H,I,d,q]
 by_cases S:0<=i
 .let F:i.toNat=j:=by
   rw[Wz S U]at L;show Cm L
  show item_listR pl.isList S 9 (by rw[F];simpa using n) fin l
 .let F:(i+(its.toArray.size:Int)).toNat=j:=by
   rw[seqIndex_neg 9 W]at L;rw[Bg,<-hl];show Cm L
  show subscriptTail_builtinR (x:=w) pl.isList.typeIs slot_list_getitem.lookup
   (wpAny_getItem_list_neg (Q:=λr M=>r=w/\EP X af Z Q r M) pl.isList 9 (by rw[Bg]<;>lia) 9 (by rw[F];simpa using n) #[7,fin]) l
def U6:jD X (U3 X.K):=by
 intro e b af s Z H x y v u Q I B T h l;let#[p,xs,i,z,rfl,rfl,N,P,q]:=h;ext B;let#[t,rfl]:=T;let#[its,r,pl,hz]:=I.tuple N;let#[j,L,Y,O,W,U]:=yP P;let#[w,n,d]:=r.get Y;let hl:=↥r;let V:=jC;let fin:EP X af Z Q w s:=#[z,H,I,d,q];show subscriptTail_builtinR (x:=w) pl.typeIs slot_tuple_getitem.lookup
  (getItem_tuple (j:=j) (Q:=λr M=>r=w/\EP X af Z Q r M) pl 9 9 (by rw[Bg,<-hl];show L) n⁻¹ #[7,fin]) l
def U7:jD X U4:=by
 intro e b af s Z H x y v u Q I B d h l;let#[z,i,c,rfl,rfl,hz,P,q]:=h;let#[t,rfl]:=B;let#[t',rfl]:=d;let#[j,L,Y,O,W,U]:=yP P;let hl:↥z.cps.toList=↥z:=by simp[Str.length]
 rw[hl]at L W U;let K:=jC;show tail_any (Xd s z t) slot_str_getitem.lookup (getItem_str (c:=c) (by
  let T:decide (i < -(2 ^ 63:Int))=ac:=Xx 9;let J:decide (i ≥ 2 ^ 63)=ac:=Xx 9;rw[T,J,Rp]) (by rw[L];simpa using Y) #[.str #[[c].toArray],H,I.tok _,#[_,7],q]) l
def U8(its:↑Value)(n j:Nat)(u:Value):Ng (·.setIfInBounds j u) (lO its.toArray n)=(lO (its.set j u).toArray n):=by
 simp[Ng]
def Inv.lst{af:Pn}{Z:St}{H:Hp}{s:Ai}{p:Ao}{xs:↑V}(I:Inv X af Z H s)(h:H p=-.lst xs):
  ∃(its:↑Value) (n:Nat),a6 xs its/\s.heap.get? p=-lO its.toArray n/\↥xs<=Aw:=by
 let#[z,its,n,r,e]:=I.hok p _ h;show#[its,n,r,e,z]
def Inv.lstUpd{af:Pn}{Z:St}{H:Hp}{s:Ai}{p:Ao}{xs ys:↑V}{its its':↑Value}{n l:Nat}{f:Nh->Nh}(I:Inv X af Z H s)(h:H p=-.lst xs)(D:s.heap.get? p=-lO its.toArray n)(hf:f (lO its.toArray n)=(lO its'.toArray l))(r:a6 ys its')(hz:↥ys<=Aw)(t:Nat):
  Inv X af Z (aK H p<|.lst ys) {s with heap:=s.heap.update p f,toks:=t}:=by
 let e:(s.heap.update p f).get? p=-lO its'.toArray l:=by
  rw[Fo f D<|by rw[hf]<;>rfl,hf]
 show I.write (x:=p) (e:=p) (by rw[h];trivial) (.inl rfl) (λb u Y q=>(Hj _ _<|Cs Y).trans q) #[_,e] 8;show#[hz,its',l,r,e]
def U9:V->V->V->Hp->(Hp->Prop)->Prop:=λo i v H Q=>∃p xs k j,o=!p/\i=¬k/\H p=-.lst xs/\gQ ↥xs k=-j/\Q (aK H p<|.lst<|xs.set j v)
def VA:tY X U9:=by
 intro af s Z H o i v b c u Q I x E m h;let#[p,xs,k,j,rfl,rfl,B,F,q]:=h;ext x;let#[t,rfl]:=E;let#[its,n,r,f,hz]:=I.lst B;let#[L,Y,O,R]:=yO F;let hl:=↥r;let K:=jC;let w:Inv X af Z (aK H p<|.lst<|xs.set j v) (s<&>s.heap.update p (Ng (·.setIfInBounds j u))):=
  I.lstUpd B f (U8 its n j u) (r.set m j) (by rw[List.length_set];show hz) s.toks
 by_cases W:0<=k
 .let hk:k.toNat=j:=by
   rw[Wz W R]at L;show Cm L
  show PySem.W.ki_setAt f W 9 (by rw[Bg,<-hl];show R) (by rw[hk];show#[_,w,q])
 .let hk:(k+(its.toArray.size:Int)).toNat=j:=by
   rw[seqIndex_neg 9 O]at L;rw[Bg,<-hl];show Cm L
  show PySem.W.ki_setBack f 9 (by rw[Bg,<-hl];show O) 9 (by rw[hk];show#[_,w,q])
def ED(v:Int)(n d:Nat):max 0 (min (if v<0 then v+(n:Int) else v) (n:Int))=((HT.sIx n d (-v):Nat):Int):=by
 rw[<-HT.clip_eq v n d]
 by_cases c:v<0
 .rw[Xu c,Xu c,Int.max_comm,Int.min_eq_left<|Int.add_le_of_le_sub_right<|by rw[Int.sub_self];show Int.le_of_lt c]
 .rw[Xs c,Xs c];show Int.max_eq_right<|Int.le_min.mpr #[Ww.mp c,Lv n]
def VB(lo hi:Option Int)(n:Nat):(Wy lo hi ae n).1=((HT.sIx n 0 lo:Nat):Int)/\(Wy lo hi ae n).2.1=((HT.sIx n n hi:Nat):Int)/\(Wy lo hi ae n).2.2=1:=
 #[by cases lo with|none=>rfl|some i=>show ED i n 0,by cases hi with|none=>rfl|some i=>show ED i n n,7]
def VC(its:↑Value)(lo hi:Option Int):slicePick its.toArray lo hi ae=((its.drop<|HT.sIx ↥its 0 lo).take<|HT.sIx ↥its ↥its hi-HT.sIx ↥its 0 lo).toArray:=by
 let#[L,Y,O]:=VB lo hi its.toArray.size;unfold slicePick;rw[L,Y,O];simp only[sliceRange_one,pick_run,Bg]<;>rfl
def VD(K:Ac):V->Option Int->Option Int->Hp->VK->Prop:=λx lo hi H Q=>∃a xs,x=!a/\bO K H a xs/\∀p,H p=ae->Q (!p) (aK H p<|.lst<|mU xs lo hi)
def yQ:uB X (VD X.K):=by
 intro af s Z H x v y c lo hi sl Q I B l pl J h;let#[a,xs,rfl,S,q]:=h;ext B;let#[its,r,ht,hz]:=I.list S;let Y:=↥r;show#["list",_,slot_list_getitem.lookup,ht.isList.typeIs,8];show wpAny_getItem_list_slice ht.isList l pl J .none 6 8 (by rw[Bg]<;>lia);rw[VC,<-Y];show#[!⇑s,_,I.laid (t':=s.toks) (o:=.lst<|mU xs lo hi) (λb ob q=>Af _ q) (Aj _) 8,7,q _<|I.hok.fresh<|Aj _];show#[Am (EA xs lo hi) hz,_,0,(r.drop<|HT.sIx ↥xs 0 lo).take<|HT.sIx ↥xs ↥xs hi-HT.sIx ↥xs 0 lo,Ax _ rfl]
noncomputable def kJ:V->Bool
 | .non=>ab
 | .bl _=>ab
 | .int _=>ab
 | .str _=>ab
 | _=>ac
noncomputable def kK:V->V->Bool
 | .non,.non=>ab
 | .bl a,.bl b=>a==b
 | .bl a,¬b=>(if a then 1 else 0)==b
 | .int a,.bl b=>a==(if b then 1 else 0)
 | .int a,¬b=>a==b
 | .str a,.str b=>a==b
 | _,_=>ac
def VE(T:RelV y u)(B:RelV x v)(c:kJ y=ab)(fx:kJ x=ab):Xq A s u v (kK y x):=by
 cases y with
 | non=>
  ext T;cases x with
  | non=>ext B;show SeqAt.EqAt.same _
  | bl b=>ext B;show SeqAt.EqAt.none_bool b
  | int b=>let#[t,rfl]:=B;show SeqAt.EqAt.none_int b t
  | str b=>let#[t,rfl]:=B;show SeqAt.EqAt.none_str b t
  | _=>show absurd (show ac=ab from fx) Bb
 | bl a=>
  ext T;cases x with
  | non=>ext B;show SeqAt.EqAt.bool_none a
  | bl b=>ext B;show SeqAt.EqAt.bool_bool a b
  | int b=>let#[t,rfl]:=B;show SeqAt.EqAt.bool_int a b t
  | str b=>let#[t,rfl]:=B;show SeqAt.EqAt.bool_str a b t
  | _=>show absurd (show ac=ab from fx) Bb
 | int a=>
  let#[t',rfl]:=T;cases x with
  | non=>ext B;show SeqAt.EqAt.int_none a t'
  | bl b=>ext B;show SeqAt.EqAt.int_bool a t' b
  | int b=>let#[t,rfl]:=B;show SeqAt.EqAt.int_int a t' b t
  | str b=>let#[t,rfl]:=B;show SeqAt.EqAt.int_str a t' b t
  | _=>show absurd (show ac=ab from fx) Bb
 | str a=>
  let#[t',rfl]:=T;cases x with
  | non=>ext B;show SeqAt.EqAt.str_none a t'
  | bl b=>ext B;show SeqAt.EqAt.str_bool a t' b
  | int b=>let#[t,rfl]:=B;show SeqAt.EqAt.str_int a t' b t
  | str b=>let#[t,rfl]:=B;show SeqAt.EqAt.str_str a t' b t
  | _=>show absurd (show ac=ab from fx) Bb
 | _=>show absurd (show ac=ab from c) Bb
noncomputable def hJ(x:V)(u:Value):Bool:=match u with
 | .none=>kK .non x
 | .bool b=>kK (.bl b) x
 | .int i _=>kK (¬i) x
 | .str z _=>kK (.str z) x
 | _=>ac
def EE(r:RelV y u)(f:kJ y=ab):hJ x u=kK y x:=by
 cases y with
 | non=>ext r;rfl
 | bl b=>ext r;rfl
 | int i=>let#[t,rfl]:=r;rfl
 | str z=>let#[t,rfl]:=r;rfl
 | _=>show absurd (show ac=ab from f) Bb
def uC:∀{xs:↑V} {us:↑Value},a6 xs us->xs.all kJ=ab->us.any (hJ x)=xs.any λy=>kK y x:=by
 intro xs us h f
 induction h with
 | nil=>rfl
 | cons r t E=>
  rw[Lf,Dg]at f;rw[Fx,Fx,EE r f.1,E f.2]
theorem rK(B:RelV x v)(fx:kJ x=ab):∀{xs:↑V} {us:↑Value},a6 xs us->xs.all kJ=ab->∀u∈us,Xq A s u v (hJ x u)
 | _,_,.nil,_=>λu D=>by ext D
 | y::xs,u::us,.cons r t,f=>λz D=>by
  rw[Lf,Dg]at f;rcases Bd.mp D with rfl|D
  .rw[EE r f.1];show VE r B f.1 fx
  .show rK B fx t f.2 z D
noncomputable def inV(x:V)(xs:↑V):Bool:=xs.any λy=>kK y x
def EF(K:Ac)(neg:Bool):R2:=λx y H Q=>∃p xs,y=!p/\(bO K H p xs\/bJ K H p xs)/\kJ x=ab/\xs.all kJ=ab/\Q (.bl (if neg then !(inV x xs) else inV x xs)) H
def VF:bF X (Dq .In) (EF X.K ac):=by
 intro af s Z H x y v u Q I B T h;let#[p,xs,rfl,N,fx,fs,q]:=h;ext T;rcases N with N|N
 .let#[its,r,pl,hz]:=I.list N;show SeqAt.in_listAt (hJ x) pl.isList (λw hw=>rK B fx r fs w hw⁻¹) #[.bl _,H,I,7,8];rw[show its.toArray.any (hJ x)=its.any (hJ x) by simp,uC r fs];show q
 .let#[its,r,pl,hz]:=I.tuple N;show SeqAt.in_tupleAt (hJ x) pl (λw hw=>rK B fx r fs w hw⁻¹) #[.bl _,H,I,7,8];rw[show its.toArray.any (hJ x)=its.any (hJ x) by simp,uC r fs];show q
def VG:bF X (Dq .NotIn) (EF X.K ab):=by
 intro af s Z H x y v u Q I B T h;let#[p,xs,rfl,N,fx,fs,q]:=h;ext T;rcases N with N|N
 .let#[its,r,pl,hz]:=I.list N;show SeqAt.notIn_listAt (hJ x) pl.isList (λw hw=>rK B fx r fs w hw⁻¹) #[.bl _,H,I,7,8];rw[show its.toArray.any (hJ x)=its.any (hJ x) by simp,uC r fs];show q
 .let#[its,r,pl,hz]:=I.tuple N;show SeqAt.notIn_tupleAt (hJ x) pl (λw hw=>rK B fx r fs w hw⁻¹) #[.bl _,H,I,7,8];rw[show its.toArray.any (hJ x)=its.any (hJ x) by simp,uC r fs];show q
def VH:cM X (.builtin "len") (λxs H Q=>∃p ys,xs=[!p]/\(bO X.K H p ys\/bJ X.K H p ys)/\Q (¬↥ys) H):=by
 intro af s Z H xs us Q I r h;let#[p,ys,rfl,N,q]:=h;let#[u,rfl,B]:=vals1 r;ext B;let V:=jC;rcases N with N|N
 .let#[its,g,pl,hz]:=I.list N;let Y:=↥g;show Calls.call_len_list pl.isList (by simp only[Bg]<;>lia) #[¬↥ys,H,I.tok _,#[s.toks+1,by rw[Bg,Y]],q]
 .let#[its,g,pl,hz]:=I.tuple N;let Y:=↥g;show Xn pl (by simp only[Bg]<;>lia) #[¬↥ys,H,I.tok _,#[s.toks+1,by rw[Bg,Y]],q]
def VI:cM X (.builtin "len") (λxs H Q=>∃z,xs=[.str z]/\↥z<=Aw/\Q (¬↥z) H):=by
 intro af s Z H xs us Q I r h;let#[z,rfl,hz,q]:=h;let#[u,rfl,t,rfl]:=vals1 r;let K:=jC;show len_str 9 #[¬↥z,H,I.tok _,#[_,7],q]
def cM.or{r g:↑V->Hp->VK->Prop}(h:cM X f r)(h':cM X f g):cM X f (λxs H Q=>r xs H Q\/g xs H Q):=by
 intro af s Z H xs us Q I rs q;rcases q with q|q
 .show h af s Z H xs us Q I rs q
 .show h' af s Z H xs us Q I rs q
def VJ:cM X (.type "list") (λxs H Q=>∃p ys,xs=[!p]/\(bO X.K H p ys\/bJ X.K H p ys)/\∀l,H l=ae->Q (!l) (aK H l<|.lst ys)):=by
 intro af s Z H xs us Q I r h;let#[p,ys,rfl,N,q]:=h;let#[u,rfl,B]:=vals1 r;ext B;let fin:∀(its:↑Value),a6 ys its->↥ys<=Aw->∀(h':Cz) (P:Nat),(∀b D,s.heap.get? b=-D->h'.get? b=-D)->
   h'.get? ⇑s=aa {cls:=.type "list",dict:=ae,data:=.seq its.toArray P,slots:=#[]}->EP X af Z Q (!⇑s) (s<&>h'):=λits g hz h' P kp e=>
  #[!⇑s,_,I.laid (t':=s.toks) kp (Aj _) (show b9 X.prog X.w _ h' _ (.lst ys) from#[hz,its,P,g,e]),7,q _<|I.hok.fresh<|Aj _]
 rcases N with N|N
 .let#[its,g,pl,hz]:=I.list N;let Y:=↥g;let#[o,f,hc,n,hd]:=pl.isList;show call_list_seq p (.inl rfl) f hc hd (λh' P kp e=>fin its g hz h' P kp e) (by simp only[Bg]<;>lia)
 .let#[its,g,pl,hz]:=I.tuple N;let Y:=↥g;let#[o,f,hc,n,hd]:=pl;show call_list_seq p (.inr rfl) f hc hd (λh' P kp e=>fin its g hz h' P kp e) (by simp only[Bg]<;>lia)
def VL:cM X (.type "tuple") (λxs H Q=>∃p ys,xs=[!p]/\((bO X.K H p ys/\∀l,H l=ae->Q (!l) (aK H l<|.tup ys))\/(bJ X.K H p ys/\Q (!p) H))):=by
 intro af s Z H xs us Q I r h;let#[p,ys,rfl,h]:=h;let#[u,rfl,B]:=vals1 r;ext B;rcases h with⟨N,q⟩|⟨N,q⟩
 .let#[its,D,pl,hz]:=I.list N;let Y:=↥D;show call_tuple_list pl.isList (λh' kp=>8) (by simp only[Bg]<;>lia);let g:Inv X af Z H (s<&>h'):=I.kept (t':=s.toks) kp;let i:Inv X af Z (aK H h'.objs.size<|.tup ys) (s<&>h'.push {cls:=.type "tuple",data:=.seq its.toArray}):=
   g.laid (t':=s.toks) (λb o e=>Af _ e) (Aj _) (show b9 X.prog X.w _ _ _ (.tup ys) from#[hz,its,D,Wu _ _])
  show#[!h'.objs.size,_,i,7,q _<|g.hok.fresh<|Aj _]
 .let#[its,D,pl,hz]:=I.tuple N;show call_tuple_same pl #[!p,H,I,7,q]
def uD(K:Ac)(T:String)(x:V)(H:Hp):Prop:=match x with
 | .str _=>T = "str"
 | .int _=>T = "int"
 | .ref p=>(T = "list"/\∃xs,bO K H p xs)\/(T = "tuple"/\∃o,K.lookup p=-o/\o.cls=.type "tuple"/\o.dict=ae)\/
   (T = "dict"/\((∃kvs,Rd H p<|.dK kvs)\/∃kvs,Rd H p<|.dT kvs))\/(T = "set"/\∃S n,H p=-.set S n)
 | _=>False
def EG(I:Inv X af Z H s)(r:RelV x v)(ty:uD X.K T x H):
  s.TypeIs v T/\∀a,v=!a->∃ob,s.heap.get? a=-ob/\ob.dict=ae:=by
 cases x with
 | str z=>
  let#[t,rfl]:=r;cases (show T = "str" from ty);show#[Xd s z t,λ_ e=>nomatch e]
 | int i=>
  let#[t,rfl]:=r;cases (show T = "int" from ty);show#[Xe s i t,λ_ e=>nomatch e]
 | ref p=>
  ext r;rcases ty with⟨rfl,xs,N⟩|⟨rfl,o,hk,hc,hd⟩|⟨rfl,hk⟩|⟨rfl,S,n,hk⟩
  .let#[its,_,pl,_]:=I.list N;show#[pl.isList.typeIs,λa e=>8];ext e;let#[o,n,e,c,hd,_]:=pl;show#[o,e,hd]
  .show#[#[o,I.kIn p o hk,hc],λa e=>8];ext e;show#[o,I.kIn _ o hk,hd]
  .let z:∃o,s.heap.get? p=-o/\o.ExactDict:=by
    rcases hk with⟨kvs,hk⟩|⟨kvs,hk⟩
    .let#[_,_,_,_,o,_,_,e,ex,_]:=hk.ok I.hok;show#[o,e,ex]
    .let#[_,_,_,_,o,_,_,e,ex,_]:=hk.ok I.hok;show#[o,e,ex]
   let#[o,e,ex]:=z;show#[#[o,e,ex.1],λa J=>8];ext J;show#[o,e,ex.2.1]
  .let#[o,_,_,_,e,ex,_]:=I.hok p _ hk;show#[#[o,e,ex.1],λa J=>8];ext J;show#[o,e,ex.2.1]
 | _=>show Br ty
def VM(K:Ac)(T:String)(r:V->↑V->Hp->VK->Prop)(to:TE):TE:=λZ H Q=>to Z H λx B=>uD K T x B/\r x [] B Q
def VN(K:Ac)(T:String)(r:V->↑V->Hp->VK->Prop)(to:TE)(t:TA):TE:=λZ H Q=>to Z H λx B=>uD K T x B/\t Z B λxs z=>r x xs z Q
variable {o e:Ck}{es:↑Ck}{to:TE}{t:TA}{name:Av}{apos cpos:Ja}{T id:String}{r:V->↑V->Hp->VK->Prop}
def EH(G:Qt T)(slot:Slot T name id)(q:Wg (.builtin id)=pure (.type "method_descriptor"))(J:e9 X id r)(f:PE X o to)(y:Hr o name X.env (Ff o X.env)=Ff o X.env:=by rfl)(b:(apos.endLine==cpos.line)=ab:=by rfl):PE X (.Call (.Attribute o name apos) [] [] cpos) (VM X.K T r to):=by
 intro af s Z H Q I h;show wpAny_Call_method0_late y b<|aY (f af s Z H _ I h) λv s1 V=>8;let#[x,B,g,F,ty,C]:=V;let#[L,Y]:=EG g F ty;show#[T,id,G,slot,q,L,Y,Ma rfl<|PySem.evalArgs_none<|J af s1 Z B x [] v [] Q g F .nil C]
def VO(G:Qt T)(slot:Slot T name id)(q:Wg (.builtin id)=pure (.type "method_descriptor"))(J:e9 X id r)(f:PE X o to)(S:PA X (e::es) t)(y:Hr o name X.env (Ff o X.env)=Ff o X.env:=by rfl)(D:((Og cpos<|Cr (e::es) X.env).all (λx=>!(x.1))&&(Qd cpos<|Ms [] X.env).all (λx=>x.1.isSome)
  &&decide (↥(e::es)+↥([]:↑Si)+(if ([]:↑Si).isEmpty then 0 else 1)<30))=ab:=by rfl)(b:(apos.endLine==cpos.line)=ab:=by rfl)(l:Se X e es:=by rfl)(c:Sb X cpos es:=by rfl):
  PE X (.Call (.Attribute o name apos) (e::es) [] cpos) (VN X.K T r to t):=by
 intro af s Z H Q I h;show wpAny_Call_method_late y D b rfl<|aY (f af s Z H _ I h) λv s1 V=>8;let#[x,B,g,F,ty,C]:=V;let#[L,Y]:=EG g F ty;show#[T,id,G,slot,q,L,Y,8];let U:=S cpos af s1 Z B _ g C;rw[l]at U⊢;show Ma (by change(ac||(Og cpos<|Cr es X.env).any (·.1))=ac;rw[c]<;>rfl)<|Calls.evalArgs_plain 8;show aY U λus n A=>by let#[vs,z,i,R,O]:=A;show J af n Z z x vs v us Q i F R O
end
def rL(X:Cx)(id:String)(r:V->↑V->Hp->VK->Prop):Prop:=
 ∀(af:Pn) (s:Ai) (Z:St) (H:Hp) (x:V) (xs:↑V) (v:Value) (us:↑Value) (Q:VK),Inv X af Z H s->RelV x v->a6 xs us->r x xs H Q->
  X.a (call (.builtin id)<|v::us) (EP X af Z Q) X.xe s
def a6.one:∀{x:V} {us:↑Value},a6 [x] us->∃u,us=[u]/\RelV x u:=by
 intro x us h;cases h with
 | cons r t=>ext t;show#[_,7,r]
theorem a6.zero:∀{us:↑Value},a6 [] us->us=[]
 | _,.nil=>rfl
def VP{g:Type}(l:↑g):l.eraseIdx (↥l-1)=l.dropLast:=by
 induction l with
 | nil=>rfl
 | cons a r E=>
  cases r with
  | nil=>rfl
  | cons b r=>show congrArg (a::·) E
theorem foldl_rep(its:↑Value):∀(k:Nat) (acc:↑Value),
  We (λx1 x2=>x1++x2) acc.toArray (Cb k its.toArray)=(acc++(Cb k its).flatten).toArray
 | 0,acc=>6
 | k+1,acc=>by
  let e:acc.toArray++its.toArray=(acc++its).toArray:=by simp
  let J:(acc++its)++(Cb k its).flatten=acc++(Cb (k+1) its).flatten:=by
   rw[Hl,Kg,Bs]
  rw[<-J,<-foldl_rep its k (acc++its),<-e,Hl,Gw]
section
variable {X:Cx}{af:Pn}{Z:St}{H:Hp}{s:Ai}{l b:Ao}{xs ys zs:↑V}
def Inv.lset{its its':↑Value}{n:Nat}{f:Array Value->Array Value}{t':Nat}(I:Inv X af Z H s)(S:H l=-.lst xs)(e:s.heap.get? l=-lO its.toArray n)(hf:f its.toArray=its'.toArray)(c:a6 ys its')(hz:↥ys<=Aw):
  Inv X af Z (aK H l<|.lst ys) {s with heap:=s.heap.update l<|Ng f,toks:=t'}:=by
 let q:=PySem.IsL.update e f;rw[hf]at q;show I.write (x:=l) (e:=l) (by rw[S];show trivial) (.inl rfl) (λd u Y D=>(Hj s.heap (Ng f)<|Cs Y).trans D) #[_,q] 8;show#[hz,its',_,c,q]
def Inv.lnew{t':Nat}(I:Inv X af Z H s)(c:a6 ys its)(hz:↥ys<=Aw):
  Inv X af Z (aK H ⇑s<|.lst ys) {s with heap:=s.heap.push<|lO its.toArray,toks:=t'}:=
 I.laid (λ_ _ q=>Af _ q) (Aj _) #[hz,its,0,c,Ax _ rfl]
def Inv.fresh(I:Inv X af Z H s):H ⇑s=ae:=I.hok.fresh<|Aj _
def Inv.lstM(I:Inv X af Z H s)(S:H l=-.lst xs):↥xs<=Aw/\∃(its:↑Value) (n:Nat),a6 xs its/\↥xs=↥its/\s.heap.get? l=-lO its.toArray n:=by
 let#[z,its,n,r,e]:=I.hok l _ S;show#[z,its,n,r,↥r,e]
def yR{n:Nat}(h:n<=Aw):Kj n=ac:=by
 unfold Kj;show Xx 9
end
section
variable {X:Cx}
def rAppend:V->↑V->Hp->VK->Prop:=λx vs H Q=>∃l xs y,x=!l/\vs=[y]/\H l=-.lst xs/\↥xs<Aw/\Q .non (aK H l<|.lst<|xs++[y])
def EI:rL X "list.append" rAppend:=by
 intro af s Z H x vs v us Q I B m h;let#[l,xs,y,rfl,rfl,S,hz,q]:=h;ext B;let#[u,rfl,ru]:=m.one;let#[z,its,n,r,hl,e]:=I.lstM S;show La F.slot_list_append #[_,e,7] F.entry_list_append (F.args_list_append_2 _ _) (PySem.list_append l its.toArray n u<|by rw[Bg];lia) #[e,8];show#[.non,_,I.lset (its':=its++[u]) S e 6 (r.append<|.cons ru .nil) 8,7,q];rw[Ag,Cd];lia
def rExtend:V->↑V->Hp->VK->Prop:=λx vs H Q=>∃l b xs zs,x=!l/\vs=[!b]/\H l=-.lst xs/\H b=-.lst zs/\↥xs+↥zs<=Aw/\Q .non (aK H l<|.lst<|xs++zs)
def EJ:rL X "list.extend" rExtend:=by
 intro af s Z H x vs v us Q I B m h;let#[l,b,xs,zs,rfl,rfl,S,a,hz,q]:=h;ext B;let#[u,rfl,ru]:=m.one;ext ru;let#[z,its,n,r,hl,e]:=I.lstM S;let#[f,i,D,R,c,J]:=I.lstM a;let hsz:its.toArray.size+i.toArray.size<=Aw:=by rw[Bg,Bg];lia
 let j:¬((!(its.toArray.isEmpty)&&Kj (its.toArray.size+i.toArray.size))=ab):=by
  rw[yR hsz,Bool.and_false];show Bb
 show La F.slot_list_extend #[_,e,7] F.entry_list_extend (F.args_list_extend_2 _ _)
  (AutoSeq1.list_extend_list_list_0 l its.toArray n b i.toArray D j (by rw[Bg];lia) 9) #[e,J,8]
 show#[.non,_,I.lset (its':=its++i) S e 6 (r.append R) 8,7,q];rw[Ag];lia
def rPopQ:V->↑V->Hp->VK->Prop:=λx vs H Q=>∃l xs y,x=!l/\vs=[]/\H l=-.lst xs/\xs[↥xs-1]? = aa y/\Q y (aK H l<|.lst xs.dropLast)
def VQ:rL X "list.pop" rPopQ:=by
 intro af s Z H x vs v us Q I B m h;let#[l,xs,y,rfl,rfl,S,U,q]:=h;ext B;let a:=m.zero;subst a;let#[z,its,n,r,hl,e]:=I.lstM S;let#[u,D,ru]:=r.get U;let b:its.toArray[its.toArray.size-1]? = aa u:=by
  change its.toArray[↥its-1]? = aa u;rw[<-Ht,<-hl];show D
 show La Ql #[_,e,7] F.entry_list_pop (F.args_list_pop_1 _) (MeetsSeq.list_pop_last l its.toArray n u b<|by rw[Bg];lia) #[e,8];show#[y,_,I.lset (its':=its.dropLast) S e 8 r.dropLast 8,ru,q]
 .change its.toArray.eraseIdxIfInBounds (its.toArray.size-1)=its.dropLast.toArray;rw[Bg,List.eraseIdxIfInBounds_toArray,VP]
 .rw[List.length_dropLast];lia
def VR:R2:=λx y H Q=>∃l b xs zs,x=!l/\y=!b/\H l=-.lst xs/\H b=-.lst zs/\↥xs+↥zs<=Aw/\∀p,H p=ae->Q (!p) (aK H p<|.lst<|xs++zs)
def VS:bF X (Ez .Add) VR:=by
 intro af s Z H x y v u Q I B T h;let#[l,b,xs,zs,rfl,rfl,S,a,hz,q]:=h;ext B;ext T;let#[z,its,n,r,hl,e]:=I.lstM S;let#[f,i,D,R,c,J]:=I.lstM a;show PySem.P.add_list e J 8 (by rw[Bg,Bg];lia);let N:its.toArray++i.toArray=(its++i).toArray:=by simp
 rw[N];show#[!_,_,I.lnew (t':=s.toks) (r.append R)<|by rw[Ag];lia,7,q _ I.fresh]
def VT:R2:=λx y H Q=>∃l k xs,x=!l/\y=¬k/\H l=-.lst xs/\-(2 ^ 63)<=k/\k<2 ^ 63/\↥xs*k.toNat<=Aw/\
 ∀p,H p=ae->Q (!p) (aK H p<|.lst (Cb k.toNat xs).flatten)
def VU{g:Type}(xs:↑g)(k:Nat):(Cb k xs).flatten.length=k*↥xs:=by
 induction k with
 | zero=>simp
 | succ k E=>rw[Hl,Kg,Ag,E,So,Mq]
def VW:bF X (Ez .Mult) VT:=by
 intro af s Z H x y v u Q I rx ry h;let#[l,k,xs,rfl,rfl,hH,h1,h2,hz,q]:=h;ext rx;let#[t,rfl]:=ry;let#[z,its,n,r,hl,e]:=I.lstM hH;let hlen:its.toArray.size*k.toNat<=Aw:=by rw[Bg,<-hl];show hz
 let hcap:¬(its.toArray.size*k.toNat > (2 ^ 63-1)/08):=by
  have:(Aw:Nat)<=(2 ^ 63-1)/08:=by decide
  lia
 let hfit:¬((!(Builtin.List.listFitsIndex k))=ab):=by
  rw[fitsIndex_both h1 h2];show Bb
 let hlong:¬(Kj (its.toArray.size*k.toNat)=ab):=by
  rw[yR hlen];show Bb
 let hnew:We (λx1 x2=>x1++x2) #[] (Cb (if its.toArray.isEmpty=ab then 0 else k.toNat) its.toArray)=(Cb k.toNat its).flatten.toArray:=by
  let f0:∀m:Nat,We (λx1 x2=>x1++x2) #[] (Cb m its.toArray)=(Cb m its).flatten.toArray:=λm=>by
   have:=foldl_rep its m [];rw[Iv]at this;show this
  rw[f0];cases its with
  | nil=>simp
  | cons a r'=>rw[Xs<|6]
 show wpAny_binaryOp_repeat_ref (T:="list") (U:="int") ∅ #[_,e,7] (λs'=>Xe s' k t) noFill_list_mul F.fills_int_mul F.slot_int_rmul repeat_list F.slot_int_index.lookup
  (La F.slot_int_rmul (Xe s k t) F.entry_int_rmul (F.args_int_rmul_2 _ _) (int___rmul___int_list k t l its.toArray n)
   #[e,7,#[_,e,7],La F.slot_list_mul #[_,e,7] F.entry_list_mul (F.args_list_mul_2 _ _) (AutoListH.list___mul___list_int_3 l its.toArray n k t hfit hcap hlong) #[e,8]])
 rw[hnew];show#[!_,_,I.lnew (t':=s.toks) (r.rep k.toNat)<|by rw[VU,Nat.mul_comm];show hz,7,q _ I.fresh]
end
section
variable {U:Type}[DecidableEq U]
noncomputable def fY(kvs:↑(U×V))(k:U):Option V:=(kvs.find? λg=>decide<|g.1=k).map (·.2)
noncomputable def d6(kvs:↑(U×V))(k:U)(v:V):↑(U×V):=
 if (kvs.any λg=>decide<|g.1=k)=ab then kvs.map (λg=>if g.1=k then(g.1,v) else g) else kvs++[(k,v)]
noncomputable def oC(kvs:↑(U×V))(k:U):↑(U×V):=kvs.filter λg=>decide<|g.1≠k
def uE{p:U×V}{r:↑(U×V)}{k:U}(e:p.1=k):fY (p::r) k=-p.2:=by simp[fY,De,e]
def uF{p:U×V}{r:↑(U×V)}{k:U}(e:¬(p.1=k)):fY (p::r) k=fY r k:=by simp[fY,De,e]
theorem EK(k:U):∀kvs:↑(U×V),(kvs.any λg=>decide<|g.1=k)=(fY kvs k).isSome
 | []=>rfl
 | p::r=>by
  rw[Fx]
  by_cases e:p.1=k
  .simp only[uE e,Xw e,Bool.true_or,Option.isSome_some]
  .rw[uF e,Xx e,Nl];show EK k r
def pM(kvs:↑(U×V))(k:U)(v:V):↥(d6 kvs k v)<=↥kvs+1:=by
 ext d6;split
 .rw[Ab];lia
 .rw[Ag,Bl,Iw];lia
def fS.isSome_eq(r:fS o u):o.isSome=u.isSome:=by
 cases o with
 | none=>cases u with
  | none=>rfl
  | some _=>show Br r
 | some _=>cases u with
  | none=>show Br r
  | some _=>rfl
def fS.getD(r:fS o u)(c:RelV d d'):RelV (o.getD d) (u.getD d'):=by
 cases o with
 | none=>cases u with
  | none=>show c
  | some _=>show Br r
 | some _=>cases u with
  | none=>show Br r
  | some _=>show r
def KV.val{kvs:↑(U×V)}{vs:↑(U×Value)}(r:KV kvs vs)(k:U):fS (fY kvs k) (Tu vs k):=by
 unfold KV at r
 induction r with
 | nil=>show True.intro
 | @cons p q ps qs h t E=>
  let#[L,Y]:=h
  by_cases e:p.1=k
  .let O:q.1=k:=L.symm.trans e;let b:Tu (q::qs) k=-q.2:=by simp[Tu,De,O]
   rw[uE e,b];show Y
  .let O:¬(q.1=k):=λz=>e<|L.trans z;let b:Tu (q::qs) k=Tu qs k:=by simp[Tu,De,O]
   rw[uF e,b];show E
def KV.any(r:KV kvs vs)(k:U):(kvs.any λg=>decide<|g.1=k)=vs.any λg=>decide (g.1=k):=by
 unfold KV at r
 induction r with
 | nil=>rfl
 | cons h t E=>rw[Fx,Fx,E,h.1]
def KV.repl(r:KV kvs vs)(k:U)(T:RelV y u):
  KV (kvs.map λg=>if g.1=k then(g.1,y) else g) (vs.map λg=>if g.1=k then(g.1,u) else g):=by
 unfold KV at r⊢
 induction r with
 | nil=>show .nil
 | @cons p q ps qs h t E=>
  rw[Be,Be];show .cons 8 E;let#[L,Y]:=h
  by_cases e:p.1=k
  .rw[Xu e,Xu<|L.symm.trans e];show#[L,T]
  .rw[Xs e,Xs λz=>e<|L.trans z];show#[L,Y]
def KV.put(r:KV kvs vs)(k:U)(T:RelV y u):KV (d6 kvs k y) (Wh vs k u):=by
 unfold d6 Wh;rw[r.any k]
 by_cases e:(vs.any λg=>decide<|g.1=k)=ab
 .rw[Xu e,Xu e];show r.repl k T
 .rw[Xs e,Xs e];show Ve r #[7,T]
theorem KV.length{kvs:↑(U×V)}{vs:↑(U×Value)}(r:KV kvs vs):↥kvs=↥vs:=Cv r
def VX(kvs:↑(U×V))(k:U):↥(oC kvs k)<=↥kvs:=Fc _ _
end
def jY(r:RelV (kV k) u):(bS P w).is k u=ab:=by
 cases k with
 | inl i=>let#[t,e]:=(show ∃t,u=Value.int i t from r);subst e;show PZ P w i t
 | inr x=>let#[t,e]:=(show ∃t,u=Value.str x t from r);subst e;show P0 P w x t
theorem EL:∀{ks:↑aC} {us:↑Value},a6 (ks.map kV) us->ItemsAre (bS P w) ks us
 | [],_,r=>by rw[Oc]at r;ext r;show .nil
 | k::ks,_,r=>by
  rw[Be]at r;cases r with
  | cons h t=>show .cons (jY h)<|EL t
abbrev KT(H:Hp):↑(↑aC×V)->↑(↑aC×Ao×Value)->Prop:=Dz λp q=>p.1=q.1/\H q.2.1=-.tup (p.1.map kV)/\RelV p.2 q.2.2
def KT.val{H:Hp}{kvs:↑(↑aC×V)}{xs:↑(↑aC×Ao×Value)}(r:KT H kvs xs)(k:↑aC):fS (fY kvs k) ((Np xs k).map (·.2)):=by
 induction r with
 | nil=>show True.intro
 | @cons p q ps qs h t E=>
  let#[L,_,Y]:=h
  by_cases e:p.1=k
  .let O:q.1=k:=L.symm.trans e;let b:Np (q::qs) k=-q.2:=by simp[Np,De,O]
   rw[uE e,b];show Y
  .let O:¬(q.1=k):=λz=>e<|L.trans z;let b:Np (q::qs) k=Np qs k:=by simp[Np,De,O]
   rw[uF e,b];show E
def KT.repl(r:KT H kvs xs)(k:↑aC)(T:RelV y u):
  KT H (kvs.map λg=>if g.1=k then(g.1,y) else g) (xs.map<|putAt k u):=by
 induction r with
 | nil=>show .nil
 | @cons p q ps qs h t E=>
  rw[Be,Be];show .cons 8 E;let#[L,Y,O]:=h;unfold putAt
  by_cases e:p.1=k
  .rw[Xu e,Xu<|L.symm.trans e];show#[L,Y,T]
  .rw[Xs e,Xs λz=>e<|L.trans z];show#[L,Y,O]
def KT.put(r:KT H kvs xs)(k:↑aC)(Z:H b=-.tup (k.map kV))(T:RelV y u):
  KT H (d6 kvs k y) (Qp xs k b u):=by
 let e:(kvs.any λg=>decide<|g.1=k)=(Np xs k).isSome:=by
  rw[EK,(r.val k).isSome_eq,Lw]
 unfold d6 Qp;rw[e]
 by_cases q:(Np xs k).isSome=ab
 .rw[Xu q,Xu q];show r.repl k T
 .rw[Xs q,Xs q];show Ve r #[7,Z,T]
def KT.keeps(r:KT H kvs xs)(ht:∀b ys,H b=-.tup ys->L b=-.tup ys):KT L kvs xs:=
 Paired.mapP r λ_ _ z=>#[z.1,ht _ _ z.2.1,z.2.2]
section
variable {P:Bc}{w:Bq}{H:Hp}{h:Cz}{a:Ao}
def EM(ok:cZ P w H h)(e:Rd H a u):b9 P w H h a u:=e.ok ok
def mV(ok:cZ P w H h)(e:Rd H a<|.dK kvs):↥kvs<=Aw/\(a==Gg)=ac/\∃vs,KV kvs vs/\h.DictOf (bS P w) a vs:=
 show b9 P w H h a (.dK kvs) from EM ok e
def EN(ok:cZ P w H h)(e:H a=-.dK kvs):↥kvs<=Aw/\(a==Gg)=ac/\∃vs,KV kvs vs/\h.DictOf (bS P w) a vs:=mV ok<|.inl e
def jE(ok:cZ P w H h)(e:H a=-.tup (ks.map kV)):(Ic<|bS P w).is h ks a:=by
 let#[_,its,r,o,L,Y,n,O]:=(show b9 P w H h a (.tup<|ks.map kV) from ok a _ e);show#[o,its.toArray,n,L,Y,O,by simpa using EL r]
def oE(ok:cZ P w H h)(e:Rd H a<|.dT kvs):↥kvs<=Aw/\(a==Gg)=ac/\
  ∃xs,KT H kvs xs/\h.DictOfH (Ic<|bS P w) a xs:=by
 let#[z,y,xs,r,o,es,ep,L,Y,O,W,U]:=(show b9 P w H h a (.dT kvs) from EM ok e);show#[z,y,xs,r,o,es,ep,L,Y,O,W,λx S=>8,U];let all:∀{l:↑(↑aC×V)} {m:↑(↑aC×Ao×Value)},KT H l m->∀x∈m,(Ic<|bS P w).is h x.1 x.2.1:=by
  intro l m q
  induction q with
  | nil=>intro x S;show nomatch S
  | @cons p q ps qs N t E=>
   intro x S;rcases Bd.mp S with e|S
   .subst e;show jE ok (by rw[<-N.1];show N.2.1)
   .show E x S
 show all r x S
def rM(ok:cZ P w H h)(e:H a=-.dT kvs):↥kvs<=Aw/\(a==Gg)=ac/\
  ∃xs,KT H kvs xs/\h.DictOfH (Ic<|bS P w) a xs:=oE ok<|.inl e
end
def hV(H:Hp)(a:Ao)(y:V)(r:Option V):Prop:=
 (∃kvs k,Rd H a (.dK kvs)/\y=kV k/\r=fY kvs k)\/∃kvs k b,Rd H a (.dT kvs)/\y=!b/\H b=-.tup (k.map kV)/\r=fY kvs k
def mW(H:Hp)(a:Ao)(y v:V)(L:Hp):Prop:=
 (∃kvs k,H a=-.dK kvs/\y=kV k/\↥kvs<Aw/\L=aK H a (.dK<|d6 kvs k v))\/
 ∃kvs k b,H a=-.dT kvs/\y=!b/\H b=-.tup (k.map kV)/\↥kvs<Aw/\L=aK H a (.dT<|d6 kvs k v)
def mW.k{H:Hp}{a:Ao}{kvs:↑(aC×V)}{k:aC}{v:V}(e:H a=-.dK kvs)(hl:↥kvs<Aw):mW H a (kV k) v (aK H a<|.dK<|d6 kvs k v):=.inl #[kvs,k,e,7,hl,7]
def mW.t{H:Hp}{a b:Ao}{kvs:↑(↑aC×V)}{k:↑aC}{v:V}(e:H a=-.dT kvs)(P:H b=-.tup (k.map kV))(hl:↥kvs<Aw):
  mW H a (!b) v (aK H a<|.dT<|d6 kvs k v):=.inr #[kvs,k,b,e,7,P,hl,7]
section
variable {X:Cx}{af:Pn}{Z:St}{H:Hp}{s:Ai}{a:Ao}{y v:V}{u r:Value}{o:Option V}{A:Cw}{E:Value->Ai->Prop}
def Inv.big(I:Inv X af Z H s):Gg<⇑s:=by
 let h:Es<⇑s:=(I.mod.glob.keeps I.bk).lt;show Hv ∅ h
def VY{Q:Value->Ai->Prop}(D:A.units+1<Fs)(I:Inv X af Z H s)(g:hV H a y<|-v)(T:RelV y u)(h:∀L M,Inv X af Z H M->RelV v L->Q L M):
  Bm X.m A (Vc (!a) u) Q E s:=by
 rcases g with⟨kvs,k,e,S,l⟩|⟨kvs,k,b,e,S,P,l⟩
 .subst S;let#[z,hd,vs,J,x]:=mV I.hok e;let#[L,hw,d]:=fS.some_of (v:=v) (o:=Tu vs k) (by rw[l];show J.val k);show wpAny_getItem_of (jY T) x.mapOf hw<|h L _ (I.tok _) d
 .subst S;cases (show u=Value.ref b from T);let#[z,hd,xs,J,x]:=oE I.hok e;let#[L,hw,d]:=fS.some_of (v:=v) (o:=(Np xs k).map (·.2)) (by rw[l];show J.val k);let#[p,B,n]:=Ay.mp hw;show wpAny_getItem_heap (Gf D) (jE I.hok P) x B 8;rw[n];show h L _ (I.tok _) d
def VZ{Q:Value->Ai->Prop}(D:A.units+1<Fs)(I:Inv X af Z H s)(g:hV H a y o)(T:RelV y u)(h:∀M,Inv X af Z H M->Q (.bool o.isSome) M):
  Bm X.m A (Dq .In u !a) Q E s:=by
 rcases g with⟨kvs,k,e,S,l⟩|⟨kvs,k,b,e,S,P,l⟩
 .subst S;let#[z,hd,vs,J,x]:=mV I.hok e;show wpAny_in_of (jY T) hd x.mapOf 8;rw[<-(J.val k).isSome_eq,<-l];show h _<|I.tok _
 .subst S;cases (show u=Value.ref b from T);let#[z,hd,xs,J,x]:=oE I.hok e;show wpAny_in_heap (Gf D) (jE I.hok P) hd x 8;let q:=(J.val k).isSome_eq;rw[Lw]at q;rw[<-q,<-l];show h _<|I.tok _
def V0{Q:Value->Ai->Prop}(D:A.units+1<Fs)(I:Inv X af Z H s)(g:hV H a y o)(T:RelV y u)(h:∀M,Inv X af Z H M->Q (.bool<|!(o.isSome)) M):
  Bm X.m A (Dq .NotIn u !a) Q E s:=by
 rcases g with⟨kvs,k,e,S,l⟩|⟨kvs,k,b,e,S,P,l⟩
 .subst S;let#[z,hd,vs,J,x]:=mV I.hok e;show wpAny_notIn_of (jY T) hd x.mapOf 8;rw[<-(J.val k).isSome_eq,<-l];show h _<|I.tok _
 .subst S;cases (show u=Value.ref b from T);let#[z,hd,xs,J,x]:=oE I.hok e;show wpAny_notIn_heap (Gf D) (jE I.hok P) hd x 8;let q:=(J.val k).isSome_eq;rw[Lw]at q;rw[<-q,<-l];show h _<|I.tok _
def oF{t':Nat}(I:Inv X af Z H s)(f:rD<|H a)(l:Fd a s.heap h')(P:∃q,h'.get? a=-q)(new:b9 X.prog X.w (aK H a ob) h' a ob):
  Inv X af Z (aK H a ob) {s with heap:=h',toks:=t'}:=
 I.write (x:=a) (e:=a) f (.inl rfl) (λb q Y z=>(l.2 b Y).trans z) P new
def EO(z:↥kvs<=Aw)(hd:(a==Gg)=ac)(J:KV kvs vs)(x:h'.DictOf (bS P w) a vs):
  b9 P w L h' a (.dK kvs):=#[z,hd,vs,J,x]
def V1{Q:Unit->Ai->Prop}(D:A.units+1<Fs)(I:Inv X af Z H s)(g:mW H a y v L)(T:RelV y u)(R:RelV v r)(h:∀M,Inv X af Z L M->Q () M):
  Bm X.m A (Xk (!a) u r) Q E s:=by
 rcases g with⟨kvs,k,e,S,l,i⟩|⟨kvs,k,b,e,S,d,l,i⟩
 .subst S i;let#[z,hd,vs,J,x]:=EN I.hok e;let hz:↥vs<=Aw:=by rw[<-J.length];show z
  let hl:↥(d6 kvs k v)<=Aw:=by have:=pM kvs k v;lia
  show wpAny_setItem_pairs (hsz:=hz) (jY T) x λh' t U=>h _ 8;let P:∃q,h'.get? a=-q:=let #[q,_,_,N,_]:=t;#[q,N];show oF I (by rw[e];show True.intro) U P<|EO hl hd (J.put k R) t
 .subst S i;cases (show u=Value.ref b from T);let#[z,hd,xs,J,x]:=rM I.hok e;let hz:↥xs<=Aw:=by rw[<-Cv J];show z
  let hl:↥(d6 kvs k v)<=Aw:=by have:=pM kvs k v;lia
  show wpAny_setItem_heap (hsz:=hz) (Gf D) (jE I.hok d) x λh' t U=>h _ 8;let#[q,es,ep,N,Y,O,W,_,f]:=t;show oF I (by rw[e];show True.intro) U #[q,N] #[hl,hd,_,(J.put k d R).keeps λc ys p=>8,q,es,ep,N,Y,O,W,f];rw[bB<|tT p e λz=>nomatch z];show p
end
section
variable {X:Cx}{af:Pn}{Z:St}{H:Hp}{s:Ai}{a:Ao}{kvs:↑(aC×V)}{k:aC}{u:Value}{A:Cw}{E:Value->Ai->Prop}
def V2{Q:Value->Ai->Prop}(I:Inv X af Z H s)(e:Rd H a<|.dK kvs)(h:∀t M,Inv X af Z H M->Q (.int ↥kvs t) M):Bm X.m A (call (.builtin "len") [!a]) Q E s:=by
 let#[z,hd,vs,J,x]:=mV I.hok e;show call_len_dict hd x (by rw[<-J.length];rw[Kz]at z;lia) 8;rw[<-J.length];show h _ _<|I.tok _
end
def V3(I:Inv X af Z H s)(g:hV H a y o):s.TypeIs (!a) "dict":=by
 rcases g with⟨kvs,k,e,_,_⟩|⟨kvs,k,b,e,_,_,_⟩
 .let#[_,_,vs,_,x]:=mV I.hok e;show x.typeIs
 .let#[_,_,xs,_,x]:=oE I.hok e;show x.typeIs
def ER(h:Cz)(Z:Gg<h.objs.size):b9 P w H (h.push {cls:=.type "dict",data:=.dict #[]}) h.objs.size (.dK []):=
 #[Cu _,beq_eq_false_iff_ne.mpr<|Cs<|Bw Z,[],.nil,Heap.DictOf.new h]
def ES(h:Cz)(Z:Gg<h.objs.size):b9 P w H (h.push {cls:=.type "dict",data:=.dict #[]}) h.objs.size (.dT []):=
 #[Cu _,beq_eq_false_iff_ne.mpr<|Cs<|Bw Z,[],.nil,_,#[],0,Ax _ rfl,#[7,7,7],7,7,Gu]
def V4:TE:=λ_ H Q=>∀p,H p=ae->Q (!p) (aK H p<|.dK [])
def V5:TE:=λ_ H Q=>∀p,H p=ae->Q (!p) (aK H p<|.dT [])
section
variable {X:Cx}{pos:Ja}
def V6:PE X (.Dict [] [] pos) V4:=λaf s Z H Q I h=>
 Ug #[!⇑s,_,I.laid (a:=⇑s) (o:=.dK []) (t':=s.toks) (λ_ _ q=>Af _ q) (Aj _)<|ER s.heap I.big,7,h _<|I.hok.fresh<|Aj _]
def V7:PE X (.Dict [] [] pos) V5:=λaf s Z H Q I h=>
 Ug #[!⇑s,_,I.laid (a:=⇑s) (o:=.dT []) (t':=s.toks) (λ_ _ q=>Af _ q) (Aj _)<|ES s.heap I.big,7,h _<|I.hok.fresh<|Aj _]
end
def uG:↑(TE×TE)->St->Hp->(↑(V×V)->Hp->Prop)->Prop
 | [],_,H,Q=>Q [] H
 | (tk,L)::r,Z,H,Q=>tk Z H λx H1=>L Z H1 λy z=>uG r Z z λps t=>Q ((x,y)::ps) t
abbrev VV:↑(V×V)->↑(Value×Value)->Prop:=Dz λp q=>RelV p.1 q.1/\RelV p.2 q.2
def uH(X:Cx)(pos:Ja)(keys:↑(Option Ck))(b:↑Ck)(f:↑(TE×TE)):Prop:=
 ∀(af:Pn) (s:Ai) (Z:St) (H:Hp) (Q:↑(V×V)->Hp->Prop),Inv X af Z H s->uG f Z H Q->
  X.a (evalPairs<|pairTrees keys b X.env pos) (λvs M=>∃ps L,Inv X af Z L M/\VV ps vs/\Q ps L) X.xe s
def ET:uH X pos [] [] []:=λaf s Z H Q I h=>pairTrees_nil_walk #[[],H,I,.nil,h]
def EU(hk:PE X k tk)(c:PE X v L)(G:uH X pos ks vs f):
  uH X pos (-k::ks) (v::vs) ((tk,L)::f):=λaf s Z H Q I h=>
 pairTrees_cons_walk (aY (hk af s Z H _ I h) λu s1 #[x,H1,g,B,C]=>aY (c af s1 Z H1 _ g C) λV n #[y,z,i,T,O]=>
  aY (G af n Z z _ i O) λws j A=>by let#[ps,t,w,J,o]:=A;show#[(x,y)::ps,t,w,.cons #[B,T] J,o])
noncomputable def rN(kvs more:↑(aC×V)):↑(aC×V):=more.foldl (λacc g=>d6 acc g.1 g.2) kvs
def KV.merge:∀{more:↑(aC×V)} {rs:↑(aC×Value)} {kvs:↑(aC×V)} {vs:↑(aC×Value)},KV more rs->KV kvs vs->KV (rN kvs more) (merged vs rs):=by
 intro more rs kvs vs r;unfold KV at r
 induction r generalizing kvs vs with
 | nil=>intro q;show q
 | @cons p q ps qs h t E=>
  intro u;let e:KV (d6 kvs p.1 p.2) (Wh vs q.1 q.2):=by
   have:=u.put p.1 h.2;rw[<-h.1];show this
  show E e
theorem EV:∀(more kvs:↑(aC×V)),↥(rN kvs more)<=↥kvs+↥more
 | [],kvs=>by change ↥kvs<=↥kvs+0;lia
 | p::r,kvs=>by
  let L:=EV r<|d6 kvs p.1 p.2;let Y:=pM kvs p.1 p.2;change(rN (d6 kvs p.1 p.2) r).length<=_;rw[Bl];lia
theorem EW:∀{kvs:↑(aC×V)} {ws:↑(Value×Value)},VV (kvs.map λg=>(kV g.1,g.2)) ws->∃rs,Carries (bS P w) ws rs/\KV kvs rs
 | [],_,r=>by rw[Oc]at r;ext r;show#[[],True.intro,.nil]
 | p::kvs,_,r=>by
  rw[Be]at r;cases r with
  | @cons a b m bs h t=>
   let#[rs,c,q]:=EW (P:=P) (w:=w) t;let#[U,v]:=b;show#[(p.1,v)::rs,#[jY h.1,7,c],.cons #[7,h.2] q]
def V8(f:↑(TE×TE)):TE:=λZ H Q=>∀p,H p=ae->uG f Z (aK H p<|.dK []) λps z=>z p=-.dK []/\∃kvs:↑(aC×V),ps=kvs.map (λg=>(kV g.1,g.2))/\↥kvs<=15/\Q (!p) (aK z p<|.dK<|rN [] kvs)
def V9(h:uH X pos keys b f)(p:keys.all (·.isSome)=ab)(hl:↥keys=↥b)(Y:keys≠[])(j:↥keys<=15):PE X (.Dict keys b pos) (V8 f):=by
 intro af s Z H Q I q;let K:=I.hok.fresh<|Aj ⇑s;let g:=I.laid (a:=⇑s) (o:=.dK []) (h':=s.heap.push {cls:=.type "dict",data:=.dict #[]}) (t':=s.toks) (λ_ _ q=>Af _ q) (Aj _)<|ER s.heap I.big;show wpAny_Dict_walk (knd:=bS X.prog X.w) p hl Y j<|aY (h af _ Z _ _ g<|q _ K) λws n V=>8;let#[ps,E,i,J,e,kvs,ep,m,O]:=V;subst ep;let#[rs,c,rk]:=EW (P:=X.prog) (w:=X.w) J;let#[z,hd,k,u,x]:=EN i.hok e;ext u;show#[rs,c,x,λh' t l=>#[!⇑s,_,8,7,O]];let hz:↥(rN [] kvs)<=Aw:=by
  let L:=EV kvs [];rw[Iw]at L;rw[Kz];lia
 let d:∃q,h'.get? ⇑s=-q:=let #[q,_,_,hq,_]:=t;#[q,hq];show oF i (by rw[e];show True.intro) l d<|EO hz hd (rk.merge .nil) t
section
variable {X:Cx}{af:Pn}{Z:St}{H:Hp}{s:Ai}{a:Ao}{y d:V}{u r:Value}{o:Option V}{A:Cw}{E:Value->Ai->Prop}
def EX{Q:Value->Ai->Prop}(D:A.units+1<Fs)(I:Inv X af Z H s)(g:hV H a y o)(T:RelV y u)(h:∀L M,Inv X af Z H M->RelV (o.getD .non) L->Q L M):
  Bm X.m A (call (.builtin "dict.get") [!a,u]) Q E s:=by
 rcases g with⟨kvs,k,e,S,l⟩|⟨kvs,k,b,e,S,P,l⟩
 .subst S;let#[z,hd,vs,J,x]:=mV I.hok e;show Kd Me x.typeIs Lu (PySem.F.args_dict_get_2 _ _) (meets_dict_get (bS X.prog X.w) a (jY T) hd) #[_,x.mapOf,h _ _ (I.tok _) 8];rw[l];show(J.val k).getD rfl
 .subst S;cases (show u=Value.ref b from T);let#[z,hd,xs,J,x]:=oE I.hok e;show Kd Me x.typeIs Lu (PySem.F.args_dict_get_2 _ _) (meetsH_dict_get (Ic<|bS X.prog X.w) a b hd) #[Gf D,k,xs,jE I.hok P,x,h _ _ (I.tok _) 8];rw[l];show(J.val k).getD rfl
def EY{Q:Value->Ai->Prop}(D:A.units+1<Fs)(I:Inv X af Z H s)(g:hV H a y o)(T:RelV y u)(c:RelV d r)(h:∀L M,Inv X af Z H M->RelV (o.getD d) L->Q L M):
  Bm X.m A (call (.builtin "dict.get") [!a,u,r]) Q E s:=by
 rcases g with⟨kvs,k,e,S,l⟩|⟨kvs,k,b,e,S,P,l⟩
 .subst S;let#[z,hd,vs,J,x]:=mV I.hok e;show Kd Me x.typeIs Lu (PySem.F.args_dict_get_3 _ _ _) (meets_dict_get_default (bS X.prog X.w) a (jY T) hd r) #[_,x.mapOf,h _ _ (I.tok _) 8];rw[l];show(J.val k).getD c
 .subst S;cases (show u=Value.ref b from T);let#[z,hd,xs,J,x]:=oE I.hok e;show Kd Me x.typeIs Lu (PySem.F.args_dict_get_3 _ _ _) (meetsH_dict_get_default (Ic<|bS X.prog X.w) a b hd r) #[Gf D,k,xs,jE I.hok P,x,h _ _ (I.tok _) 8];rw[l];show(J.val k).getD c
end
end L2
namespace Att
open PySem.W PySem.Calls
def WA:∀(ns:↑Int) (vs:↑Value),WellAll P h vs (ns.map WData.int)->Wv vs ns:=by
 intro ns
 induction ns with
 | nil=>
  intro vs w;rw[Oc]at w;ext w;show .nil
 | cons n ns E=>
  intro vs w;rw[Be]at w;cases w with
  | cons a b=>
   ext a;show .cons _ _<|E _ b
def WB{l:OpenLaw}{n:Nat}(K:l.most=-n){P:Uk}{h:Cz}{args:↑WData}{vals:↑Value}(c:l.row.toRowW.claim.pre args=ab)(S:WellAll P h vals args):
  ∃a vs ns,vals=[Value.ref a]/\args=[WData.list<|ns.map WData.int]/\h.get? a=aa {cls:=.type "list",data:=.seq vs.toArray}/\Wv vs ns/\↥ns<=n:=by
 let b:WShape.hasAll [] args [.list .int]=ab:=(pre_splitW c).1;let hc:l.pre.holds [] {args:=args} = ab:=(pre_splitW c).2;let#[d,r,rfl,L,Y]:=hasAllW_cons b;obtain rfl:=hasAllW_nil Y;let#[xs,rfl,O]:=hasW_list L;let#[ns,rfl]:=items_int O;let Z:↥ns<=n:=by
  unfold OpenLaw.pre at hc;let W:(WTm.not<|.lt (.lit<|.int (n:Int))<|.len<|.arg 0).holds [] {args:=[.list<|ns.map .int]} = ab:=by
   let W:=(holds_andW hc).1;rw[K]at W;show W
  let U:=condW_of W<|w_not<|w_lt w_lit<|w_len_list<|w_arg rfl;rw[Ab]at U;show Ni λq=>8;let N:(n:Int)<((↥ns:Nat):Int):=9
  first
   | (rw[Xw N]at U;exact absurd U ∅)
   | (simp at U;lia)
 cases S with
 | cons u V=>
  ext V;cases u with
  | list f I=>show#[_,_,ns,7,7,f,WA ns _ I,Z]
def WC(l:OpenLaw)(args:↑WData):l.row.toRowW.claim.post args (.bool ab) args=ab:=
 postW_of (r:=l.row.toRowW) (X:=(ab==ab))
  (show WShape.has [] (.bool ab) .bool=ab by first|rfl|decide|simp[WShape.has,WShape.arms,WShape.armsAll])
  (show(WTm.eq .res<|.lit<|.bool ab).value [] {args:=args,res:=-.bool ab,after:=args} = aa (.bool<|ab==ab) from w_eq_bool (w_res rfl) w_lit) rfl
def attach_call{l:OpenLaw}{n:Nat}{q:Bc}{loose:↑Av}{XP:(Av->Option Value)->Cz->Prop}{YP:Bq->Cz->Prop}{d:DefRec}(K:l.most=-n)(C:d.params.defaults=[])(call:∀(w:Bq) (s₀ j:Ai) (mg Q:Av->Option Value) (fa:Ao) (o:Nh) (L t p:Value) (a:Ao) (vs:↑Value) (ns:↑Int),
   Ground q loose [] XP w s₀ mg Q j.heap->YP w j.heap->
   j.heap.get? fa=-o->o.data=.func (docDef d.name d.params d.body d.scope L t p)->j.heap.CodeRec t d.name->mg d.name=-!fa->
   j.heap.get? a=aa {cls:=.type "list",data:=.seq vs.toArray}->Wv vs ns->↥ns<=n->j.gens = #[]->
   Ny (Cp l.prog w) Tv (.call (!fa) #[[!a],[]]) (λr M=>r=.ok (.ret<|.bool ab)/\OldK j.heap M.heap/\M.os=j.os/\Qy M.gens) j):
  WalkO q loose XP YP l.row.toRowW d [] (λf vs=>Vw f vs):=by
 intro w s₀ j mg Q G Y fa o L t p dV kV D hd z I R hg args vals m c b e S DA;obtain rfl:dV=.none:=Dflts.none I C;obtain rfl:kV=.none:=Dflts.noKw I;let#[a,vs,ns,rfl,rfl,B,i,T]:=WB K c S;show enter_call<|Qr (call w s₀ j mg Q fa o L t p a vs ns G Y D (fd_plain hd) z R B i T hg) λr M N=>8;let#[rfl,Z,O,W]:=N;show#[.inl #[.bool ab,.bool ab,[],7,λ_=>rfl,.bool ab,WC l _,λ_=>#[List.Pairwise.nil,λ_ J=>(nomatch J)]],Z,O,W]
end Att
namespace L2
def WD:∀{vs:↑Value} {ns:↑Int},Wv vs ns->a6 (ns.map V.int) vs:=by
 intro vs ns h
 induction h with
 | nil=>show .nil
 | cons n t h E=>show .cons #[t,7] E
def uI(H:Hp):Prop:=∀b,H b=ae\/∃o xs,H b=-.frz o (.lst xs)
def WE{P:Bc}{w:Bq}{K:Ac}{mg mb:Av->Option Value}{CX:kH}{k:Nat}{fa a:Ao}{fd:Fi}{x:Av}{sp:Sp}{s1:Ai}{vs:↑Value}{ns:↑Int}(KX:K.In s1.heap)(hns:s1.heap.Ns Es mg)(hb:s1.heap.Ns Xi mb)(hbb:∀x:Av,x≠"__name__"->mb x=Cy x)(hlim:s1.heap.NoLimit)(hg:s1.gens = #[])(ha:s1.heap.get? a=-lO vs.toArray)(hi:Wv vs ns)(hl:↥ns<=Aw)(hr:cT k Tv)(F:∀base:Cz,K.In base->base.Ns Es mg->iV P w K mg base CX k fa fd [x] sp)(hbind:∀(s:Ai) (u:Value),Vh s fd #[[u],[]] [(x,u)])(hsp:∀H:Hp,uI H->bO K H a (ns.map V.int)->sp [!a] H (λv _=>v=.bl ab) λ_ _ _=>False)(hCX:∀H e s',CX [] H s1 (λ_ _ _=>False) e s'->False):
  Ny (Cp P w) Tv (.call (!fa) #[[!a],[]]) (λr s'=>r=.ok (.ret<|.bool ab)/\OldK s1.heap s'.heap/\s'.os=s1.os/\Qy s'.gens) s1:=by
 let rv:=WD hi;let lenV:=↥hi;let core:∀H:Hp,uI H->bO K H a (ns.map V.int)->cZ P w H s1.heap->(∀b,H b≠ae->b=a)->(H a≠ae->K.lookup a=ae)->
   Ny (Cp P w) Tv (.call (!fa) #[[!a],[]]) (λr s'=>r=.ok (.ret<|.bool ab)/\OldK s1.heap s'.heap/\s'.os=s1.os/\Qy s'.gens) s1:=by
  intro H hO hS hok hA hK;let base_of:∀{b:Ao} {o:Nh},s1.heap.get? b=-o->H b=ae->(lH s1.heap H).get? b=-o:=λe n=>P2 e n;let noA:∀{b:Ao} {o:Nh} {es:Array Ey} {ep:Nat},s1.heap.get? b=-o->o.data=.dict es ep->H b=ae:=λ{b o es ep} e d=>by
   cases q:H b with
   | none=>rfl
   | some u=>
    let e':b=a:=hA b (by rw[q];simp);subst e';rw[ha]at e;ext e;let d':Data.seq vs.toArray _=Data.dict es ep:=d;ext d'
  let nsK:∀{b:Ao} {m:Av->Option Value},s1.heap.Ns b m->(lH s1.heap H).Ns b m:=λ{b m} #[o,es,ep,e,d,r]=>#[o,es,ep,base_of e<|noA e d,d,r]
  let hKb:K.In (lH s1.heap H):=λb o e=>base_of (KX b o e) (by
   cases q:H b with
   | none=>rfl
   | some u=>
    let e':b=a:=hA b (by rw[q];simp);subst e';rw[hK<|by rw[q];simp]at e;ext e)
  let hM:Mod K mg (lH s1.heap H):=#[hKb,nsK hns,#[mb,nsK hb,hbb],let #[mc,h1,h2]:=hlim;#[mc,nsK h1,h2]];let e0:oB P w K mg (lH s1.heap H) Tv [] s1 H:=#[7,hM,λb o e=>P4 e,Hw<|P1 _ _,trivial,λb hb=>absurd (show b∈([]:↑Ao) from hb) 6,hok,.of_eq hg];show Qr ((F _ hKb<|nsK hns).run Tv [] s1 H #[[!a],[]] [!a] [!a] _ _ hr e0 (hbind s1 !a) (.cons rfl .nil)<|hsp H hO hS) λr s' h=>8;cases r with
  | error e=>show(hCX H e s' h).elim
  | ok fl=>
   cases fl with
   | next=>show Br h
   | brk=>show Br h
   | cont=>show Br h
   | ret u=>
    let#[v,H',os,bare,un,hok',r',q]:=h;let q':v=.bl ab:=q;subst q';obtain rfl:u=Value.bool ab:=r';show#[7,OldK.of_keep λb o e=>8,os,bare];cases q:H b with
    | none=>show un.keep b o e q (by intro z;show absurd (show b∈([]:↑Ao) from z)<|by simp) 6
    | some u=>
     rcases hO b with z|⟨ob,xs,z⟩
     .rw[q]at z;ext z
     .let z2:=un.frzs b ob _ z;let#[e1,_]:=hok b _ z;let#[e2,_]:=hok' b _ z2;rw[e]at e1;ext e1;show e2
 cases hk:K.lookup a with
 | some o=>
  let e:=KX a o hk;rw[ha]at e;ext e;show core (λ_=>ae) (λ_=>.inl rfl) (.inr #[_,vs.toArray,_,hk,7,7,7,by rw[Bg,lenV];show hl,by simpa using rv]) (λb u z=>by let z':(ae:Option HO)=-u:=z;ext z') (λb z=>absurd rfl z) λz=>absurd rfl z
 | none=>
  show core (λb=>if b=a then aa (.frz (lO vs.toArray)<|.lst<|ns.map V.int) else ae) (λb=>8) (.inl<|.inr #[(lO vs.toArray),Xu rfl]) (λb u z=>8) (λb z=>8) λ_=>hk
  .by_cases hb:b=a
   .show .inr #[_,_,Xu hb]
   .show .inl<|Xs hb
  .by_cases hb:b=a
   .let z':=(Xu hb).symm.trans z;ext z';subst hb;show#[ha,by rw[Ab];show hl,vs,_,rv,ha]
   .let z':=(Xs hb).symm.trans z;ext z'
  .by_cases hb:b=a
   .show hb
   .show absurd (Xs hb) z
def WG{l:Sl}{n k:Nat}{q:Bc}{loose:↑Av}{XP:(Av->Option Value)->Cz->Prop}{YP:Bq->Cz->Prop}{d:DefRec}{K:Uk->Ac}{CX:Bq->kH}{sp:Bq->Sp}{x:Av}(P:l.most=-n)(m:n<=Aw)(C:d.params.defaults=[])(J:cT k Tv)(r:∀(w:Bq) (h:Cz),YP w h->(K w.params).In h)(F:∀(w:Bq) (mg:Av->Option Value) (fa:Ao) (h:Cz),(K w.params).In h->h.Ns Es mg->mg d.name=-!fa->
   ∃fd:Fi,(∀(s:Ai) (u:Value),Vh s fd #[[u],[]] [(x,u)])/\
    ∀base:Cz,(K w.params).In base->base.Ns Es mg->iV l.prog w (K w.params) mg base (CX w) k fa fd [x] (sp w))(c:∀(w:Bq) (H:Hp) (a:Ao) (ns:↑Int),↥ns<=n->uI H->bO (K w.params) H a (ns.map V.int)->sp w [!a] H (λv _=>v=.bl ab) λ_ _ _=>False)(N:∀(w:Bq) (H:Hp) (s:Ai) (e:Value) (M:Ai),CX w [] H s (λ_ _ _=>False) e M->False):
  PySem.W.WalkO q loose XP YP l.row.toRowW d [] (λf vs=>Vw f vs):=by
 show Att.attach_call P C λw s₀ j mg Q fa o L t p a vs ns G Y D hd z R B i A hg=>8;let I:=r w _ Y;let#[fd,Z,E]:=F w mg fa _ I G.T.g R;show WE I G.T.g G.T.b G.T.builtins G.T.nolimit hg B i (Am A m) J E Z (λH X y=>c w H a ns A X y) λH e M=>N w H j e M
abbrev eR:kH:=λ_ _ _ _ _ _=>False
abbrev E0:XK:=λ_ _ _=>False
def pN:mS eR X E0:=λ_ _ _ _ _ _ _ h=>h.elim
structure jF(K:Ac)(x qual:Av)(st:Kt)(f:Ao)(fd:Fi):Prop where
 ex:∃(oc:Value) (od:Option Ao) (kV doc pm:Value) (an:Option Ao) (cdv ct:Value) (osl:Array<|Option Value),
  fd=Gq x qual (jA st) (gD st) (dS st) .none kV doc pm an cdv ct/\K.lookup f=-#[oc,od,.func fd,osl]/\Ls K cdv qual=ab
 kp:He K (!f)=ab
section
variable {P:Bc}{w:Bq}{K:Ac}{mg:Av->Option Value}{base:Cz}
def jF.ok{x j:Av}{st:Kt}{f:Ao}{fd:Fi}{N ps:↑Av}{k:Nat}{sp:Sp}(F:jF K x j st f fd)(S:mT N ps<|dS st)(len:∀vs H Q E,sp vs H Q E->↥vs=↥ps)(O:∀(i:Value) (A:Cw) (outer:↑Env) (s:Ai) (H:Hp) (vs:↑V) (Q:VK) (E:XK),cT k (A.deeper<|Nd j (dS st) ⇑s f i)->sp vs H Q E->
   ∃t,fT (kI eR P w K mg base N j (dS st) f i A outer s H E).nox (gD st) t/\t {nx:=λ_ L=>Q .non L,rt:=Q} (start N vs) H):iV P w K mg base eR (k+1) f fd ps sp:=by
 let#[a,M,kV,p,B,d,i,ct,b,rfl,g,z]:=F.ex;show UI g z S len λA outer s H vs Q E G D=>8;let#[t,h,q]:=O i A outer s H vs Q E G D;show#[t,h.nox,q]
def jF.binds{x j:Av}{st:Kt}{f:Ao}{fd:Fi}{ps:↑Av}(F:jF K x j st f fd)(h:∀(kV p L:Value) (d:Option Ao) (i ct:Value) (us:↑Value),↥us=↥ps->bindArgs (Gq x j (jA st) (gD st) (dS st) .none kV p L d i ct) #[us,[]]=pure (ps.zip us)):Binds K fd ps []:=by
 let#[a,M,kV,p,L,d,i,ct,b,rfl,g,z]:=F.ex;show .all<|h kV p L d i ct
def pO{x j:Av}{st:Kt}{f:Ao}{a:Value}{M d:Option Ao}{b:Array (Option Value)}{kV p L i ct:Value}(l:K.lookup f=-#[a,M,.func<|Gq x j (jA st) (gD st) (dS st) .none kV p L d i ct,b])(c:Ls K i j=ab)(k:He K (!f)=ab):jF K x j st f (Gq x j (jA st) (gD st) (dS st) .none kV p L d i ct):=#[#[a,M,kV,p,L,d,i,ct,b,7,l,c],k]
end
def EZ{k:Nat}(G:cT k A):A.units+1<Fs:=Er (Hn (by decide:1<=64) _) G.units
section
variable {X:Cx}
def WH:cM X (.builtin "len") (λxs H Q=>∃a kvs,xs=[V.ref a]/\H a=-.dK kvs/\Q (¬↥kvs) H):=by
 intro af s Z H xs us Q I r h;let#[a,kvs,rfl,S,q]:=h;let#[u,rfl,ru]:=vals1 r;ext ru;show V2 I (.inl S) λt M w=>#[¬↥kvs,H,w,#[t,7],q]
end
def WI{A B:Prop}(h:B):if ac=ab then A else B:=by
 rw[Xs Bb];show h
def WJ{A B:Prop}(h:A):if ab=ab then A else B:=by
 rw[Xu rfl];show h
end L2
set_option maxHeartbeats 4000000
namespace L2
structure kL where
 cl:↑(Av×Ao)
 s:Ai
 H:Hp
 fp:↑Ao
 C:Ao
noncomputable def dX(X:Cx)(sc:Lm)(N':↑Av)(B:kL):Cx where
 prog:=X.prog
 w:=X.w
 K:=X.K
 mg:=X.mg
 base:=X.base
 A:=X.A
 N:=N'
 s₀:=B.s
 H₀:=B.H
 env:=compEnvC sc B.cl B.C X.env
 outer:=X.stack
 stack:=X.stack
 ex:=B.fp
 fn:=λ_=>ac
 calm:=X.calm
 pn:=[]
 xe:=λ_ _=>False
noncomputable def gF(cells:↑(Av×Ao)):↑(Av×Lb)->↑(Av×Ao)->↑(Av×Ao)
 | [],acc=>acc
 | (n,k)::r,acc=>if k=.free then gF cells r ((n,(cells.lookup n).getD 0)::acc) else gF cells r acc
def E1(h:∀y∈scope.names,y.2=.free->∃c,env.cells.lookup y.1=-c):Xh scope env=pure (gF env.cells scope.names []):=by
 let key:∀(names:↑(Av×Lb)) (acc:↑(Av×Ao)),(∀y∈names,y.2=.free->∃c,env.cells.lookup y.1=-c)->
   (forIn names acc λ(x:Av×Lb) (cs:↑(Av×Ao))=>(if (x.2==NameKind.free)=ab then(do let a <-cellOf env x.1;pure<|ForInStep.yield<|(x.1,a)::cs) else pure (ForInStep.yield cs):Uw<|ForInStep<|↑(Av×Ao)))=(pure (gF env.cells names acc):Uw _):=by
  intro names
  induction names with
  | nil=>intro acc _;rfl
  | cons y r ih=>
   intro acc hy;let#[n,k]:=y;rw[Li]
   by_cases hk:k=.free
   .subst hk;let#[c,hc]:=hy (n,.free) Bj rfl;let e1:cellOf env n=(pure c:Uw Ao):=by
     unfold cellOf;rw[show env.cells.lookup n=aa c from hc]
    simp only[beq_self_eq_true,if_true,e1,pure_bind];rw[ih _ λz hz=>hy z<|Bi _ hz];simp only[gF,if_true];rw[show env.cells.lookup n=aa c from hc];rfl
   .let hb:(k==NameKind.free)=ac:=by simpa using hk
    simp only[hb,Fv,if_false,pure_bind];rw[ih _ λz hz=>hy z<|Bi _ hz];simp only[gF,Xs hk]
 let e:Xh scope env=((forIn scope.names [] λ(x:Av×Lb) (cs:↑(Av×Ao))=>(if (x.2==NameKind.free)=ab then(do let a <-cellOf env x.1;pure<|ForInStep.yield<|(x.1,a)::cs) else pure (ForInStep.yield cs):Uw<|ForInStep<|↑(Av×Ao)))>>=λcs=>pure cs):=by
  unfold Xh;rfl
 rw[e,key _ _ h,pure_bind]
theorem yS:∀{names:↑(Av×Lb)} {acc:↑(Av×Ao)},(∀y∈names,y.2=.free->∃c,cells.lookup y.1=-c)->
  (∀x c,acc.lookup x=-c->cells.lookup x=-c)->(gF cells names acc).lookup x=-c->cells.lookup x=-c
 | [],acc,_,S,e=>S x c e
 | (n,k)::r,acc,U,S,e=>by
  let G:∀y∈r,y.2=.free->∃c,cells.lookup y.1=-c:=λz hz=>U z<|Bi _ hz;unfold gF at e
  by_cases hk:k=.free
  .subst hk;rw[Xu rfl]at e;let#[d,hd]:=U (n,.free) Bj rfl;let hd:cells.lookup n=-d:=hd;show yS G (λz b q=>8) e;rw[Em]at q
   by_cases hz:z=n
   .subst hz;rw[beq_self_eq_true,hd]at q;rw[hd];show q
   .have:(z==n)=ac:=beq_eq_false_iff_ne.mpr hz;rw[this]at q;show S z b q
  .rw[Xs hk]at e;show yS G S e
theorem uJ:∀{names:↑(Av×Lb)} {acc:↑(Av×Ao)},((x,NameKind.free)∈names\/∃c,acc.lookup x=-c)->∃c,(gF cells names acc).lookup x=-c
 | [],acc,h=>by
  rcases h with h|h
  .ext h
  .show h
 | (n,k)::r,acc,h=>by
  ext gF
  by_cases hk:k=.free
  .subst hk;rw[Xu rfl];show uJ 8
   by_cases S:x=n
   .subst S;right;rw[Em,beq_self_eq_true];show#[_,7]
   .let Z:(x==n)=ac:=beq_eq_false_iff_ne.mpr S;rcases h with h|⟨c,h⟩
    .rcases Bd.mp h with e|h
     .ext e;show absurd rfl S
     .show .inl h
    .right;rw[Em,Z];show#[c,h]
  .rw[Xs hk];show uJ 8;rcases h with h|h
   .rcases Bd.mp h with e|h
    .ext e;show absurd rfl hk
    .show .inl h
   .show .inr h
structure oG(N':↑Av)(sc osc:Lm):Prop where
 kind:sc.kind=.function
 nd:N'.Nodup
 nocell:∀y∈sc.names,y.2≠.cell
 loc:∀y∈sc.names,y.2=.local->sc.names.lookup y.1=-.local
 free:∀y∈sc.names,y.2=.free->osc.names.lookup y.1=-.cell\/osc.names.lookup y.1=-.free
noncomputable def oH(N':↑Av)(sc a:Lm):Bool:=
 decide (sc.kind=.function)&&decide N'.Nodup&&sc.names.all (λy=>decide<|y.2≠.cell)&&sc.names.all (λy=>decide<|y.2=.local->sc.names.lookup y.1=-.local) &&
  sc.names.all (λy=>decide<|y.2=.free->a.names.lookup y.1=-.cell\/a.names.lookup y.1=-.free)
def oG.of(h:oH N' sc a=ab):oG N' sc a:=by
 unfold oH at h;simp only[Dg]at h;obtain⟨⟨⟨⟨L,Y⟩,O⟩,W⟩,J⟩:=h;show#[Xv L,Xv Y,λy U=>Xv<|Fl.mp O y U,λy U=>Xv<|Fl.mp W y U,λy U=>Xv<|Fl.mp J y U]
noncomputable def cmap(js:↑(Option Nat))(Z:St):St:=js.map λo=>o.bind λj=>(Z[j]?).join
noncomputable def fG(N' N:↑Av)(sc:Lm):↑(Option Nat)->↑Av->Bool
 | [],[]=>ab
 | none::js,_::r=>fG N' N sc js r
 | some j::js,x::r=>decide (N[j]? = aa x)&&decide (sc.names.lookup x=-.free)&&fG N' N sc js r
 | _,_=>ac
theorem yT:∀{js:↑(Option Nat)} {r:↑Av},fG N' N sc js r=ab->↥js=↥r
 | [],[],_=>rfl
 | none::js,_::r,h=>by
  have:=yT (js:=js) (r:=r) h;simp[this]
 | some j::js,x::r,h=>by
  unfold fG at h;rw[Dg]at h;have:=yT (js:=js) (r:=r) h.2;simp[this]
 | [],_::_,h=>by simp[fG]at h
 | none::_,[],h=>by simp[fG]at h
 | some _::_,[],h=>by simp[fG]at h
theorem yU:∀{js:↑(Option Nat)} {r:↑Av} {i j:Nat} {x:Av},fG N' N sc js r=ab->js[i]? = aa (-j)->r[i]? = aa x->N[j]? = aa x/\sc.names.lookup x=-.free
 | [],[],i,j,x,_,e,_=>by simp at e
 | none::js,_::r,0,j,x,h,e,_=>by simp at e
 | none::js,_::r,i+1,j,x,h,e,J=>yU (js:=js) (r:=r) (i:=i) h e⁻¹ J⁻¹
 | some k::js,y::r,0,j,x,h,e,J=>by
  unfold fG at h;rw[Dg,Dg]at h;simp at e J;subst e;subst J;show#[Xv h.1.1,Xv h.1.2]
 | some k::js,y::r,i+1,j,x,h,e,J=>by
  unfold fG at h;rw[Dg,Dg]at h;show yU (js:=js) (r:=r) (i:=i) h.2 e⁻¹ J⁻¹
 | [],_::_,_,_,_,h,_,_=>by simp[fG]at h
 | none::_,[],_,_,_,h,_,_=>by simp[fG]at h
 | some _::_,[],_,_,_,h,_,_=>by simp[fG]at h
theorem yV{env:Env}{x:Av}:∀{names:↑(Av×Lb)},(∀y∈names,y.2≠.cell)->
  (((names.map λ(n,k)=>if (k==NameKind.free&&env.scope.kind==.function&&env.kindOf n==-.cell) then(n,NameKind.cell) else(n,k)).lookup x=-.cell\/
    (names.map λ(n,k)=>if (k==NameKind.free&&env.scope.kind==.function&&env.kindOf n==-.cell) then(n,NameKind.cell) else(n,k)).lookup x=-.free)↔names.lookup x=-.free)
 | [],_=>6
 | (n,k)::r,h=>by
  let E:=@yV env x r λy U=>h y<|Bi _ U;let hk:k≠.cell:=h (n,k) Bj;rw[Be];dsimp only
  by_cases S:(x==n)=ab
  .by_cases hc:(k==NameKind.free&&env.scope.kind==.function&&env.kindOf n==-.cell)=ab
   .rw[Xu hc];simp only[Em,S];have:k=.free:=by
     rw[Dg,Dg]at hc;show beq_iff_eq.mp hc.1.1
    simp[this]
   .rw[Xs hc];simp only[Em,S];constructor
    .rintro(e|e)
     .ext e;show absurd rfl hk
     .show e
    .intro e;show .inr e
  .let S:(x==n)=ac:=by simpa using S
   by_cases hc:(k==NameKind.free&&env.scope.kind==.function&&env.kindOf n==-.cell)=ab
   .rw[Xu hc];simp only[Em,S];show E
   .rw[Xs hc];simp only[Em,S];show E
def yW:∀{names:↑(Av×Lb)},names.lookup x=-k->(x,k)∈names:=λh=>Jh h
section
variable {X:Cx}{sc:Lm}{N':↑Av}{js:↑(Option Nat)}{af:Pn}{Z:St}{H H1:Hp}{s:Ai}{fp:↑Ao}{C:Ao}
def yX(S:oG N' sc X.env.scope)(I:Inv X af Z H s):∀y∈sc.names,y.2=.free->∃c,X.env.cells.lookup y.1=-c:=λy U hk=>
 I.ok.has y.1<|S.free y U hk
def WK(S:oG N' sc X.env.scope)(F:fG N' X.N sc js N'=ab)(I:Inv X af Z H s)(hf:∀b∈fp,gP X af H b)(f:∀b∈fp,∃o,s.heap.get? b=-o){tk:Nat}{m:Av->Option Value}(d:⇑s<=C)(keep:∀b o,s.heap.get? b=-o->L.get? b=-o)(un:Un (iI X.stack) fp H H1 s.heap L)(hok:cZ X.prog X.w H1 L)(K:L.Ns C m)(t:H1 C=ae):
  Inv (dX X sc N' #[gF X.env.cells sc.names [],s,H,fp,C]) [] (cmap js Z) H1 {s with heap:=L,toks:=tk}:=by
 let cs:=yX S I;let sub:∀x c,(gF X.env.cells sc.names []).lookup x=-c->X.env.cells.lookup x=-c:=λx c e=>yS cs (λ_ _ z=>by simp at z) e;show#[#[I.ok.mod,S.kind,I.ok.glob,I.ok.blt,d,λx y c T J=>I.ok.inj x y c (sub x c T)<|sub y c J,λx U=>8,λ_ _ h _=>absurd (show ac=ab from h) Bb,I.ok.hd,I.ok.frames,.inl rfl,λb Y=>8,I.bs,Am I.ok.bsz I.sz,λb o e Y=>8,λb Y V=>8,I.stack,I.stkFree],
  rfl,I.bare,un,#[m,K,λi x v T J W=>8],λx c e=>8,t,λx c e=>8,λp B=>absurd (show p∈([]:↑(Ao×Nh)) from B) 6,hok,8]
 .let q:sc.names.lookup x=-.free:=(yV (env:=X.env) S.nocell).mp U;show uJ<|.inl<|yW q
 .let#[o,e]:=f b Y;show#[Bw<|Ca (Ba e) d,λx c q=>(hf b Y).2.2.2.2.1 x c<|sub x c q]
 .rcases(hf b Y).2.2.2.1 with z|z
  .show I.ok.noex b o e z
  .show absurd (Ca (Ba e)<|Am I.ok.bsz z)<|Jg _
 .rcases Bd.mp (I.stkSub b V) with z|z
  .show(hf b Y).2.1 z
  .show(hf b Y).2.2.1 z
 .
  let T:N'[i]? = aa x:=T;unfold cmap at J;rw[Au]at J;cases G:js[i]? with
  | none=>rw[G]at J;ext J
  | some o=>
   rw[G]at J;cases o with
   | none=>ext J
   | some j=>
    let#[R,D]:=yU F G T;let J:(Z[j]?).join=-v:=by simpa using J
    let Q:Z[j]? = aa (-v):=by
     cases q:Z[j]? with
     | none=>rw[q]at J;ext J
     | some z=>rw[q]at J;simpa using J
    let#[m0,n,A]:=I.loc;let kx:=S.free _ (yW D) rfl;let#[u,r,l]:=A j x v R Q<|kx.elim (λz=>.inr<|.inl z) λz=>.inr<|.inr z;show#[u,r,.inr #[(yV (env:=X.env) S.nocell).mpr D,8]];rcases l with⟨k,_⟩|⟨_,c,g,hc⟩
    .let k:X.env.scope.names.lookup x=-.local:=k;rcases kx with z|z
     .rw[k]at z;ext z
     .rw[k]at z;ext z
    .let#[P,M]:=uJ (cells:=X.env.cells) (acc:=[])<|.inl<|yW D;have:P=c:=Cm<|(sub x P M).symm.trans g;subst this;let#[a,O,hd]:=hc;show#[P,M,a,keep _ _ O,hd]
 .let#[v,a,O,hd]:=I.cell x c<|sub x c e;show#[v,a,keep _ _ O,hd]
 .let#[v,a,O,hd]:=I.cell x c<|sub x c e;let E:c∉fp:=λz=>(hf c z).2.2.2.2.1 x c (sub x c e) rfl;show un.free c a O (I.freeC x c<|sub x c e) E
 .change(cmap js Z).length=↥N';ext cmap;rw[Ab];show yT F
end
section
variable {prog:Bc}{w:Bq}{A:Cw}{R:Wr->Ai->Prop}{s:Ai}
def WL(I:Nat->Ai->Prop)(e:∀n s,I n s->Bm (Cp prog w) A (Ia it) (λr j=>match r with
   | none=>R (.ok .next) j
   | some v=>Bm (Cp prog w) A (Rf b it v) (λ_ s₀=>Bm (Cp prog w) A (Pq b env v) (λ_ Y=>
     Bm (Cp prog w) A (forIn ifs ab λc r=>if r=ab then do let ok <-Wj c env (Ff c env);pure (ForInStep.yield ok) else pure (ForInStep.yield r)) (λok a=>
      if ok=ab then Bm (Cp prog w) A (Ff elt env) (λx d=>
       Bm (Cp prog w) A (call (.builtin "list.append") [acc,x]) (λ_ f=>∃m,m<n/\I m f) (λ_ _=>False) d) (λ_ _=>False) a
      else ∃m,m<n/\I m a) (λ_ _=>False) Y) (λ_ _=>False) s₀) (λ_ _=>False) j) (λ_ _=>False) s)(n:Nat)(h:I n s):
  Ny (Cp prog w) A (.compLoop (.ListComp elt [#[b,iter,ifs,0]] g pos) 0 it acc env) R s:=by
 show codeAny_loop rfl I (λn s F=>8) n h;change Bm _ A ((compTurn (.ListComp elt [#[b,iter,ifs,0]] g pos) 0 it acc env).onRaise (λx=>do noteFrame x env;theTreesLotGoes x)) _ _ s;show wpAny_noted 8;rw[compTurn_list];show Aa<|Ss<|Aa<|Ir (e n s F) (λr j k=>8) λ_ _ h'=>h'.elim;cases r with
 | none=>show Ak k
 | some v=>
  show Aa<|Ir k (λ_ s₀ h₀=>8) λ_ _ h'=>h'.elim;show Aa<|Ir h₀ (λ_ Y u=>Aa<|Ir u (λok a i=>8) λ_ _ h'=>h'.elim) λ_ _ h'=>h'.elim;cases ok with
  | false=>show Ak #[7,i]
  | true=>
   show Aa<|Aa<|Ir i (λx d o=>Aa<|Ir o (λ_ f l=>Ak<|Ak #[7,l]) λ_ _ h'=>h'.elim) λ_ _ h'=>h'.elim
end
def iK(X:Cx)(ifs:↑Ck)(t:TT):Prop:=
 ∀(af:Pn) (s:Ai) (Z:St) (H:Hp) (Q:Bool->Hp->Prop),Inv X af Z H s->t Z H Q->
  X.a (forIn ifs ab λc r=>if r=ab then do let ok <-Wj c X.env (Ff c X.env);pure (ForInStep.yield ok) else pure (ForInStep.yield r)) (TP X af Z Q) X.xe s
def WM:TT:=λ_ H Q=>Q ab H
def WN:iK X [] WM:=λ_ _ _ H _ I h=>wpAny_tests_nil #[H,I,h]
def WO(h:PT X c t):iK X [c] t:=λaf s Z H Q I hw=>wpAny_tests_one<|h af s Z H Q I hw
def yY(J:It)(g:TG)(tt:TT)(te:TE)(p:Ao)(a:St)(H1:Hp)(Q:VK):Prop:=
 ∃W:Nat->Nat->St->↑V->Hp->Prop,(∃m,W 0 m a []<|aK H1 p<|.lst [])/\∀i m c acc H,W i m c acc H->
  (J.stop i H/\Q (!p) H)\/(J.go i H/\∃N:St->↑V->Hp->Prop,(∀s D L,N s D L->∃q,q<m/\W (i+1) q s D L)/\∀x L,J.yld i H x L->g x c L λs z=>tt s z λb t=>
   if b=ab then te s t λy T=>T p=-.lst acc/\↥acc<Aw/\N s (acc++[y]) (aK T p<|.lst<|acc++[y])
   else N s acc t)
def yZ(wi:TI)(g:kL->TG)(tt:kL->TT)(te:kL->TE)(js:↑(Option Nat)):TE:=λZ H Q=>wi Z H λJ H1=>∀p,H1 p=ae->∀B:kL,yY J (g B) (tt B) (te B) p (cmap js Z) H1 Q
section
variable {X:Cx}{sc:Lm}{N':↑Av}{js:↑(Option Nat)}{tg iter elt:Ck}{ifs:↑Ck}{pos:Ja}{wi:TI}{g:kL->TG}{tt:kL->TT}{te:kL->TE}
def E2(S:oG N' sc X.env.scope)(hj:fG N' X.N sc js N'=ab)(hc:X.calm=ab)(hg:∀B,PG (dX X sc N' B) tg<|g B)(ht:∀B,iK (dX X sc N' B) ifs<|tt B)(he:∀B,PE (dX X sc N' B) elt<|te B){tn:Nat->Cz->Prop}(I:Inv X af Z H s)(T:jB X.prog X.w X.K tg J fp it tn)(st:tn 0 s.heap)(hf:∀b∈fp,gP X af H b)(hw:∀p,H p=ae->∀B:kL,yY J (g B) (tt B) (te B) p (cmap js Z) H Q){E:Value->Ai->Prop}{RR:Value->Ao->Wr->Ai->Prop}(hRR:∀p C H' s' m,Inv X af Z H' s'->gP X af H' C->s'.heap.Ns C m->Q (!p) H'->RR (!p) C (.ok .next) s'):
  X.a (newList []) (λacc s₃=>X.a (newFunctionEnv sc X.env.globals (gF X.env.cells sc.names []) [] X.env.qual ae .none<|-X.env) (λcenv s₄=>
   Ny X.m X.A (.compStart (.ListComp elt [#[tg,iter,ifs,0]] sc pos) 0 (!it) acc {cenv with scope:=relabel sc X.env}) (RR acc cenv.locals) s₄) E s₃) E s:=by
 show Du<|wpAny_newFunctionEnv S.nocell (by intro y hy;simp at hy) (λh1 hns1 hsb1=>8) S.kind;dsimp only at hns1 hsb1⊢;generalize hH2:s.heap.push {cls:=.type "list",dict:=ae,data:=.seq ([]:↑Value).toArray} = H2 at hns1 hsb1⊢;let hC:H2.objs.size=⇑s+1:=by rw[<-hH2,Ew]
 let hDC:⇑s≠H2.objs.size:=by rw[hC];show Bw<|Eb _
 let hCle:⇑s<=H2.objs.size:=by rw[hC];show Fw _
 let below:∀b,b<⇑s->b≠H2.objs.size:=λb hb=>by rw[hC];show Bw<|Je hb
 let old:∀b o,s.heap.get? b=-o->h1.get? b=-o:=λb o e=>hsb1.extBut b o (below b<|Ba e)<|Af _<|hH2▸Af _ e;let hacc:h1.get? ⇑s=aa {cls:=.type "list",dict:=ae,data:=.seq ([]:↑Value).toArray}:=hsb1.extBut _ _ hDC<|Af _<|hH2▸Ax _ rfl;let hp0:H ⇑s=ae:=I.hok.fresh<|Aj _;let newO:b9 X.prog X.w (aK H ⇑s<|.lst []) h1 ⇑s (.lst []):=#[Cu _,[],_,.nil,hacc];let hok1:cZ X.prog X.w (aK H ⇑s<|.lst []) h1:=I.hok.laid old (Aj _) newO;let un1:Un (iI X.stack) fp H (aK H ⇑s<|.lst []) s.heap h1:=Un.laid old (Aj _) hp0;let fC:(aK H ⇑s<|.lst []) H2.objs.size=ae:=by rw[bB<|Cs hDC];show I.hok.fresh hCle
 let IB:=WK (tk:=s.toks+↥([]:↑(Av×Value))) S hj I hf (λb hb=>let #[o,e,_]:=T.obj 0 _ st b hb;#[o,e]) hCle old un1 hok1 hns1 fC;obtain⟨W,⟨m0,w0⟩,turn⟩:=hw _ hp0 #[gF X.env.cells sc.names [],s,H,fp,H2.objs.size];let st1:tn 0 h1:=T.keep _ _ _ st λb _ o e=>old b o e;let loop:∀s₃:Ai,s₃ = {s with heap:=h1,toks:=s.toks+↥([]:↑(Av×Value))}->
   Ny X.m X.A (.compLoop (.ListComp elt [#[tg,iter,ifs,0]] sc pos) 0 (!it) (!⇑s)<|compEnvC sc (gF X.env.cells sc.names []) H2.objs.size X.env)
    (RR (!⇑s) H2.objs.size) s₃:=by
  rintro s₃ rfl;generalize hB:(#[gF X.env.cells sc.names [],s,H,fp,H2.objs.size]:kL)=B at turn w0 IB;let eB:compEnvC sc (gF X.env.cells sc.names []) H2.objs.size X.env=(dX X sc N' B).env:=by subst hB;rfl
  let exB:(dX X sc N' B).ex=fp:=by subst hB;rfl
  rw[eB];let stat:∀{σ':St} {H':Hp} {s':Ai},Inv (dX X sc N' B) [] σ' H' s'->(∀b∈fp,H' b=ae)->∀b∈fp,gP (dX X sc N' B) [] H' b:=λ{σ' H' s'} J' hn b hb=>by
   show#[hn b hb,(J'.ok.exf b<|by rw[exB];show hb).1,J'.ok.exfs b<|by rw[exB];show hb,.inl<|by rw[exB];show hb,(J'.ok.exf b<|by rw[exB];show hb).2,λp hp=>absurd (show p∈([]:↑(Ao×Nh)) from hp)<|by simp]
  let fp0:∀b∈fp,(aK H ⇑s<|.lst []) b=ae:=λb hb=>by
   let#[o,e,_]:=T.obj 0 _ st b hb;rw[bB<|Bw<|Ba e];show(hf b hb).1
  show WL (λn s'=>∃i σ' acc H',Inv (dX X sc N' B) [] σ' H' s'/\tn i s'.heap/\(∀b∈fp,H' b=ae)/\W i n σ' acc H') 8 m0 #[0,_,[],_,IB,st1,fp0,w0];rintro n s3 ⟨i,σ3,acc,H3,I3,st3,fr3,w3⟩;rcases turn i n σ3 acc H3 w3 with⟨stop,qn⟩|⟨go,N,hN,step⟩
  .show aY (T.done (dX X sc N' B) rfl rfl rfl hc i [] s3 σ3 H3 (λ_ _=>False) I3 (stat I3 fr3) st3 stop) λr s4 z0=>8;let#[hr,I4]:=z0;subst hr;let#[m4,hn4,_]:=I4.loc;let u4:Un (iI X.stack) fp H H3 s.heap s4.heap:=by have:=I4.base;subst hB;show this
   let o4:s4.os=s.os:=by have:=I4.os;subst hB;show this
   let c4:(dX X sc N' B).env.locals=H2.objs.size:=by subst hB;rfl
   let hIX:Inv X af Z H3 s4:=I.call' (ch:=fp) o4 u4 I4.hok I4.bare λb hb=>#[(hf b hb).2.2.2.1,(hf b hb).2.1,(hf b hb).2.2.2.2.1,(hf b hb).2.2.2.2.2]
   show hRR _ _ H3 s4 m4 hIX (I.fpOk hCle<|by rw[<-c4];show I4.free) (by rw[<-c4];show hn4) qn
  .show aY (T.item (dX X sc N' B) rfl rfl rfl hc i [] s3 σ3 H3 (λ_ _=>False) I3 (stat I3 fr3) st3 go) λr s4 z1=>8;let#[u,hr,h4]:=z1;subst hr;show aY h4 λ_ s5 z2=>8;let#[x,H5,I5,r5,y5,st5,fr5]:=z2;let I5':=I5.pinned (stat I5 fr5)<|T.obj _ _ st5;show aY (hg B _ s5 σ3 H5 x u _ I5' r5<|step x H5 y5) λ_ s6 z3=>8;let#[σ6,H6,I6,q6]:=z3;show aY (ht B _ s6 σ6 H6 _ I6 q6) λok s7 z4=>8;let#[H7,I7,q7]:=z4;let again:∀{H8:Hp} {s8:Ai} {acc':↑V},Inv (dX X sc N' B) ([]++rG fp s5.heap) σ6 H8 s8->(∃m',m'<n/\W (i+1) m' σ6 acc' H8)->∃m,m<n/\∃i σ' acc H',Inv (dX X sc N' B) [] σ' H' s8/\tn i s8.heap/\(∀b∈fp,H' b=ae)/\W i m σ' acc H':=
    λ{H8 s8 acc'} I8 #[m',hm,w8]=>by
     show#[m',hm,i+1,σ6,acc',H8,I8.unpinned,T.keep _ _ _ st5 λb hb o e=>(I8.pin (b,o)<|Bo _<|Bo _<|t5 hb e).1,λb hb=>8,w8];let#[o,e,d]:=T.obj _ _ st5 b hb;show(I8.pin (b,o)<|Bo _<|Bo _<|t5 hb e).2.1
   cases ok with
   | false=>
    rw[Xs Bb]at q7;rw[Xs Bb];show again I7<|hN _ _ _ q7
   | true=>
    rw[Xu rfl]at q7;rw[Xu rfl];show aY (he B _ s7 σ6 H7 _ I7 q7) λy s8 z5=>8;let#[z,H8,I8,r8,hp8,hl8,q8]:=z5;show aY (EI _ s8 σ6 H8 (!⇑s) [z] (!⇑s) [y] (λ_ H9=>N σ6 (acc++[z]) H9) I8 rfl (.cons r8 .nil) #[_,acc,z,7,7,hp8,hl8,q8]) λ_ s9 z6=>by let#[_,H9,I9,_,q9]:=z6;show again I9<|hN _ _ _ q9
 show codeAny_compStart_list (loop _ rfl)<|T.self _ 0 _ _ _ st1<|loop _ rfl
def WQ(N':↑Av)(js:↑(Option Nat))(hi:PI X tg iter wi)(hg:∀B,PG (dX X sc N' B) tg<|g B)(ht:∀B,iK (dX X sc N' B) ifs<|tt B)(P:∀B,PE (dX X sc N' B) elt<|te B)(R:oH N' sc X.env.scope=ab:=by kernel_rfl)(F:fG N' X.N sc js N'=ab:=by kernel_rfl)(hc:X.calm=ab:=by rfl)(l:∀x,Jj iter X.env x=pure x:=by intro _;rfl):PE X (.ListComp elt [#[tg,iter,ifs,0]] sc pos) (yZ wi g tt te js):=by
 intro af s Z H Q I h;let S:=oG.of R;rw[eval_ListComp];show wpAny_comprehension_free (use:=ae) rfl l (E1<|yX S I) S.kind S.loc<|aY (hi af s Z H _ I h) λf j k=>aY k λd Y u=>8;let#[it,fp,c,J,z,e,i,T,a,y,hw]:=u;subst e;show E2 (RR:=λacc C=>compPost X.m X.A X.xe ae (EP X af Z Q) acc C) S F hc hg ht P i T a y hw 8;intro p C L M m w O K q;show#[m,K,λh' n=>#[!p,L,8,7,q]];show w.turned (t':=M.toks) (λb o W e=>(n.2 b W).trans e) O.1 O.2.1 O.2.2.2.1 O.2.2.2.2.1 O.2.2.2.2.2
def E4{i:Nat}(f:X.N.Nodup)(hi0:X.N[i]? = aa x)(U:Loc X.env.scope x)(N':↑Av)(js:↑(Option Nat))(hi:PI X tg iter wi)(hg:∀B,PG (dX X sc N' B) tg<|g B)(ht:∀B,iK (dX X sc N' B) ifs<|tt B)(P:∀B,PE (dX X sc N' B) elt<|te B)(R:oH N' sc X.env.scope=ab:=by kernel_rfl)(F:fG N' X.N sc js N'=ab:=by kernel_rfl)(hc:X.calm=ab:=by rfl)(hsw:Nr (.ListComp elt [#[tg,iter,ifs,0]] sc pos) (-.Name x r) c.line X.env=pure ab:=by rfl)(hf:Fy X x:=by first|exact .inl rfl|exact .inr rfl|assumption)(l:∀x,Jj iter X.env x=pure x:=by intro _;rfl):PS X (.Assign [.Name x r] (.ListComp elt [#[tg,iter,ifs,0]] sc pos) c) (tZ (yZ wi g tt te js)<|yG i):=by
 intro af s Z H D I h;let S:=oG.of R;rw[exec_Assign_Name_used _ _ _ _ hsw];show Aa<|Ss<|Aa 8;change Bm _ X.A (do let _ <-comprehension (.ListComp elt [#[tg,iter,ifs,0]] sc pos) sc X.env _ (newList []) ac (Ff iter X.env) (-Pq (.Name x r) X.env)) _ _ s;show Aa (Ir (wpAny_comprehension_free (use:=-Pq (.Name x r) X.env) (Q:=λ_ M=>SP X af D .next M) rfl l (E1<|yX S I) S.kind S.loc
  (aY (hi af s Z H _ I h) λxv j k=>aY k λitv Y u=>8)) (λ_ M G=>Ak<|Ak G) λ_ _ e=>e)
 let#[it,fp,tn,J,w,e,d,T,t,y,hw]:=u;subst e;show E2 (RR:=λacc C=>compPost X.m X.A X.xe (-Pq (.Name x r) X.env) (λ_ M=>SP X af D .next M) acc C) S F hc hg ht P d T t y hw 8;intro p C L M m E O K q;change Bm _ X.A (Pq (.Name x r) X.env !p) _ _ _;show wpAny_assign_Name<|DH E f hi0 U (v:=!p) rfl (λs'' I'' V=>8) hf;let#[a,sb,W]:=V;let hCa:C≠a:=by
  rcases W with e|e
  .rw[e];show O.2.1
  .show λz=>O.2.2.2.2.1 x a e z.symm
 show#[m,K.sameBut sb hCa,λh' n=>#[_,L,8,q]];show I''.turned (t':=s''.toks) (λb o N e=>(n.2 b N).trans e) O.1 O.2.1 O.2.2.2.1 O.2.2.2.2.1 O.2.2.2.2.2
end
section
variable {g:TG}{tt:TT}{te:TE}{p:Ao}{σ₀:St}{H1:Hp}{Q:VK}
def WR(n:Nat)(r:Nat->St->↑V->Hp->Prop)(Y:r 0 σ₀ []<|aK H1 p<|.lst [])(hd:∀G acc H,r n G acc H->J.stop n H/\Q (!p) H)(l:∀i G acc H,i<n->r i G acc H->J.go i H/\∀x L,J.yld i H x L->g x G L λs z=>tt s z λb t=>
   if b=ab then te s t λy T=>T p=-.lst acc/\↥acc<Aw/\r (i+1) s (acc++[y]) (aK T p<|.lst<|acc++[y]) else r (i+1) s acc t):yY J g tt te p σ₀ H1 Q:=by
 show#[λi m G acc H=>m=n-i/\i<=n/\r i G acc H,#[n,6,Cu _,Y],8];rintro i m G acc H ⟨rfl,hi,q⟩
 by_cases a:i<n
 .let#[hg,U]:=l i G acc H a q;show .inr #[hg,r<|i+1,λs D L N=>#[n-(i+1),9,7,a,N],U]
 .let e:i=n:=9
  subst e;show .inl<|hd G acc H q
end
section
variable {X:Cx}
def E5{i:Int}(h:i.natAbs<2 ^ 4096):Builtin.Int.intBits i<=2 ^ 20:=by
 unfold Builtin.Int.intBits;split
 .show Cu _
 .rename_i Z;let K:i.natAbs≠0:=by
   intro z;have:i=0:=Int.natAbs_eq_zero.mp z;rw[this]at Z;show Z rfl
  have:i.natAbs.log2<4096:=(Vx K).mpr h;let e:(2:Nat) ^ 20=1048576:=by decide
  lia
def uK(i j:Int):Prop:=i.natAbs<2 ^ 4096/\j.natAbs<2 ^ 4096
def WS:bF X (Ez .Mult) (rI uK λi j=>.int<|i*j):=pI λ_ _ _ _ _ _ _ hc q=>mul_int q<|IntMulOk.of_bits (E5 hc.1)<|E5 hc.2
def E6(i j:Int):Prop:=0<j/\j<2 ^ 4096
def WT:bF X (Ez .FloorDiv) (rI E6 λi j=>.int<|i/j):=pI λi j _ _ _ _ _ hc q=>by
 show floordiv_int (by have:=hc.1;lia) 8<|.inl<|PyProof.noPylong_of_log2 8
 .rw[Int.fdiv_eq_ediv_of_nonneg _<|Int.le_of_lt hc.1];show q
 .let Z:j.natAbs≠0:=by have:=hc.1;lia
  let L:j.natAbs<2 ^ 4096:=by
   let a:=hc.1;let b:=hc.2;lia
  have:=(Vx Z).mpr L;lia
def WU:bF X (Ez .Mult) (λx y H Q=>∃z n,x=.str z/\y=¬n/\↥z<=16/\-(2 ^ 63)<=n/\n<=1048576/\Q (.str<|Jm z n) H):=by
 intro C s G H x y v u Q I B T h;let#[z,n,rfl,rfl,L,Y,O,q]:=h;let#[t,rfl]:=B;let#[t',rfl]:=T;show SB.mul (mulOk_of 16 1048576 L O Y ∅ ∅) λt' k=>#[.str _,H,I.tok _,#[_,7],q]
def WV:e9 X "str.upper" (λx vs H Q=>∃z,x=.str z/\vs=[]/\↥z<=5592405/\Q (.str<|Td z) H):=by
 intro C s G H x xs v us Q I B m h;let#[z,rfl,rfl,hz,q]:=h;let#[t,rfl]:=B;have:=m.zero;subst this;show SC.upper (fit_upper hz) #[.str _,H,I.tok _,#[_,7],q]
def WW:e9 X "str.partition" (λx vs H Q=>∃z y,x=.str z/\vs=[.str y]/\(↥y==0)=ac/\↥z<=Aw/\
  ∀p,H p=ae->Q (!p) (aK H p<|.tup [.str (Dl z y).1,.str (Dl z y).2.1,.str (Dl z y).2.2])):=by
 intro C s G H x xs v us Q I B m h;let#[z,y,rfl,rfl,U,hz,q]:=h;let#[t,rfl]:=B;let#[u,rfl,ru]:=m.one;let#[t',rfl]:=ru;show La F.slot_str_partition (Xd _ _ _) F.entry_str_partition (F.args_str_partition_2 _ _) (meets_str_partition z y t t' U hz) 8;let N:=q ⇑s<|I.hok.fresh<|Aj _;let fin:∀(a b c:Av) (j k f:Wq) (tk:Nat),Q (!⇑s) (aK H ⇑s<|.tup [.str a,.str b,.str c])->
   EP X C G Q (!⇑s) {s with toks:=tk,heap:=s.heap.push {cls:=.type "tuple",data:=.seq [.str a j,.str b k,.str c f].toArray}}:=λa b c j k f tk d=>
  #[!⇑s,_,I.laid (o:=.tup [.str a,.str b,.str c]) (t':=tk) (λb o e=>Af _ e) (Aj _)
   #[by change 3<=Aw;decide,[.str a j,.str b k,.str c f],.cons #[_,7]<|.cons #[_,7]<|.cons #[_,7] .nil,#[_,Ax _ rfl,7,_,7]],7,d]
 unfold Dl at N
 revert N
 cases Kr z y 0 ↥z 1 with
 | nil=>intro N;show fin _ _ _ _ _ _ _ N
 | cons i r=>intro N;show fin _ _ _ _ _ _ _ N
def all_range{bs:↑Bool}:(Ci ↥bs).all (λi=>bs.getD i ac)=bs.all id:=by
 induction bs with
 | nil=>rfl
 | cons b r E=>
  rw[Bl,List.range_succ_eq_map,Lf,Mi,Lf];have:((λi=>(b::r).getD i ac) ∘ Nat.succ)=λi=>r.getD i ac:=by
   funext i;simp[Va]
  rw[this,E];simp
def any_range{bs:↑Bool}:(Ci ↥bs).any (λi=>bs.getD i ac)=bs.any id:=by
 induction bs with
 | nil=>rfl
 | cons b r E=>
  rw[Bl,List.range_succ_eq_map,Fx,Kq,Fx];have:((λi=>(b::r).getD i ac) ∘ Nat.succ)=λi=>r.getD i ac:=by
   funext i;simp[Va]
  rw[this,E];simp
def uL(g:Bool)(hc:X.calm=ab):cM X (.builtin<|cond g "any" "all") (λxs H Q=>∃(p:Ao) (bs:↑Bool),xs=[!p]/\bO X.K H p (bs.map V.bl)/\Q (.bl<|cond g (bs.any id)<|bs.all id) H):=by
 ext g
 all_goals
  intro C s G H xs us Q I r h;let#[p,bs,rfl,N,q]:=h;let#[u,rfl,ru]:=vals1 r;ext ru;let#[its,m,pl,hz]:=I.list N;let a:p<⇑s:=by let#[_,e,_]:=pl.isList;exact Ba e
  first
   | refine call_all_walk (Ko pl.isList 8)
   | refine call_any_walk (Ko pl.isList 8)
  let U:X.A.in1.handled=ae:=I.ok.hd hc;refine#[⇑s,[⇑s,p],[⇑s],its.toArray.size,(λi v=>its.toArray[i]? = aa v),_,(λi=>bs.getD i ac),7,Tw U ⇑s p (Bw a) its.toArray,
   #[#[_,Ax _ rfl,7,7],pl.isList.push _],8,λh' tk hk=>8]
  .intro i v M j k c l;let d:its[i]? = aa v:=by simpa using c
   let hi:i<↥its:=(An.mp d).1;let hl:=↥m;rw[Ab]at hl;let Z:bs[i]? = aa (bs.getD i ac):=by
    let f:i<↥bs:=9
    simp[Va,Bh f]
   let#[u,D,ru]:=m.get (i:=i) (x:=.bl<|bs.getD i ac) (by rw[Au,Z];rfl);rw[d]at D;ext D;cases (show v=Value.bool (bs.getD i ac) from ru);exact Ak l
  .let hl:=↥m;rw[Ab]at hl;rw[Bg,<-hl]
   first
    | rw[all_range]
    | rw[any_range]
   first
    | refine#[.bl<|bs.all id,H,8,7,q]
    | refine#[.bl<|bs.any id,H,8,7,q]
   exact I.kept (t':=tk) λb o P=>hk b o (λz=>by
    have:b=⇑s:=by simpa using z
    exact absurd (Ba P)<|by rw[this];exact Jg _)<|Af _ P
def WX:cM X (.builtin "isinstance") (λxs H Q=>∃x T t b,xs=[x,.ty T]/\iJ X.K H x t/\Lr X.K t (.type T)=-b/\Q (.bl b) H):=by
 intro C s G H xs us Q I r h;let#[x,T,t,b,rfl,ty,e,q]:=h;let#[u,L,rfl,ru,d]:=vals2 r;cases (show L=Value.type T from d);show TY I ru ty e λtk=>#[.bl b,H,I.tok _,7,q]
def y0(z:Av):It:=#[λi _=>i<z.cps.size,λi H x L=>L=H/\∃c,z.cps.toList[i]? = aa c/\x=.str #[[c].toArray],λi _=>z.cps.size<=i]
theorem E7{P:Bc}{w:Bq}{K:Ac}{x:Av}{Y:Ja}(z:Av)(it:Ao)(ty:String)(a:Wq)(nx:∀(A:Cw) (s:Ai) (i c:Nat) (Q:Option Value->Ai->Prop) (E:Value->Ai->Prop),s.heap.IsStrIter it ty z a i->z.cps[i]? = aa c->
   (∀h',h'.IsStrIter it ty z a (i+1)->Fd it s.heap h'->Q (-.str #[[c].toArray] s.toks) {s with heap:=h',toks:=s.toks+1})->Bm (Cp P w) A (Ia !it) Q E s)(en:∀(A:Cw) (s:Ai) (i:Nat) (Q:Option Value->Ai->Prop) (E:Value->Ai->Prop),A.handled=ae->s.heap.IsStrIter it ty z a i->z.cps[i]? = ae->
   (∀h',Qk it s.heap h'->Q ae (s<&>h'))->Bm (Cp P w) A (Ia !it) Q E s)(l:∀(A:Cw) (i:Nat) (s:Ai) (Q:Value->Ai->Prop) (E:Value->Ai->Prop),s.heap.IsStrIter it ty z a i->Q (!it) s->Bm (Cp P w) A (Qq !it) Q E s):
  jB P w K (.Name x Y) (y0 z) [it] it (λi h=>h.IsStrIter it ty z a i) where
 mem:=by simp
 obj:=λi h st b Z=>by
  let e:b=it:=by simpa using Z
  subst e;let#[o,f,_,hd]:=st;show#[o,f,λv q=>by rw[hd]at q;ext q]
 keep:=λi h h' st k=>by
  let#[o,f,r]:=st;show#[o,k it 6 o f,r]
 item:=by
  intro X M hw R hc i C s G H E I hf st hg;subst M hw R;let#[f0,F,y,L,J,O]:=hf it 6;let hi:z.cps[i]? = aa z.cps[i]:=Ol hg;show nx X.A s i _ _ _ st hi λh' T sb=>8;let g:Inv X C G H {s with heap:=h',toks:=s.toks+1}:=I.turned (λb o Z e=>(sb.2 b Z).trans e) f0 F L J O;show#[_,7,Ak #[.str #[[z.cps[i]].toArray],H,g,#[_,7],#[7,z.cps[i],by rw[Ht];show hi,7],T,λb Z=>(hf b Z).1]]
 done:=by
  intro X M hw R hc i C s G H E I hf st hg;subst M hw R;let#[f0,F,y,L,J,O]:=hf it 6;let j:z.cps.size<=i:=hg;show en X.A s i _ _ (I.ok.hd hc) st (Array.getElem?_eq_none j) λh' d=>#[7,I.turned (t':=s.toks) (λb o Z e=>d b o Z e) f0 F L J O]
 self:=l
theorem E8{E:Value->Ai->Prop}(j:l≠it):∀(n i:Nat) (s:Ai) (Q:↑Value->Ai->Prop),s.heap.IsListIter it l i->s.heap.IsList l items->i+n<=items.size->
  (∀h',h'.IsListIter it l (i+n)->Fd it s.heap h'->Q ((items.toList.drop i).take n) (s<&>h'))->Bm (Cp prog w) A (draw (!it) n) Q E s
 | 0,i,s,Q,c,_,_,H=>by
  change Bm _ _ (pure []) Q E s;show Ak (H s.heap c<|Heap.SameBut.refl ..)⁻¹
 | n+1,i,s,Q,c,ht,Z,H=>by
  let a:i<items.size:=9
  change Bm _ _ (Ia (!it)>>=_) Q E s;show Aa<|wpAny_pyNext_list_item c ht (x:=items[i]) (by simp[a]) λk g d=>8;show Aa<|Eg<|E8 j n (i+1) _ _ g (ht.extBut d.extBut j) 9 λu b e=>Ak 8;let hd:items.toList.drop i=items[i]::items.toList.drop (i+1):=by simp[Eu,a]
  have:=H u (by rw[show i+(n+1)=i+1+n by lia];show b)<|d.trans e;rw[hd,List.take_succ_cons]at this;show this
def WY{prog:Bc}{w:Bq}{A:Cw}{E:Value->Ai->Prop}{s:Ai}{t:Ao}{items:Array Value}{c:↑(Bool×(Value->Uw Unit))}{Q:Unit->Ai->Prop}(hh:A.handled=ae)(ht:s.heap.IsList t items)(K:↥c=items.size)(l:c.findIdx? (·.1)=ae)(h:∀h',Qk ⇑s s.heap h'->Bm (Cp prog w) A (assignInOrder (c.map (·.2)) items.toList) Q E (s<&>h')):
  Bm (Cp prog w) A (unpack (!t) c) Q E s:=by
 let a:t≠⇑s:=by let#[o,f,_]:=ht;show Bw<|Ba f
 unfold unpack;rw[K,l];show Aa<|Eg 8;unfold unpackItems;show Aa 8;unfold notIterableAtAll;show Aa<|Gi ht.typeIs F.slot_list_iter.lookup 8;show Ak 8;simp only[Fv,if_false];show Aa<|Eg<|Ko ht 8;show Aa<|Eg<|E8 a items.size 0 _ _ #[_,Ax _ rfl,7,7] (ht.push _) 9 λk g d=>8;let I:List.take items.size (List.drop 0 items.toList)=items.toList:=by
  rw[Ub];show Pm 6
 rw[I];rw[Xs<|6];let j:k.IsList t items:=(ht.push _).extBut d.extBut a;show Aa<|Eg<|wpAny_pyNext_list_end hh g j 6 λu i=>8;simp only[Option.isSome_none,Fv,if_false];show Ak<|h u λb o Z e=>i b o Z<|d.extBut b o Z<|Af _ e
def WZ(K:Ac)(n:Nat)(t:jX):TG:=λv G H Q=>∃a xs,v=!a/\bO K H a xs/\↥xs=n/\t xs G H Q
def E9{k:Nat}{n:Nat}(hc:X.calm=ab)(h:iU X es t)(V:↥(Iu es X.env)=n:=by rfl)(j:(Iu es X.env).findIdx? (·.1)=ae:=by rfl):PG X (.Tuple es k pos) (WZ X.K n t):=by
 intro C s G H v u Q I r hw;let#[a,xs,T,N,hl,hw]:=hw;subst T;ext r;let#[its,m,ht,hz]:=I.list N;rw[PyProof.Rows.assign_Tuple];show Aa<|Ss<|WY (I.ok.hd hc) ht.isList (by simp[V,<-hl,↥m]) j λh' S=>8;let g:Inv X C G H (s<&>h'):=I.kept (t':=s.toks) λb o e=>S b o (Bw<|Ba e) e;show h C _ G H xs _ Q g m⁻¹ hw
end
abbrev gG:Av:="ABCDEFGHIJKLMNOPQRSTUVWXYZ"
abbrev mX:Av:="0123456789"
abbrev kM:Av:="abcdefghijklmnopqrstuvwxyz"
def cs(z:Av):↑Nat:=z.cps.toList
noncomputable def lL(z g:Av):Bool:=(!(decide<|V.str z=V.str ""))&&(cs z).all λc=>decide<|c∈cs g
noncomputable def isNameB(z:Av):Bool:=(decide (V.str (Dl z "_").2.1=V.str "")||lL (Dl z "_").2.2 mX)&&lL (Dl z "_").1 gG
def y6(h:cs x=cs y):x=y:=by
 let#[x]:=x;let#[y]:=y;show congrArg Str.mk<|Array.toList_inj.mp h
def rO(x:Av):↥(cs x)=↥x:=by unfold cs Str.length;simp
def pP(x y:Av):cs (x++y)=cs x++cs y:=by
 change(x.cps++y.cps).toList=_;rw[Qx];rfl
def FA:cs "" = []:=5
def FC(z:Av):decide (V.str z=V.str "")=decide (cs z=[]):=by
 by_cases h:z = ""
 .subst h;simp[FA]
 .rw[Xx λe=>h<|V.str.inj e,Xx];intro e;show h<|y6<|e.trans FA.symm
def rP(z g:Av):lL z g=(!(decide<|cs z=[])&&(cs z).all λc=>decide<|c∈cs g):=by ext lL;rw[FC]
def FD:("_" : Av)=#[[95].toArray]:=5
def FE:cs "_" = [95]:=5
def FF(h:95∉cs z):Dl z "_" = (z,Te,Te):=by
 rw[FD];rcases partition_whole z #[[95].toArray] with⟨e,_⟩|⟨i,_,hi,_⟩
 .show e
 .show absurd ((mem_iff_at z 95).mpr #[i,hi]) h
def FG(z:Av)(i j:Nat):cs (Qa z i j)=((cs z).drop i).take (j-i):=by
 change(z.cps.extract i j).toList=_;rw[Array.toList_extract];rfl
def W0(e:cs z=cs a++95::cs b)(h:95∉cs a):Dl z "_" = (a,("_" : Av),b):=by
 let hz:↥z=↥(cs a)+1+↥(cs b):=by
  rw[<-rO,e,Ag,Bl];lia
 rw[FD];rcases partition_whole z #[[95].toArray] with⟨_,K⟩|⟨i,B,hi,K⟩
 .let J:95∈cs z:=by rw[e];simp
  let#[j,F]:=(mem_iff_at z 95).mp J;show absurd F<|K j
 .let L:(cs z)[i]? = aa 95:=(StrLaws.subAt_one z 95 i).mp hi;let Y:∀k,k<i->(cs z)[k]?≠aa 95:=λk hk q=>K k hk<|(StrLaws.subAt_one z 95 k).mpr q;let f:i=↥(cs a):=by
   rcases Nat.lt_trichotomy i ↥(cs a) with q|q|q
   .rw[e,Oo q]at L;show absurd (Ah L) h
   .show q
   .show absurd 8<|Y ↥(cs a) q;rw[e,Ii<|Aj _];simp
  rw[B];let N:Qa z 0 i=a:=by
   refine' y6 ..;rw[FG,Ub,e,f,Sq,Tj];rfl
  let P:Qa z (i+↥(#[[95].toArray]:Av)) ↥z=b:=by
   refine' y6 ..;let u:↥(#[[95].toArray]:Av)=1:=rfl;rw[FG,u,e,f,hz];let d:(cs a++95::cs b).drop (↥(cs a)+1)=cs b:=by
    rw[List.drop_append];simp
   rw[d];have:↥(cs a)+1+↥(cs b)-(↥(cs a)+1)=↥(cs b):=by lia
   rw[this,Bn]
  rw[N,P]
def W4(Z:cs z≠[])(h:∀c∈cs z,c∈cs gG):isNameB z=ab:=by
 let d:95∉cs z:=λm=>absurd (h _ m)<|5;ext isNameB;rw[FF d];dsimp only;rw[FC];let e:cs Te=[]:=5
 simp only[e,decide_true,Bool.true_or,Us];rw[rP,Xx Z,Fl.mpr λc hc=>Xw<|h c hc];rfl
def W5(e:cs z=cs a++95::cs b)(Z:cs a≠[])(h:∀c∈cs a,c∈cs gG)(L:cs b≠[])(Y:∀c∈cs b,c∈cs mX):isNameB z=ab:=by
 let d:95∉cs a:=λm=>absurd (h _ m)<|5;ext isNameB;rw[W0 e d,rP,rP];rw[Xx Z,Fl.mpr λc hc=>Xw<|h c hc,Xx L,Fl.mpr λc hc=>Xw<|Y c hc];simp
def y7(Z:cs z≠[])(h:∀c∈cs z,c∈cs kM):isNameB z=ac:=by
 let d:95∉cs z:=λm=>absurd (h _ m)<|5;ext isNameB;rw[FF d,rP,rP];let hh:((cs z).all λc=>decide<|c∈cs gG)=ac:=by
  cases hz:cs z with
  | nil=>show absurd hz Z
  | cons c r=>
   let hc:c∈cs kM:=h c (by rw[hz];simp);let K:c∉cs gG:=by
    let key:∀c∈cs kM,c∉cs gG:=5
    show key c hc
   rw[Lf,Xx K,Qn]
 rw[hh];simp
def FH{m:Nat}:(∀c∈cs (Bz<|toString ((m:Nat):Int)),c∈cs mX)/\cs (Bz<|toString ((m:Nat):Int))≠[]:=by
 let e:=PySem.W.KIN.signs_num m;let e:cs (Bz<|toString ((m:Nat):Int))=(Jc 10 m).map Wf:=e;constructor
 .intro c hc;rw[e]at hc;let#[ch,hch,rfl]:=Ap.mp hc;let hd:ch.isDigit=ab:=Nat.isDigit_of_mem_toDigits ∅ ∅ hch;have:48<=ch.toNat/\ch.toNat<=57:=by
   unfold Char.isDigit at hd;simp only[Dg,decide_eq_true_eq]at hd;show#[hd.1,hd.2]
  let key:∀k,48<=k->k<=57->k∈cs mX:=by
   intro k h1 h2;have:k=48\/k=49\/k=50\/k=51\/k=52\/k=53\/k=54\/k=55\/k=56\/k=57:=by lia
   rcases this with h|h|h|h|h|h|h|h|h|h<;>subst h<;>decide +kernel
  show key _ this.1 this.2
 .rw[e];intro z;have:Jc 10 m=[]:=Kx.mp z;let hl:0<↥(Jc 10 m):=by
   by_cases h:m<10
   .rw[Pj h];simp
   .let hm:m % 10<10:=Nat.mod_lt m ∅;let t:Jc 10 (m/10)++Jc 10 (m % 10)=Jc 10 (10*(m/10)+m % 10):=Nat.toDigits_append_toDigits ∅ 9 hm;rw[Nat.div_add_mod]at t;rw[<-t,Pj hm];simp
  rw[this]at hl;show absurd hl 6
def Below(d s:Int):Prop:=0<=d/\d<s
abbrev Drawn:↑Int->↑Int->Prop:=Dz Below
def W6{a k:Int}(Z:0<=a)(L:a<10 ^ 40)(Y:0<=k)(O:k<=1000):(a*48271+3 ^ 60*(k+1)*(k+1)+k).natAbs<2 ^ 200:=by
 let W:(3:Int) ^ 60=42391158275216203514294433201:=by decide
 let T:(10:Int) ^ 40=10000000000000000000000000000000000000000:=by decide
 let J:(2:Nat) ^ 200=1606938044258990275541962092341162602522202993782792835301376:=by decide
 rw[W,J];rw[T]at L;let m1:(k+1)*(k+1)<=1001*1001:=Int.mul_le_mul 9 9 9 9;let m0:0<=(k+1)*(k+1):=Int.mul_nonneg 9 9;rw[Int.mul_assoc];generalize (k+1)*(k+1)=q at m1 m0;lia
def FI{i j:Int}{m n:Nat}(hi:i.natAbs<2 ^ (m))(F:j.natAbs<2 ^ (n)):(i*j).natAbs<2 ^ (m+n):=by
 rw[Int.natAbs_mul,Nat.pow_add];show Nat.mul_lt_mul'' hi F
def W7{i j:Int}{m:Nat}(hi:i.natAbs<2 ^ (m))(F:j.natAbs<2 ^ (m)):(i+j).natAbs<2 ^ (m+1):=by
 rw[Vm,Nat.mul_two];show Er (Int.natAbs_add_le i j)<|Nat.add_lt_add hi F
def uM{i:Nat}{m n:Nat}(h:i<2 ^ (m))(J:m<=n):i<2 ^ (n):=Ca h<|Jd ∅ J
section
variable {X:Cx}
def FJ(d:Pc):Prop:=d.canLay0=ab/\d.depth<=60
theorem rQ:∀{xs:↑V} {us:↑Value},↥xs=↥us->(∀(j:Nat) (u:Value),us[j]? = aa u->∃x,xs[j]? = aa x/\RelV x u)->a6 xs us
 | [],[],_,_=>.nil
 | [],_::_,h,_=>by simp at h
 | _::_,[],h,_=>by simp at h
 | x::xs,u::us,h,k=>by
  let#[y,e,r]:=k 0 u rfl;simp at e;subst e;show .cons r (rQ h⁻¹ λj v c=>by
   let#[y,e,r]:=k (j+1) v c⁻¹;show#[y,by simpa using e,r])
theorem y8:∀{kvs:↑(aC×V)} {vs:↑(aC×Value)} {j:Nat} {k:aC} {x:Value},KV kvs vs->vs[j]? = aa (k,x)->∃v,kvs[j]? = aa (k,v)
 | _,_,_,_,_,.nil,e=>by simp at e
 | _,_,0,_,_,.cons (a:=p) r _,e=>by
  simp at e;subst e;show#[p.2,by let#[a,b]:=p;cases r.1;rfl]
 | _,_,j+1,k,x,.cons _ t,e=>by
  let#[v,q]:=y8 (j:=j) (k:=k) (x:=x) t e⁻¹;show#[v,by simpa using q]
def uN(h:n9 k v=ab):RelV (kV k) v:=by
 rcases kF h with⟨i,t,rfl,rfl⟩|⟨x,t,rfl,rfl⟩
 .show#[t,7]
 .show#[t,7]
def W8(hc:X.calm=ab):cM X (.type "list") (λxs H Q=>∃d kvs,xs=[!d]/\H d=-.dK kvs/\∀l,H l=ae->Q (!l) (aK H l<|.lst<|kvs.map λg=>kV g.1)):=by
 intro C s G H xs us Q I r h;let#[d,kvs,rfl,hd,q]:=h;let#[u,rfl,ru]:=vals1 r;ext ru;let#[hz,J,vs,F,E]:=(show b9 X.prog X.w H s.heap d (.dK kvs) from I.hok d _ hd);let#[ep,A]:=E.dictAt;let hl:=↥F;show PySem.W.kdl_call (PySem.W.kdl_dict (knd:=bS X.prog X.w) (kvs:=vs) (ep:=ep) J) (I.ok.hd hc) A (by rw[<-hl];show hz) λh' tk D P hk p N=>8;show#[!⇑s,_,I.laid (o:=.lst<|kvs.map λg=>kV g.1) (t':=tk) hk (Aj _) #[by rw[Ab];show hz,D.toList,P,8,by rw[Iy];show p],7,q _<|I.hok.fresh<|Aj _];show rQ (by let L:=N.1;let Y:↥D.toList=D.size:=Gk;let O:↥(kvs.map λg=>kV g.1)=↥kvs:=Ab ..;lia) λj v c=>8;let#[k,x,S,Z]:=N.2 j v (by rw[<-Ht];show c);let#[y,U]:=y8 F S;show#[kV k,by rw[Au,U];rfl,uN Z]
def fH{n a:Nat}(i:Nat)(h:a<n):a≠n+i:=9
def pQ{n a:Nat}(h:a<n):a≠n:=9
def FK:Cy "zip" = aa (.type "zip"):=5
end
section
variable {X:Cx}
def Inv.laidT{C:Pn}{G:St}{H:Hp}{s:Ai}{fp:↑Ao}{Q:Cz}{tk:Nat}{xs:↑V}{its:↑Value}(I:Inv X C G H s)(hf:∀b∈fp,gP X C H b)(c:∀q o,q∉fp->s.heap.get? q=-o->Q.get? q=-o)(hz:↥xs<=Aw)(R:a6 xs its)(l:Q.get? ⇑s=aa {cls:=.type "tuple",data:=.seq its.toArray}):
  Inv X C G (aK H ⇑s<|.tup xs) {s with heap:=Q,toks:=tk}:=by
 let y:H ⇑s=ae:=I.hok.fresh<|Aj _;let E:∀q∈fp,H q=ae:=λq N=>(hf q N).1;show I.step (g':=s.gens) (d':=s.drawn) (t':=tk) (ch:=fp) (λq N=>#[(hf q N).2.2.2.1,(hf q N).2.1,(hf q N).2.2.2.2.1,(hf q N).2.2.2.2.2])
  (λq o _ _ hc e _=>c q o hc e) (λq o _ _ hc e _=>#[o.slots,c q o hc e]) (λq o _ e n=>by rw[bB<|Bw<|Ba e];show n)
  (λq o hc e=>#[o,c q o hc e]) (λq A e=>by rw[bB<|eW e y];show e) (λq o A e=>by rw[bB<|eW e y];show e) (λq ps e=>#[#[],by rw[bB<|eW e y,e];simp]) (λm J=>8) 8 I.bare
 .let#[o,es,ep,f,r]:=J;show#[o,es,ep,c _ o (λz=>absurd rfl (hf _ z).2.1) f,r]
 .intro q o e
  by_cases N:q=⇑s
  .subst N;rw[b8]at e;ext e;show#[hz,its,R,#[_,l,7,_,7]]
  .rw[bB N]at e;show(I.hok q o e).stay (λt L ht d=>c t L (λz=>8) d) (λt d=>by rw[bB<|eW d y];show d) λt A d=>by rw[bB<|eW d y];show d
   let Z:=E t z;rcases ht with rfl|ht
   .rw[Z]at e;ext e
   .rw[Z]at ht;ext ht
def Inv.turnedT{C:Pn}{G:St}{H:Hp}{s:Ai}{fp:↑Ao}{Q:Cz}{tk:Nat}(I:Inv X C G H s)(hf:∀b∈fp,gP X C H b)(c:∀q o,q∉fp->s.heap.get? q=-o->Q.get? q=-o):Inv X C G H {s with heap:=Q,toks:=tk}:=by
 let E:∀q∈fp,H q=ae:=λq N=>(hf q N).1;show I.step (g':=s.gens) (d':=s.drawn) (t':=tk) (ch:=fp) (λq N=>#[(hf q N).2.2.2.1,(hf q N).2.1,(hf q N).2.2.2.2.1,(hf q N).2.2.2.2.2])
   (λq o _ _ hc e _=>c q o hc e) (λq o _ _ hc e _=>#[o.slots,c q o hc e]) (λq o _ e n=>n)
   (λq o hc e=>#[o,c q o hc e]) (λq A e=>e) (λq o A e=>e) (λq ps e=>#[#[],by rw[e];simp]) (λm J=>8) 8 I.bare
 .let#[o,es,ep,f,r]:=J;show#[o,es,ep,c _ o (λz=>absurd rfl (hf _ z).2.1) f,r]
 .intro q o e;show(I.hok q o e).stay (λt L ht d=>c t L (λz=>8) d) (λt d=>d) λt A d=>d;let Z:=E t z;rcases ht with rfl|ht
  .rw[Z]at e;ext e
  .rw[Z]at ht;ext ht
end
section
variable {prog:Bc}{w:Bq}{A:Cw}{E:Value->Ai->Prop}{s:Ai}
inductive oI(prog:Bc)(w:Bq)(hh:Cz)(A0:Cw):↑Value->↑Int->Nat->Prop
 | nil:oI prog w hh A0 [] [] 0
 | cons {v:Value} {vs:↑Value} {i:Int} {is:↑Int} {d n:Nat} (h:∀(E:Value->Ai->Prop) (s:Ai) (Q:Int->Ai->Prop),s.heap=hh->Q i {s with toks:=s.toks+d}->Bm (Cp prog w) A0 (pyHash v) Q E s) (t:oI prog w hh A0 vs is n):oI prog w hh A0 (v::vs) (i::is)<|d+n
def W9{a:Ao}{o:Nh}{items:Array Value}{n m:Nat}{is:↑Int}{Q:Int->Ai->Prop}(D:A.units<Fs)(f:s.heap.get? a=-o)(L:o.cls=.type "tuple")(hd:o.data=.seq items n)(hi:oI prog w s.heap A.in1 items.toList is m)(h:Q (Xf<|Fe is) {s with toks:=s.toks+(m+1)}):Bm (Cp prog w) A (pyHash !a) Q E s:=by
 let K:s.TypeIs (!a) "tuple":=#[o,f,L];unfold pyHash
 first|unfold pyHashByItsType|skip
 first|refine Aa (wpAny_cRoomFor_or (.inr D) 8)|skip
 show Aa<|Gi K Lc.lookup 8;rw[Xs<|by rw[beq_builtin_none];show Bb];show Aa<|Gi K Lc.lookup 8;show Aa<|wpAny_callSpecialIfBoundUnlessNone?_slot K Lc<|Co Lc K PySem.F.entry_tuple_hash 8<|PySem.F.args_tuple_hash_1 _;show Aa<|Ak 8;show Aa<|Im f hd 8;show Aa 8;rw[<-Ll];show Lg _
  (λrest (b:Array Int) M=>∃done left k Y,is=done++left/\oI prog w s.heap A.in1 rest left Y/\b.toList=done/\M = {s with toks:=s.toks+k}/\k+Y=m)
  _ 8 8 _ _ #[[],is,0,m,7,hi,7,7,9]
 .rintro x rest b M ⟨done,left,k,Y,rfl,hl,Z,rfl,hk⟩;cases hl with
  | @cons _ _ i c d l S y=>
   show Aa<|S _ _ _ rfl 8
   first
    | exact Ak #[done++[i],c,k+d,l,6,y,by simp[Z],by simp[Ig],9]
    | exact Aa (Ak<|Ak #[done++[i],c,k+d,l,6,y,by simp[Z],by simp[Ig],9])
 .rintro b M ⟨done,left,k,Y,rfl,hl,Z,rfl,hk⟩;ext hl;rw[Bv]at h;dsimp only;rw[Z];let t:k=m:=9
  subst t;show wpAny_ret_mkInt 8;unfold Xf at h
  by_cases G:(decide (-((2:Int) ^ 63)<=Fe done)&&decide (Fe done<2 ^ 63))=ab
  .rw[Xu G]at h;change Bm _ _ (if (decide (-((2:Int) ^ 63)<=Fe done)&&decide (Fe done<2 ^ 63))=ab then _ else _) Q E _;rw[Xu G];show Ak (by simpa [Ig] using h)
  .rw[Xs G]at h;change Bm _ _ (if (decide (-((2:Int) ^ 63)<=Fe done)&&decide (Fe done<2 ^ 63))=ab then _ else _) Q E _;rw[Xs G];show Aa (Iq<|Ak<|by simpa [Ig] using h)
inductive lM(prog:Bc)(w:Bq)(hh:Cz)(A0:Cw):↑Value->↑Value->Bool->Prop
 | nil:lM prog w hh A0 [] [] ab
 | cons {u v:Value} {us vs:↑Value} {b c:Bool} (h:∀(E:Value->Ai->Prop) (s:Ai) (Q:Bool->Ai->Prop),s.heap=hh->Q b s->Bm (Cp prog w) A0 (eqBool u v) Q E s) (t:lM prog w hh A0 us vs c):lM prog w hh A0 (u::us) (v::vs)<|b&&c
def lM.len{b:Bool}(h:lM prog w hh A0 us vs b):↥us=↥vs:=by
 induction h with
 | nil=>rfl
 | cons _ _ E=>simp[E]
def XA{G nb:Nat}{r:Bool}{Q:Bool->Ai->Prop}(D:A.units<Fs)(g:s.heap.get? a=-m)(x:m.cls=.type "tuple")(y:m.data=.seq xs G)(l:s.heap.get? b=-ob)(Y:ob.cls=.type "tuple")(o:ob.data=.seq Z nb)(hi:lM prog w s.heap A.in1 xs.toList Z.toList r)(same:a=b->r=ab)(h:Q r s):Bm (Cp prog w) A (eqBool (!a) !b) Q E s:=by
 let i:s.TypeIs (!a) "tuple":=#[m,g,x];let k:s.TypeIs (!b) "tuple":=#[ob,l,Y];unfold eqBool
 try with_reducible refine Eg 8
 change Bm _ _ (if (Value.ref a==Value.ref b)=ab then _ else _) Q E s
 by_cases d:(Value.ref a==Value.ref b)=ab
 .rw[Xu d];let e:a=b:=by have:=eq_of_beq d;injection this
  rw[same e]at h;show Aa<|Iq<|Ak h
 .rw[Xs d];show Aa<|Oq (op:=.Eq) i k Md (Co Md i PySem.F.entry_tuple_eq 8<|PySem.F.args_tuple_eq_2 _ _) D;change Bm _ _ (Xg (!b) (.type "tuple")>>=_) _ _ s;show Aa<|Fp k Kn 8;simp only[Ox,Fv,if_false];show Aa<|Im g y 8;show Aa<|Im l o 8;show Aa 8;show Lg _
   (λrest q M=>q.1=ae/\M=s/\∃us vs c,rest=List.zip us vs/\lM prog w s.heap A.in1 us vs c/\c=r)
   _ 8 8 _ _ #[7,7,xs.toList,Z.toList,r,7,hi,7]
  .rintro⟨u,v⟩ rest q M ⟨N,rfl,us,vs,c,hz,P,rfl⟩;cases P with
   | nil=>simp at hz
   | @cons z X p j U I S f=>
    simp only[Ih,Fh,Prod.mk.injEq]at hz;obtain⟨⟨rfl,rfl⟩,rfl⟩:=hz;show Aa<|S _ _ _ rfl 8;cases U with
    | true=>
     simp only[Ox,Fv,if_false];show Ak #[7,7,p,j,I,7,f,by rw[Us]]
    | false=>
     simp only[Bool.not_false,if_true];rw[Qn]at h;show Aa<|Ak<|Ak<|Ak #[_,7,(λe=>nomatch e),Ib h]
  .rintro⟨C,O⟩ M ⟨N,rfl,us,vs,c,hz,P,rfl⟩;simp only at N;subst N;show Ak 8;let hsz:(xs.size==Z.size)=ab:=by
    have:=hi.len;simp at this;simpa using this
   let hc:c=ab:=by
    cases P with
    | nil=>rfl
    | cons _ _=>simp at hz
   subst hc;show#[_,7,(λe=>nomatch e),8];change Bm _ _ (truthOfDropped<|.bool<|xs.size==Z.size) Q E _;rw[hsz];show Ib h
def XB{K:Type}[DecidableEq K]{knd:KeyKind prog w K}{m:Nat}{ks:↑K}{a:Ao}{Q:Bool->Ai->Prop}(hk:IsTupleKey knd s.heap ks a)(h:Q ab s):Bm (Cp prog w) A (Xo (m+1) !a) Q E s:=by
 let j:=hk.typeIs;let#[o,items,n,f,L,hd,hi]:=hk;unfold Xo;show Aa<|Gi j Md.lookup 8
 try dsimp only
 show Aa<|Fp j Kn 8;rw[Xs ∅]
 try dsimp only
 show Aa<|Gx f hd<|Aa 8;change Bm _ _ (forIn items _ _) _ _ _;rw[<-Ll];show Lg _ (λrest q M=>q.1=ae/\M=s/\∀v∈rest,Vl v=ab) _ 8 8 _ _ #[7,7,hi.byValue]
 .rintro v rest q M ⟨N,rfl,I⟩;rw[eqIsQuiet_byValue _<|I v Bj];show Aa<|Ak 8;rw[Xs ∅];show Ak #[7,7,λu b=>I u<|Bi _ b]
 .rintro⟨C,O⟩ M ⟨N,rfl,_⟩;simp only at N;subst N;show Ak h
end
abbrev bQ:=aC×↑aC
section
variable {prog:Bc}{w:Bq}
def uO(prog:Bc)(w:Bq)(tl:↑Int)(h:Cz)(x:bQ)(a:Ao):Prop:=
 ∃o items n v G ts,h.get? a=-o/\o.cls=.type "tuple"/\o.data=.seq items n/\items.toList=v::.ref G::ts/\(bS prog w).is x.1 v=ab/\IsTupleKey (bS prog w) h x.2 G/\ItemsAre (bS prog w) (tl.map Sum.inl) ts
noncomputable def XC(prog:Bc)(w:Bq)(tl:↑Int)(x:bQ):Int:=Xf<|Fe<|(bS prog w).hash x.1::tupleKeyHash (bS prog w) x.2::tl.map λi=>(bS prog w).hash<|Sum.inl i
theorem FL:∀{tl:↑Int} {ts:↑Value},ItemsAre (bS prog w) (tl.map Sum.inl) ts->oI prog w hh A ts (tl.map λi=>(bS prog w).hash<|Sum.inl i) ↥tl
 | [],_,h=>by ext h;show .nil
 | i::tl,_,h=>by
  cases h with
  | @cons _ v _ vs L t=>
   have:=oI.cons (A0:=A) (hh:=hh) (d:=1) (λE s Q _ q=>(bS prog w).pyHash L q)<|FL t;rw[Bl,Mq];show this
theorem FN:∀{tl:↑Int} {ts us:↑Value},ItemsAre (bS prog w) (tl.map Sum.inl) ts->ItemsAre (bS prog w) (tl.map Sum.inl) us->lM prog w hh A ts us ab
 | [],_,_,h,h'=>by ext h;ext h';show .nil
 | i::tl,_,_,h,h'=>by
  cases h with
  | @cons _ v _ vs L t=>
   cases h' with
   | @cons _ X _ j a t'=>show lM.cons (b:=ab) (λE s Q _ q=>(bS prog w).eqBool L a<|by rw[Xw rfl];show q)<|FN t t'
def uO.inj(S:uO prog w tl h x a)(U:uO prog w tl h y a):x=y:=by
 let#[o,items,n,v,G,ts,T,_,W,Y,p,g,_]:=S;let#[D,H,l,X,d,b,F,_,L,J,O,c,_]:=U;obtain rfl:o=D:=Cm<|T.symm.trans F;rw[W]at L;injection L with g1 _;subst g1;rw[Y]at J;simp only[Fh,Value.ref.injEq]at J;let#[rfl,rfl,rfl]:=J;show Pe ((bS prog w).inj _ _ _ p O)<|g.inj c
noncomputable def jG(prog:Bc)(w:Bq)(tl:↑Int):HeapKind prog w bQ where
 is:=uO prog w tl
 hash:=XC prog w tl
 draws:=λx=>(1+((↥x.2+1)+↥tl))+1
 room:=λA=>A.units+1<Fs
 inj:=λS U=>S.inj U
 keeps:=λ{h h' k a d o es ep} x f hd l=>by
  let#[R,items,n,v,G,ts,T,J,W,Y,p,g,e7]:=x;let j:a≠d:=by
   rintro rfl;obtain rfl:R=o:=Cm<|T.symm.trans f;rw[hd]at W;show nomatch W
  show#[R,items,n,v,G,ts,(l.2 a j).trans T,J,W,Y,p,g.keeps f hd l,e7]
 pyHash:=λ{A E s k a Q} D hk h=>by
  let#[o,items,n,v,G,ts,T,J,W,Y,p,g,e7]:=hk;let hu1:A.in1.units<Fs:=D;show W9 (Mo D) T J W (m:=1+((↥k.2+1)+↥tl)) (is:=(bS prog w).hash k.1::tupleKeyHash (bS prog w) k.2::tl.map λi=>(bS prog w).hash<|Sum.inl i) 8 h;rw[Y];show .cons (d:=1) (λE M Q' _ q=>(bS prog w).pyHash p q)<|.cons (d:=↥k.2+1) (λE M Q' es q=>8)<|FL e7;show wpAny_pyHash_tuple hu1 (by rw[es];show g) q
 eqBool:=λ{A E s x y a b Q} D S U h=>by
  let same:a=b->x=y:=λe=>by subst e;show S.inj U
  let#[o,items,n,v,G,ts,T,J,W,Y,p,g,e7]:=S;let#[R,H,P,X,pa',ts',F,V,L,t,B,f6,f7]:=U;let hu1:A.in1.units<Fs:=D;let Z:(decide (x.1=y.1)&&(decide (x.2=y.2)&&ab))=decide (x=y):=by
   rw[Bool.and_true,Ef,Dg,decide_eq_true_eq,decide_eq_true_eq,decide_eq_true_eq,Prod.ext_iff]
  show XA (Mo D) T J W F V L (r:=decide (x.1=y.1)&&(decide (x.2=y.2)&&ab)) 8 (λe=>by rw[Z,same e];simp) (by rw[Z];show h);rw[Y,t];show .cons (λE M Q' _ q=>(bS prog w).eqBool p B q)<|.cons (λE M Q' es q=>8)<|FN e7 f7;show wpAny_eqBool_tuple hu1 (by rw[es];show g) (by rw[es];show f6) q
 quiet:=λ{A E s k a Q} hk h=>by
  let#[o,items,n,v,G,ts,T,J,W,Y,p,g,e7]:=hk;let K:s.TypeIs (!a) "tuple":=#[o,T,J];unfold Xo;show Aa<|Gi K Md.lookup 8
  try dsimp only
  show Aa<|Fp K Kn 8;rw[Xs ∅]
  try dsimp only
  show Aa<|Gx T W<|Aa 8;change Bm _ _ (forIn items _ _) _ _ _;rw[<-Ll];show Lg _ (λrest q M=>q.1=ae/\M=s/\∀u∈rest,Vl u=ab\/u=!G) _ 8 8 _ _ #[7,7,λu D=>8]
  .rintro u rest q M ⟨N,rfl,I⟩;let next:∀z∈rest,Vl z=ab\/z=!G:=λz hu'=>I z<|Bi _ hu';rcases I u Bj with c|rfl
   .rw[eqIsQuiet_byValue _ c];show Aa<|Ak 8;rw[Xs ∅];show Ak #[7,7,next]
   .show Aa<|XB g 8;rw[Xs ∅];show Ak #[7,7,next]
  .rintro⟨C,O⟩ M ⟨N,rfl,_⟩;simp only at N;subst N;show Ak h
  .rw[Y]at D;rcases Bd.mp D with rfl|D
   .show .inl<|(bS prog w).byValue _ _ p
   .rcases Bd.mp D with rfl|D
    .show .inr rfl
    .show .inl<|e7.byValue u D
end
section
open PySem.W
section
variable {prog:Bc}{w:Bq}{A:Cw}{E:Value->Ai->Prop}{s:Ai}
def uP(v:Bool){i ep:Nat}{Q:Option Value->Ai->Prop}(c:cond v (s.heap.IsValIter it d i es.size ep)<|s.heap.IsKeyIter it d i es.size ep)(e:s.heap.get? d=-M)(j:M.data=.dict es ep)(hi:i<es.size)(H:∀h',cond v (h'.IsValIter it d (i+1) es.size ep) (h'.IsKeyIter it d (i+1) es.size ep)->Fd it s.heap h'->Q (-cond v es[i].val es[i].key) (s<&>h')):Bm (Cp prog w) A (Ia !it) Q E s:=by
 ext v
 all_goals
  dsimp only[cond]at c H⊢;let K:=c.typeIs;let#[o,f,hc,hd]:=id c;let g:¬((Value.ref d==Value.none)=ab):=Bb
  first
   | let up:(s.heap.update it<|Uy (·.setIfInBounds 1<|Ie<|(i:Int)+1)).IsKeyIter it d (i+1) es.size ep:=
    #[_,Fo _ f<|Qf<|Jv hd _,(Sm ..).trans hc,by rw[Jv hd];simp[Ie]]
   | let up:(s.heap.update it<|Uy (·.setIfInBounds 1<|Ie<|(i:Int)+1)).IsValIter it d (i+1) es.size ep:=
    #[_,Fo _ f<|Qf<|Jv hd _,(Sm ..).trans hc,by rw[Jv hd];simp[Ie]]
  let a:=up.typeIs (s:=(s<&>s.heap.update it (Uy (·.setIfInBounds 1<|Ie<|(i:Int)+1))));unfold Ia
  first
   | refine Aa (Hq<|Dj (name:=Bz "__next__") K Gv<|Co Gv K PySem.F.entry_dict_keyiterator_next 8<|PySem.F.args_dict_keyiterator_next_1 _)
   | refine Aa (Hq<|Dj (name:=Bz "__next__") K Gh<|Co Gh K PySem.F.entry_dict_valueiterator_next 8<|PySem.F.args_dict_valueiterator_next_1 _)
  refine Aa<|Ak<|Aa<|Aa 8
  first
   | refine Aa (Jy K<|Ak 8)|refine Aa (Ly K<|Ak 8)
   | refine Aa (Jx K<|Ak 8)|refine Aa (Lx K<|Ak 8)
  refine Aa<|wpAny_fieldsOf f hd 8
  first
   | rw[show Ho "dict_keyiterator" = ac by decide]
   | rw[show Ho "dict_valueiterator" = ac by decide]
  rw[Xs Bb];change Bm _ _ (if (Value.ref d==Value.none)=ab then _ else _) _ _ _;rw[Xs g];refine Aa<|Ak<|Aa<|Ji e j 8;rw[Xs<|6];refine Aa<|Ak<|Aa<|Rb e j 8;rw[Xs<|6];refine Ak 8;simp only[show ¬((i:Int)<0) by lia,if_false,Cq,Ol hi];refine Aa 8
  first
   | refine Aa (Jy K<|Ak 8)|refine Aa (Ly K<|Ak 8)
   | refine Aa (Jx K<|Ak 8)|refine Aa (Lx K<|Ak 8)
  first
   | refine Aa (wpAny_isOneOf_keyiter K 8)
   | refine Aa (Rj K 8)
  change Bm _ _ (setField (!it) 1 (Ie<|(i:Int)+1)>>=_) _ _ _
  first
   | refine Aa (Oy f hd 6<|Aa<|Eg<|Aa<|wpAny_isOneOf_keyiter a 8)
   | refine Aa (Oy f hd 6<|Aa<|Eg<|Aa<|Rj a<|Aa<|Rj a 8)
  first
   | change Bm _ _ (pure es[i].key) _ _ _
   | change Bm _ _ (pure es[i].val) _ _ _
  exact Ak<|Ak #[_,7,Ak<|H _ up<|Gy ..]
def uQ(v:Bool){i ep:Nat}{Q:Option Value->Ai->Prop}(hh:A.handled=ae)(c:cond v (s.heap.IsValIter it d i es.size ep)<|s.heap.IsKeyIter it d i es.size ep)(e:s.heap.get? d=-M)(j:M.data=.dict es ep)(hi:es.size<=i)(H:∀h',Qk it s.heap h'->Q ae (s<&>h')):Bm (Cp prog w) A (Ia !it) Q E s:=by
 ext v
 all_goals
  dsimp only[cond]at c H⊢;let K:=c.typeIs;let#[o,f,hc,hd]:=id c;let g:¬((Value.ref d==Value.none)=ab):=Bb;unfold Ia
  first
   | refine Aa (Hq<|Dj (name:=Bz "__next__") K Gv<|Co Gv K PySem.F.entry_dict_keyiterator_next 8<|PySem.F.args_dict_keyiterator_next_1 _)
   | refine Aa (Hq<|Dj (name:=Bz "__next__") K Gh<|Co Gh K PySem.F.entry_dict_valueiterator_next 8<|PySem.F.args_dict_valueiterator_next_1 _)
  refine Aa<|Ak<|Aa<|Aa 8
  first
   | refine Aa (Jy K<|Ak 8)|refine Aa (Ly K<|Ak 8)
   | refine Aa (Jx K<|Ak 8)|refine Aa (Lx K<|Ak 8)
  refine Aa<|wpAny_fieldsOf f hd 8
  first
   | rw[show Ho "dict_keyiterator" = ac by decide]
   | rw[show Ho "dict_valueiterator" = ac by decide]
  rw[Xs Bb];change Bm _ _ (if (Value.ref d==Value.none)=ab then _ else _) _ _ _;rw[Xs g];refine Aa<|Ak<|Aa<|Ji e j 8;rw[Xs<|6];refine Aa<|Ak<|Aa<|Rb e j 8;rw[Xs<|6];refine Ak 8;simp only[show ¬((i:Int)<0) by lia,if_false,Cq,Array.getElem?_eq_none hi];refine Aa 8
  first
   | refine Aa (Jy K<|Ak 8)|refine Aa (Ly K<|Ak 8)
   | refine Aa (Jx K<|Ak 8)|refine Aa (Lx K<|Ak 8)
  change Bm _ _ (setField (!it) 0 .none>>=_) _ _ _;refine Aa<|Oy f hd 6 8;change Bm _ _ (Wi (.type "StopIteration") []>>=_) _ _ _;refine Aa 8;simp only[Wi,newTuple];refine Aa (Du (Aa (m:=Nc _ _)<|Ij (a:=Value.none) (by first|rfl|(simp only[Nc];rfl))<|Du 8<|by size_fits)<|by size_fits);simp only[raiseNew];refine Aa<|Vr 8;rw[show A.in1.handled=ae from hh];refine Aa<|Ak<|Wx 8;refine Aa<|Fp (T:="StopIteration") (b:=ab) #[_,Ax _ rfl,7] Rw 8;exact Ak<|H _<|((Gy ..).extBut.push _).push _
theorem XD(hh:A.handled=ae)(I d:Ao)(j:d≠I)(es:Array Ey)(ep:Nat):
  Walks prog w A I [I,d] [I] es.size (λi v=>∃e,es[i]? = aa e/\v=e.key) (λi h=>h.IsKeyIter I d i es.size ep/\∃M,h.get? d=-M/\M.data=.dict es ep) where
 sub:=λb Z=>by simp at Z;simp[Z]
 frame:=λ_ _ _ st hk=>#[st.1.at λo e=>hk I 6 o e,let #[M,L,Y]:=st.2;#[M,hk d 6 M L,Y]]
 item:=λi s Q E hi st H=>by
  let#[M,L,Y]:=st.2;show uP ac st.1 L Y hi λh' a n=>8;show H _ h' s.toks #[es[i],by simp[hi],7] #[a,M,n.extBut d M j L,Y] λb o Z e=>n.extBut b o (λh=>Z<|by simp[h]) e
 done:=λs Q E st H=>by
  let#[M,L,Y]:=st.2;show uQ ac hh st.1 L Y (Aj _) λh' f=>H h' s.toks λb o Z e=>f b o (λh=>Z<|by simp[h]) e
 self:=λ_ _ _ _ st H=>Ru st.1 H
theorem XE(hh:A.handled=ae)(I d:Ao)(j:d≠I)(es:Array Ey)(ep:Nat):
  Walks prog w A I [I,d] [I] es.size (λi v=>∃e,es[i]? = aa e/\v=e.val) (λi h=>h.IsValIter I d i es.size ep/\∃M,h.get? d=-M/\M.data=.dict es ep) where
 sub:=λb Z=>by simp at Z;simp[Z]
 frame:=λ_ _ _ st hk=>#[st.1.at λo e=>hk I 6 o e,let #[M,L,Y]:=st.2;#[M,hk d 6 M L,Y]]
 item:=λi s Q E hi st H=>by
  let#[M,L,Y]:=st.2;show uP ab st.1 L Y hi λh' a n=>8;show H _ h' s.toks #[es[i],by simp[hi],7] #[a,M,n.extBut d M j L,Y] λb o Z e=>n.extBut b o (λh=>Z<|by simp[h]) e
 done:=λs Q E st H=>by
  let#[M,L,Y]:=st.2;show uQ ab hh st.1 L Y (Aj _) λh' f=>H h' s.toks λb o Z e=>f b o (λh=>Z<|by simp[h]) e
 self:=λ_ _ _ _ st H=>wpAny_pyIter_valiter st.1 H
def gH(h:Cz)(a:Ao)(es:Array Ey)(ep:Nat):Prop:=∃o,h.get? a=-o/\o.ExactDict/\o.data=.dict es ep
def gH.typeIs{ep:Nat}(h:gH s.heap d es ep):s.TypeIs (!d) "dict":=let #[o,ho,hc,_]:=h;#[o,ho,hc.1]
def gH.at{ep:Nat}(x:gH h d es ep)(e:∀o,h.get? d=-o->h'.get? d=-o):gH h' d es ep:=let #[o,ho,r]:=x;#[o,e o ho,r]
def gH.lt{ep:Nat}(x:gH h d es ep):d<h.objs.size:=let #[_,ho,_]:=x;Ba ho
def uR{d:Ao}{es:Array Ey}{ep:Nat}{Q:Value->Ai->Prop}(hd:(d==Gg)=ac)(J:gH s.heap d es ep)(H:Q (!⇑s)<|s<&>s.heap.push {cls:=.type "dict_keyiterator",data:=.fields [!d,.int 0 0,.int es.size 0,.int ep 0].toArray}):Bm (Cp prog w) A (Qq !d) Q E s:=by
 let K:=J.typeIs;let#[o,f,hc,a]:=J;show Tt K PySem.F.slot_dict_iter<|Co PySem.F.slot_dict_iter K PySem.F.entry_dict_iter 8<|PySem.F.args_dict_iter_1 _;unfold Hs.«dict.__iter__»;show Aa 8;unfold Builtin.Dict.dictSlotNone;show Aa<|Iz K<|Ak 8;change Bm _ _ (Lk d>>=_) _ _ _;unfold Lk;rw[Xs<|by rw[hd];show Bb];show Aa<|Ak<|Aa<|Ji f a<|Aa<|Rb f a 8;show Aa<|Du<|Ak #[_,7,"dict_keyiterator",_,#[_,Ax _ rfl,7],Gv.lookup,8];simpa [Ie] using H
def XF{ep:Nat}{Q:Value->Ai->Prop}(c:s.heap.IsValuesView v d)(J:gH s.heap d es ep)(H:Q (!⇑s)<|s<&>s.heap.push {cls:=.type "dict_valueiterator",data:=.fields [!d,.int 0 0,.int es.size 0,.int ep 0].toArray}):Bm (Cp prog w) A (Qq !v) Q E s:=by
 let K:=c.typeIs;let#[p,b,g,e]:=id c;let#[o,f,hc,a]:=J;show Tt K PySem.F.slot_dict_values_iter<|Co PySem.F.slot_dict_values_iter K PySem.F.entry_dict_values_iter 8<|PySem.F.args_dict_values_iter_1 _;unfold Hs.«dict_values.__iter__»;show Aa<|Ak<|Aa 8;unfold Builtin.Dict_items.dictOf;show Aa<|Dh b e (x:=!d) rfl<|Ak<|Aa 8;unfold Builtin.Dict_items.newIterator;show Aa<|Ji f a<|Aa<|Rb f a 8;simp only[show Ho "dict_valueiterator" = ac by decide,Fv,if_false];show Du<|Ak #[_,7,"dict_valueiterator",_,#[_,Ax _ rfl,7],Gh.lookup,8];simpa [Ie] using H
theorem FO{ep:Nat}(lo:(d==Gg)=ac):KdlSrc prog w "dict" d d es.size (λi v=>∃e,es[i]? = aa e/\v=e.key) (λh=>gH h d es ep) where
 type:=λ_ J=>J.typeIs
 there:=λ_ J=>#[J.lt,J.lt]
 keep:=λ_ _ J hk=>J.at λo e=>hk d (.inl rfl) o e
 notList:=by decide
 notTuple:=by decide
 hint:=λ_ _ _ _ J N=>kdl_hint_dict J.typeIs N
 iter:=λ_ _ hh J=>#[_,_,(λ_ _ N=>uR lo J N),XD hh _ d (Bw J.lt) es ep,#[#[_,Ax _ rfl,7,7],let #[o,ho,_,hd]:=J;#[o,Af _ ho,hd]]]
theorem XG{ep:Nat}:KdlSrc prog w "dict_values" r d es.size (λi v=>∃e,es[i]? = aa e/\v=e.val) (λh=>h.IsValuesView r d/\gH h d es ep) where
 type:=λ_ J=>J.1.typeIs
 there:=λ_ J=>#[let #[_,ho,_]:=J.1;Ba ho,J.2.lt]
 keep:=λ_ _ J hk=>#[let #[o,ho,x]:=J.1;#[o,hk r (.inl rfl) o ho,x],J.2.at λo e=>hk d (.inr rfl) o e]
 notList:=by decide
 notTuple:=by decide
 hint:=λ_ _ _ _ J N=>kdl_hint_values J.1.typeIs N
 iter:=λ_ _ hh J=>#[_,_,(λ_ _ N=>XF J.1 J.2 N),XE hh _ d (Bw J.2.lt) es ep,#[#[_,Ax _ rfl,7,7],let #[o,ho,_,hd]:=J.2;#[o,Af _ ho,hd]]]
end
end
end L2
namespace PySem
namespace Rv
open L2
def XH:TypeCalled "reversed" "reversed.__new__" "object.__init__":=
 #[5,5,#[_,_,F.mro_reversed],madeBy_type F.mro_reversed F.lookup_reversed_new<|5,5,F.sub_reversed_self,
  .of (owner:="object") (n:="__init__") (by rw[Gj,Eh];kernel_rfl) 5 5 5 (by first|exact .inl 5|exact .inr 5)<|by rw[Nb];kernel_rfl]
def XI:Ky (.type "tuple") "__reversed__" = pure ae:=by rw[Gj,Eh];kernel_rfl
def rvObj(t:Ao)(i:Int):Nh:={cls:=.type "reversed",data:=.fields [!t,Ie i].toArray}
def XJ(t:Ao)(items:Array Value):
  Meets (Hs.«reversed.__new__» #[[.type "reversed",!t],[]]) (λ_ R s=>s.heap.IsTuple t items/\items.size<=Aw/\
   ∀p,R (.ok<|.ret !⇑s) {s with toks:=p,heap:=s.heap.push (rvObj t<|(items.size:Int)-1)}):=
 .of_wp λprog w A R s h=>by
  let#[B,g,d,tk,os]:=s;let#[ht,hz,h]:=h;let q:=Heap.IsTuple.typeIs (s:=#[B,g,d,tk,os]) ht;unfold Hs.«reversed.__new__»;show Aa (Ij (newClass_reversed _) (by
   dsimp only;show Aa<|Ij (a:=()) rfl<|Aa<|Ij (a:=()) (by first|rfl|kernel_rfl) 8
   try dsimp only
   show Aa (Gi q XI<|Aa 8)
   wp_delta
   show Aa<|Fp (T:="tuple") (b:=ac) q (by rw[Nb];kernel_rfl) 8
   try dsimp only
   rw[Xs ∅];show Aa<|Gi q F.slot_tuple_getitem.lookup 8;generalize c:("tuple.__getitem__" : String)=id0;dsimp only;rw[Xu<|by subst c;decide +kernel];show Ak 8;rw[Xs ∅];show Aa<|Xn (s:=#[B,g,d,tk,os]) (t:=t) (items:=items) ht (by have:=jC;lia)<|Aa<|Ij (a:=aa (items.size:Int)) rfl<|Aa (m:=Builtin.SmallTypes.newRecord _ _) 8;unfold Builtin.SmallTypes.newRecord;dsimp only;show Du (Ak #[_,7,h _]) (by first|size_fits|decide)))
section
variable {prog:Bc}{w:Bq}{A:Cw}{E:Value->Ai->Prop}{s:Ai}
def call_rev{Q:Value->Ai->Prop}(ht:s.heap.IsTuple t items)(hz:items.size<=Aw)(h:∀p,Q (!⇑s) {s with toks:=p,heap:=s.heap.push (rvObj t<|(items.size:Int)-1)}):Bm (Cp prog w) A (call (.type "reversed") [!t]) Q E s:=
 Wn XH ∅ (F.typeCall_reversed_1 _) (F.newCall_reversed_1 _) (λobj=>Ro obj _) F.entry_reversed_new (XJ t items) #[ht,hz,λp=>#[#[_,Ax _ rfl,7],h p]]
def rR:Slot "reversed" "__next__" "reversed.__next__":=
 .of (owner:="reversed") (n:="__next__") (by rw[Gj,Eh];kernel_rfl) 5 5 5 (by first|exact .inl 5|exact .inr 5) (by rw[Nb];kernel_rfl)
def FP:Slot "reversed" "__iter__" "reversed.__iter__":=
 .of (owner:="reversed") (n:="__iter__") (by rw[Gj,Eh];kernel_rfl) 5 5 5 (by first|exact .inl 5|exact .inr 5) (by rw[Nb];kernel_rfl)
def FQ:Vk table "reversed.__next__" = aa Hs.«reversed.__next__»:=Ui (by kernel_rfl)
def XM:Vk table "reversed.__iter__" = aa Hs.«dict_keyiterator.__iter__»:=
 entryFor_alias (id':="dict_keyiterator.__iter__") (by kernel_rfl) (by first|rfl|decide +kernel) 5 (by kernel_rfl)
def y9:Manifest.owners.lookup (String.ofList ['d','e','s','r','e','v','e','r'].reverse)=-Manifest.sig_reversed:=by kernel_rfl
def FR(a:Value):Wo "reversed.__next__" #[[a],[]]:=by
 unfold Wo;rw[Vt (id:="reversed.__next__") (n:=['_','_','t','x','e','n','_','_']) (o:=['d','e','s','r','e','v','e','r']) (by kernel_rfl) y9]
 kernel_rfl
def XN(a:Value):Wo "reversed.__iter__" #[[a],[]]:=by
 unfold Wo;rw[Vt (id:="reversed.__iter__") (n:=['_','_','r','e','t','i','_','_']) (o:=['d','e','s','r','e','v','e','r']) (by kernel_rfl) y9]
 kernel_rfl
abbrev IsRv(h:Cz)(a t:Ao)(i:Int):Prop:=h.get? a=aa {cls:=.type "reversed",dict:=ae,data:=.fields [!t,Ie i].toArray,slots:=#[]}
def jH{i:Int}(x:IsRv s.heap a t i):s.TypeIs (!a) "reversed":=#[_,x,7]
def next_item{a t:Ao}{i:Nat}{items:Array Value}{x:Value}{Q:Option Value->Ai->Prop}(G:IsRv s.heap a t i)(ht:s.heap.IsTuple t items)(S:items[i]? = aa x)(hi:(i:Int)<2 ^ 63)(H:∀h' tk,IsRv h' a t ((i:Int)-1)->Fd a s.heap h'->Q (-x) {s with heap:=h',toks:=tk}):Bm (Cp prog w) A (Ia !a) Q E s:=by
 unfold Ia;show Aa<|Hq<|Dj (name:=Bz "__next__") (jH G) rR<|Co rR (jH G) FQ 8<|FR _;unfold Hs.«reversed.__next__»;show Aa<|Ij (a:=(Value.ref a,[])) rfl 8;dsimp only;show Aa<|Dh G rfl (x:=!t) rfl<|Aa<|Dh G rfl (x:=Ie (i:Int)) rfl 8;change Bm _ _ (if (i:Int)<0 then _ else _) _ _ _;rw[Xs 9];show Aa<|Gi ht.typeIs F.slot_tuple_getitem.lookup 8;rw[Xs ∅];let R:i<items.size:=(Kl.mp S).1;let b:gQ items.size (i:Int)=-i:=by ext gQ;rw[Xu 9,Xu 9,Cq]
 show Aa<|wpAny_mkInt<|Aa<|Hq<|getItem_tuple (j:=i) (x:=x) ht 9 hi (yO b).1 S 8;dsimp only;show Aa<|Dh (s:={s with toks:=s.toks+1}) G rfl (x:=Ie (i:Int)) rfl 8;show Aa<|Hc (s:={s with toks:=s.toks+1}) G 6 λL O sb=>Ak #[x,7,Ak<|H L _ O sb]
def next_end{a t:Ao}{Q:Option Value->Ai->Prop}(hh:A.handled=ae)(G:IsRv s.heap a t<|-1)(H:∀h',Qk a s.heap h'->Q ae (s<&>h')):Bm (Cp prog w) A (Ia !a) Q E s:=by
 unfold Ia;show Aa<|Hq<|Dj (name:=Bz "__next__") (jH G) rR<|Co rR (jH G) FQ 8<|FR _;unfold Hs.«reversed.__next__»;show Aa<|Ij (a:=(Value.ref a,[])) rfl 8;dsimp only;show Aa<|Dh G rfl (x:=!t) rfl<|Aa<|Dh G rfl (x:=Ie<|-1) rfl 8;change Bm _ _ (if (-1:Int)<0 then _ else _) _ _ _;rw[Xu ∅];show Aa (Iq<|Aa 8)
 wp_delta
 show Aa<|Hc G 6 λL F d=>Hc F 6 λY R i=>Aa 8;unfold Ki;show Aa (m:=Wi (.type "StopIteration") []) 8;simp only[Wi,newTuple];show Aa (Du (Aa (m:=Nc _ _)<|Ij (a:=Value.none) (by first|rfl|(simp only[Nc];rfl))<|Du 8<|by size_fits)<|by size_fits);simp only[raiseNew];show Aa<|Vr 8;rw[show A.in1.handled=ae from hh];show Aa<|Ak<|Wx<|Aa 8;show Fp (T:="StopIteration") (b:=ab) #[_,Ax _ rfl,7] Rw<|Ak<|H _ λc o hc e=>8;show Af _<|Af _<|i.extBut _ _ hc<|d.extBut _ _ hc e
def iter_self{i:Int}{Q:Value->Ai->Prop}(G:IsRv s.heap a t i)(h:Q (!a) s):Bm (Cp prog w) A (Qq !a) Q E s:=by
 show Tt (jH G) FP<|Co FP (jH G) XM 8<|XN _;change Bm _ _ (ret !a) _ _ s;show Ak #[_,7,"reversed",_,jH G,rR.lookup,h]
end
theorem XO(hh:A.handled=ae)(I t:Ao)(j:t≠I)(items:Array Value)(hz:items.size<=Aw):
  Walks prog w A I [I,t] [I] items.size (λi v=>items[items.size-1-i]? = aa v) (λi h=>i<=items.size/\IsRv h I t ((items.size:Int)-1-(i:Int))/\h.IsTuple t items) where
 sub:=λb Z=>by simp at Z;simp[Z]
 frame:=λi h h' x hk=>#[x.1,hk I 6 _ x.2.1,by let#[o,e,r]:=x.2.2;show#[o,hk t 6 o e,r]]
 item:=λi s Q E hi x H=>by
  let#[x1,x2,x3]:=x;let S:items[items.size-1-i]? = aa (items[items.size-1-i]'9):=Ol 9;rw[show(items.size:Int)-1-(i:Int)=((items.size-1-i:Nat):Int) by lia]at x2;show next_item x2 x3 S (by have:=jC;lia) λh' tk r sb=>H _ h' tk S #[hi,8,8] λb o Z n=>sb.extBut b o (λh=>Z<|by simp[h]) n
  .rw[show(items.size:Int)-1-((i+1:Nat):Int)=((items.size-1-i:Nat):Int)-1 by lia];show r
  .let#[o,e,q]:=x3;show#[o,(sb.2 t j).trans e,q]
 done:=λs Q E x H=>by
  let x2:=x.2.1;rw[show(items.size:Int)-1-(items.size:Int) = -1 by lia]at x2;show next_end hh x2 λh' P=>H h' s.toks λb o Z n=>P b o (λh=>Z<|by simp[h]) n
 self:=λ_ _ _ _ x H=>iter_self x.2.1 H
end Rv
end PySem
namespace PySem
namespace Rv
open L2
section
variable {prog:Bc}{w:Bq}{A:Cw}{E:Value->Ai->Prop}{s:Ai}
def XQ:Ky (.type "reversed") "__len__" = pure ae:=by rw[Gj,Eh];kernel_rfl
def XR:Ky (.type "reversed") "__length_hint__" = pure (-.builtin "reversed.__length_hint__"):=by rw[Gj,Eh];kernel_rfl
def FT:Slot "reversed" "__length_hint__" "reversed.__length_hint__":=
 .of (owner:="reversed") (n:="__length_hint__") (by rw[Gj,Eh];kernel_rfl) 5 5 5 (by first|exact .inl 5|exact .inr 5) (by rw[Nb];kernel_rfl)
def XS:Vk table "reversed.__length_hint__" = aa Hs.«reversed.__length_hint__»:=Ui (by kernel_rfl)
def XT(a:Value):Wo "reversed.__length_hint__" #[[a],[]]:=by
 unfold Wo;rw[Vt (id:="reversed.__length_hint__") (n:=['_','_','t','n','i','h','_','h','t','g','n','e','l','_','_']) (o:=['d','e','s','r','e','v','e','r']) (by kernel_rfl) y9]
 kernel_rfl
def XU{r t:Ao}{items:Array Value}{Q:Value->Ai->Prop}(G:IsRv s.heap r t<|(items.size:Int)-1)(ht:s.heap.IsTuple t items)(hz:items.size<=Aw)(h:∀tk p,Q (.int items.size tk) {s with toks:=p}):Bm (Cp prog w) A (call (.builtin "reversed.__length_hint__") [!r]) Q E s:=by
 show Co FT (jH G) XS 8<|XT _;unfold Hs.«reversed.__length_hint__»;let d:=jC;show Aa<|Ij (a:=Value.ref r) rfl<|Aa<|Dh G rfl (x:=!t) rfl 8;rw[Xs (show ¬((Value.ref t==Value.none)=ab) from Bb)];show Aa<|Xn (t:=t) (items:=items) ht 9 (Aa<|Ij (a:=aa (items.size:Int)) rfl 8)
 try dsimp only
 show Aa<|Dh (s:={s with toks:=s.toks+1+1}) G rfl (x:=Ie<|(items.size:Int)-1) rfl 8;change Bm _ _ (if (items.size:Int)<(items.size:Int)-1+1 then _ else _) _ _ _;rw[Xs 9,show(items.size:Int)-1+1=items.size by lia];show Aa<|wpAny_mkInt<|Ak #[_,7,h _ _]
def hint{r t:Ao}{items:Array Value}{Q:Bool->Ai->Prop}(G:IsRv s.heap r t<|(items.size:Int)-1)(ht:s.heap.IsTuple t items)(hz:items.size<=Aw)(h:∀b tk,Q b {s with toks:=tk}):Bm (Cp prog w) A (Hy !r) Q E s:=by
 unfold Hy;show Aa<|Gi (jH G) XQ 8
 try dsimp only
 rw[Xs ∅];rw[Xs ∅];show Aa<|Gi (jH G) XR 8;generalize c:("reversed.__length_hint__" : String)=id0
 try dsimp only
 rw[show splitId id0=aa ("reversed","__length_hint__") from by subst c;decide +kernel];subst c;show Aa<|Fp (T:="reversed") (b:=ab) (jH G) F.sub_reversed_self 8
 try dsimp only
 rw[Xs ∅];rw[Xs<|5];show Aa<|Iq<|Aa<|Ij (FT.bind _) 8
 try dsimp only
 show Aa<|Hq<|XU G ht hz λtk p=>8;let P:asInt? (Value.int (items.size:Int) tk)=pure (aa (items.size:Int)):=rfl;change Bm _ _ (asInt? (Value.int (items.size:Int) tk)>>=_) _ _ _;rw[P,pure_bind]
 try dsimp only
 let d:=jC;let a:Ju (items.size:Int)=ab:=by
  unfold Ju;rw[Dg];show#[Xw 9,Xw 9]
 rw[Xs (show ¬((!(Builtin.List.listFitsIndex (items.size:Int)))=ab) by rw[a];show Bb),Xs (show ¬((items.size:Int)<0) by lia),Xs<|by rw[Cq];show λz=>absurd z<|by rw[yR hz];decide];show Ak<|h _ _
end
end Rv
end PySem
namespace PySem
namespace Rv
open L2
structure rT(prog:Bc)(w:Bq)(A:Cw)(r:Ao)(L:↑Ao)(T:String)(n:Nat)(V:Nat->Value->Prop)(St:Nat->Cz->Prop):Prop where
 walk:Walks prog w A r L [r] n V St
 ty:∀(t:Ai),St 0 t.heap->t.TypeIs (!r) T
 kind:(Value.type T==.type "list"||Value.type T==.type "tuple")=ac
 hint:∀{t:Ai} {Q:Bool->Ai->Prop} {E:Value->Ai->Prop},St 0 t.heap->(∀b tk,Q b {t with toks:=tk})->Bm (Cp prog w) A (Hy !r) Q E t
section
variable {prog:Bc}{w:Bq}{A:Cw}{E:Value->Ai->Prop}{s:Ai}{r:Ao}{L:↑Ao}{T:String}{n:Nat}{V:Nat->Value->Prop}{St:Nat->Cz->Prop}
def XW{R:Wr->Ai->Prop}{S:Ao}{d:Nat}(X:rT prog w A.in1 r L T n V St)(hz:n<=Aw)(l:S≠r)(j:S∉L)(st:St 0 s.heap)(y:s.heap.get? S=aa {cls:=.type "list",data:=.seq #[] d})(g:∀h' tk D P,(∀b o,b≠S->b≠r->s.heap.get? b=-o->h'.get? b=-o)->h'.get? S=aa {cls:=.type "list",dict:=ae,data:=.seq D P,slots:=#[]}->Qw V D n->R (.ok<|.ret .none) {s with heap:=h',toks:=tk}):
  Bm (Cp prog w) A.in1 (Jr (!S) (!r) .none)
   (λfin M=>match fin with|.done f=>R (.ok f) M|.again P=>P.quiet=ab/\Ny (Cp prog w) A P R M) (λe M=>R (.error e) M) s:=by
 let a:∀(h:Cz) (c tk:Nat),(∀b o,b≠S->s.heap.get? b=-o->h.get? b=-o)->h.get? S=aa {cls:=.type "list",data:=.seq #[] c}->
   Ny (Cp prog w) A (.builtin "list.extend.loop" #[[!S,!r,.none],[]]) R {s with heap:=h,toks:=tk}:=λh c tk hk O=>by
  show codeAny_extend_loopS X.walk.toS hz S j .none n 0 _ #[] c rfl (Cu _) (X.walk.frame _ _ _ st λb Z o e=>hk b o (λz=>j<|z▸Z) e) O (ItemsOf.nil _) λM D P J k N=>8;rw[Moved.eq_with J];show g M.heap M.toks D P (λb o Z p e=>J.heap b o (by simp[Z,p])<|hk b o Z e) k N
 unfold Jr;show Aa<|Qo (X.ty _ st) 8;rw[show Builtin.List.listSameRef (!S) (!r)=ac from beq_eq_false_iff_ne.mpr l,Nl,Xs<|by rw[X.kind];show Bb];show Aa<|X.walk.self 0 _ _ _ st<|Aa<|Eg<|X.hint st λb tk=>8;show wpAny_ite_split (λ_=>8) λ_=>Ak #[Pp PySem.F.plain_extend_loop _,a _ d _ (λb o _ e=>e) y];show Aa<|Iq<|Aa (m:=Builtin.List.listTouch _) 8;change Bm _ _ (Xl S (·.push .none)>>=λ_=>Xl S (·.pop)) _ _ _;let E:=Fo (Ng (·.push Value.none)) y rfl;let i:=Fo (Ng (·.pop)) E rfl;show Aa<|Uu (s:={s with toks:=tk}) y rfl<|Uu (hz:=by seq_fits) E rfl<|Ak #[Pp PySem.F.plain_extend_loop _,a _ _ _ (λb o Z e=>(Hj _ _<|Cs Z).trans<|(Hj _ _<|Cs Z).trans e) i]
def XX{Q:Value->Ai->Prop}(X:rT prog w A.in1.in1 r L T n V St)(hz:n<=Aw)(st:St 0 s.heap)(c:@LT.lt Nat _ r ⇑s)(C:∀b∈L,@LT.lt Nat _ b ⇑s)(H:∀h' tk D P,(∀b o,b≠r->s.heap.get? b=-o->h'.get? b=-o)->h'.get? ⇑s=aa {cls:=.type "list",dict:=ae,data:=.seq D P,slots:=#[]}->Qw V D n->Q (!⇑s) {s with heap:=h',toks:=tk}):
  Bm (Cp prog w) A (call (.type "list") [!r]) Q E s:=by
 show callType_codes (Q₁:=λobj j=>obj=!⇑s/\j = (s<&>s.heap.push {cls:=.type "list",data:=.seq #[]})) PySem.F.called_list (PySem.F.typeCall_list_1 _) PySem.F.entry_list_init (code_list_new _ #[7,7]) 8;rintro obj j ⟨rfl,rfl⟩;let m:(s.heap.push {cls:=.type "list",data:=.seq #[]}).get? ⇑s=aa {cls:=.type "list",data:=.seq #[]}:=Ax _ rfl;let a:∀b o,s.heap.get? b=-o->((s.heap.push {cls:=.type "list",data:=.seq #[]}).update ⇑s<|Ng λ_=>(#[]:Array Value)).get? b=-o:=λb o e=>(Hj _ _<|Dr<|Ba e).trans<|Af _ e;show#[#[_,m,7],PySem.F.args_list_init_2 _ _,8];change Bm _ _ (Builtin.List.listItems (!⇑s)>>=λold=>Builtin.List.listUpdate (!⇑s) (λ_=>#[])>>=λ_=>letGo old.toList.reverse>>=λ_=>Jr (!⇑s) (!r) .none) _ _ _;show Aa<|wpAny_listItems m rfl<|Aa 8;change Bm _ _ (Xl ⇑s λ_=>#[]) _ _ _;show Uu m rfl<|Aa<|Uo<|XW (A:=A.in1) X hz (Dr c) (λz=>Jg _<|C _ z) (X.walk.frame _ _ _ st λb _ o e=>a b o e) (Fo _ m rfl) λh' tk D P hk k N=>#[7,H h' tk D P (λb o Z e=>hk b o (Bw<|Ba e) Z<|a b o e) k N]
end
def BkV(items:Array Value)(i:Nat)(v:Value):Prop:=items[items.size-1-i]? = aa v
section
variable {prog:Bc}{w:Bq}{A:Cw}{E:Value->Ai->Prop}{s:Ai}{t:Ao}{items:Array Value}
theorem XY(hh:A.handled=ae)(a:t≠r)(hz:items.size<=Aw):rT prog w A r [r,t] "reversed" items.size (BkV items) (λi h=>i<=items.size/\IsRv h r t ((items.size:Int)-1-(i:Int))/\h.IsTuple t items) where
 walk:=XO hh r t a items hz
 ty:=λ_ st=>jH st.2.1
 kind:=by decide
 hint:=λst h=>hint (by have:=st.2.1;rwa [Ti,Vo]at this) st.2.2 hz h
def XZ:Ky (.type "list_reverseiterator") "__len__" = pure ae:=by rw[Gj,Eh];kernel_rfl
def X0:Ky (.type "list_reverseiterator") "__length_hint__" = pure (-.builtin "list_reverseiterator.__length_hint__"):=by rw[Gj,Eh];kernel_rfl
def X1{r l:Ao}{i:Int}{Q:Bool->Ai->Prop}(G:s.heap.IsRevIter r l i)(h:Q ac s):Bm (Cp prog w) A (Hy !r) Q E s:=by
 unfold Hy;show Aa<|Gi G.typeIs XZ 8
 try dsimp only
 rw[Xs ∅];rw[Xs ∅];show Aa<|Gi G.typeIs X0 8;generalize c:("list_reverseiterator.__length_hint__" : String)=id0
 try dsimp only
 rw[show splitId id0=aa ("list_reverseiterator","__length_hint__") from by subst c;decide +kernel];subst c;show Aa<|Fp (T:="list_reverseiterator") (b:=ab) G.typeIs (by rw[Nb];kernel_rfl) 8
 try dsimp only
 rw[Xs ∅];rw[Xu<|5];rw[Xs ∅];show Ak h
theorem X2(hh:A.handled=ae)(a:t≠r):rT prog w A r [r,t] "list_reverseiterator" items.size (BkV items) (λi h=>i<=items.size/\h.IsRevIter r t ((items.size:Int)-1-(i:Int))/\h.IsList t items) where
 walk:=Walks.listRev hh r t a items
 ty:=λ_ st=>st.2.1.typeIs
 kind:=by decide
 hint:=λst h=>X1 st.2.1<|h _ _
def X3{n:Nat}(lt:t<n):∀b∈[n,t],b<n+1:=by
 rw[Qh,List.forall_mem_singleton];show#[Eb _,Je lt]
def call_listrev{Q:Value->Ai->Prop}(hh:A.handled=ae)(ht:s.heap.IsTuple t items\/s.heap.IsList t items)(hz:items.size<=Aw)(H:∀h' tk D P,(∀b o,s.heap.get? b=-o->h'.get? b=-o)->h'.get? (⇑s+1)=aa {cls:=.type "list",dict:=ae,data:=.seq D P,slots:=#[]}->Qw (BkV items) D items.size->Q (.ref<|⇑s+1) {s with heap:=h',toks:=tk}):
  Bm (Cp prog w) A (call (.type "reversed") [!t]) (λv s1=>Bm (Cp prog w) A (call (.type "list") [v]) Q E s1) E s:=by
 let fin:∀{T:String} {o:Nh} {tk:Nat} {St:Nat->Cz->Prop},rT prog w A.in1.in1 ⇑s [⇑s,t] T items.size (BkV items) St->@LT.lt Nat _ t ⇑s->St 0 (s.heap.push o)->Bm (Cp prog w) A (call (.type "list") [!⇑s]) Q E {s with heap:=s.heap.push o,toks:=tk}:=λ{T o tk St} X lt st=>by
  let B:(s.heap.push o).objs.size=⇑s+1:=Ew ..;show XX X hz st (B▸Eb _) (B▸X3 lt) λh' tk D P hk y N=>8;change Q (.ref (s.heap.push o).objs.size) _;rw[B];show H h' tk D P (λb o e=>hk b o (Bw<|Ba e)<|Af _ e) (B▸y) N
 rcases ht with ht|ht
 .let lt:@LT.lt Nat _ t ⇑s:=by let#[o,e,_]:=ht;show Ba e
  show call_rev ht hz λp=>fin (XY hh (Bw lt) hz) lt #[Cu _,by rw[Ti,Vo];show Ax _ rfl,8];let#[o,e,r]:=ht;show#[o,Af _ e,r]
 .let lt:@LT.lt Nat _ t ⇑s:=by let#[o,e,_]:=id ht;show Ba e
  show call_reversed_list ht<|fin (X2 hh<|Bw lt) lt #[Cu _,#[_,Ax _ rfl,7,by rw[Ti,Vo];rfl],ht.at λo e=>Af _ e]
end
end Rv
end PySem
namespace L2
def X4{its:↑Value}{acc:Array Value}(h:Qw (Rv.BkV its.toArray) acc its.toArray.size):acc.toList=its.reverse:=List.ext_getElem? λj=>by
 let S:↥acc.toList=↥its:=h.1
 by_cases F:j<↥its
 .let e:=Bh (l:=acc.toList)<|S▸F;let z:its.toArray[its.toArray.size-1-j]? = aa _:=h.2 j _<|Ht.symm.trans e;rw[Gr]at z;show e.trans<|z.symm.trans (Mu F).symm
 .have:=Ni F;rw[Hu<|S▸this,Hu<|by rw[Ec];show this]
section
variable {X:Cx}{a:Ck}{ta:TA}{p p2 pos pos2:Ja}
def X5(K:Ac)(ta:TA):TE:=λG H Q=>ta G H λvs B=>∃t xs,vs=[!t]/\(bJ K B t xs\/bO K B t xs)/\∀q,B q=ae->Q (!q) (aK B q<|.lst xs.reverse)
def FU:Cy "reversed" = aa (.type "reversed"):=5
def X6:Cy "list" = aa (.type "list"):=5
def X7(hc:X.calm=ab)(hg:Gl X "list")(J:X.mg "list" = ae)(x:Gl X "reversed")(Y:X.mg "reversed" = ae)(S:PA X [a] ta)(f:Cr [.Call (.Name "reversed" p2) [a] [] pos2] X.env=[(ac,Ff (.Call (.Name "reversed" p2) [a] [] pos2) X.env)]:=by rfl)(L:Cr [a] X.env=[(ac,Ff a X.env)]:=by rfl):
  PE X (.Call (.Name "list" p) [.Call (.Name "reversed" p2) [a] [] pos2] [] pos) (X5 X.K ta):=by
 intro C s G H Q I h;show Ek<|gO I hg J X6<|Ce 8 f rfl;rw[f];show Lj<|Ek<|gO I x Y FU<|Ce (aY (S pos2 C s G H _ I h) λus s1 V=>8) L rfl;show Ir 8 (λv n c=>Lz c) λ_ _ e=>e;let#[vs,B,g,F,t,xs,rfl,N,q]:=V;let#[u,rfl,ru]:=vals1 F;ext ru;let hi:∃its,a6 xs its/\↥xs<=Aw/\(s1.heap.IsTuple t its.toArray\/s1.heap.IsList t its.toArray):=N.elim (λh=>let #[its,m,pl,hz]:=g.tuple h;#[its,m,hz,.inl pl]) λh=>let #[its,m,pl,hz]:=g.list h;#[its,m,hz,.inr pl.isList];let#[its,m,hz,hi]:=hi;show Rv.call_listrev (g.ok.hd hc) hi (by rw[Bg,<-↥m];show hz) λh' tk D P hk y k=>8;let Z:⇑s1<=⇑s1+1:=Fw _;show#[.ref<|⇑s1+1,_,g.laid (o:=.lst xs.reverse) (t':=tk) hk Z #[by rw[Ec];show hz,D.toList,P,X4 k▸m.reverse,y],7,q _<|g.hok.fresh Z]
end
end L2
namespace PySem
namespace Zt
open L2
section
variable {prog:Bc}{w:Bq}{A:Cw}{E:Value->Ai->Prop}{s:Ai}
def X8{O:Type}{Q:O->Ai->Prop}(hh:A.handled=ae)(hE:∀h' e,(∀c o,s.heap.get? c=-o->h'.get? c=-o)->(∃o,h'.get? e=-o/\o.cls=.type "StopIteration")->E (!e) (s<&>h')):
  Bm (Cp prog w) A (Ki:Uw O) Q E s:=by
 unfold Ki;show Aa (m:=Wi (.type "StopIteration") []) 8;simp only[Wi,newTuple];show Aa (Du (Aa (m:=Nc _ _)<|Ij (a:=Value.none) (by first|rfl|(simp only[Nc];rfl))<|Du 8<|by size_fits)<|by size_fits);simp only[raiseNew];show Aa<|Vr 8;rw[hh];show Aa<|Ak<|Wx<|hE _ _ (λc o e=>Af _<|Af _ e) #[_,Ax _ rfl,7]
structure fZ(prog:Bc)(w:Bq)(i l:Ao)(xs:Array Value)(St:Nat->Cz->Prop):Prop where
 keep:∀k h h',St k h->(∀c,c=i\/c=l->∀o,h.get? c=-o->h'.get? c=-o)->St k h'
 there:∀k h,St k h->i<h.objs.size
 item:∀(A:Cw) (E:Value->Ai->Prop) (s:Ai) (k:Nat) (x:Value) (Q:Value->Ai->Prop),St k s.heap->xs[k]? = aa x->(∀h',St (k+1) h'->Fd i s.heap h'->Q x (s<&>h'))->
  Bm (Cp prog w) A (Ee !i) Q E s
 stop:∀(A:Cw) (E:Value->Ai->Prop) (s:Ai) (k:Nat) (Q:Value->Ai->Prop),A.handled=ae->St k s.heap->xs[k]? = ae->
  (∀h' e,Qk i s.heap h'->(∃o,h'.get? e=-o/\o.cls=.type "StopIteration")->E (!e) (s<&>h'))->Bm (Cp prog w) A (Ee !i) Q E s
theorem FV(i l:Ao)(j:l≠i)(xs:Array Value):fZ prog w i l xs (λk h=>h.IsListIter i l k/\h.IsList l xs) where
 keep:=λk h h' x hk=>#[x.1.at λo e=>hk i (.inl rfl) o e,x.2.at λo e=>hk l (.inr rfl) o e]
 there:=λk h x=>by let#[_,e,_]:=x.1;show Ba e
 item:=λA E s k x Q st S H=>wpAny_nextOf_list_item st.1 st.2 S λh' a b=>H h' #[a,st.2.at λo e=>(b.2 l j).trans e] b
 stop:=λA E s k Q hh st S T=>wpAny_nextOf_list_end hh st.1 st.2 S λh' e a b=>T h' e a b
theorem side_tuple(i l:Ao)(hne:l≠i)(xs:Array Value):fZ prog w i l xs (λk h=>h.IsTupleIter i l k/\h.IsTuple l xs) where
 keep:=λk h h' x hk=>by
  obtain⟨⟨o,e,r⟩,⟨u,g,q⟩⟩:=x;show#[#[o,hk i (.inl rfl) o e,r],#[u,hk l (.inr rfl) u g,q]]
 there:=λk h x=>by let#[_,e,_]:=x.1;show Ba e
 item:=λA E s k x Q st hx hQ=>by
  obtain⟨⟨o,ho,hc,hd⟩,⟨u,hu,hcu,n,hdu⟩⟩:=st;let ty:s.TypeIs (!i) "tuple_iterator":=#[o,ho,hc];unfold Ee;show Aa<|Dj (name:=Bz "__next__") ty Kw<|Co Kw ty F.entry_tuple_iterator_next 8<|F.args_tuple_iterator_next_1 _;change Bm _ _ (Su (!i) 0>>=λq=>_) _ _ _;show Aa<|Dh ho hd (x:=!l) rfl 8;change Bm _ _ (if (Value.ref l==Value.none)=ab then _ else _) _ _ s;rw[Xs (show ¬((Value.ref l==Value.none)=ab) from λz=>nomatch z)];change Bm _ _ (Su (!i) 1>>=λq=>_) _ _ _;show Aa<|Dh ho hd (x:=.int k 0) rfl 8;change Bm _ _ (seqItems? (!l)>>=λq=>_) _ _ _;show Aa<|Gx hu hdu 8;simp only[Cq,hx];show Aa<|Oy ho hd 6<|Ak #[x,7,Ak<|hQ _ #[#[_,Fo _ ho<|Qf<|Jv hd _,(Sm ..).trans hc,8],#[u,8,hcu,n,hdu]]<|Gy ..]
  .rw[Jv hd];simp[Ie]
  .show(Hj _ _<|Cs hne).trans hu
 stop:=λA E s k Q hh st hx hE=>by
  obtain⟨⟨o,ho,hc,hd⟩,⟨u,hu,hcu,n,hdu⟩⟩:=st;let ty:s.TypeIs (!i) "tuple_iterator":=#[o,ho,hc];unfold Ee;show Aa<|Dj (name:=Bz "__next__") ty Kw<|Co Kw ty F.entry_tuple_iterator_next 8<|F.args_tuple_iterator_next_1 _;change Bm _ _ (Su (!i) 0>>=λq=>_) _ _ _;show Aa<|Dh ho hd (x:=!l) rfl 8;change Bm _ _ (if (Value.ref l==Value.none)=ab then _ else _) _ _ s;rw[Xs (show ¬((Value.ref l==Value.none)=ab) from λz=>nomatch z)];change Bm _ _ (Su (!i) 1>>=λq=>_) _ _ _;show Aa<|Dh ho hd (x:=.int k 0) rfl 8;change Bm _ _ (seqItems? (!l)>>=λq=>_) _ _ _;show Aa<|Gx hu hdu 8;simp only[Cq,hx];show Aa<|Iq<|Aa<|Oy ho hd 6<|X8 hh λh' e hk he=>hE h' e (λc q hc' g=>hk c q<|(Hj _ _<|Cs hc').trans g) he
structure Apart(z TI TO i1 i2 l1 l2:Ao):Prop where
 nd:(z≠TI/\z≠TO/\z≠i1/\z≠i2)/\(TI≠TO/\TI≠i1/\TI≠i2)/\(TO≠i1/\TO≠i2)/\i1≠i2
 a:l1≠z/\l1≠TI/\l1≠TO/\l1≠i1/\l1≠i2
 b:l2≠z/\l2≠TI/\l2≠TO/\l2≠i1/\l2≠i2
variable {z TI TO i1 i2 l1 l2:Ao}{xs ys:Array Value}{S1 S2:Nat->Cz->Prop}
def Apart.k1(D:Apart z TI TO i1 i2 l1 l2):∀c,c=i1\/c=l1->c≠z/\c≠TO/\c≠i2:=λc hc=>by
 obtain⟨⟨_,_,A,_⟩,_,⟨b,_⟩,d⟩:=D.nd;rcases hc with rfl|rfl
 .show#[Cs A,Cs b,d]
 .show#[D.a.1,D.a.2.2.1,D.a.2.2.2.2]
def Apart.k2(D:Apart z TI TO i1 i2 l1 l2):∀c,c=i2\/c=l2->c≠z/\c≠TO/\c≠i1:=λc hc=>by
 obtain⟨⟨_,_,_,f⟩,_,⟨_,a⟩,d⟩:=D.nd;rcases hc with rfl|rfl
 .show#[Cs f,Cs a,Cs d]
 .show#[D.b.1,D.b.2.2.1,D.b.2.2.2.1]
def item{k:Nat}{Q:Value->Ai->Prop}(D:Apart z TI TO i1 i2 l1 l2)(r:fZ prog w i1 l1 xs S1)(J:fZ prog w i2 l2 ys S2)(hz:Tb s.heap z TI TO .none)(h:Jp s.heap TI (!i1) !i2)(p:Jp s.heap TO a b)(L:S1 k s.heap)(Y:S2 k s.heap)(S:xs[k]? = aa x)(U:ys[k]? = aa y)(H:∀h',Tb h' z TI TO (Ie ⇑s)->Jp h' TO x y->S1 (k+1) h'->S2 (k+1) h'->Jp h' ⇑s x y->(∀c o,c≠z->c≠TO->c≠i1->c≠i2->s.heap.get? c=-o->h'.get? c=-o)->Q (!⇑s) (s<&>h')):
  Bm (Cp prog w) A (Hs.«zip.__next__» #[[!z],[]]) (λfin M=>∃v,fin=.done (.ret v)/\Q v M) E s:=by
 obtain⟨⟨zI,zO,G,u⟩,⟨IO,g,i⟩,⟨O1,O2⟩,n12⟩:=D.nd;let k1:=D.k1;let k2:=D.k2;change Bm _ _ (Su (!z) 2>>=λq=>_) _ _ _;show Aa<|Dh hz rfl (x:=.bool ac) rfl 8;change Bm _ _ (Su (!z) 3>>=λq=>_) _ _ _;show Aa<|Dh hz rfl (x:=!TI) rfl<|Aa<|Gx h rfl 8;change Bm _ _ (Dk (!z)>>=λq=>_) _ _ _;show Aa 8;unfold Dk;show Aa<|Dh hz rfl (x:=.none) rfl<|Ak 8;simp only[if_true];show Aa<|Iq<|Aa<|Dh hz rfl (x:=!TO) rfl<|Aa<|Hc hz 6 λN C s1=>Aa 8;simp only[Sw,List.zipIdx_nil,Li,Qi];show Aa<|Aa<|Vq 8;change Bm _ _ (Ee (!i1)>>=λq=>_) _ _ _;show Aa<|r.item _ _ (s<&>N) k x _ (r.keep k _ _ L λc hc o e=>s1.extBut c o (k1 c hc).1 e) S λT W n=>Ak 8;let V:Jp T TO a b:=n.extBut _ _ O1<|s1.extBut _ _ (Cs zO) p;show Aa<|Gx V rfl<|Aa<|wpAny_updateSeq_pair V λf P j=>Aa<|Uo<|Ak 8
 replace P:Jp f TO x b:=P
 show Aa<|Aa<|Vq 8;change Bm _ _ (Ee (!i2)>>=λq=>_) _ _ _;show Aa<|J.item _ _ (s<&>f) k y _ (J.keep k _ _ Y λc hc o e=>j.extBut c o (k2 c hc).2.1<|n.extBut c o (k2 c hc).2.2<|s1.extBut c o (k2 c hc).1 e) U λZ t4 B=>Ak 8;let X:Jp Z TO x b:=B.extBut _ _ O2 P;show Aa<|Gx X rfl<|Aa<|wpAny_updateSeq_pair X λd K s5=>Aa<|Uo<|Ak<|Ak 8
 replace K:Jp d TO x y:=K
 show Aa<|Gx K rfl<|Aa<|wpAny_newTuple 8;let size5:d.objs.size=⇑s:=by rw[s5.1,B.1,j.1,n.1,s1.1]
 let z5:Tb d z TI TO .ellipsis:=s5.extBut _ _ zO<|B.extBut _ _ u<|j.extBut _ _ zO<|n.extBut _ _ G C;let lz:z<d.objs.size:=Ba z5;show Aa (m:=Builtin.SmallTypes.ownedTupleHandOut _ _) 8;unfold Builtin.SmallTypes.ownedTupleHandOut;let z6:Tb (d.push {cls:=.type "tuple",data:=.seq [x,y].toArray}) z TI TO .ellipsis:=Af _ z5;show Aa<|Hc z6 6 λg7 z7 s7=>Hc z7 6 λg8 z8 s8=>Ak #[_,7,8];let up:∀c o,c≠z->d.get? c=-o->g8.get? c=-o:=λc o hc e=>s8.extBut _ _ hc<|s7.extBut _ _ hc<|Af _ e;let t8:Jp g8 d.objs.size x y:=s8.extBut _ _ (Dr lz)<|s7.extBut _ _ (Dr lz)<|Ax _ rfl;let F:S1 (k+1) g8:=r.keep _ _ _ W λc hc o e=>up c o (k1 c hc).1<|s5.extBut _ _ (k1 c hc).2.1<|B.extBut _ _ (k1 c hc).2.2<|j.extBut _ _ (k1 c hc).2.1 e;let R:S2 (k+1) g8:=J.keep _ _ _ t4 λc hc o e=>up c o (k2 c hc).1<|s5.extBut _ _ (k2 c hc).2.1 e;change Q (!d.objs.size) _
 replace z8:Tb g8 z TI TO (Ie d.objs.size):=z8
 rw[size5]at z8 t8⊢;show H g8 z8 (up _ _ (Cs zO) K) F R t8 λc o I O t l e=>up c o I<|s5.extBut _ _ O<|B.extBut _ _ l<|j.extBut _ _ O<|n.extBut _ _ t<|s1.extBut _ _ I e
def stop{k:Nat}{Q:Fin->Ai->Prop}(hh:A.handled=ae)(D:Apart z TI TO i1 i2 l1 l2)(r:fZ prog w i1 l1 xs S1)(hz:Tb s.heap z TI TO .none)(F:Jp s.heap TI (!i1) !i2)(L:S1 k s.heap)(a:xs[k]? = ae)(T:∀h' e,(∀c o,c≠z->c≠TO->c≠i1->c≠i2->s.heap.get? c=-o->h'.get? c=-o)->(∃o,h'.get? e=-o/\o.cls=.type "StopIteration")->E (!e) (s<&>h')):
  Bm (Cp prog w) A (Hs.«zip.__next__» #[[!z],[]]) Q E s:=by
 change Bm _ _ (Su (!z) 2>>=λq=>_) _ _ _;show Aa<|Dh hz rfl (x:=.bool ac) rfl 8;change Bm _ _ (Su (!z) 3>>=λq=>_) _ _ _;show Aa<|Dh hz rfl (x:=!TI) rfl<|Aa<|Gx F rfl 8;change Bm _ _ (Dk (!z)>>=λq=>_) _ _ _;show Aa 8;unfold Dk;show Aa<|Dh hz rfl (x:=.none) rfl<|Ak 8;simp only[if_true];show Aa<|Iq<|Aa<|Dh hz rfl (x:=!TO) rfl<|Aa<|Hc hz 6 λN C s1=>Aa 8;simp only[Sw,List.zipIdx_nil,Li,Qi];show Aa<|Aa<|Vq 8;change Bm _ _ (Ee (!i1)>>=λq=>_) _ _ _;show Aa<|r.stop _ _ (s<&>N) k _ hh (r.keep k _ _ L λc hc o e=>s1.extBut c o (D.k1 c hc).1 e) a λi e n #[d,ge,b]=>8;let O:Tb i z TI TO .ellipsis:=n _ _ D.nd.1.2.2.1 C;show Hc O 6 λf _ j=>T f e (λc o I _ t _ u=>j.extBut _ _ I<|n _ _ t<|s1.extBut _ _ I u) #[d,j.extBut _ _ (λu=>by subst u;rw[O]at ge;ext ge;simp at b) ge,b]
end
end Zt
end PySem
namespace PySem
namespace Zt
open L2
section
variable {prog:Bc}{w:Bq}{A:Cw}{E:Value->Ai->Prop}{s:Ai}{z TI TO i1 i2 l1 l2:Ao}{xs ys:Array Value}{S1 S2:Nat->Cz->Prop}
def next_item{k:Nat}{Q:Option Value->Ai->Prop}(D:Apart z TI TO i1 i2 l1 l2)(r:fZ prog w i1 l1 xs S1)(J:fZ prog w i2 l2 ys S2)(hz:Tb s.heap z TI TO .none)(F:Jp s.heap TI (!i1) !i2)(X:Jp s.heap TO a b)(L:S1 k s.heap)(Y:S2 k s.heap)(S:xs[k]? = aa x)(U:ys[k]? = aa y)(H:∀h',Tb h' z TI TO (Ie ⇑s)->Jp h' TO x y->S1 (k+1) h'->S2 (k+1) h'->Jp h' ⇑s x y->(∀c o,c≠z->c≠TO->c≠i1->c≠i2->s.heap.get? c=-o->h'.get? c=-o)->Q (aa !⇑s) (s<&>h')):
  Bm (Cp prog w) A (Ia !z) Q E s:=by
 let ty:s.TypeIs (!z) "zip":=#[_,hz,7];unfold Ia;show Aa<|Hq<|Dj (name:=Bz "__next__") ty Jf<|Co Jf ty Py (item D r J hz F X L Y S U λh' I O t l j q=>Ak<|H h' I O t l j q)<|Ph _
def next_stop{k:Nat}{Q:Option Value->Ai->Prop}(hh:A.handled=ae)(D:Apart z TI TO i1 i2 l1 l2)(r:fZ prog w i1 l1 xs S1)(hz:Tb s.heap z TI TO .none)(F:Jp s.heap TI (!i1) !i2)(L:S1 k s.heap)(a:xs[k]? = ae)(H:∀h',(∀c o,c≠z->c≠TO->c≠i1->c≠i2->s.heap.get? c=-o->h'.get? c=-o)->Q ae (s<&>h')):Bm (Cp prog w) A (Ia !z) Q E s:=by
 let ty:s.TypeIs (!z) "zip":=#[_,hz,7];unfold Ia;show Aa<|Hq<|Dj (name:=Bz "__next__") ty Jf<|Co Jf ty Py (stop hh D r hz F L a λh' e hk #[o,f,hc]=>8)<|Ph _;show Aa<|Fp (T:="StopIteration") (b:=ab) #[o,f,hc] Rw<|Ak<|H _ hk
end
noncomputable abbrev zh1(h:Cz)(a:Ao):Cz:=h.push {cls:=.type "tuple_iterator",data:=.fields [!a,.int 0 0].toArray}
noncomputable abbrev zh2(h:Cz)(a b:Ao):Cz:=(zh1 h a).push {cls:=.type "tuple_iterator",data:=.fields [!b,.int 0 0].toArray}
noncomputable abbrev zh3(h:Cz)(a b:Ao):Cz:=(zh2 h a b).push {cls:=.type "tuple",data:=.seq [!h.objs.size,.ref (zh1 h a).objs.size].toArray}
noncomputable abbrev zh4(h:Cz)(a b:Ao):Cz:=(zh3 h a b).push {cls:=.type "tuple",data:=.seq [.none,.none].toArray}
noncomputable abbrev zh5(h:Cz)(a b:Ao):Cz:=(zh4 h a b).push {cls:=.type "zip",data:=.fields [.none,.bool ac,.bool ac,.ref (zh2 h a b).objs.size,.ref (zh3 h a b).objs.size].toArray}
def meets_new(a b:Ao)(xs ys:Array Value):
  Meets (Hs.«zip.__new__» #[[.type "zip",!a,!b],[]]) (λ_ R s=>s.heap.IsTuple a xs/\s.heap.IsTuple b ys/\R (.ok<|.ret<|.ref (zh4 s.heap a b).objs.size) (s<&>zh5 s.heap a b)):=
 .of_wp λprog w A R s h=>by
  let#[B,g,d,tk,os]:=s;let#[ta,k,h]:=h;let f:=sub_zip;let i:Vf (Vd #[B,g,d,tk,os]) a xs:=ta;let c:Vf (Vd #[B.push {cls:=.type "tuple_iterator",data:=.fields [!a,.int 0 0].toArray},g,d,tk,os]) b ys:=by
   let#[o,e,r]:=(show B.IsTuple b ys from k);show#[o,Af _ e,r]
  wp_walk using Kb i,Kb c
  show#[_,7,h]
end Zt
end PySem
namespace L2
noncomputable def uS(K:Ac)(a b:Ao)(xs ys:↑V):It:=
 #[λi H=>bJ K H a xs/\bJ K H b ys/\i<↥xs/\↥xs=↥ys,
   λi H x L=>∃p u v,xs[i]? = aa u/\ys[i]? = aa v/\H p=ae/\x=!p/\L=aK H p (.tup [u,v]),
   λi H=>bJ K H a xs/\↥xs<=i]
def lN(h:q∉[a,b,c,d,e]):q≠a/\q≠b/\q≠c/\q≠d/\q≠e:=by simpa using h
def X9(h:q∈[a,b,c,d,e]):q=a\/q=b\/q=c\/q=d\/q=e:=by simpa using h
def zA{p:Ao->Prop}(L:p a)(Y:p b)(O:p c)(W:p d)(U:p e):∀q∈[a,b,c,d,e],p q:=λq N=>by
 rcases X9 N with rfl|rfl|rfl|rfl|rfl<;>assumption
def Zi(z TI TO i1 i2 a b:Ao)(i:Nat)(h:Cz):Prop:=Tb h z TI TO .none/\Jp h TI (!i1) (!i2)/\(∃c d,Jp h TO c d)/\h.IsTupleIter i1 a i/\h.IsTupleIter i2 b i
theorem YA{P:Bc}{w:Bq}{K:Ac}{es:↑Ck}{kx:Nat}{r:Ja}(a b z TI TO i1 i2:Ao)(xs ys:↑V)(D:Zt.Apart z TI TO i1 i2 a b):
  jB P w K (.Tuple es kx r) (uS K a b xs ys) [z,TI,TO,i1,i2] z (Zi z TI TO i1 i2 a b) where
 mem:=.head _
 obj:=λi h st=>by
  obtain⟨L,Y,⟨p,q,O⟩,⟨l,W,_,d4⟩,⟨t,U,_,d5⟩⟩:=st;show zA #[_,L,λv g=>nomatch g] #[_,Y,λv g=>nomatch g] #[_,O,λv g=>nomatch g] #[_,W,λv g=>by rw[d4]at g;ext g] #[_,U,λv g=>by rw[d5]at g;ext g]
 keep:=λi h h' st k=>by
  obtain⟨L,Y,⟨p,q,O⟩,⟨l,W,r4⟩,⟨t,U,r5⟩⟩:=st;show#[k z (.head _) _ L,k TI (.tail _<|.head _) _ Y,#[p,q,k TO (.tail _<|.tail _<|.head _) _ O],#[l,k i1 (.tail _<|.tail _<|.tail _<|.head _) _ W,r4],#[t,k i2 (.tail _<|.tail _<|.tail _<|.tail _<|.head _) _ U,r5]]
 item:=by
  intro X M hw R hc i C s G H E I hf st hg;subst M hw R;obtain⟨L,Y,⟨c,d,O⟩,W,U⟩:=st;let#[hqa,hqb,hi,hl]:=hg;let F:=hl▸hi;let#[its,m,pl,hz]:=I.tuple hqa;let#[j,rv2,pl2,hz2]:=I.tuple hqb;let#[u,Z,ru]:=m.get<|Bh hi;let#[v,T,rvv]:=rv2.get<|Bh F;show Zt.next_item D (Zt.side_tuple i1 a D.a.2.2.2.1 its.toArray) (Zt.side_tuple i2 b D.b.2.2.2.2 j.toArray) L Y O #[W,pl] #[U,pl2] (x:=u) (y:=v) (Gr.trans Z) (Gr.trans T) λh' B Q J c4 c5 hk=>8;obtain⟨⟨o3,J,r3⟩,_⟩:=J;obtain⟨⟨l,c4,r4⟩,_⟩:=c4;show#[_,7,wpAny_letOwnedTupleGo_zip B λS z' sb=>8];obtain⟨⟨zI,zO,A,f⟩,⟨IO,I1',I2'⟩,_⟩:=D.nd;let low:∀q∈[z,TI,TO,i1,i2],q<⇑s:=zA (Ba L) (Ba Y) (Ba O) (by let#[_,e,_]:=W;show Ba e) (by let#[_,e,_]:=U;show Ba e);let n:Inv X C G (aK H ⇑s<|.tup [xs[i],ys[i]]) {s with heap:=S,toks:=s.toks}:=I.laidT (its:=[u,v]) hf (λq o N e=>(sb.2 q (lN N).1).trans<|hk q o (lN N).1 (lN N).2.2.1 (lN N).2.2.2.1 (lN N).2.2.2.2 e) (by change 2<=Aw;decide) (.cons ru<|.cons rvv .nil)<|(sb.2 _<|Dr<|low z<|.head _).trans c5;show#[!⇑s,_,n,7,#[⇑s,xs[i],ys[i],Bh hi,Bh F,I.hok.fresh<|Aj _,7,7],#[z',(sb.2 _<|Cs zI).trans<|hk _ _ (Cs zI) IO I1' I2' Y,#[u,v,(sb.2 _<|Cs zO).trans Q],#[o3,(sb.2 _<|Cs A).trans J,r3],#[l,(sb.2 _<|Cs f).trans c4,r4]],λq N=>(bB<|Bw<|low q N).trans (hf q N).1]
 done:=by
  intro X M hw R hc i C s G H E I hf st hg;subst M hw R;let#[L,Y,_,W,U]:=st;let#[hqa,hi]:=hg;let#[its,m,pl,hz]:=I.tuple hqa;show Zt.next_stop (I.ok.hd hc) D (Zt.side_tuple i1 a D.a.2.2.2.1 its.toArray) L Y #[W,pl] (Gr.trans<|Hu<|↥m▸hi) λh' hk=>#[7,I.turnedT (tk:=s.toks) hf λq o N e=>hk q o (lN N).1 (lN N).2.2.1 (lN N).2.2.2.1 (lN N).2.2.2.2 e]
 self:=λ_ _ _ _ _ st h=>Ud st.1 h
def FX(n:Nat):(n+04≠n+2/\n+04≠n+3/\n+04≠n/\n+04≠n+1)/\(n+2≠n+3/\n+2≠n/\n+2≠n+1)/\(n+3≠n/\n+3≠n+1)/\n≠n+1:=9
def FY{n q:Nat}(h:q∈[n+04,n+2,n+3,n,n+1]):n<=q:=zA (p:=(n<=·)) (Fm ..) (Fm ..) (Fm ..) (Aj _) (Fw _) q h
section
variable {X:Cx}
def YB{R:It->Hp->Prop}{kx:Nat}(g:Inv X C G H1 s1)(t:bJ X.K H1 a xs)(j:bJ X.K H1 b Z)(q:R (uS X.K a b xs Z) H1):
  X.a (call (.type "zip") [!a,!b]) (λv s1=>X.a (Qq v) (rE X C G (.Tuple es kx r) R) X.xe s1) X.xe s1:=by
 let#[its,m,pl,hz]:=g.tuple t;let#[i,h,f,A]:=g.tuple j;let z:a<⇑s1:=by let#[_,e,_]:=(show s1.heap.IsTuple a its.toArray from pl);show Ba e
 let M:b<⇑s1:=by let#[_,e,_]:=(show s1.heap.IsTuple b i.toArray from f);show Ba e
 let n:(Zt.zh1 s1.heap a).objs.size=⇑s1+1:=Ew ..;let d:(Zt.zh2 s1.heap a b).objs.size=⇑s1+2:=by rw[Ew,n]
 let k:(Zt.zh3 s1.heap a b).objs.size=⇑s1+3:=by rw[Ew,d]
 let Q:(Zt.zh4 s1.heap a b).objs.size=⇑s1+04:=by rw[Ew,k]
 let l:∀c o,s1.heap.get? c=-o->(Zt.zh5 s1.heap a b).get? c=-o:=λc o e=>Af _<|Af _<|Af _<|Af _<|Af _ e;let p:(Zt.zh5 s1.heap a b).get? (Zt.zh4 s1.heap a b).objs.size=-_:=Ax _ rfl;let Y:(Zt.zh5 s1.heap a b).get? (Zt.zh3 s1.heap a b).objs.size=-_:=Af _<|Ax _ rfl;let W:(Zt.zh5 s1.heap a b).get? (Zt.zh2 s1.heap a b).objs.size=-_:=Af _<|Af _<|Ax _ rfl;let J:(Zt.zh5 s1.heap a b).get? (Zt.zh1 s1.heap a).objs.size=-_:=Af _<|Af _<|Af _<|Ax _ rfl;let T:(Zt.zh5 s1.heap a b).get? ⇑s1=-_:=Af _<|Af _<|Af _<|Af _<|Ax _ rfl;show Wn F.called_zip ∅ (F.typeCall_zip_2 _ _) (F.newCall_zip_2 _ _) (λobj=>F.args_object_init_3 obj _ _) F.entry_zip_new (Zt.meets_new a b its.toArray i.toArray) #[pl,f,#[_,p,7],8];show Ud p 8;rw[d,k,Q]at p;rw[n,d]at W;rw[k]at Y;rw[n]at J;rw[Q];show#[⇑s1+04,[⇑s1+04,⇑s1+2,⇑s1+3,⇑s1,⇑s1+1],_,_,H1,7,g.kept (t':=s1.toks) l,
  YA a b (⇑s1+04) (⇑s1+2) (⇑s1+3) ⇑s1 (⇑s1+1) xs Z #[FX _,#[fH 04 z,fH 2 z,fH 3 z,pQ z,fH 1 z],#[fH 04 M,fH 2 M,fH 3 M,pQ M,fH 1 M]],#[p,W,#[_,_,Y],#[_,T,7,7],#[_,J,7,7]],λq N=>g.fpOk (FY N)<|g.hok.fresh<|FY N,q]
def YC(K:Ac)(j:TA):TI:=λG H R=>j G H λvs H1=>∃a b xs Z,vs=[!a,!b]/\bJ K H1 a xs/\bJ K H1 b Z/\R (uS K a b xs Z) H1
def YD{kx:Nat}(hg:Gl X "zip")(J:X.mg "zip" = ae)(S:PA X [a,b] j)(l:Cr [a,b] X.env=[(ac,Ff a X.env),(ac,Ff b X.env)]:=by rfl)(y:Cr [b] X.env=[(ac,Ff b X.env)]:=by rfl):
  PI X (.Tuple es kx r) (.Call (.Name "zip" p) [a,b] [] pos) (YC X.K j):=by
 intro C s G H R I h;show Call_ (gO I hg J FK<|Ce (aY (S pos C s G H _ I h) λus s1 V=>8) (by rw[l,y])<|by rw[y];rfl);let#[vs,H1,g,F,W]:=V;let#[a,b,xs,Z,rfl,L,Y,q]:=W;let#[u,v,rfl,ru,m]:=vals2 F;ext ru;ext m;show YB g L Y q
end
end L2
namespace PySem
namespace Et
open L2
section
variable {prog:Bc}{w:Bq}{A:Cw}{E:Value->Ai->Prop}{s:Ai}
theorem draws(hh:A.handled=ae)(it l:Ao)(j:l≠it)(items:Array Value):Draws prog w A it [it,l] items.size (λi v=>items[i]? = aa v) (λi h=>h.IsTupleIter it l i/\h.IsTuple l items) where
 live:=λ_ _ st=>let #[o,ho,_]:=st.1;#[o,ho]
 frame:=λk h h' st hk=>(Zt.side_tuple (prog:=prog) (w:=w) it l j items).keep k h h' st λc hc o e=>hk c (by rcases hc with rfl|rfl<;>simp) o e
 item:=λi s Q E hi st H=>(Zt.side_tuple it l j items).item A E s i items[i] Q st (by simp[hi]) λh' a b=>H _ h' s.toks (by simp[hi]) a b
 done:=λs Q E st T=>(Zt.side_tuple it l j items).stop A E s _ Q hh st 6 T
def meets_new(l:Ao)(items:Array Value)(n:Nat)(a:Option Ao)(sl:Array<|Option Value):
  Meets (Hs.«enumerate.__new__» #[[.type "enumerate",!l],[]]) (λ_ R s=>s.heap.get? l=aa {cls:=.type "tuple",dict:=a,data:=.seq items n,slots:=sl}/\
   R (.ok<|.ret<|.ref (s.heap.push {cls:=.type "tuple_iterator",data:=.fields [!l,.int 0 0].toArray}).objs.size)
    (s<&>(s.heap.push {cls:=.type "tuple_iterator",data:=.fields [!l,.int 0 0].toArray}).push {cls:=.type "enumerate",data:=.fields [.none,.bool ac,!⇑s,Ie 0,.none,.none].toArray})):=
 .of_wp λprog w A R s h=>by
  let#[B,g,d,tk,os]:=s;let#[hl,h]:=h;let f:=sub_enumerate;let C:Vf (Vd #[B,g,d,tk,os]) l items:=#[_,hl,7,n,7]
  wp_walk using Ks hl
  show wpAny_stack_any λst=>Ak 8;split
  .rename_i c _ _ _ _ _;cases (c==Value.type "enumerate")
   .wp_walk using Ks hl,Kb C
    show#[_,7,h]
   .wp_walk using Ks hl,Kb C
    show#[_,7,h]
  .wp_walk using Ks hl,Kb C
   show#[_,7,h]
def call_new{Q:Value->Ai->Prop}(C:s.heap.IsTuple l items)(h:∀h',IsEnum h' (⇑s+1) ⇑s 0 .none->h'.IsTupleIter ⇑s l 0->(∀b o,s.heap.get? b=-o->h'.get? b=-o)->Q (.ref<|⇑s+1) (s<&>h')):
  Bm (Cp prog w) A (call (.type "enumerate") [!l]) Q E s:=by
 obtain⟨⟨c,a,dt,sl⟩,hl,hc,n,hd⟩:=C;cases (show c=.type "tuple" from hc);cases (show dt=.seq items n from hd);show Wn F.called_enumerate ∅ (F.typeCall_enumerate_1 _) (F.newCall_enumerate_1 _) (λobj=>Ro obj _) F.entry_enumerate_new (meets_new l items n a sl) #[hl,8];let hz:(s.heap.push {cls:=.type "tuple_iterator",data:=.fields [!l,.int 0 0].toArray}).objs.size=⇑s+1:=Ew ..;change _/\_;rw[hz];let P:IsEnum ((s.heap.push {cls:=.type "tuple_iterator",data:=.fields [!l,.int 0 0].toArray}).push {cls:=.type "enumerate",data:=.fields [.none,.bool ac,!⇑s,Ie 0,.none,.none].toArray}) (⇑s+1) ⇑s 0 .none:=by
  have:=Ax (s.heap.push {cls:=.type "tuple_iterator",data:=.fields [!l,.int 0 0].toArray}) (o:={cls:=.type "enumerate",data:=.fields [.none,.bool ac,!⇑s,Ie 0,.none,.none].toArray}) rfl;rw[hz]at this;show this
 show#[#[_,P,7],h _ P #[_,Af _<|Ax _ rfl,7,7] λb o x=>Af _<|Af _ x]
end
end Et
end PySem
namespace L2
section
variable {X:Cx}{b:Bool}{h h':Cz}{it a:Ao}{i:Nat}
def rV(K:Ac)(b:Bool)(H:Hp)(a:Ao)(xs:↑V):Prop:=cond b (bJ K H a xs)<|bO K H a xs
def lP(b:Bool)(h:Cz)(it a:Ao)(i:Nat):Prop:=cond b (h.IsTupleIter it a i)<|h.IsListIter it a i
def lP.obj(x:lP b h it a i):∃o,h.get? it=-o/\o.data=.fields [!a,.int i 0].toArray:=by
 cases b<;>exact let #[o,e,_,d]:=x;#[o,e,d]
def lP.at(x:lP b h it a i)(k:∀o,h.get? it=-o->h'.get? it=-o):lP b h' it a i:=by
 cases b<;>exact let #[o,e,r]:=x;#[o,k o e,r]
def FZ(I:Inv X C G H s)(hc:X.calm=ab)(j:a≠it)(N:rV X.K b H a xs):
  ∃its St,a6 xs its/\Draws X.prog X.w X.A.in1 it [it,a] its.toArray.size (λi v=>its.toArray[i]? = aa v) St/\(∀k,lP b s.heap it a k->St k s.heap)/\∀k h,St k h->lP b h it a k:=by
 ext b
 .let#[its,m,pl,_]:=I.list N;show#[its,_,m,Draws.list (A:=X.A.in1) (I.ok.hd hc) it a j its.toArray,λk z=>#[z,pl.isList],λk h z=>z.1]
 .let#[its,m,pl,_]:=I.tuple N;show#[its,_,m,Et.draws (A:=X.A.in1) (I.ok.hd hc) it a j its.toArray,λk z=>#[z,pl],λk h z=>z.1]
noncomputable def zB(K:Ac)(b:Bool)(a:Ao)(xs:↑V):It:=
 #[λi H=>rV K b H a xs/\i<↥xs,
   λi H x H'=>∃p u,xs[i]? = aa u/\H p=ae/\x=!p/\H'=aK H p (.tup [.int (i:Nat),u]),
   λi H=>rV K b H a xs/\i=↥xs]
def uU(h:q∉[e,it]):q≠e/\q≠it:=#[λz=>h<|z▸.head _,λz=>h<|z▸.tail _ (.head _)]
def all2{p:Ao->Prop}(L:p e)(Y:p it):∀q∈[e,it],p q:=Qh.mpr #[L,List.forall_mem_singleton.mpr Y]
theorem YE{P:Bc}{w:Bq}{K:Ac}{es:↑Ck}{kx:Nat}{r:Ja}(b:Bool)(a e it:Ao)(xs:↑V)(j:e≠it)(F:e≠a)(A:a≠it):
  jB P w K (.Tuple es kx r) (zB K b a xs) [e,it] e (λi h=>(∃old,IsEnum h e it (i:Nat) old)/\lP b h it a i) where
 mem:=.head _
 obj:=λi h st=>by
  obtain⟨⟨old,L⟩,W⟩:=st;let#[o,Y,T]:=W.obj;show all2 #[_,L,λv q=>nomatch q] #[o,Y,λv q=>nomatch T.symm.trans q]
 keep:=λi h h' st k=>by
  obtain⟨⟨old,L⟩,W⟩:=st;show#[#[old,k e (.head _) _ L],W.at<|k it<|.tail _<|.head _]
 item:=by
  intro X M hw R hc i C s G H E I hf st hg;subst M hw R;obtain⟨⟨old,L⟩,W⟩:=st;let#[t,hi]:=hg;let#[its,St,m,D,f,y]:=FZ I hc A t;let#[u,Z,ru]:=m.get<|Bh hi;show wpAny_pyNext_enum_itemD D L (f i W) (by rw[Bg,<-↥m];show hi) j (λz=>(Bd.mp z).elim j λz=>F<|Ae.mp z) λx h' tk S l B d p hk=>8;obtain rfl:u=x:=Cm<|Z.symm.trans<|Gr.symm.trans S;show#[_,7,wpAny_letOwnedTupleGo_enum l λQ O sb=>8];let c:∀q∈[e,it],q<⇑s:=all2 (Ba L) (by let#[o,Y,_]:=W.obj;show Ba Y);let g:Inv X C G (aK H ⇑s<|.tup [.int (i:Nat),xs[i]]) {s with heap:=Q,toks:=tk+1}:=I.laidT (its:=[.int (i:Nat) tk,u]) hf (λq o N eq=>(sb.2 q (uU N).1).trans<|hk q o (uU N).1 (uU N).2 eq) (by change 2<=Aw;decide) (.cons #[_,7]<|.cons ru .nil)<|(sb.2 _<|Dr<|c e<|.head _).trans d;show#[!⇑s,_,g,7,#[⇑s,xs[i],Bh hi,I.hok.fresh<|Aj _,7,7],#[#[u,by rw[Tz];show O],(y _ _ B).at λo n=>(sb.2 it j.symm).trans n],λq N=>(bB<|Bw<|c q N).trans (hf q N).1]
 done:=by
  intro X M hw R hc i C s G H E I hf st hg;subst M hw R;obtain⟨⟨old,L⟩,W⟩:=st;let#[t,rfl]:=hg;let#[its,St,m,D,f,y]:=FZ I hc A t;show wpAny_pyNext_enum_endD D L (by rw[Bg,<-↥m];show f _ W) λh' hk=>#[7,I.turnedT (tk:=s.toks) hf λq o N eq=>hk q o (uU N).2 eq]
 self:=λ_ _ _ _ _ st h=>by
  obtain⟨⟨old,L⟩,_⟩:=st;show wpAny_pyIter_enum L h
def YF(K:Ac)(j:TA):TI:=λG H R=>j G H λvs H1=>∃b a xs,vs=[!a]/\rV K b H1 a xs/\R (zB K b a xs) H1
def YG{a:Ck}{j:TA}{p pos:Ja}{es:↑Ck}{kx:Nat}{r:Ja}(hg:Gl X "enumerate")(J:X.mg "enumerate" = ae)(S:PA X [a] j)(l:Cr [a] X.env=[(ac,Ff a X.env)]:=by rfl):
  PI X (.Tuple es kx r) (.Call (.Name "enumerate" p) [a] [] pos) (YF X.K j):=by
 intro C s G H R I h;show Call_<|gO I hg J boot_enumerate<|Ce (aY (S pos C s G H _ I h) λus s1 V=>8) l rfl;let#[vs,H1,g,F,b,a,xs,rfl,t,q]:=V;let#[u,rfl,ru]:=vals1 F;ext ru;let fin:∀h',a<⇑s1->IsEnum h' (⇑s1+1) ⇑s1 0 .none->lP b h' ⇑s1 a 0->(∀b o,s1.heap.get? b=-o->h'.get? b=-o)->X.a (Qq<|.ref<|⇑s1+1) (rE X C G (.Tuple es kx r) R) X.xe (s1<&>h'):=λh' z N i k=>
  wpAny_pyIter_enum N #[⇑s1+1,[⇑s1+1,⇑s1],_,_,H1,7,g.kept (t':=s1.toks) k,YE b a _ _ xs (Nat.succ_ne_self _) (Dr<|Je z)<|Bw z,#[#[_,N],i],all2 (g.fpOk (Fw _)<|g.hok.fresh<|Fw _)<|g.fpOk (Aj _)<|g.hok.fresh<|Aj _,q]
 ext b
 .let#[its,m,pl,hz]:=g.list t;show call_enumerate_list pl.isList λh' N i f k=>fin h' (by let#[o,e,_]:=pl.isList;show Ba e) N i k
 .let#[its,m,pl,hz]:=g.tuple t;show Et.call_new pl λh' N i k=>fin h' (by let#[o,e,_]:=pl;show Ba e) N i k
end
section
variable {X:Cx}
theorem F0:∀{vs:↑Value} {ks:↑Av},↥vs=↥ks->(∀(j:Nat) v,vs[j]? = aa v->∃x t,ks[j]? = aa x/\v=.str x t)->StrsAre vs ks
 | [],[],_,_=>.nil
 | [],_::_,e,_=>by simp at e
 | _::_,[],e,_=>by simp at e
 | v::vs,k::ks,e,h=>by
  let#[x,t,L,rfl]:=h 0 v rfl;cases (show k=x by simpa using L);show .cons k t (F0 e⁻¹ λj v c=>by simpa using h (j+1) v c⁻¹)
theorem F1:∀{vs:↑Value} {ss:↑Av},StrsAre vs ss->a6 (ss.map V.str) vs
 | _,_,.nil=>.nil
 | _,_,.cons y t r=>.cons #[t,7]<|F1 r
def YH(hc:X.calm=ab):cM X (.builtin "sorted") (λxs H Q=>∃(d:Ao) (kvs:↑(aC×V)) (ks:↑Av),xs=[!d]/\H d=-.dK kvs/\kvs.map Cg=ks.map Sum.inr/\↥ks<64/\
  ∀ss:↑Av,ss.Perm ks->∀p,H p=ae->Q (!p) (aK H p<|.lst<|ss.map V.str)):=by
 intro C s G H xs us Q I r h;let#[d,kvs,ks,rfl,hd,hks,h64,q]:=h;let#[u,rfl,ru]:=vals1 r;ext ru;let#[hz,J,vs,F,E]:=(show b9 X.prog X.w H s.heap d (.dK kvs) from I.hok d _ hd);let#[ep,l]:=E.dictAt;let hl:=↥F;let hkl:↥kvs=↥ks:=by have:=congrArg Js hks;simpa using this
 show Calls.call_function_entry kind_sorted plain_sorted entry_sorted (args_sorted1 _) 8;unfold Hs.«sorted»;show Aa (m:=checkCount "sorted" 1 1 _)<|Ak<|Aa<|PySem.W.kdu_collect (A:=X.A.in1) (PySem.W.kdl_dict (knd:=bS X.prog X.w) (kvs:=vs) (ep:=ep) J) (I.ok.hd hc) l (by rw[<-hl];show hz) λh' tk acc hk N=>8;let hsz:↥acc.toList=↥ks:=by let L:=N.1;let Y:↥acc.toList=acc.size:=Gk;lia
 let M:StrsAre acc.toList ks:=F0 hsz λj v c=>by
  let#[k,x,S,K]:=N.2 j v (by rw[<-Ht];show c);let#[y,U]:=y8 F S;let T:(kvs.map Cg)[j]? = aa k:=by rw[Au,U];rfl
  rw[hks,Au]at T;let#[z,R,rfl]:=Ay.mp T;let#[t,e]:=(show RelV (kV<|Sum.inr z) v from uN K);show#[z,t,R,e]
 let g:Inv X C G H {s with heap:=h',toks:=tk}:=I.kept (t':=tk) hk;show Aa (wpAny_newList 8<|by rw[hsz];lia);let f:(h'.push<|seqObj "list" acc.toList.toArray 0).get? h'.objs.size=-seqObj "list" acc.toList.toArray 0:=Ax _ rfl;show Aa<|Eg<|Co slot_list_sort #[_,f,7] entry_list_sort (list_sort_treeK strKind_oneLt f M.keysOf (λv1 v2 rest e=>keyKind_strs<|by rw[<-e];show M) (by rw[hsz];show h64) λn i D=>#[_,7,8])<|args_list_sort _;let#[ss,L,Y,O]:=sorted_out_str M i D;let#[e,P]:=sortedHeap_at (out:=(arrOf n).map (·.2)) f;let Z:↥ss=↥ks:=Y.length_eq;show Ak #[_,7,!h'.objs.size,_,g.laid (o:=.lst<|ss.map V.str) (t':=tk) (λb o B=>8) (Aj _) #[by rw[Ab];show Am (Hk (by lia:↥ss<64)) ∅,((arrOf n).map (·.2)).toList,e,F1 L,by rw[Iy];show P],7,q ss Y _ g.fresh];let a:b<h'.objs.size:=Ba B;show(sortedHeap_old (Bw a)<|by rw[Ew];show Je a).trans<|Af _ B
end
section
variable {X:Cx}
def ints_get{ns:↑Int}{its:↑Value}(r:a6 (ns.map V.int) its){i:Nat}{v:Value}(h:its[i]? = aa v):∃t,v=.int (ns.getD i 0) t:=by
 let hl:=↥r;rw[Ab]at hl;let hi:i<↥ns:=by have:=(An.mp h).1;lia
 let#[u,D,ru]:=r.get (i:=i) (x:=.int ns[i]) (by rw[Au,Bh hi];rfl);rw[h]at D;ext D;let#[t,e]:=ru;show#[t,by rw[e];congr 1;simp[Va,Bh hi]]
def YI(hc:X.calm=ab):cM X (.builtin "sum") (λxs H Q=>∃(p:Ao) (ns:↑Int),xs=[!p]/\bO X.K H p (ns.map V.int)/\Q (¬ns.sum) H):=by
 intro C s G H xs us Q I r h;let#[p,ns,rfl,N,q]:=h;let#[u,rfl,ru]:=vals1 r;ext ru;let#[its,m,pl,hz]:=I.list N;let a:p<⇑s:=by let#[_,e,_]:=pl.isList;show Ba e
 let hl:=↥m;rw[Ab]at hl;let U:X.A.in1.handled=ae:=I.ok.hd hc;show call_sum_walkG (Ko pl.isList #[⇑s,[⇑s,p],[⇑s],its.toArray.size,(λi v=>its.toArray[i]? = aa v),_,(λi=>ns.getD i 0),7,Tw (A:=X.A.in1) U ⇑s p (Bw a) its.toArray,
  #[#[_,Ax _ rfl,7,7],pl.isList.push _],8,λi v c=>ints_get m c⁻¹,λh' tk t' hk=>8])
 .intro b Z;rw[Ew];simp only[Bd,List.mem_nil_iff,or_false]at Z;rcases Z with rfl|rfl
  .show Eb _
  .show Je a
 .rw[preSum_getD,Bg,<-hl,Bn];show#[¬ns.sum,H,I.kept (t':=tk) λb o P=>hk b o (λz=>8)<|Af _ P,#[_,7],q];show absurd (Ba P) (by rw[Ae.mp z];show Jg _)
end
abbrev NX(es:↑(bQ×Ao×V))(xs:↑(bQ×Ao×Value)):Prop:=Dz (λp q=>p.1=q.1/\p.2.1=q.2.1/\RelV p.2.2 q.2.2) es xs
def dQ(P:Bc)(w:Bq)(tl:↑Int)(a:Ao)(es:↑(bQ×Ao×V))(h:Cz):Prop:=
 ∃o B ep xs,h.get? a=-o/\o.ExactDict/\o.data=.dict B ep/\B.toList=xs.map (Tc<|jG P w tl)/\NX es xs/\(xs.map (·.1)).Nodup/\↥xs<=Aw/\(a==Gg)=ac
def dQ.stay(x:dQ P w tl a es L)(k:∀o,L.get? a=-o->Y.get? a=-o):dQ P w tl a es Y:=by
 let#[o,B,ep,xs,e,r]:=x;show#[o,B,ep,xs,k o e,r]
def dQ.ok(x:dQ P w tl a es h):b9 P w H h a (.ext<|dQ P w tl a es):=
 #[x,let #[o,_,_,_,e,_]:=x;#[o,e],λL Y y k=>y.stay k]
def hW(P:Bc)(w:Bq)(tl:↑Int)(a:Ao)(es:↑(bQ×Ao×V))(o:Nh)(h:Cz):Prop:=h.get? a=-o/\dQ P w tl a es h
def hW.ok(x:hW P w tl a es o h):b9 P w H h a (.ext<|hW P w tl a es o):=
 #[x,#[o,x.1],λL Y y k=>#[k _ y.1,y.2.stay k]]
def YJ(o:Nh)(es:↑(bQ×Ao×V)):Prop:=∃B ep,o.data=.dict B ep/\B.size=↥es/\∀(j:Nat) (e:Ey),B[j]? = aa e->∃z:bQ×Ao×V,es[j]? = aa z/\e.key=!z.2.1
def hZ(H:Hp)(tl:↑Int)(x:bQ)(b:Ao):Prop:=∃G,H b=-.tup (kV x.1::.ref G::tl.map V.int)/\H G=-.tup (x.2.map kV)
theorem F4:∀{tl:↑Int} {us:↑Value},a6 (tl.map V.int) us->ItemsAre (bS P w) (tl.map Sum.inl) us
 | [],_,h=>by ext h;show .nil
 | i::tl,_,h=>by
  cases h with
  | cons r t=>
   let#[tk,rfl]:=r;show .cons (jY (k:=Sum.inl i) #[tk,7])<|F4 t
def hZ.is(hok:cZ P w H h)(n:hZ H tl x b):(jG P w tl).is h x b:=by
 let#[G,T,J]:=n;let#[_,its,r,o,L,Y,m,O]:=(show b9 P w H h b (.tup<|kV x.1::.ref G::tl.map V.int) from hok b _ T);cases r with
 | @cons _ v _ vs F f=>
  cases f with
  | @cons _ l _ a R W=>
   cases (show l=Value.ref G from R);show#[o,_,m,v,G,a,L,Y,O,6,jY F,jE hok J,F4 W]
abbrev SV:=L2.St
inductive W where
 | non|bl (b:Bool)|int (i:Int)|str (x:Av)|ty (n:String)|tup (ws:↑W)|rl (ws:↑W)|sc (ws:↑W)|ref (a:Ao)
 | dk (kvs:↑(aC×W))|dt (kvs:↑(↑aC×W))|fk (kvs:↑(aC×W))|ft (kvs:↑(↑aC×W))
inductive MO where
 | lst (ws:↑W)|dK (kvs:↑(aC×W))|dT (kvs:↑(↑aC×W))|fix (vs:↑V)|ins (C dx:Ao) (fs:↑(Av×W))|dn (P:Bc) (w:Bq) (tl:↑Int) (kvs:↑(bQ×W))|vw (d:Ao)|dh (P:Bc) (w:Bq) (tl:↑Int) (kvs:↑(bQ×W)) (o:Nh)
abbrev Mm:=Ao->Option MO
noncomputable def zlN(pos:Ja):Option Ao->Array Value
 | none=>#[]
 | some c=>[Ie pos.line,Ie pos.col,!c].toArray
noncomputable def put(M:Mm)(a:Ao)(o:MO):Mm:=λb=>if b=a then aa o else M b
noncomputable def del(M:Mm)(a:Ao):Mm:=λb=>if b=a then ae else M b
def aI{M:Mm}{a:Ao}{o:MO}:put M a o a=-o:=by ext put;rw[Xu rfl]
def aT{M:Mm}{a b:Ao}{o:MO}(h:b≠a):put M a o b=M b:=by ext put;rw[Xs h]
def bV:put (put M a o) a u=put M a u:=by
 funext b;ext put;split<;>rfl
def iW(h:M a=ae):del (put M a o) a=M:=by
 funext b;unfold del put;split
 .rename_i e;rw[e,h]
 .rfl
def pR{M:Mm}{a:Ao}:del M a a=ae:=by ext del;rw[Xu rfl]
def jZ{M:Mm}{a b:Ao}(h:b≠a):del M a b=M b:=by ext del;rw[Xs h]
def lQ(h:a≠b):put (put M a o) b u=put (put M b u) a o:=by
 funext c;ext put
 by_cases L:c=b
 .by_cases Y:c=a
  .show absurd (Y.symm.trans L) h
  .rw[Xu L,Xs Y,Xu L]
 .by_cases Y:c=a
  .rw[Xs L,Xu Y,Xu Y]
  .rw[Xs L,Xs Y,Xs Y,Xs L]
def zC(h:M a=-o):put M a o=M:=by
 funext b;ext put;split
 .rename_i e;rw[e,h]
 .rfl
def Sub(M M':Mm):Prop:=∀a o,M a=-o->M' a=-o
def Sub.refl(M:Mm):Sub M M:=λ_ _ h=>h
def aV:Sub M M:=Sub.refl M
def Sub.trans(a:Sub M M1)(b:Sub M1 M2):Sub M M2:=λc o h=>b c o<|a c o h
def Sub.new(h:M a=ae):Sub M (put M a o):=λb u e=>by
 rw[aT (λz=>by rw[z,h]at e;ext e)];show e
def Sub.put(h:Sub M M'):Sub (put M a o) (put M' a o):=λb u e=>by
 unfold L2.put at e⊢;split at e
 .rename_i z;rw[Xu z];show e
 .rename_i z;rw[Xs z];show h b u e
def Sub.del:Sub (del M a) M:=λb u e=>by
 unfold L2.del at e;split at e
 .ext e
 .show e
def Sub.non(h:Sub M M')(e:M' a=ae):M a=ae:=by
 cases q:M a with
 | none=>rfl
 | some o=>rw[h a o q]at e;ext e
def mY(K:Ac)(H:Hp)(a:Ao)(xs:↑V):Prop:=
 (∃o,H a=-.frz o (.lst xs))\/
  ∃(o:Nh) (its:Array Value) (n:Nat),K.lookup a=-o/\o.cls=.type "list"/\o.dict=ae/\o.data=.seq its n/\its.size<=Aw/\a6 xs its.toList
def mY.sq{K:Ac}{H:Hp}{a:Ao}{xs:↑V}(h:mY K H a xs):bO K H a xs:=by
 rcases h with⟨o,h⟩|h
 .show .inl<|.inr #[o,h]
 .show .inr h
mutual
inductive AV(K:Ac)(H:Hp)(M:Mm):V->W->Prop
 | non:AV K H M .non .non
 | bl (b:Bool):AV K H M (.bl b) (.bl b)
 | int (i:Int):AV K H M (¬i) (¬i)
 | str (x:Av):AV K H M (.str x) (.str x)
 | ty (n:String):AV K H M (.ty n) (.ty n)
 | tup {a:Ao} {xs:↑V} {ws:↑W}:H a=-.tup xs->aJ K H M xs ws->AV K H M (!a) (.tup ws)
 | sc {a:Ao} {xs:↑V} {ws:↑W}:mY K H a xs->aJ K H M xs ws->AV K H M (!a) (.sc ws)
 | rl {a:Ao} {xs:↑V} {ws:↑W}:H a=-.lst xs->M a=ae->aJ K H M xs ws->AV K H M (!a) (.rl ws)
 | ref (a:Ao):AV K H M (!a) (!a)
 | dk {a:Ao} {ks:↑(aC×V)} {kvs:↑(aC×W)}:H a=-.dK ks->M a=ae->ks.map Cg=kvs.map Cg->aJ K H M (ks.map Le) (kvs.map Le)->AV K H M (!a) (.dk kvs)
 | dt {a:Ao} {ks:↑(↑aC×V)} {kvs:↑(↑aC×W)}:H a=-.dT ks->M a=ae->ks.map Cg=kvs.map Cg->aJ K H M (ks.map Le) (kvs.map Le)->AV K H M (!a) (.dt kvs)
 | fk {a:Ao} {o:Nh} {ks:↑(aC×V)} {kvs:↑(aC×W)}:H a=-.frz o (.dK ks)->ks.map Cg=kvs.map Cg->aJ K H M (ks.map Le) (kvs.map Le)->AV K H M (!a) (.fk kvs)
 | ft {a:Ao} {o:Nh} {ks:↑(↑aC×V)} {kvs:↑(↑aC×W)}:H a=-.frz o (.dT ks)->ks.map Cg=kvs.map Cg->aJ K H M (ks.map Le) (kvs.map Le)->AV K H M (!a) (.ft kvs)
inductive aJ(K:Ac)(H:Hp)(M:Mm):↑V->↑W->Prop
 | nil:aJ K H M [] []
 | cons {v:V} {vs:↑V} {w:W} {ws:↑W}:AV K H M v w->aJ K H M vs ws->aJ K H M (v::vs) (w::ws)
end
abbrev bT(K:Ac)(H:Hp)(M:Mm)(b:Type):↑(b×V)->↑(b×W)->Prop:=Dz λp q=>p.1=q.1/\AV K H M p.2 q.2
theorem oJ{K:Ac}{H:Hp}{M:Mm}{b:Type}:∀{ks:↑(b×V)} {kvs:↑(b×W)},ks.map Cg=kvs.map Cg->aJ K H M (ks.map Le) (kvs.map Le)->bT K H M b ks kvs
 | [],[],_,_=>.nil
 | [],_::_,e,_=>by simp at e
 | _::_,[],e,_=>by simp at e
 | p::ps,q::qs,e,h=>by
  rw[Be,Be]at e h;rw[Fh]at e;cases h with
  | cons x r=>show .cons #[e.1,x]<|oJ e.2 r
def bT.keys{K:Ac}{H:Hp}{M:Mm}{b:Type}{ks:↑(b×V)}{kvs:↑(b×W)}(h:bT K H M b ks kvs):ks.map Cg=kvs.map Cg:=by
 induction h with
 | nil=>rfl
 | cons r _ E=>rw[Be,Be,E,r.1]
def bT.vals{K:Ac}{H:Hp}{M:Mm}{b:Type}{ks:↑(b×V)}{kvs:↑(b×W)}(h:bT K H M b ks kvs):aJ K H M (ks.map Le) (kvs.map Le):=by
 induction h with
 | nil=>show .nil
 | cons r _ E=>show .cons r.2 E
def AO(K:Ac)(H:Hp)(M:Mm)(a:Ao):MO->Prop
 | .lst ws=>∃vs,H a=-.lst vs/\aJ K H M vs ws
 | .dK kvs=>∃ks,H a=-.dK ks/\bT K H M aC ks kvs
 | .dT kvs=>∃ks,H a=-.dT ks/\bT K H M (↑aC) ks kvs
 | .fix vs=>H a=-.lst vs
 | .ins C s fs=>∃gs,H a=-.ins C s gs/\bT K H M Av gs fs
 | .dn P w tl kvs=>∃es,H a=-.ext (dQ P w tl a es)/\Dz (λ(e:bQ×Ao×V) (p:bQ×W)=>e.1=p.1/\hZ H tl e.1 e.2.1/\AV K H M e.2.2 p.2) es kvs
 | .vw d=>H a=aa (.ext λh=>h.IsValuesView a d)
 | .dh P w tl kvs o=>∃es,H a=-.ext (hW P w tl a es o)/\YJ o es/\Dz (λ(e:bQ×Ao×V) (p:bQ×W)=>e.1=p.1/\hZ H tl e.1 e.2.1/\AV K H M e.2.2 p.2) es kvs
def AM(K:Ac)(H:Hp)(M:Mm):Prop:=∀a o,M a=-o->AO K H M a o
structure Kp(H:Hp)(M:Mm)(H':Hp)(M':Mm):Prop where
 fr:∀a o,M a=ae->H a=-o->H' a=-o/\M' a=ae
 dom:∀a o,M a=-o->∃u,H' a=-u
structure Go(H:Hp)(M:Mm)(H':Hp)(M':Mm):Prop where
 ht:∀b xs,H b=-.tup xs->H' b=-.tup xs
 hf:∀b o u,H b=-.frz o u->H' b=-.frz o u
 hl:∀b o,M b=ae->H b=-o->H' b=-o/\M' b=ae
section
variable {K:Ac}{H H' H1 H2:Hp}{M M' M1 M2:Mm}{a:Ao}
def AO.has(h:AO K H M a o):∃u,H a=-u:=by
 cases o with
 | lst ws=>let#[vs,e,_]:=h;show#[_,e]
 | dK kvs=>let#[ks,e,_]:=h;show#[_,e]
 | dT kvs=>let#[ks,e,_]:=h;show#[_,e]
 | fix vs=>show#[_,h]
 | ins C dx fs=>let#[gs,e,_]:=h;show#[_,e]
 | dn P w tl kvs=>let#[gs,e,_]:=h;show#[_,e]
 | vw d=>show#[_,h]
 | dh P w tl kvs o=>let#[gs,e,_]:=h;show#[_,e]
def AM.nonM(U:AM K H M)(h:H a=ae):M a=ae:=by
 cases q:M a with
 | none=>rfl
 | some o=>let#[u,e]:=(U a o q).has;rw[h]at e;ext e
def AM.noTup(am:AM K H M)(h:H a=-.tup xs):M a=ae:=by
 cases q:M a with
 | none=>rfl
 | some o=>
  have:=am a o q;cases o with
  | lst ws=>let#[vs,e,_]:=this;rw[h]at e;ext e
  | dK kvs=>let#[ks,e,_]:=this;rw[h]at e;ext e
  | dT kvs=>let#[ks,e,_]:=this;rw[h]at e;ext e
  | fix vs=>let e:H a=-.lst vs:=this;rw[h]at e;ext e
  | ins C dx fs=>let#[gs,e,_]:=this;rw[h]at e;ext e
  | dn P w tl kvs=>let#[gs,e,_]:=this;rw[h]at e;ext e
  | vw d=>let e:H a=aa (.ext λh=>h.IsValuesView a d):=this;rw[h]at e;ext e
  | dh P w tl kvs o=>let#[gs,e,_]:=this;rw[h]at e;ext e
def AM.noFrz(am:AM K H M)(h:H a=-.frz ob u):M a=ae:=by
 cases q:M a with
 | none=>rfl
 | some o=>
  have:=am a o q;cases o with
  | lst ws=>let#[vs,e,_]:=this;rw[h]at e;ext e
  | dK kvs=>let#[ks,e,_]:=this;rw[h]at e;ext e
  | dT kvs=>let#[ks,e,_]:=this;rw[h]at e;ext e
  | fix vs=>let e:H a=-.lst vs:=this;rw[h]at e;ext e
  | ins C dx fs=>let#[gs,e,_]:=this;rw[h]at e;ext e
  | dn P w tl kvs=>let#[gs,e,_]:=this;rw[h]at e;ext e
  | vw d=>let e:H a=aa (.ext λh=>h.IsValuesView a d):=this;rw[h]at e;ext e
  | dh P w tl kvs o=>let#[gs,e,_]:=this;rw[h]at e;ext e
def Kp.refl(U:AM K H M):Kp H M H M:=#[λa o h e=>#[e,h],λa o h=>(U a o h).has]
theorem Kp.trans(x:Kp H M H1 M1)(y:Kp H1 M1 H2 M2):Kp H M H2 M2 where
 fr:=λa o h e=>by
  let#[T,f]:=x.fr a o h e;show y.fr a o f T
 dom:=λa o h=>by
  let#[u,e]:=x.dom a o h;cases q:M1 a with
  | none=>show#[u,(y.fr a u q e).1]
  | some s=>show y.dom a s q
theorem Kp.sub(x:Kp H M H1 M1)(h:Sub M2 M1):Kp H M H1 M2 where
 fr:=λa o n e=>#[(x.fr a o n e).1,h.non (x.fr a o n e).2]
 dom:=x.dom
def Kp.go(U:AM K H M)(k:Kp H M H' M'):Go H M H' M':=#[λb xs e=>(k.fr b _ (U.noTup e) e).1,λb o u e=>(k.fr b _ (U.noFrz e) e).1,k.fr]
def Go.sub(h:Sub M' M):Go H M H M':=#[λ_ _ e=>e,λ_ _ _ e=>e,λb o n e=>#[e,h.non n]]
def AV.go(g:Go H M H' M')(h:AV K H M v w):AV K H' M' v w:=AV.rec (motive_1:=λv w _=>AV K H' M' v w) (motive_2:=λvs ws _=>aJ K H' M' vs ws) .non .bl .int .str .ty (λe _ q=>.tup (g.ht _ _ e) q) (λe _ q=>.sc (e.elim (λz=>.inl<|z.elim λo q=>#[o,g.hf _ _ _ q]) .inr) q) (λe n _ q=>.rl (g.hl _ _ n e).1 (g.hl _ _ n e).2 q) .ref
  (λe n c _ q=>.dk (g.hl _ _ n e).1 (g.hl _ _ n e).2 c q) (λe n c _ q=>.dt (g.hl _ _ n e).1 (g.hl _ _ n e).2 c q) (λe c _ q=>.fk (g.hf _ _ _ e) c q) (λe c _ q=>.ft (g.hf _ _ _ e) c q) .nil (λ_ _ x r=>.cons x r) h
def aJ.p(h:aJ K H M vs ws):Dz (AV K H M) vs ws:=aJ.rec (motive_1:=λ_ _ _=>True) (motive_2:=λvs ws _=>Dz (AV K H M) vs ws) trivial (λ_=>trivial) (λ_=>trivial) (λ_=>trivial) (λ_=>trivial) (λ_ _ _=>trivial) (λ_ _ _=>trivial) (λ_ _ _ _=>trivial) (λ_=>trivial) (λ_ _ _ _ _=>trivial) (λ_ _ _ _ _=>trivial) (λ_ _ _ _=>trivial) (λ_ _ _ _=>trivial) .nil (λx _ _ r=>.cons x r) h
def aJ.of(h:Dz (AV K H M) vs ws):aJ K H M vs ws:=by
 induction h with
 | nil=>show .nil
 | cons x _ E=>show .cons x E
def aJ.go(g:Go H M H' M')(h:aJ K H M vs ws):aJ K H' M' vs ws:=.of<|Paired.mapP h.p λ_ _=>AV.go g
def bT.go{b:Type}{ks:↑(b×V)}{kvs:↑(b×W)}(g:Go H M H' M')(h:bT K H M b ks kvs):bT K H' M' b ks kvs:=Paired.mapP h λp q z=>#[z.1,z.2.go g]
def AO.go{o:MO}(g:Go H M H' M')(e:H' a=H a)(h:AO K H M a o):AO K H' M' a o:=by
 cases o with
 | lst ws=>let#[vs,e1,r]:=h;show#[vs,by rw[e];show e1,r.go g]
 | dK kvs=>let#[vs,e1,r]:=h;show#[vs,by rw[e];show e1,r.go g]
 | dT kvs=>let#[vs,e1,r]:=h;show#[vs,by rw[e];show e1,r.go g]
 | fix vs=>show e.trans h
 | ins C dx fs=>let#[gs,e1,r]:=h;show#[gs,by rw[e];show e1,r.go g]
 | dn P w tl kvs=>let#[gs,e1,r]:=h;show#[gs,by rw[e];show e1,Paired.mapP r λp q z=>#[z.1,let #[pa,n1,n2]:=z.2.1;#[pa,g.ht _ _ n1,g.ht _ _ n2],z.2.2.go g]]
 | vw d=>show e.trans h
 | dh P w tl kvs o=>let#[gs,e1,z0,r]:=h;show#[gs,by rw[e];show e1,z0,Paired.mapP r λp q z=>#[z.1,let #[pa,n1,n2]:=z.2.1;#[pa,g.ht _ _ n1,g.ht _ _ n2],z.2.2.go g]]
def AM.sub(U:AM K H M')(h:Sub M M'):AM K H M:=λa o e=>(U a o<|h a o e).go (Go.sub h) rfl
def AV.sub(h:Sub M' M)(x:AV K H M v w):AV K H M' v w:=x.go<|Go.sub h
def aJ.sub(h:Sub M' M)(x:aJ K H M v w):aJ K H M' v w:=x.go<|Go.sub h
def AV.kp(U:AM K H M)(k:Kp H M H' M')(h:AV K H M v w):AV K H' M' v w:=h.go<|k.go U
def aJ.kp(U:AM K H M)(k:Kp H M H' M')(h:aJ K H M vs ws):aJ K H' M' vs ws:=h.go<|k.go U
section
variable {vs us:↑V}{ws zs:↑W}
def aJ.length(h:aJ K H M vs ws):↥vs=↥ws:=Cv h.p
def aJ.append(h:aJ K H M vs ws)(s:aJ K H M us zs):aJ K H M (vs++us) (ws++zs):=.of<|tS h.p s.p
def aJ.getW{i:Nat}(h:aJ K H M vs ws)(e:ws[i]? = aa w):∃v,vs[i]? = aa v/\AV K H M v w:=tR (DB h.p) e
def aJ.getV{i:Nat}(h:aJ K H M vs ws)(e:vs[i]? = aa v):∃w,ws[i]? = aa w/\AV K H M v w:=tR h.p e
def aJ.set(x:AV K H M v w)(i:Nat)(h:aJ K H M vs ws):aJ K H M (vs.set i v) (ws.set i w):=.of<|yD x h.p i
def aJ.take(n:Nat)(h:aJ K H M vs ws):aJ K H M (vs.take n) (ws.take n):=.of<|yF n h.p
def aJ.drop(n:Nat)(h:aJ K H M vs ws):aJ K H M (vs.drop n) (ws.drop n):=.of<|DC n h.p
def aJ.reverse(h:aJ K H M vs ws):aJ K H M vs.reverse ws.reverse:=.of<|DE h.p
def aJ.dropLast(h:aJ K H M vs ws):aJ K H M vs.dropLast ws.dropLast:=.of<|DD h.p
def aJ.flatRep(h:aJ K H M vs ws)(n:Nat):aJ K H M (Cb n vs).flatten (Cb n ws).flatten:=.of<|DF h.p n
end
def aJ.int(is:↑Int):aJ K H M (is.map V.int) (is.map W.int):=by
 induction is with
 | nil=>show .nil
 | cons i r E=>show .cons (¬i) E
def F5(B:H p=ae)(l:∀b,b≠p->M b=ae->M' b=ae):Go H M (aK H p u) M':=
 #[λb xs e=>by rw[bB<|eW e B];show e,λb o x e=>by rw[bB<|eW e B];show e,λb o n e=>#[by rw[bB<|eW e B];show e,l b (eW e B) n]]
def F6(B:H p=ae):Go H M (aK H p u) (put M p o):=F5 B λb ne n=>by rw[aT ne];show n
def go_same(B:H p=ae):Go H M (aK H p u) M:=F5 B λb ne n=>n
def AM.laid(U:AM K H M)(B:H p=ae)(h:AO K (aK H p u) (put M p o) p o):AM K (aK H p u) (put M p o)/\Kp H M (aK H p u) (put M p o):=by
 show#[λa x e=>8,λa x h e=>#[8,8],λa x h=>8]
 .by_cases S:a=p
  .subst S;rw[aI]at e;ext e;show h
  .rw[aT S]at e;show(U a x e).go (F6 B)<|bB S
 .rw[bB<|eW e B];show e
 .rw[aT<|eW e B];show h
 .let#[y,e]:=(U a x h).has;show#[y,by rw[bB<|eW e B];show e]
def F7:Go H (put M p o) H (put M p u):=#[λ_ _ e=>e,λ_ _ _ e=>e,λb x n e=>#[e,by
 let ne:b≠p:=λz=>by rw[z,aI]at n;ext n
 rw[aT ne]at n⊢;show n]]
def AM.tup{p:Ao}{u:HO}(U:AM K H M)(B:H p=ae):AM K (aK H p u) M/\Kp H M (aK H p u) M:=by
 show#[λa x e=>8,λa x h e=>#[8,h],λa x h=>8]
 .let ne:a≠p:=λz=>by rw[z,U.nonM B]at e;ext e
  show(U a x e).go (go_same B)<|bB ne
 .rw[bB<|eW e B];show e
 .let#[y,e]:=(U a x h).has;show#[y,by rw[bB<|eW e B];show e]
def oK(U:AM K H M)(hl:M l=-c):Go H M (aK H l u) (put M l o):=
 #[λb xs e=>by rw[bB (λz=>by rw[<-z,U.noTup e]at hl;ext hl)];show e,λb ob x e=>by rw[bB (λz=>by rw[<-z,U.noFrz e]at hl;ext hl)];show e,
   λb x n e=>by
  let ne:b≠l:=λz=>by rw[<-z,n]at hl;ext hl
  rw[bB ne,aT ne];show#[e,n]]
def AM.write(U:AM K H M)(hl:M l=-c)(h:AO K (aK H l u) (put M l o) l o):AM K (aK H l u) (put M l o)/\Kp H M (aK H l u) (put M l o):=by
 show#[λa x e=>8,λa x h e=>8,λa x h=>8]
 .by_cases S:a=l
  .subst S;rw[aI]at e;ext e;show h
  .rw[aT S]at e;show(U a x e).go (oK U hl)<|bB S
 .have:a≠l:=λz=>by rw[z,hl]at h;ext h
  rw[bB this,aT this];show#[e,h]
 .by_cases S:a=l
  .subst S;show#[u,b8]
  .let#[y,e]:=(U a x h).has;show#[y,by rw[bB S];show e]
def AM.lst(U:AM K H M){ws:↑W}(h:M a=-.lst ws):∃vs,H a=-.lst vs/\aJ K H M vs ws:=U a _ h
def aJ.newT{p:Ao}{u:HO}{vs:↑V}{ws:↑W}(B:H p=ae)(h:aJ K H M vs ws):aJ K (aK H p u) M vs ws:=h.go<|go_same B
def aJ.newL{p:Ao}{u:HO}{o:MO}{vs:↑V}{ws:↑W}(B:H p=ae)(h:aJ K H M vs ws):aJ K (aK H p u) (put M p o) vs ws:=h.go<|F6 B
def aJ.wr(U:AM K H M)(hl:M l=-c)(h:aJ K H M vs ws):aJ K (aK H l u) (put M l o) vs ws:=h.go<|oK U hl
def AV.wr(U:AM K H M)(hl:M l=-c)(h:AV K H M v w):AV K (aK H l u) (put M l o) v w:=h.go<|oK U hl
end
abbrev S3:=↑(Option W)
abbrev K3:=W->Mm->Prop
abbrev aR:=S3->Mm->K3->Prop
abbrev dR:=S3->Mm->(Bool->Mm->Prop)->Prop
abbrev dO:=S3->Mm->(↑W->Mm->Prop)->Prop
abbrev R3:=W->W->Mm->K3->Prop
structure D3 where
 nx:S3->Mm->Prop
 rt:K3
 bk:S3->Mm->Prop:=λ_ _=>False
 ct:S3->Mm->Prop:=λ_ _=>False
abbrev aE:=D3->S3->Mm->Prop
def AS(K:Ac)(H:Hp)(M:Mm):SV->S3->Prop:=Dz λp l=>∀w,l=-w->∃v,p=-v/\AV K H M v w
section
variable {K:Ac}{H H':Hp}{M M':Mm}
def AS.kp(U:AM K H M)(k:Kp H M H' M')(h:AS K H M G O):AS K H' M' G O:=
 Paired.mapP h λp l z w e=>by let#[v,T,r]:=z w e;show#[v,T,r.kp U k]
def AS.sub(g:Sub M' M)(h:AS K H M G O):AS K H M' G O:=
 Paired.mapP h λp l z w e=>by let#[v,T,r]:=z w e;show#[v,T,r.sub g]
def AS.get{i:Nat}(h:AS K H M G O)(e:O[i]? = aa (-w)):∃v,G[i]? = aa (-v)/\AV K H M v w:=by
 let#[p,L,Y]:=tR (DB h) e;let#[v,rfl,r]:=Y _ rfl;show#[v,L,r]
def AS.set(r:AV K H M v w)(i:Nat)(h:AS K H M G O):AS K H M (G.set i<|-v) (O.set i<|-w):=yD (λx e=>#[v,7,Cm e▸r]) h i
theorem AS.nones:∀n:Nat,AS K H M (Cb n ae) (Cb n ae)
 | 0=>.nil
 | n+1=>.cons (λ_ e=>nomatch e)<|AS.nones n
def AS.start(h:aJ K H M vs ws)(n:Nat):AS K H M (vs.map aa++Cb n ae) (ws.map aa++Cb n ae):=by
 induction vs generalizing ws with
 | nil=>ext h;show AS.nones n
 | cons v vs E=>
  cases h with
  | cons x r=>show .cons (λw e=>#[v,7,by ext e;show x])<|E r
end
def Up(K:Ac)(H:Hp)(M:Mm)(R:K3)(Q:VK):Prop:=∀v H' w M',Kp H M H' M'->AM K H' M'->AV K H' M' v w->R w M'->Q v H'
def up(K:Ac)(t:aR):TE:=λG H Q=>∃O M R,AS K H M G O/\AM K H M/\t O M R/\Up K H M R Q
def kN(K:Ac)(t:dR):TT:=λG H Q=>∃(O:S3) (M:Mm) (R:Bool->Mm->Prop),AS K H M G O/\AM K H M/\t O M R/\∀b H' M',Kp H M H' M'->AM K H' M'->R b M'->Q b H'
def pU(K:Ac)(t:dO):TA:=λG H Q=>∃(O:S3) (M:Mm) (R:↑W->Mm->Prop),AS K H M G O/\AM K H M/\t O M R/\∀vs H' ws M',Kp H M H' M'->AM K H' M'->aJ K H' M' vs ws->R ws M'->Q vs H'
def iL(K:Ac)(H:Hp)(M:Mm)(R:S3->Mm->Prop)(Q:SV->Hp->Prop):Prop:=∀c H' d M',Kp H M H' M'->AM K H' M'->AS K H' M' c d->R d M'->Q c H'
structure rW(K:Ac)(H:Hp)(M:Mm)(D:D3)(E:lK):Prop where
 nx:iL K H M D.nx E.nx
 rt:Up K H M D.rt E.rt
 bk:iL K H M D.bk E.bk
 ct:iL K H M D.ct E.ct
def rX(K:Ac)(t:aE):TS:=λE G H=>∃O M D,AS K H M G O/\AM K H M/\t D O M/\rW K H M D E
section
variable {K:Ac}{H H1:Hp}{M M1:Mm}
def Up.kp(h:Up K H M R Q)(k:Kp H M H1 M1):Up K H1 M1 R Q:=λv H' w M' Y U av r=>h v H' w M' (k.trans Y) U av r
def iL.kp{R:S3->Mm->Prop}{Q:SV->Hp->Prop}(h:iL K H M R Q)(k:Kp H M H1 M1):iL K H1 M1 R Q:=λv H' w M' Y U av r=>h v H' w M' (k.trans Y) U av r
def rW.kp(h:rW K H M D E)(k:Kp H M H1 M1):rW K H1 M1 D E:=#[h.nx.kp k,h.rt.kp k,h.bk.kp k,h.ct.kp k]
def Up.at(h:Up K H M R Q)(U:AM K H M)(av:AV K H M v w)(r:R w M):Q v H:=h v H w M (Kp.refl U) U av r
end
@[irreducible] def lR(p:Ao)(M:Mm)(R:K3):Prop:=(∃ws,M p=-.lst ws/\R (.rl ws) (del M p))\/(∃kvs,M p=-.dK kvs/\R (.dk kvs) (del M p))\/(∃kvs,M p=-.dT kvs/\R (.dt kvs) (del M p))\/R (!p) M
def frz:W->Mm->K3->Prop
 | .ref p,M,R=>lR p M R
 | w,M,R=>R w M
def Up.frz{K:Ac}{H:Hp}{M:Mm}{R:K3}{Q:VK}(h:Up K H M R Q):Up K H M (λw M'=>frz w M' R) Q:=λv H' w M' k U av r=>by
 let g:=av;cases av<;>first|exact h _ _ _ _ k U g r|skip
 case ref p=>
  let r:lR p M' R:=r;unfold lR at r;rcases r with⟨ws,e,r⟩|⟨kvs,e,r⟩|⟨kvs,e,r⟩|r
  .let#[vs,f,q]:=U.lst e;show h _ _ _ _ (k.sub Sub.del) (U.sub Sub.del) (.rl f pR<|q.sub Sub.del) r
  .let#[ks,f,q]:=U _ _ e;show h _ _ _ _ (k.sub Sub.del) (U.sub Sub.del) (.dk f pR q.keys<|q.vals.sub Sub.del) r
  .let#[ks,f,q]:=U _ _ e;show h _ _ _ _ (k.sub Sub.del) (U.sub Sub.del) (.dt f pR q.keys<|q.vals.sub Sub.del) r
  .show h _ _ _ _ k U (!p) r
def F8(B:M p=ae)(r:R (.rl ws) M):lR p (put M p<|.lst ws) R:=by ext lR;show .inl #[ws,aI,by rw[iW B];show r]
def F9(B:M p=ae)(r:R (.dk kvs) M):lR p (put M p<|.dK kvs) R:=by ext lR;show .inr<|.inl #[kvs,aI,by rw[iW B];show r]
def YK(B:M p=ae)(r:R (.dt kvs) M):lR p (put M p<|.dT kvs) R:=by ext lR;show .inr<|.inr<|.inl #[kvs,aI,by rw[iW B];show r]
def aO(ws:↑W)(M:Mm)(R:K3):Prop:=∀p,M p=ae->R (!p) (put M p<|.lst ws)
def h9(kvs:↑(aC×W))(M:Mm)(R:K3):Prop:=∀p,M p=ae->R (!p) (put M p<|.dK kvs)
def j0(kvs:↑(↑aC×W))(M:Mm)(R:K3):Prop:=∀p,M p=ae->R (!p) (put M p<|.dT kvs)
def aO.frz{M:Mm}{ws:↑W}{R:K3}(r:R (.rl ws) M):aO ws M λw M'=>L2.frz w M' R:=λp B=>F8 B r
def h9.frz{M:Mm}{kvs:↑(aC×W)}{R:K3}(r:R (.dk kvs) M):h9 kvs M λw M'=>L2.frz w M' R:=λp B=>F9 B r
def j0.frz{M:Mm}{kvs:↑(↑aC×W)}{R:K3}(r:R (.dt kvs) M):j0 kvs M λw M'=>L2.frz w M' R:=λp B=>YK B r
abbrev bD(t:aR):aR:=λO M R=>t O M λw M'=>frz w M' R
def YL(K:Ac)(H:Hp)(M:Mm)(v:V):W->Prop
 | .non=>v=.non
 | .bl b=>v=.bl b
 | .int i=>v=¬i
 | .str x=>v=.str x
 | .ty n=>v=.ty n
 | .tup ws=>∃a xs,v=!a/\H a=-.tup xs/\aJ K H M xs ws
 | .sc ws=>∃a xs,v=!a/\mY K H a xs/\aJ K H M xs ws
 | .rl ws=>∃a xs,v=!a/\H a=-.lst xs/\M a=ae/\aJ K H M xs ws
 | .ref a=>v=!a
 | .dk kvs=>∃a ks,v=!a/\H a=-.dK ks/\M a=ae/\bT K H M aC ks kvs
 | .dt kvs=>∃a ks,v=!a/\H a=-.dT ks/\M a=ae/\bT K H M (↑aC) ks kvs
 | .fk kvs=>∃a ks,v=!a/\(∃o,H a=-.frz o (.dK ks))/\bT K H M aC ks kvs
 | .ft kvs=>∃a ks,v=!a/\(∃o,H a=-.frz o (.dT ks))/\bT K H M (↑aC) ks kvs
section
variable {K:Ac}{H:Hp}{M:Mm}{v:V}{vs:↑V}{w:W}{ws:↑W}{C:Prop}
def AV.inv(h:AV K H M v w):YL K H M v w:=by
 ext h
 case non|bl|int|str|ty|ref=>rfl
 case tup|sc=>rename_i e q;show#[_,_,7,e,q]
 case rl=>rename_i e n q;show#[_,_,7,e,n,q]
 case dk|dt=>rename_i e n z q;show#[_,_,7,e,n,oJ z q]
 case fk|ft=>rename_i e z q;show#[_,_,7,#[_,e],oJ z q]
def AV.tupE(h:AV K H M v<|.tup ws)(c:∀a xs,v=!a->H a=-.tup xs->aJ K H M xs ws->C):C:=
 let #[a,xs,e,f,q]:=h.inv;c a xs e f q
def AV.scE(h:AV K H M v<|.sc ws)(c:∀a xs,v=!a->mY K H a xs->aJ K H M xs ws->C):C:=
 let #[a,xs,e,f,q]:=h.inv;c a xs e f q
def AV.rlE(h:AV K H M v<|.rl ws)(c:∀a xs,v=!a->H a=-.lst xs->aJ K H M xs ws->C):C:=
 let #[a,xs,e,f,_,q]:=h.inv;c a xs e f q
def aJ.nil_(h:aJ K H M vs []):vs=[]:=by ext h;rfl
def aJ.one(h:aJ K H M vs [w]):∃v,vs=[v]/\AV K H M v w:=by
 cases h with
 | cons x r=>rw[r.nil_];show#[_,7,x]
def aJ.oneE(h:aJ K H M vs [w])(c:∀v,vs=[v]->AV K H M v w->C):C:=h.one.elim λv h=>c v h.1 h.2
def aJ.two(h:aJ K H M vs [w,z]):∃v u,vs=[v,u]/\AV K H M v w/\AV K H M u z:=by
 cases h with
 | cons x r=>let#[u,rfl,y]:=r.one;show#[_,_,7,x,y]
def AM.lstE(U:AM K H M)(e:M a=-.lst ws)(c:∀xs,H a=-.lst xs->aJ K H M xs ws->C):C:=(U.lst e).elim λv h=>c v h.1 h.2
def iM(e:vs=[x])(f:x=y):vs=[y]:=by rw[e,f]
end
def up.el{K:Ac}{H:Hp}{Z:SV}{C:Prop}{t:aR}{Q:VK}(h:up K t Z H Q)(c:∀O M R,AS K H M Z O->AM K H M->t O M R->Up K H M R Q->C):C:=by let#[O,M,R,a,b,h,k]:=h;show c O M R a b h k
def kN.el{K:Ac}{H:Hp}{Z:SV}{C:Prop}{t:dR}{Q:Bool->Hp->Prop}(h:kN K t Z H Q)(c:∀O M R,AS K H M Z O->AM K H M->t O M R->(∀b L F,Kp H M L F->AM K L F->R b F->Q b L)->C):C:=by let#[O,M,R,a,b,h,k]:=h;show c O M R a b h k
def pU.el{K:Ac}{H:Hp}{Z:SV}{C:Prop}{t:dO}{Q:↑V->Hp->Prop}(h:pU K t Z H Q)(c:∀O M R,AS K H M Z O->AM K H M->t O M R->(∀vs L ws F,Kp H M L F->AM K L F->aJ K L F vs ws->R ws F->Q vs L)->C):C:=by let#[O,M,R,a,b,h,k]:=h;show c O M R a b h k
def rX.el{K:Ac}{H:Hp}{Z:SV}{C:Prop}{t:aE}{E:lK}(h:rX K t E Z H)(c:∀O M D,AS K H M Z O->AM K H M->t D O M->rW K H M D E->C):C:=by let#[O,M,D,a,b,h,k]:=h;show c O M D a b h k
section
variable {X:Cx}
def PE.weak(h:PE X e t)(k:∀Z H Q,t' Z H Q->t Z H Q):PE X e t':=λaf s Z H Q I q=>h af s Z H Q I<|k Z H Q q
def PT.weak(h:PT X e t)(k:∀Z H Q,t' Z H Q->t Z H Q):PT X e t':=λaf s Z H Q I q=>h af s Z H Q I<|k Z H Q q
def PW.weak(h:PW X e t)(k:∀Z H Q,t' Z H Q->t Z H Q):PW X e t':=λd af s Z H Q I q=>h d af s Z H Q I<|k Z H Q q
def PA.weak(h:PA X es t)(k:∀Z H Q,t' Z H Q->t Z H Q):PA X es t':=λpos af s Z H Q I q=>h pos af s Z H Q I<|k Z H Q q
def PS.weak{st:PySem.Stmt}{t t':TS}(h:PS X st t)(k:∀D Z H,t' D Z H->t D Z H):PS X st t':=λaf s Z H D I q=>h af s Z H D I<|k D Z H q
def fT.weak{st:List PySem.Stmt}{t t':TS}(h:fT X st t)(k:∀D Z H,t' D Z H->t D Z H):fT X st t':=λaf s Z H D I q=>h af s Z H D I<|k D Z H q
def PO.weak(h:PO X e t)(k:∀Z H Q,t' Z H Q->t Z H Q):PO X e t':=λaf s Z H Q I q=>h af s Z H Q I<|k Z H Q q
def iK.weak(h:iK X es t)(k:∀Z H Q,t' Z H Q->t Z H Q):iK X es t':=λaf s Z H Q I q=>h af s Z H Q I<|k Z H Q q
end
abbrev E3(X:Cx)(e:Ck)(t:aR):Prop:=PE X e<|up X.K t
abbrev T3(X:Cx)(e:Ck)(t:dR):Prop:=PT X e<|kN X.K t
abbrev W3(X:Cx)(e:Ck)(t:dR):Prop:=PW X e<|kN X.K t
abbrev A3(X:Cx)(es:↑Ck)(t:dO):Prop:=PA X es<|pU X.K t
def cP(K:Ac)(r:R3):R2:=λx y H Q=>∃n J M R,AM K H M/\AV K H M x n/\AV K H M y J/\r n J M R/\Up K H M R Q
def GA(K:Ac)(r:W->Mm->K3->Prop):V->Hp->VK->Prop:=λx H Q=>∃n M R,AM K H M/\AV K H M x n/\r n M R/\Up K H M R Q
def eS(K:Ac)(r:↑W->Mm->K3->Prop):↑V->Hp->VK->Prop:=λxs H Q=>∃ws M R,AM K H M/\aJ K H M xs ws/\r ws M R/\Up K H M R Q
def jI(K:Ac)(r:W->↑W->Mm->K3->Prop):V->↑V->Hp->VK->Prop:=λx xs H Q=>∃n ws M R,AM K H M/\AV K H M x n/\aJ K H M xs ws/\r n ws M R/\Up K H M R Q
section
variable {X:Cx}{a b c:Ck}{ta tb tc:aR}{pos:Ja}
def so{g:Type}:Option g->(g->Prop)->Prop
 | some a,Q=>Q a
 | none,_=>False
def so.el{g:Type}{o:Option g}{Q:g->Prop}(h:so o Q):∃a,o=-a/\Q a:=by
 ext o
 .show h.elim
 .show#[_,7,h]
def so.of{g:Type}{o:Option g}{a:g}{Q:g->Prop}(e:o=-a)(h:Q a):so o Q:=by subst e;show h
noncomputable abbrev mZ:W->(Bool->Prop)->Prop
 | .bl k,Q=>Q k
 | _,_=>False
def mZ.el{Q:Bool->Prop}(h:mZ w Q):∃k,w=.bl k/\Q k:=by cases w<;>first|exact#[_,7,h]|exact h.elim
abbrev sz:↑W->Prop->Prop
 | [],Q=>Q
 | [_],Q=>Q
 | [_,_],Q=>Q
 | [_,_,_],Q=>Q
 | [_,_,_,_],Q=>Q
 | ws,Q=>↥ws<=Aw/\Q
def sz.el{Q:Prop}(h:sz ws Q):↥ws<=Aw/\Q:=by
 unfold sz at h;split at h
 case h_6=>show h
 all_goals exact#[Am 6 (show 04<=Aw by decide),h]
noncomputable abbrev cG(i:Nat):aR:=λO M R=>match O[i]? with
 | some (-w)=>R w M
 | _=>False
def YM{i:Nat}(h:cG i O M R):∃w,O[i]? = aa (-w)/\R w M:=by
 unfold cG at h;split at h
 .show#[_,‹_›,h]
 .show h.elim
abbrev vC(w:W):aR:=λ_ M R=>R w M
def pV:ab=ab:=rfl
noncomputable def zD(sc:Lm)(x:Av):Bool:=decide<|sc.names.lookup x=-.local\/sc.names.lookup x=-.cell\/sc.names.lookup x=-.free
def YN(h:zD sc x=ab):tV sc x:=by unfold zD at h;let z:=Xv h;show z
noncomputable def oM(X:Cx)(x:Av):Bool:=decide<|(X.env.scope.names.lookup x=-.local\/X.env.scope.names.lookup x=-.cell)/\(Fy X x)
def m9(h:oM X x=ab):Loc X.env.scope x/\(Fy X x):=by unfold oM at h;let z:=Xv h;show z
def v(i:Nat)(a:X.N[i]? = aa x:=by rfl)(c:zD X.env.scope x=ab:=by show pV)(hd:Db x:=by decide)(z:(x==("__classdict__" : Av))=ac:=by decide):E3 X (.Name x pos) (cG i):=(DJ a (YN c) hd z).weak λZ H Q V=>by
 let#[O,M,R,m,U,h,k]:=V;let#[w,e,r]:=YM h;let#[v,T,av]:=m.get e;show#[v,T,k.at U av r]
def YO{i j pos}:E3 X (.Constant (¬i) j pos) (vC ¬i):=P6.weak λZ H Q V=>V.el λO M R m U r k=>k.at U (¬i) r
def YQ{b j pos}:E3 X (.Constant (.bool b) j pos) (vC<|.bl b):=P7.weak λZ H Q V=>V.el λO M R m U r k=>k.at U (.bl b) r
def YR{x j pos}:E3 X (.Constant (.str x) j pos) (vC<|.str x):=P8.weak λZ H Q V=>V.el λO M R m U r k=>k.at U (.str x) r
def rY{x:Av}{y:V}{w:W}{u:Value}{pos:Ja}(hg:Gl X x)(J:X.mg x=-u)(r:RelV y u)(hw:∀H M,AV X.K H M y w)(hd:Db x:=by decide):E3 X (.Name x pos) (vC w):=
 (P9 hg J r hd).weak λZ H Q m=>m.el λO M R C U r k=>k.at U (hw H M) r
def GB{x:Av}{y:V}{w:W}{u:Value}{pos:Ja}(hg:Gl X x)(J:X.mg x=ae)(c:Cy x=-u)(r:RelV y u)(hw:∀H M,AV X.K H M y w)(d:x≠"__name__":=by decide)(hd:Db x:=by decide):E3 X (.Name x pos) (vC w):=
 (QA hg J c r d hd).weak λZ H Q m=>m.el λO M R C U r k=>k.at U (hw H M) r
def YS(S:E3 X a ta):E3 X a (bD ta):=S.weak λZ H Q V=>V.el λO M R m U h k=>#[O,M,_,m,U,h,k.frz]
abbrev aG(r:R3)(ta tb:aR):aR:=λO M R=>ta O M λx I=>tb O I λy v=>r x y v R
abbrev aH:=cG 0
abbrev aM:=cG 1
abbrev aS:=cG 2
abbrev a7:=cG 3
abbrev bC:=cG 04
abbrev cA:=cG 05
abbrev cQ:=cG 06
abbrev cC:=cG 07
abbrev fA:=cG 08
abbrev iN:=cG 09
abbrev uV:=cG 10
abbrev rZ:=cG 11
abbrev zE:=cG 12
abbrev zF:=cG 13
abbrev GC:=cG 14
abbrev GD:=cG 15
abbrev YT:=cG 16
abbrev GF:=cG 17
abbrev GG:=cG 18
abbrev vI(i:Int):=vC<|¬i
abbrev a8:=vI 0
abbrev aX:=vI 1
abbrev lU:=vI 2
abbrev kO:=vI 3
def uW{K:Ac}{r:R3}{Z:SV}{H:Hp}{Q:VK}(h:up K (aG r ta tb) Z H Q):rJ (cP K r) (up K ta) (up K tb) Z H Q:=by
 let#[O,M,R,m,U,h,k]:=h;show#[O,M,_,m,U,h,λx B n I k1 j t L=>#[O,I,_,m.kp U k1,j,L,λy z J v k2 P E Y=>8]];show#[n,J,v,R,P,t.kp j k2,E,Y,(k.kp k1).kp k2]
def YU(f:bF X (Ez op)<|cP X.K r)(S:E3 X a ta)(Z:E3 X b tb):E3 X (.BinOp a op b pos) (aG r ta tb):=(R0 f S Z).weak λ_ _ _ h=>uW h
def YV(ho:bF X (Dq op)<|cP X.K r)(ha:E3 X a ta)(hb:E3 X b tb)(hm:Nz op b=ac:=by first|exact DP _|with_unfolding_all rfl):E3 X (.Compare a [op] [b] pos) (aG r ta tb):=(SX ho ha hb hm).weak λ_ _ _ h=>uW h
abbrev bL(t:aR):dR:=λO M Q=>t O M λw F=>mZ w λk=>Q k F
def AV.bl_inv{K:Ac}{H:Hp}{M:Mm}{v:V}{k:Bool}(h:AV K H M v<|.bl k):v=.bl k:=by ext h;rfl
def YW{op:Xb}{r:R3}(f:bF X (Dq op)<|cP X.K r)(S:E3 X a ta)(W:E3 X b tb)(J:Nz op b=ac:=by first|exact DP _|with_unfolding_all rfl):T3 X (.Compare a [op] [b] pos) (bL<|aG r ta tb):=
 (SY f S W J).weak λZ H Q V=>V.el λO M R m U h k=>uW #[O,M,_,m,U,h,λv L w F Y N av h=>by
  let#[c,rfl,r]:=h.el;show#[c,av.bl_inv,k c L F Y N r]]
abbrev j1(r:W->Mm->K3->Prop)(ta:aR):aR:=λO M R=>ta O M λx I=>r x I R
def YX{op:UnaryOp}{r:W->Mm->K3->Prop}(f:rH X (Xj op)<|GA X.K r)(S:E3 X a ta):E3 X (.UnaryOp op a pos) (j1 r ta):=
 (R1 f S).weak λZ H Q V=>V.el λO M R m U h k=>#[O,M,_,m,U,h,λx B n I k1 j t L=>#[n,I,R,j,t,L,k.kp k1]]
def uX:W->Mm->(Bool->Mm->Prop)->Prop
 | .non,M,Q=>Q ac M
 | .bl b,M,Q=>Q b M
 | .int i,M,Q=>Q (i !=0) M
 | .str y,M,Q=>↥y<=Aw/\Q ((↥y:Int) !=0) M
 | .tup ws,M,Q=>Q (!(ws.isEmpty)) M
 | .rl ws,M,Q=>Q (!(ws.isEmpty)) M
 | .sc ws,M,Q=>Q (!(ws.isEmpty)) M
 | .dk kvs,M,Q=>Q (!(kvs.isEmpty)) M
 | .ref p,M,Q=>(∃ws,M p=-.lst ws/\Q (!(ws.isEmpty)) M)\/∃kvs,M p=-.dK kvs/\Q (!(kvs.isEmpty)) M
 | _,_,_=>False
abbrev dG(t:aR):dR:=λO M Q=>t O M λw F=>uX w F Q
def aJ.empty{K:Ac}{H:Hp}{M:Mm}{vs:↑V}{ws:↑W}(h:aJ K H M vs ws):(!(ws.isEmpty)) = !(vs.isEmpty):=by cases h<;>rfl
def YY(S:E3 X a ta)(P:∀whole,Wj a X.env whole=(do let v <-whole;Ry a.pos;Mc [v]<|truthy v):=by intro _;rfl):T3 X a (dG ta):=
 (S7 S P).weak λZ H Q V=>V.el λO M R m U h k=>#[O,M,_,m,U,h,λv L w F Y N av r=>by
  cases av with
  | non=>show#[ac,7,k _ _ _ Y N r]
  | bl b=>show#[b,7,k _ _ _ Y N r]
  | int i=>show#[_,7,k _ _ _ Y N r]
  | str y=>show#[_,#[r.1,7],k _ _ _ Y N r.2]
  | ty n=>show Br r
  | tup e q=>show#[_,.inr<|.inl #[_,bJ.of e,q.empty],k _ _ _ Y N r]
  | rl e n q=>show#[_,.inl #[_,bO.of e,q.empty],k _ _ _ Y N r]
  | sc e q=>show#[_,.inl #[_,e.sq,q.empty],k _ _ _ Y N r]
  | @dk a ks kvs e n c q=>show#[!(kvs.isEmpty),.inr<|.inr #[_,e,by have:=oJ c q;cases this<;>rfl],k _ _ _ Y N r]
  | dt e n c q=>show Br r
  | fk e c q=>show Br r
  | ft e c q=>show Br r
  | ref p=>
   rcases r with⟨ws,e,r⟩|⟨kvs,e,r⟩
   .let#[vs,T,q]:=N.lst e;show#[_,.inl #[_,bO.of T,q.empty],k _ _ _ Y N r]
   .let#[ks,T,q]:=N _ _ e;show#[!(kvs.isEmpty),.inr<|.inr #[_,T,by cases q<;>rfl],k _ _ _ Y N r]]
abbrev iX(t u:dR):dR:=λO M Q=>t O M λc I=>if c=ab then u O I Q else Q ac I
abbrev oN(t u:dR):dR:=λO M Q=>t O M λc I=>if c=ab then Q ab I else u O I Q
abbrev j6(t:dR):dR:=λO M Q=>t O M λc I=>Q (!(c)) I
variable {tA tB':dR}{rest:↑Ck}
def YZ(S:T3 X a tA):W3 X (.BoolOp .And [a] pos) tA:=QE S
def Y0(S:T3 X a tA):W3 X (.BoolOp .Or [a] pos) tA:=QF S
def Y1(S:T3 X a tA)(W:W3 X (.BoolOp .And (b::rest) pos) tB'):W3 X (.BoolOp .And (a::b::rest) pos) (iX tA tB'):=
 (QG S W).weak λZ H Q V=>V.el λO M R m U h k=>#[O,M,_,m,U,h,λc B I k1 j L=>by
  cases c with
  | true=>show#[O,I,R,m.kp U k1,j,L,λb Y F g N r=>k b Y F (k1.trans g) N r]
  | false=>show k ac B I k1 j L]
def Y2(S:T3 X a tA)(W:W3 X (.BoolOp .Or (b::rest) pos) tB'):W3 X (.BoolOp .Or (a::b::rest) pos) (oN tA tB'):=
 (QH S W).weak λZ H Q V=>V.el λO M R m U h k=>#[O,M,_,m,U,h,λc B I k1 j L=>by
  cases c with
  | true=>show k ab B I k1 j L
  | false=>show#[O,I,R,m.kp U k1,j,L,λb Y F g N r=>k b Y F (k1.trans g) N r]]
def Y3(S:T3 X a tA):T3 X (.UnaryOp .Not a pos) (j6 tA):=
 (QI S).weak λZ H Q V=>V.el λO M R m U h k=>#[O,M,_,m,U,h,λc B I k1 j L=>k (!(c)) B I k1 j L]
abbrev pW(ta tb:aR):aR:=λO M R=>ta O M λx I=>mZ x λc=>if c=ab then tb O I R else R (.bl ac) I
abbrev nB(ta tb:aR):aR:=λO M R=>ta O M λx I=>mZ x λc=>if c=ab then R (.bl ab) I else tb O I R
def Y4{op}(h:E3 X a ta):E3 X (.BoolOp op [a] pos) ta:=QL h
def v_and(S:E3 X a ta)(Y:E3 X (.BoolOp .And (b::rest) pos) tb):E3 X (.BoolOp .And (a::b::rest) pos) (pW ta tb):=
 (QM S Y).weak λZ H Q V=>V.el λO M R m U h k=>#[O,M,_,m,U,h,λx B n I k1 j t h=>by
  let#[c,rfl,L]:=h.el;show#[c,t.bl_inv,8];cases c with
  | true=>show#[O,I,R,m.kp U k1,j,L,k.kp k1]
  | false=>show(k.kp k1).at j (.bl ac) L]
def v_or(S:E3 X a ta)(Y:E3 X (.BoolOp .Or (b::rest) pos) tb):E3 X (.BoolOp .Or (a::b::rest) pos) (nB ta tb):=
 (QN S Y).weak λZ H Q V=>V.el λO M R m U h k=>#[O,M,_,m,U,h,λx B n I k1 j t h=>by
  let#[c,rfl,L]:=h.el;show#[c,t.bl_inv,8];cases c with
  | true=>show(k.kp k1).at j (.bl ab) L
  | false=>show#[O,I,R,m.kp U k1,j,L,k.kp k1]]
abbrev zG(t:dR)(ta tb:aR):aR:=λO M R=>t O M λc I=>if c=ab then ta O I R else tb O I R
def Y5(hc:T3 X c tA)(S:E3 X a ta)(Y:E3 X b tb):E3 X (.IfExp c a b pos) (zG tA ta tb):=
 (QP hc S Y).weak λZ H Q V=>V.el λO M R m U h k=>#[O,M,_,m,U,h,λc B I k1 j L=>by
  cases c with
  | true=>show#[O,I,R,m.kp U k1,j,L,k.kp k1]
  | false=>show#[O,I,R,m.kp U k1,j,L,k.kp k1]]
abbrev aB:dO:=λ_ M R=>R [] M
abbrev aA(ta:aR)(a:dO):dO:=λO M R=>ta O M λx I=>a O I λxs v=>R (x::xs) v
variable {e:Ck}{es:↑Ck}{te:aR}{t:dO}
def r6:A3 X [] aB:=T6.weak λZ H Q V=>V.el λO M R m U h k=>k [] H [] M (Kp.refl U) U .nil h
def pX(S:E3 X e te)(G:A3 X es t)(l:Se X e es:=by rfl):A3 X (e::es) (te^t):=
 (T7 S G l).weak λZ H Q V=>V.el λO M R m U h k=>#[O,M,_,m,U,h,λx B n I k1 j E L=>#[O,I,_,m.kp U k1,j,L,λxs z ws v k2 P N Y=>
  k (x::xs) z (n::ws) v (k1.trans k2) P (.cons (E.kp j k2) N) Y]]
abbrev bA(t:dO):aR:=λO M R=>t O M λws I=>sz ws<|R (.tup ws) I
abbrev fB(t:dO):aR:=λO M R=>t O M λws I=>sz ws<|aO ws I R
def laidT{K:Ac}{H:Hp}{M:Mm}{R:K3}{Q:VK}{p:Ao}{xs:↑V}{ws:↑W}(U:AM K H M)(k:Up K H M R Q)(B:H p=ae)(t:aJ K H M xs ws)(r:R (.tup ws) M):Q (!p) (aK H p<|.tup xs):=by
 let#[P,k2]:=U.tup (u:=.tup xs) B;show k _ _ _ _ k2 P (.tup b8<|t.newT B) r
def gR{K:Ac}{H:Hp}{M:Mm}{R:K3}{Q:VK}{p:Ao}{xs:↑V}{ws:↑W}(U:AM K H M)(k:Up K H M R Q)(B:H p=ae)(t:aJ K H M xs ws)(r:∀p,M p=ae->R (!p) (put M p<|.lst ws)):Q (!p) (aK H p<|.lst xs):=by
 let#[P,k2]:=U.laid (o:=.lst ws) (u:=.lst xs) B #[xs,b8,t.newL B];show k _ _ _ _ k2 P (!p)<|r p<|U.nonM B
def r9{K:Ac}{H:Hp}{M:Mm}{R:K3}{Q:VK}{l:Ao}{xs:↑V}{ws b:↑W}{y:V}{w:W}(U:AM K H M)(k:Up K H M R Q)(hl:M l=-.lst b)(t:aJ K H M xs ws)(E:AV K H M y w)(r:R w<|put M l<|.lst ws):Q y (aK H l<|.lst xs):=by
 let#[P,k2]:=U.write (o:=.lst ws) (u:=.lst xs) hl #[xs,b8,t.wr U hl];show k _ _ _ _ k2 P (E.wr U hl) r
def Y6{x1}(h:A3 X es t):E3 X (.Tuple es x1 pos) (bA t):=
 (UA h).weak λZ H Q V=>V.el λO M R m U h k=>#[O,M,_,m,U,h,λxs g ws I k1 j N r=>#[by rw[↥N];show r.el.1,λp B=>laidT j (k.kp k1) B N r.el.2]]
def Y7(h:A3 X es t):E3 X (.List es pos) (fB t):=
 (DX h).weak λZ H Q V=>V.el λO M R m U h k=>#[O,M,_,m,U,h,λxs g ws I k1 j N r=>#[by rw[↥N];show r.el.1,λp B=>gR j (k.kp k1) B N r.el.2]]
abbrev bG(r:↑W->Mm->K3->Prop)(t:dO):aR:=λO M R=>t O M λws I=>r ws I R
variable {x:Av}{p:Ja}{id T:String}{r:↑W->Mm->K3->Prop}
def GH{K:Ac}{Z:SV}{H:Hp}{Q:VK}(h:up K (bG r t) Z H Q):yN (eS K r) (pU K t) Z H Q:=by
 let#[O,M,R,m,U,h,k]:=h;show#[O,M,_,m,U,h,λxs B ws I k1 j N L=>#[ws,I,R,j,N,L,k.kp k1]]
def pY(hc:cM X (.builtin id)<|eS X.K r)(hg:Gl X x)(J:X.mg x=ae)(c:Cy x=-.builtin id)(S:A3 X (e::es) t)(V:x≠"__name__":=by decide)(o:Db x:=by decide)(l:Se X e es:=by rfl)(y:Sb X pos es:=by rfl):E3 X (.Call (.Name x p) (e::es) [] pos) (bG r t):=(UJ hc hg J c S V o l y).weak λ_ _ _ h=>GH h
def kP(hc:cM X (.type T)<|eS X.K r)(hg:Gl X x)(J:X.mg x=ae)(c:Cy x=-.type T)(S:A3 X (e::es) t)(V:x≠"__name__":=by decide)(o:Db x:=by decide)(l:Se X e es:=by rfl)(y:Sb X pos es:=by rfl):E3 X (.Call (.Name x p) (e::es) [] pos) (bG r t):=(UK hc hg J c S V o l y).weak λ_ _ _ h=>GH h
abbrev aW:=↑W->Mm->K3->Prop
def fJ(K:Ac)(sp:aW):Sp:=λvs H Q _=>∃ws M R,AM K H M/\aJ K H M vs ws/\sp ws M R/\Up K H M R Q
variable {k:Nat}{f:Ao}{fd:Fi}{ps:↑Av}{sp:aW}
abbrev aP(sp:aW)(t:dO):aR:=λO M R=>t O M λws I=>sp ws I R
def GI{K:Ac}{Z:SV}{H:Hp}{Q:VK}(h:up K (aP sp t) Z H Q):DY (fJ K sp) [] E0 (pU K t) Z H Q:=by
 let#[O,M,R,m,U,h,k]:=h;show#[O,M,_,m,U,h,λxs B ws I k1 j N L=>#[ws,I,R,j,by rw[Bv];show N,L,k.kp k1]]
def sA(F:X.f eR k f fd ps<|fJ X.K sp)(G:cT k X.A)(hg:Gl X x)(J:X.mg x=aa !f)(hk:He X.K (!f)=ab)(Z:Binds X.K fd ps [])(S:A3 X (e::es) t)(o:Db x:=by decide)(P:Se X e es:=by rfl)(y:Sb X pos es:=by rfl):
  E3 X (.Call (.Name x p) (e::es) [] pos) (aP sp t):=(UB F G hg J hk Z .nil pN S o P y).weak λ_ _ _ h=>GI h
def j7(T:String):W->Mm->Prop
 | .str _,_=>T = "str"
 | .int _,_=>T = "int"
 | .rl _,_=>T = "list"
 | .sc _,_=>T = "list"
 | .dk _,_=>T = "dict"
 | .dt _,_=>T = "dict"
 | .fk _,_=>T = "dict"
 | .ft _,_=>T = "dict"
 | .ref p,M=>(T = "list"/\∃ws,M p=-.lst ws)\/(T = "dict"/\((∃kvs,M p=-.dK kvs)\/∃kvs,M p=-.dT kvs))
 | _,_=>False
def GJ{K:Ac}{H:Hp}{M:Mm}{v:V}{w:W}(U:AM K H M)(av:AV K H M v w)(h:j7 T w M):uD K T v H:=by
 cases av with
 | str y=>show h
 | int i=>show h
 | rl e n q=>show .inl #[h,_,bO.of e]
 | sc e q=>show .inl #[h,_,e.sq]
 | dk e n c q=>show .inr (.inr<|.inl #[h,.inl #[_,.inl e]])
 | dt e n c q=>show .inr (.inr<|.inl #[h,.inr #[_,.inl e]])
 | ref p=>
  rcases h with⟨e,ws,h⟩|⟨e,h⟩
  .let#[vs,P,_]:=U.lst h;show .inl #[e,vs,bO.of P]
  .show .inr<|.inr<|.inl #[e,8];rcases h with⟨kvs,h⟩|⟨kvs,h⟩
   .let#[ks,P,_]:=U _ _ h;show .inl #[ks,.inl P]
   .let#[ks,P,_]:=U _ _ h;show .inr #[ks,.inl P]
 | non=>show h.elim
 | bl b=>show h.elim
 | ty n=>show h.elim
 | tup e q=>show h.elim
 | fk e c q=>show .inr (.inr<|.inl #[h,.inl #[_,.inr #[_,e]]])
 | ft e c q=>show .inr<|.inr<|.inl #[h,.inr #[_,.inr #[_,e]]]
variable {o:Ck}{to:aR}{name:Av}{apos cpos:Ja}{rm:W->↑W->Mm->K3->Prop}
abbrev kQ(T:String)(r:W->↑W->Mm->K3->Prop)(to:aR):aR:=λO M R=>to O M λx I=>j7 T x I/\r x [] I R
abbrev cJ(T:String)(r:W->↑W->Mm->K3->Prop)(to:aR)(t:dO):aR:=λO M R=>to O M λx I=>j7 T x I/\t O I λxs v=>r x xs v R
def GK(G:Qt T)(slot:Slot T name id)(q:Wg (.builtin id)=pure (.type "method_descriptor"))(J:e9 X id<|jI X.K rm)(f:E3 X o to)(y:Hr o name X.env (Ff o X.env)=Ff o X.env:=by rfl)(b:(apos.endLine==cpos.line)=ab:=by rfl):E3 X (.Call (.Attribute o name apos) [] [] cpos) (kQ T rm to):=
 (EH G slot q J f y b).weak λZ H Q V=>V.el λO M R m U h k=>#[O,M,_,m,U,h,λx B n I k1 j t #[ty,L]=>#[GJ j t ty,n,[],I,R,j,t,.nil,L,k.kp k1]]
def nC(G:Qt T)(slot:Slot T name id)(q:Wg (.builtin id)=pure (.type "method_descriptor"))(J:e9 X id<|jI X.K rm)(f:E3 X o to)(S:A3 X (e::es) t)(y:Hr o name X.env (Ff o X.env)=Ff o X.env:=by rfl)(D:((Og cpos<|Cr (e::es) X.env).all (λx=>!(x.1))&&(Qd cpos<|Ms [] X.env).all (λx=>x.1.isSome)
  &&decide (↥(e::es)+↥([]:↑Si)+(if ([]:↑Si).isEmpty then 0 else 1)<30))=ab:=by rfl)(b:(apos.endLine==cpos.line)=ab:=by rfl)(l:Se X e es:=by rfl)(c:Sb X cpos es:=by rfl):
  E3 X (.Call (.Attribute o name apos) (e::es) [] cpos) (cJ T rm to t):=
 (VO G slot q J f S y D b l c).weak λZ H Q V=>V.el λO M R m U h k=>#[O,M,_,m,U,h,λx B n I k1 j E #[ty,L]=>#[GJ j E ty,O,I,_,m.kp U k1,j,L,λxs z ws v k2 P N Y=>
  #[n,ws,v,R,P,E.kp j k2,N,Y,(k.kp k1).kp k2]]]
end
section
variable {X:Cx}
def nD{f:Value->Value->Uw Value}(Y:bF X f r)(h:∀x y H Q M R,AM X.K H M->Up X.K H M R Q->∀n J,p n J M R->AV X.K H M x n->AV X.K H M y J->r x y H Q):bF X f (cP X.K p):=
 λaf s Z H x y v u Q I B T V=>by let#[n,J,M,R,U,t,E,L,k]:=V;show Y af s Z H x y v u Q I B T<|h x y H Q M R U k n J L t E
def Y8(Y:jD X r)(h:∀x y H Q M R,AM X.K H M->Up X.K H M R Q->∀n J,p n J M R->AV X.K H M x n->AV X.K H M y J->r x y H Q):jD X (cP X.K p):=
 λe b af s Z H x y v u Q I B T V=>by let#[n,J,M,R,U,t,E,L,k]:=V;show Y e b af s Z H x y v u Q I B T<|h x y H Q M R U k n J L t E
def zH{r:↑V->Hp->VK->Prop}{p:↑W->Mm->K3->Prop}(Y:cM X f r)(h:∀xs H Q M R,AM X.K H M->Up X.K H M R Q->∀ws,p ws M R->aJ X.K H M xs ws->r xs H Q):cM X f (eS X.K p):=
 λaf s Z H xs us Q I rs m=>by let#[ws,M,R,U,t,L,k]:=m;show Y af s Z H xs us Q I rs<|h xs H Q M R U k ws L t
abbrev zJ:R3
 | .int i,¬j,M,R=>R (.int<|i+j) M
 | .tup xs,.tup Z,M,R=>xs≠[]/\↥xs+↥Z<=Aw/\R (.tup<|xs++Z) M
 | .ref a,!b,M,R=>∃xs Z,M a=-.lst xs/\M b=-.lst Z/\↥xs+↥Z<=Aw/\aO (xs++Z) M R
 | .rl xs,!b,M,R=>∃Z,M b=-.lst Z/\↥xs+↥Z<=Aw/\aO (xs++Z) M R
 | .ref a,.rl Z,M,R=>∃xs,M a=-.lst xs/\↥xs+↥Z<=Aw/\aO (xs++Z) M R
 | .rl xs,.rl Z,M,R=>↥xs+↥Z<=Aw/\aO (xs++Z) M R
 | _,_,_,_=>False
def lV(M:Mm):W->↑W->Prop
 | .ref a,ws=>M a=-.lst ws
 | .rl ws,A=>ws=A
 | _,_=>False
def nE{K:Ac}{H:Hp}{M:Mm}{v:V}{w:W}{ws:↑W}(U:AM K H M)(h:AV K H M v w)(e:lV M w ws):∃a xs,v=!a/\H a=-.lst xs/\aJ K H M xs ws:=by
 cases w<;>first|exact Br e|skip
 case ref a=>show U.lstE e λxs f q=>#[_,_,h.inv,f,q]
 case rl zs=>show h.rlE λa xs T f q=>#[_,_,T,f,by rw[<-show zs=ws from e];show q]
def Y9{P:W->W->Prop}(I:∀i j,R (.int<|i+j) M->P (¬i) ¬j)(O:∀xs Z,xs≠[]/\↥xs+↥Z<=Aw/\R (.tup<|xs++Z) M->P (.tup xs) (.tup Z))(t:∀x y xs Z,lV M x xs->lV M y Z->↥xs+↥Z<=Aw->aO (xs++Z) M R->P x y):∀x y,zJ x y M R->P x y:=by
 intro x y h;cases x<;>first|exact Br h|(cases y<;>first|exact Br h|skip)
 case int.int=>show I _ _ h
 case tup.tup=>show O _ _ h
 case ref.ref=>let#[xs,Z,e,f,l,r]:=h;show t _ _ _ _ e f l r
 case rl.ref=>let#[Z,f,l,r]:=h;show t _ _ _ _ rfl f l r
 case ref.rl=>let#[xs,e,l,r]:=h;show t _ _ _ _ e rfl l r
 case rl.rl=>show t _ _ _ _ rfl rfl h.1 h.2
def GN:bF X (Ez .Add) (cP X.K zJ):=nD (R5.or<|U0.or VS) λx y H Q M R U k=>Y9
 (λi j h t E=>.inl #[i,j,t.inv,E.inv,k.at U (¬_) h])
 (λxs Z h t E=>t.tupE λa us T F C=>E.tupE λb vs J V O=>.inr (.inl #[a,b,us,vs,T,J,bJ.of F,bJ.of V,
  λz=>h.1<|Gz.mp<|by rw[<-↥C,z];rfl,by rw[↥C,↥O];show h.2.1,
  λz=>k.at U (by rw[<-T];show t)<|by rw[<-Bv xs,<-Gz.mp (show ↥Z=0 by rw[<-↥O,z];rfl)];show h.2.2,
  λ_ p B=>laidT U k B (C.append O) h.2.2]))
 (λn N xs Z L Y l r t E=>.inr (.inr (by
  let#[a,us,T,F,C]:=nE U t L;let#[b,vs,J,V,O]:=nE U E Y;show#[a,b,us,vs,T,J,F,V,by rw[↥C,↥O];show l,λp B=>gR U k B (C.append O) r])))
abbrev pZ(C:Int->Int->Prop)(g:Int->Int->W):R3
 | .int i,¬j,M,R=>C i j/\R (g i j) M
 | _,_,_,_=>False
def ZA{C:Int->Int->Prop}{g:Int->Int->W}{P:W->W->Prop}(c:∀i j,C i j/\R (g i j) M->P (¬i) ¬j)(x y:W)(h:pZ C g x y M R):P x y:=by
 cases x<;>first|exact Br h|(cases y<;>first|exact Br h|exact c _ _ h)
def uY{f:Value->Value->Uw Value}{C:Int->Int->Prop}{g:Int->Int->V}{g':Int->Int->W}(Z:bF X f<|rI C g)(hg:∀H M i j,AV X.K H M (g i j)<|g' i j):bF X f (cP X.K<|pZ C g'):=
 nD Z λx y H Q M R U k=>ZA λi j h t E=>#[i,j,t.inv,E.inv,h.1,k.at U (hg H M i j) h.2]
abbrev nF(g:Int->Int->W):R3
 | .int i,¬j,M,R=>R (g i j) M
 | _,_,_,_=>False
def ZC{g:Int->Int->W}{P:W->W->Prop}(c:∀i j,R (g i j) M->P (¬i) ¬j)(x y:W)(h:nF g x y M R):P x y:=by
 cases x<;>first|exact Br h|(cases y<;>first|exact Br h|exact c _ _ h)
def p5{f:Value->Value->Uw Value}{g:Int->Int->V}{g':Int->Int->W}(Z:bF X f<|kG g)(hg:∀H M i j,AV X.K H M (g i j)<|g' i j):bF X f (cP X.K<|nF g'):=
 nD Z λx y H Q M R U k=>ZC λi j h t E=>#[i,j,t.inv,E.inv,k.at U (hg H M i j) h]
abbrev kR:R3:=nF λi j=>.int<|i-j
def ZD:bF X (Ez .Sub) (cP X.K kR):=p5 R6 λ_ _ _ _=>¬_
abbrev jJ:R3:=pZ E6 λi j=>.int<|i/j
def ZE:bF X (Ez .FloorDiv) (cP X.K jJ):=uY WT λ_ _ _ _=>¬_
abbrev gS:R3:=pZ (λ_ j=>0<j) λi j=>.int<|i % j
def ZF:bF X (Ez .Mod) (cP X.K gS):=uY R8 λ_ _ _ _=>¬_
abbrev iY:R3:=pZ pJ λi j=>.int<|i ^ (j.toNat)
def ZG:bF X (Ez .Pow) (cP X.K iY):=uY R9 λ_ _ _ _=>¬_
abbrev GO:R3:=pZ (λ_ j=>0<=j) λi j=>.int<|i/2 ^ (j.toNat)
def ZH:bF X (Ez .RShift) (cP X.K GO):=uY SA λ_ _ _ _=>¬_
abbrev GP:R3:=nF λi j=>¬Builtin.bitAnd i j
def ZI:bF X (Ez .BitAnd) (cP X.K GP):=p5 SD λ_ _ _ _=>¬_
abbrev GQ:R3
 | .int i,¬j,M,R=>(pK i j\/uK i j)/\R (.int<|i*j) M
 | .ref a,¬n,M,R=>∃xs,M a=-.lst xs/\-(2 ^ 63)<=n/\n<2 ^ 63/\↥xs*n.toNat<=Aw/\aO (Cb n.toNat xs).flatten M R
 | .rl xs,¬n,M,R=>-(2 ^ 63)<=n/\n<2 ^ 63/\↥xs*n.toNat<=Aw/\aO (Cb n.toNat xs).flatten M R
 | _,_,_,_=>False
def ZJ{P:W->W->Prop}(I:∀i j,(pK i j\/uK i j)/\R (.int<|i*j) M->P (¬i) ¬j)(t:∀x n xs,lV M x xs->-(2 ^ 63)<=n/\n<2 ^ 63/\↥xs*n.toNat<=Aw/\aO (Cb n.toNat xs).flatten M R->P x ¬n):∀x y,GQ x y M R->P x y:=by
 intro x y h;cases x<;>first|exact Br h|(cases y<;>first|exact Br h|skip)
 case int.int=>show I _ _ h
 case ref.int=>let#[xs,e,h]:=h;show t _ _ _ e h
 case rl.int=>show t _ _ _ rfl h
def ZK:bF X (Ez .Mult) (cP X.K GQ):=nD (R7.or<|WS.or VW) λx y H Q M R U k=>ZJ
 (λi j h t E=>h.1.elim (λz=>.inl #[i,j,t.inv,E.inv,z,k.at U (¬_) h.2]) λz=>.inr<|.inl #[i,j,t.inv,E.inv,z,k.at U (¬_) h.2])
 (λd n xs L h t E=>.inr (.inr (by
  let#[a,us,T,F,C]:=nE U t L;show#[a,n,us,T,E.inv,F,h.1,h.2.1,by rw[↥C];show h.2.2.1,λp B=>gR U k B (C.flatRep _) h.2.2.2])))
abbrev j8:W->Mm->K3->Prop
 | .int i,M,R=>R (.int<|-(i)) M
 | _,_,_=>False
def ZL:rH X (Xj .USub) (GA X.K j8):=by
 rintro af s Z H x v Q I B ⟨n,M,R,U,t,h,k⟩;cases n<;>first|exact Br h|skip
 case int i=>show SF af s Z H _ v Q I B #[i,t.inv,k.at U (¬_) h]
abbrev lX:R3:=nF λi j=>.bl<|decide<|i<j
def zK:bF X (Dq .Lt) (cP X.K lX):=p5 SM λ_ _ _ _=>.bl _
abbrev zL:R3:=nF λi j=>.bl<|decide<|i<=j
def zM:bF X (Dq .LtE) (cP X.K zL):=p5 SN λ_ _ _ _=>.bl _
abbrev uZ:R3:=nF λi j=>.bl<|decide<|j<i
def GR:bF X (Dq .Gt) (cP X.K uZ):=p5 SO λ_ _ _ _=>.bl _
abbrev zN:R3:=nF λi j=>.bl<|decide<|j<=i
def GS:bF X (Dq .GtE) (cP X.K zN):=p5 SQ λ_ _ _ _=>.bl _
mutual
inductive Snap(M:Mm):W->Pc->Prop
 | non:Snap M .non .none
 | bl (b:Bool):Snap M (.bl b) (.bool b)
 | int (i:Int):Snap M (¬i) (¬i)
 | str (x:Av):Snap M (.str x) (.str x)
 | tup {ws:↑W} {ds:↑Pc}:iZ M ws ds->Snap M (.tup ws) (.tuple ds)
 | rl {ws:↑W} {ds:↑Pc}:iZ M ws ds->Snap M (.rl ws) (.list ds)
 | ref {a:Ao} {ws:↑W} {ds:↑Pc}:M a=-.lst ws->iZ M ws ds->Snap M (!a) (.list ds)
inductive iZ(M:Mm):↑W->↑Pc->Prop
 | nil:iZ M [] []
 | cons {w:W} {ws:↑W} {d:Pc} {ds:↑Pc}:Snap M w d->iZ M ws ds->iZ M (w::ws) (d::ds)
end
section
variable {af:Pn}{Z:SV}{H:Hp}{s:Ai}{M:Mm}
def iZ.reads(I:Inv X af Z H s)(U:AM X.K H M)(h:iZ M ws P):∀{vs:↑V} {us:↑Value},aJ X.K H M vs ws->a6 vs us->∃m,ReadsAll s.heap us P m:=
 iZ.rec (motive_1:=λw d _=>∀{v:V} {u:Value},AV X.K H M v w->RelV v u->∃m,Reads s.heap u d m) (motive_2:=λws P _=>∀{vs:↑V} {us:↑Value},aJ X.K H M vs ws->a6 vs us->∃m,ReadsAll s.heap us P m)
  (λav r=>by rw[show _=_ from av.inv]at r;rw[show _=_ from r];show#[_,.none])
  (λb _ _ av r=>by rw[show _=_ from av.inv]at r;rw[show _=_ from r];show#[_,.bool b])
  (λi _ _ av r=>by rw[show _=_ from av.inv]at r;show r.elim λt r=>by rw[r];show#[_,.int i t])
  (λx _ _ av r=>by rw[show _=_ from av.inv]at r;show r.elim λt r=>by rw[r];show#[_,.str x t])
  (λ_ E _ _ av r=>av.tupE λa xs e f q=>by
   rw[e]at r;rw[show _=_ from r];obtain⟨its,R,⟨o,T,J,n,Y⟩,_⟩:=I.tuple<|bJ.of f;show(E q R).elim λm z=>#[_,.tuple T J Y z⁻¹])
  (λ_ E _ _ av r=>av.rlE λa xs e f q=>by
   rw[e]at r;rw[show _=_ from r];let#[its,R,pl,_]:=I.list<|bO.of f;let#[o,T,J,n,Y]:=pl.isList;show(E q R).elim λm z=>#[_,.list T J Y z⁻¹])
  (λD _ E _ _ av r=>U.lstE D λvs f q=>by
   rw[show _=_ from av.inv]at r;rw[show _=_ from r];let#[its,R,pl,_]:=I.list<|bO.of f;let#[o,T,J,n,Y]:=pl.isList;show(E q R).elim λm z=>#[_,.list T J Y z⁻¹])
  (λav r=>by ext av;ext r;show#[_,.nil])
  (λ_ _ Q A _ _ av r=>by
   cases av with
   | cons a b=>
    cases r with
    | cons F j=>show(Q a F).elim λx C=>(A b j).elim λy O=>#[_,.cons C O]) h
def Snap.reads(I:Inv X af Z H s)(U:AM X.K H M){w:W}{d:Pc}{v:V}{u:Value}(h:Snap M w d)(av:AV X.K H M v w)(r:RelV v u):∃m,Reads s.heap u d m:=
 (iZ.reads I U (.cons h .nil) (.cons av .nil)<|.cons r .nil).elim λ_ z=>by
  cases z with
  | cons q _=>show#[_,q]
end
@[irreducible] def nG(neg:Bool)(x y:W)(M:Mm)(R:K3):Prop:=∃L a,Snap M x L/\Snap M y a/\FJ L/\FJ a/\R (.bl (if neg then !(PyData.eqv L a) else Oa L a)) M
def dH(neg:Bool):R3
 | .int i,¬j,M,R=>R (.bl (if neg then !(decide<|i=j) else decide (i=j))) M
 | .str i,.str j,M,R=>R (.bl (if neg then !(decide<|i=j) else decide (i=j))) M
 | .bl i,.bl j,M,R=>R (.bl (if neg then !(decide<|i=j) else decide (i=j))) M
 | x,y,M,R=>nG neg x y M R
def GU{i j:Int}:decide (V.int i=V.int j)=decide (i=j):=by rw[Ef];simp
def u3:decide (V.str i=V.str j)=decide (i=j):=by rw[Ef];simp
def GV{i j:Bool}:decide (V.bl i=V.bl j)=decide (i=j):=by rw[Ef];simp
def GW{n:Bool}{P:W->W->Prop}(I:∀i j,R (.bl (if n then !(decide<|i=j) else decide (i=j))) M->P (¬i) ¬j)(O:∀i j,R (.bl (if n then !(decide<|i=j) else decide (i=j))) M->P (.str i) (.str j))(t:∀i j,R (.bl (if n then !(decide<|i=j) else decide (i=j))) M->P (.bl i) (.bl j))(l:∀x y,nG n x y M R->P x y)(x y:W)(h:dH n x y M R):P x y:=by
 cases x<;>first|exact l _ _ h|(cases y<;>first|exact I _ _ h|exact O _ _ h|exact t _ _ h|exact l _ _ h)
def sV(e:x=i)(f:y=j)(h:t7 i j=ab):t7 x y=ab:=by rw[e,f];show h
def dV{i j:V}{x y:V}{b:Bool}{Q:Bool->Prop}(e:x=i)(f:y=j)(h:decide (i=j)=b)(q:Q b):Q (decide<|x=y):=by rw[e,f,h];show q
def ZM(D:X.A.units+64<Fs):bF X (Dq .Eq) (cP X.K<|nG ac):=by
 rintro af s Z H x y v u Q I B T ⟨n,J,M,R,U,t,E,h,k⟩;unfold nG at h;let#[L,a,S,Y,fa,z,q]:=h;let#[m,f]:=S.reads I U t B;let#[bs,rb]:=Y.reads I U E T;show SeqAt.compareEq_reads f rb fa.1 z.1 (Er (Hn (Am (Nu _ _)<|Am fa.2 ∅) _) D) #[.bl _,H,I,7,k.at U (.bl _) q]
def ZN(D:X.A.units+64<Fs):bF X (Dq .NotEq) (cP X.K<|nG ab):=by
 rintro af s Z H x y v u Q I B T ⟨n,J,M,R,U,t,E,h,k⟩;unfold nG at h;let#[L,a,S,Y,fa,z,q]:=h;let#[m,f]:=S.reads I U t B;let#[bs,rb]:=Y.reads I U E T;show SeqAt.compareNe_reads f rb fa.1 z.1 (Er (Hn (Am (Nu _ _)<|Am fa.2 ∅) _) D) #[.bl _,H,I,7,k.at U (.bl _) q]
def GX(D:X.A.units+64<Fs):bF X (Dq .Eq) (cP X.K<|dH ac):=nD (SI.or<|ZM D) λx y H Q M R U k=>GW
 (λi j h t E=>.inl #[sV t.inv E.inv rfl,dV (Q:=λb=>Q (.bl b) H) t.inv E.inv GU<|k.at U (.bl _) h])
 (λi j h t E=>.inl #[sV t.inv E.inv rfl,dV (Q:=λb=>Q (.bl b) H) t.inv E.inv u3<|k.at U (.bl _) h])
 (λi j h t E=>.inl #[sV t.inv E.inv rfl,dV (Q:=λb=>Q (.bl b) H) t.inv E.inv GV<|k.at U (.bl _) h])
 (λn J h t E=>.inr #[n,J,M,R,U,t,E,h,k])
def GY(D:X.A.units+64<Fs):bF X (Dq .NotEq) (cP X.K<|dH ab):=nD (SJ.or<|ZN D) λx y H Q M R U k=>GW
 (λi j h t E=>.inl #[sV t.inv E.inv rfl,dV (Q:=λb=>Q (.bl !(b)) H) t.inv E.inv GU<|k.at U (.bl _) h])
 (λi j h t E=>.inl #[sV t.inv E.inv rfl,dV (Q:=λb=>Q (.bl !(b)) H) t.inv E.inv u3<|k.at U (.bl _) h])
 (λi j h t E=>.inl #[sV t.inv E.inv rfl,dV (Q:=λb=>Q (.bl !(b)) H) t.inv E.inv GV<|k.at U (.bl _) h])
 (λn J h t E=>.inr #[n,J,M,R,U,t,E,h,k])
noncomputable def wK:aC->W
 | .inl i=>¬i
 | .inr x=>.str x
noncomputable def aN{U:Type}[DecidableEq U](kvs:↑(U×W))(k:U):Option W:=(kvs.find? λg=>decide<|g.1=k).map (·.2)
noncomputable def bU{U:Type}[DecidableEq U](kvs:↑(U×W))(k:U)(v:W):↑(U×W):=
 if (kvs.any λg=>decide<|g.1=k)=ab then kvs.map (λg=>if g.1=k then(g.1,v) else g) else kvs++[(k,v)]
def AV.key{K:Ac}{H:Hp}{M:Mm}{v:V}{k:aC}(h:AV K H M v<|wK k):v=kV k:=by
 cases k<;>exact h.inv
theorem aJ.keys{K:Ac}{H:Hp}{M:Mm}:∀{vs:↑V} {k:↑aC},aJ K H M vs (k.map wK)->vs=k.map kV
 | _,[],h=>by ext h;rfl
 | _,a::r,h=>by
  cases h with
  | cons x y=>rw[x.key,aJ.keys y];rfl
section
variable {U:Type}[DecidableEq U]{K:Ac}{H:Hp}{M:Mm}
def u5(h:bT K H M U ks kvs)(k:U):(aN kvs k=ae/\fY ks k=ae)\/∃v w,aN kvs k=-w/\fY ks k=-v/\AV K H M v w:=by
 induction h with
 | nil=>show .inl #[7,7]
 | @cons p q ps qs r t E=>
  by_cases e:p.1=k
  .show .inr #[p.2,q.2,8,8,r.2]
   .unfold aN;rw[De,Xw<|by rw[<-r.1];show e];rfl
   .show uE e
  .let J:¬(q.1=k):=by rw[<-r.1];show e
   let l:aN (q::qs) k=aN qs k:=by ext aN;rw[De,Xx J]
   rw[l,uF e];show E
def ZO(h:bT K H M U ks kvs)(k:U):(ks.any λg=>decide<|g.1=k)=(kvs.any λg=>decide<|g.1=k):=by
 induction h with
 | nil=>rfl
 | cons r t E=>rw[Fx,Fx,E,r.1]
def ZP{ks:↑(U×V)}{kvs:↑(U×W)}{v:V}{w:W}{k:U}(av:AV K H M v w)(h:bT K H M U ks kvs):bT K H M U (ks.map λg=>if g.1=k then(g.1,v) else g) (kvs.map λg=>if g.1=k then(g.1,w) else g):=by
 induction h with
 | nil=>show .nil
 | @cons p q ps qs r t E=>
  rw[Be,Be];show .cons 8 E
  by_cases e:p.1=k
  .rw[Xu e,Xu<|by rw[<-r.1];show e];show#[r.1,av]
  .rw[Xs e,Xs<|by rw[<-r.1];show e];show r
theorem ZQ{ks:↑(U×V)}{kvs:↑(U×W)}{v:V}{w:W}{k:U}(av:AV K H M v w)(h:bT K H M U ks kvs):bT K H M U (ks++[(k,v)]) (kvs++[(k,w)]):=by
 induction h with
 | nil=>show .cons #[7,av] .nil
 | cons r t E=>show .cons r E
def u6{ks:↑(U×V)}{kvs:↑(U×W)}{v:V}{w:W}(h:bT K H M U ks kvs)(k:U)(av:AV K H M v w):bT K H M U (d6 ks k v) (bU kvs k w):=by
 unfold d6 bU;rw[ZO h k];split
 .show ZP av h
 .show ZQ av h
end
def eX(M:Mm):W->W->Option W->Prop
 | .ref a,y,o=>(∃kvs k,M a=-.dK kvs/\y=wK k/\o=aN kvs k)\/∃kvs k,M a=-.dT kvs/\y=.tup (k.map wK)/\o=aN kvs k
 | .dk kvs,y,o=>∃k,y=wK k/\o=aN kvs k
 | .dt kvs,y,o=>∃k,y=.tup (k.map wK)/\o=aN kvs k
 | .fk kvs,y,o=>∃k,y=wK k/\o=aN kvs k
 | .ft kvs,y,o=>∃k,y=.tup (k.map wK)/\o=aN kvs k
 | _,_,_=>False
def zP{K:Ac}{H:Hp}{M:Mm}{a:Ao}{y:V}{k:aC}{ks:↑(aC×V)}{kvs:↑(aC×W)}(T:Rd H a<|.dK ks)(q:bT K H M aC ks kvs)(E:AV K H M y<|wK k):(aN kvs k=ae/\hV H a y ae)\/∃v w,aN kvs k=-w/\hV H a y (-v)/\AV K H M v w:=by
 rw[E.key];rcases u5 q k with⟨u,c⟩|⟨v,w,u,c,av⟩
 .show .inl #[u,by rw[<-c];show .inl #[_,_,T,7,7]]
 .show .inr #[v,w,u,by rw[<-c];show .inl #[_,_,T,7,7],av]
def zQ{K:Ac}{H:Hp}{M:Mm}{a:Ao}{y:V}{k:↑aC}{ks:↑(↑aC×V)}{kvs:↑(↑aC×W)}(T:Rd H a<|.dT ks)(q:bT K H M (↑aC) ks kvs)(E:AV K H M y<|.tup<|k.map wK):(aN kvs k=ae/\hV H a y ae)\/∃v w,aN kvs k=-w/\hV H a y (-v)/\AV K H M v w:=
 E.tupE λb xs e P g=>by
  rw[g.keys]at P;rcases u5 q k with⟨u,c⟩|⟨v,w,u,c,av⟩
  .show .inl #[u,by rw[<-c];show .inr #[_,_,_,T,e,P,7]]
  .show .inr #[v,w,u,by rw[<-c];show .inr #[_,_,_,T,e,P,7],av]
def u7{K:Ac}{H:Hp}{M:Mm}{x y:V}{n J:W}{o:Option W}(U:AM K H M)(t:AV K H M x n)(E:AV K H M y J)(h:eX M n J o):∃a,x=!a/\((o=ae/\hV H a y ae)\/∃v w,o=-w/\hV H a y (-v)/\AV K H M v w):=by
 cases n<;>first|exact Br h|skip
 case ref a=>
  rcases h with⟨kvs,k,e,rfl,rfl⟩|⟨kvs,k,e,rfl,rfl⟩
  .let#[ks,T,q]:=U _ _ e;show#[a,t.inv,zP (.inl T) q E]
  .let#[ks,T,q]:=U _ _ e;show#[a,t.inv,zQ (.inl T) q E]
 all_goals
  let#[k,rfl,rfl]:=h;let t:=t.inv
 case dk=>let#[a,ks,e,f,_,q]:=t;show#[a,e,zP (.inl f) q E]
 case dt=>let#[a,ks,e,f,_,q]:=t;show#[a,e,zQ (.inl f) q E]
 case fk=>let#[a,ks,e,f,q]:=t;show#[a,e,zP (.inr f) q E]
 case ft=>let#[a,ks,e,f,q]:=t;show#[a,e,zQ (.inr f) q E]
@[irreducible] def nH(a:Ao)(y:W)(M:Mm)(R:K3):Prop:=(∃i ws w,y=¬i/\M a=-.lst ws/\bP ws i=-w/\R w M)\/∃w,eX M (!a) y (-w)/\R w M
def lY{i:Int}(h:M a=-.lst ws)(e:bP ws i=-w)(r:R w M):nH a (¬i) M R:=by ext nH;show .inl #[i,ws,w,7,h,e,r]
def GZ(h:eX M (!a) y<|-w)(r:R w M):nH a y M R:=by ext nH;show .inr #[w,h,r]
noncomputable abbrev p6:R3
 | .tup ws,¬i,M,R=>so (bP ws i) λw=>R w M
 | .rl ws,¬i,M,R=>so (bP ws i) λw=>R w M
 | .sc ws,¬i,M,R=>so (bP ws i) λw=>R w M
 | .dk kvs,y,M,R=>∃w,eX M (.dk kvs) y (-w)/\R w M
 | .dt kvs,y,M,R=>∃w,eX M (.dt kvs) y (-w)/\R w M
 | .fk kvs,y,M,R=>∃w,eX M (.fk kvs) y (-w)/\R w M
 | .ft kvs,y,M,R=>∃w,eX M (.ft kvs) y (-w)/\R w M
 | .str z,¬i,M,R=>↥z<=Aw/\so (bP z.cps.toList i) λc=>R (.str #[[c].toArray]) M
 | .ref a,y,M,R=>nH a y M R
 | _,_,_,_=>False
abbrev vX:=aG p6
def zR{K:Ac}{H:Hp}{M:Mm}{vs:↑V}{ws:↑W}{i:Int}{w:W}(q:aJ K H M vs ws)(h:bP ws i=-w):∃v,bP vs i=-v/\AV K H M v w:=by
 unfold bP at h⊢;rw[↥q];cases e:gQ ↥ws i with
 | none=>rw[e]at h;ext h
 | some j=>
  rw[e]at h;show q.getW (i:=j) h
def ZR(D:X.A.units+1<Fs):jD X (λx y H Q=>∃a v,x=!a/\hV H a y (-v)/\Q v H):=by
 intro e b af s Z H x y v u Q I B T h l;let#[a,z,rfl,g,q]:=h;ext B;show tail_any (V3 I g) PySem.F.slot_dict_getitem.lookup (VY D I g T λL j w d=>#[z,H,w,d,q]) l
def ZS{P:W->W->Prop}(I:∀ws i w,bP ws i=-w->R w M->P (.tup ws) ¬i)(O:∀ws i w,bP ws i=-w->R w M->P (.sc ws) ¬i)(t:∀x ws i w,lV M x ws->bP ws i=-w->R w M->P x ¬i)(l:∀z i,↥z<=Aw/\(so (bP z.cps.toList i) λc=>R (.str #[[c].toArray]) M)->P (.str z) ¬i)(j:∀x y w,eX M x y (-w)->R w M->P x y)(x y:W)(h:p6 x y M R):P x y:=by
 ext x
 case non|bl|int|ty=>show Br h
 case dk|dt|fk|ft=>show h.elim λw h=>j _ _ _ h.1 h.2
 case ref a=>
  let h:nH a y M R:=h;unfold nH at h;show h.elim (λV=>by let#[i,ws,w,C,e,J,r]:=V;rw[C];show t _ _ _ _ e J r) λA=>by let#[w,e,r]:=A;show j _ _ _ e r
 all_goals cases y<;>first|exact Br h|skip
 case tup.int=>let#[w,e,r]:=so.el h;show I _ _ _ e r
 case sc.int=>let#[w,e,r]:=so.el h;show O _ _ _ e r
 case rl.int=>let#[w,e,r]:=so.el h;show t _ _ _ _ rfl e r
 case str.int=>show l _ _ h
def ZT(D:X.A.units+1<Fs):jD X (cP X.K p6):=Y8 (U5.or<|U6.or<|U7.or<|ZR D) λx y H Q M R U k=>ZS
 (λws i w h r t E=>t.tupE λa xs e f q=>let #[z,e3,av]:=zR q h;.inr<|.inl #[a,xs,i,z,e,E.inv,bJ.of f,e3,k.at U av r])
 (λws i w h r t E=>t.scE λa xs e f q=>let #[z,e3,av]:=zR q h;.inl #[a,xs,i,z,e,E.inv,f.sq,e3,k.at U av r])
 (λn ws i w L h r t E=>let #[a,xs,e,f,q]:=nE U t L;let #[z,e3,av]:=zR q h;.inl #[a,xs,i,z,e,E.inv,bO.of f,e3,k.at U av r])
 (λz i h t E=>let #[c,e,r]:=so.el h.2;.inr<|.inr<|.inl #[z,i,c,t.inv,E.inv,h.1,e,k.at U (.str _) r])
 (λn J w g r t E=>.inr (.inr (.inr (by
  let#[a,e,g]:=u7 U t E g;rcases g with⟨z,_⟩|⟨z,Y,O,g',av⟩
  .ext z
  .show#[a,z,e,g',k.at U av<|by rw[<-Cm O];show r]))))
variable {a b:Ck}{ta tb:aR}{pos:Ja}
def ZU(D:X.A.units+1<Fs)(S:E3 X a ta)(Z:E3 X b tb)(l:EC b:=by show λ_ _=>rfl):E3 X (.Subscript a b pos) (aG p6 ta tb):=(U1 (ZT D) S Z l).weak λ_ _ _ h=>uW h
noncomputable def dJ(ws:↑W)(lo hi:Option Int):↑W:=(ws.drop<|HT.sIx ↥ws 0 lo).take<|HT.sIx ↥ws ↥ws hi-HT.sIx ↥ws 0 lo
abbrev G0:W->Option Int->Option Int->Mm->K3->Prop
 | .rl ws,lo,hi,M,R=>aO (dJ ws lo hi) M R
 | .sc ws,lo,hi,M,R=>aO (dJ ws lo hi) M R
 | .ref a,lo,hi,M,R=>∃ws,M a=-.lst ws/\aO (dJ ws lo hi) M R
 | .tup ws,lo,hi,M,R=>¬(HT.sIx ↥ws 0 lo=0/\HT.sIx ↥ws ↥ws hi=↥ws)/\R (.tup<|dJ ws lo hi) M
 | _,_,_,_,_=>False
def u9{K:Ac}{H:Hp}{M:Mm}{vs:↑V}{ws:↑W}{lo hi:Option Int}(q:aJ K H M vs ws):aJ K H M (mU vs lo hi) (dJ ws lo hi):=by
 unfold mU dJ;rw[↥q];show(q.drop _).take _
def ZV(K:Ac)(r:W->Option Int->Option Int->Mm->K3->Prop):V->Option Int->Option Int->Hp->VK->Prop:=λx lo hi H Q=>∃n M R,AM K H M/\AV K H M x n/\r n lo hi M R/\Up K H M R Q
def ZW:uB X (ZV X.K G0):=by
 rintro af s Z H x v y c lo hi sl Q I d l pl J ⟨n,M,R,U,t,h,k⟩;cases n<;>first|exact Br h|skip
 case tup ws=>show t.tupE λa xs e f q=>UY af s Z H _ v y c lo hi sl Q I d l pl J #[a,xs,e,bJ.of f,by rw[↥q];show h.1,λp B=>laidT U k B (u9 q) h.2]
 case sc ws=>show t.scE λa xs e f q=>yQ af s Z H _ v y c lo hi sl Q I d l pl J #[a,xs,e,f.sq,λp B=>gR U k B (u9 q) h]
 case rl ws=>show t.rlE λa xs e f q=>yQ af s Z H _ v y c lo hi sl Q I d l pl J #[a,xs,e,bO.of f,λp B=>gR U k B (u9 q) h]
 case ref a=>
  let#[ws,e,r]:=h;show U.lstE e λvs f q=>yQ af s Z H _ v y c lo hi sl Q I d l pl J #[a,vs,t.inv,bO.of f,λp B=>gR U k B (u9 q) r]
abbrev p7:=S3->Mm->(Option Int->Mm->Prop)->Prop
def p9(K:Ac)(t:p7):TO:=λZ H Q=>∃(O:S3) (M:Mm) (R:Option Int->Mm->Prop),AS K H M Z O/\AM K H M/\t O M R/\∀o L F,Kp H M L F->AM K L F->R o F->Q o L
def p9.el{K:Ac}{H:Hp}{Z:SV}{C:Prop}{t:p7}{Q:Option Int->Hp->Prop}(h:p9 K t Z H Q)(c:∀O M R,AS K H M Z O->AM K H M->t O M R->(∀o L F,Kp H M L F->AM K L F->R o F->Q o L)->C):C:=by let#[O,M,R,a,b,h,k]:=h;show c O M R a b h k
abbrev vA:p7:=λ_ M Q=>Q ae M
abbrev zS:W->(Int->Prop)->Prop
 | .int i,Q=>Q i
 | _,_=>False
def zS.el{Q:Int->Prop}(h:zS w Q):∃i,w=¬i/\Q i:=by cases w<;>first|exact#[_,7,h]|exact h.elim
abbrev iO(t:aR):p7:=λO M Q=>t O M λx I=>zS x λi=>Q (-i) I
def ZX:PO X ae (p9 X.K vA):=US.weak λZ H Q V=>V.el λO M R m U h k=>k ae H M (Kp.refl U) U h
def ZY(h:E3 X a ta):PO X (-a) (p9 X.K<|iO ta):=(UT h).weak λZ H Q V=>V.el λO M R m U h k=>#[O,M,_,m,U,h,λx B n I k1 j t h=>by
 let#[i,e,L]:=h.el;subst e;show#[i,t.inv,k _ _ _ k1 j L]]
noncomputable def fL:W->Bool
 | .non=>ab
 | .bl _=>ab
 | .int _=>ab
 | .str _=>ab
 | _=>ac
noncomputable def zT:W->W->Bool
 | .non,.non=>ab
 | .bl a,.bl b=>a==b
 | .bl a,¬b=>(if a then 1 else 0)==b
 | .int a,.bl b=>a==(if b then 1 else 0)
 | .int a,¬b=>a==b
 | .str a,.str b=>a==b
 | _,_=>ac
noncomputable def inW(x:W)(ws:↑W):Bool:=ws.any λy=>zT y x
def AV.flat{K:Ac}{H:Hp}{M:Mm}{v:V}{w:W}(h:AV K H M v w)(f:fL w=ab):kJ v=ab:=by cases h<;>first|rfl|exact f
noncomputable def zU:W->V
 | .non=>.non
 | .bl b=>.bl b
 | .int i=>¬i
 | .str x=>.str x
 | _=>.non
def AV.flv{K:Ac}{H:Hp}{M:Mm}{v:V}{w:W}(h:AV K H M v w)(f:fL w=ab):v=zU w:=by
 cases w<;>first|exact h.inv|exact absurd f Bb
def ZZ:∀{w z:W},fL w=ab->fL z=ab->kK (zU w) (zU z)=zT w z:=by
 intro w z f g;cases w<;>first|exact absurd f Bb|(cases z<;>first|rfl|exact absurd g Bb)
def AV.eq{K:Ac}{H:Hp}{M:Mm}{v u:V}{w z:W}(h:AV K H M v w)(Y:AV K H M u z)(f:fL w=ab)(y:fL z=ab):kK v u=zT w z:=by
 rw[h.flv f,Y.flv y];show ZZ f y
theorem aJ.inn{K:Ac}{H:Hp}{M:Mm}{u:V}{z:W}(hz:AV K H M u z)(a:fL z=ab):∀{vs:↑V} {ws:↑W},aJ K H M vs ws->ws.all fL=ab->vs.all kJ=ab/\inV u vs=inW z ws
 | _,_,.nil,_=>#[7,7]
 | _,_,.cons x r,f=>by
  rw[Lf,Dg]at f;let#[L,Y]:=aJ.inn hz a r f.2;show#[by rw[Lf,x.flat f.1,L];rfl,8];unfold inV inW at Y⊢;rw[Fx,Fx,Y,x.eq hz f.1 a]
noncomputable def occ(i j:Av):Bool:=!((Kr j i 0 ↥j 1).isEmpty)
noncomputable abbrev bZ(neg:Bool):R3
 | .str i,.str j,M,R=>R (.bl (if neg then !(occ i j) else occ i j)) M
 | x,.tup ws,M,R=>fL x=ab/\ws.all fL=ab/\R (.bl (if neg then !(inW x ws) else inW x ws)) M
 | x,.rl ws,M,R=>fL x=ab/\ws.all fL=ab/\R (.bl (if neg then !(inW x ws) else inW x ws)) M
 | x,!a,M,R=>(∃ws,M a=-.lst ws/\fL x=ab/\ws.all fL=ab/\R (.bl (if neg then !(inW x ws) else inW x ws)) M)\/∃o,eX M (!a) x o/\R (.bl (if neg then !(o.isSome) else o.isSome)) M
 | x,.dk kvs,M,R=>∃o,eX M (.dk kvs) x o/\R (.bl (if neg then !(o.isSome) else o.isSome)) M
 | x,.dt kvs,M,R=>∃o,eX M (.dt kvs) x o/\R (.bl (if neg then !(o.isSome) else o.isSome)) M
 | x,.fk kvs,M,R=>∃o,eX M (.fk kvs) x o/\R (.bl (if neg then !(o.isSome) else o.isSome)) M
 | x,.ft kvs,M,R=>∃o,eX M (.ft kvs) x o/\R (.bl (if neg then !(o.isSome) else o.isSome)) M
 | _,_,_,_=>False
def G1(M:Mm):W->↑W->Prop
 | .tup ws,A=>ws=A
 | x,ws=>lV M x ws
def G2{K:Ac}{H:Hp}{M:Mm}{v:V}{w:W}{ws:↑W}(U:AM K H M)(h:AV K H M v w)(e:G1 M w ws):∃a xs,v=!a/\(bO K H a xs\/bJ K H a xs)/\aJ K H M xs ws:=by
 ext w
 case tup zs=>show h.tupE λa xs T f q=>#[_,_,T,.inr<|bJ.of f,by rw[<-show zs=ws from e];show q]
 case ref|rl=>let#[a,xs,T,f,q]:=nE U h e;show#[a,xs,T,.inl<|bO.of f,q]
 all_goals exact Br e
def G3{n:Bool}{P:W->W->Prop}(I:∀i j,R (.bl (if n then !(occ i j) else occ i j)) M->P (.str i) (.str j))(O:∀x y ws,G1 M y ws->fL x=ab/\ws.all fL=ab/\R (.bl (if n then !(inW x ws) else inW x ws)) M->P x y)(t:∀x y o,eX M y x o->R (.bl (if n then !(o.isSome) else o.isSome)) M->P x y)(x y:W)(h:bZ n x y M R):P x y:=by
 ext y
 case non|bl|int|ty|sc=>exfalso;cases x<;>exact h
 case str=>cases x<;>first|exact Br h|exact I _ _ h
 case tup=>show O _ _ _ rfl (by cases x<;>exact h)
 case rl=>show O _ _ _ rfl (by cases x<;>exact h)
 case ref a=>
  let h:(∃ws,M a=-.lst ws/\fL x=ab/\ws.all fL=ab/\R (.bl (if n then !(inW x ws) else inW x ws)) M)\/∃o,eX M (!a) x o/\R (.bl (if n then !(o.isSome) else o.isSome)) M:=by cases x<;>exact h
  show h.elim (λV=>by let#[ws,e,h]:=V;show O _ _ _ e h) λA=>by let#[o,g,r]:=A;show t _ _ _ g r
 case dk kvs=>let h:∃o,eX M (.dk kvs) x o/\R (.bl (if n then !(o.isSome) else o.isSome)) M:=(by cases x<;>exact h);show h.elim λo h=>t _ _ _ h.1 h.2
 case dt kvs=>let h:∃o,eX M (.dt kvs) x o/\R (.bl (if n then !(o.isSome) else o.isSome)) M:=(by cases x<;>exact h);show h.elim λo h=>t _ _ _ h.1 h.2
 case fk kvs=>let h:∃o,eX M (.fk kvs) x o/\R (.bl (if n then !(o.isSome) else o.isSome)) M:=(by cases x<;>exact h);show h.elim λo h=>t _ _ _ h.1 h.2
 case ft kvs=>let h:∃o,eX M (.ft kvs) x o/\R (.bl (if n then !(o.isSome) else o.isSome)) M:=(by cases x<;>exact h);show h.elim λo h=>t _ _ _ h.1 h.2
def G4(n:Bool):R2:=λx y H Q=>∃a o,y=!a/\hV H a x o/\Q (.bl (if n then !(o.isSome) else o.isSome)) H
def Z0(D:X.A.units+1<Fs):bF X (Dq .In) (G4 ac):=by
 rintro af s Z H x y v u Q I B T ⟨a,o,rfl,g,q⟩;ext T;show VZ D I g B λj w=>#[.bl _,H,w,7,q]
def Z1(D:X.A.units+1<Fs):bF X (Dq .NotIn) (G4 ab):=by
 rintro af s Z H x y v u Q I B T ⟨a,o,rfl,g,q⟩;ext T;show V0 D I g B λj w=>#[.bl _,H,w,7,q]
def G5{K:Ac}{H:Hp}{M:Mm}{x y:V}{n J:W}{o:Option W}(U:AM K H M)(t:AV K H M x n)(E:AV K H M y J)(h:eX M n J o):∃a D,x=!a/\hV H a y D/\D.isSome=o.isSome:=by
 obtain⟨a,e,⟨rfl,g⟩|⟨v,w,rfl,g,_⟩⟩:=u7 U t E h
 .show#[a,_,e,g,7]
 .show#[a,_,e,g,7]
def G6(D:X.A.units+1<Fs):bF X (Dq .In) (cP X.K<|bZ ac):=nD (SU.or<|VF.or<|Z0 D) λx y H Q M R U k=>G3
 (λi j h t E=>.inl #[i,j,t.inv,E.inv,k.at U (.bl _) h])
 (λn J ws e h t E=>let #[a,xs,e1,f,q]:=G2 U E e;.inr<|.inl #[a,xs,e1,f,t.flat h.1,(aJ.inn t h.1 q h.2.1).1,by rw[(aJ.inn t h.1 q h.2.1).2];show k.at U (.bl _) h.2.2])
 (λn J o g r t E=>let #[a,o',e,g,z]:=G5 U E t g;.inr<|.inr #[a,o',e,g,by rw[z];show k.at U (.bl _) r])
def G7(D:X.A.units+1<Fs):bF X (Dq .NotIn) (cP X.K<|bZ ab):=nD (SW.or<|VG.or<|Z1 D) λx y H Q M R U k=>G3
 (λi j h t E=>.inl #[i,j,t.inv,E.inv,k.at U (.bl _) h])
 (λn J ws e h t E=>let #[a,xs,e1,f,q]:=G2 U E e;.inr<|.inl #[a,xs,e1,f,t.flat h.1,(aJ.inn t h.1 q h.2.1).1,by rw[(aJ.inn t h.1 q h.2.1).2];show k.at U (.bl _) h.2.2])
 (λn J o g r t E=>let #[a,o',e,g,z]:=G5 U E t g;.inr<|.inr #[a,o',e,g,by rw[z];show k.at U (.bl _) r])
abbrev cD:↑W->Mm->K3->Prop
 | [.tup ws],M,R=>R (¬↥ws) M
 | [.rl ws],M,R=>R (¬↥ws) M
 | [.sc ws],M,R=>R (¬↥ws) M
 | [.dk kvs],M,R=>R (¬↥kvs) M
 | [.str z],M,R=>↥z<=Aw/\R (¬↥z) M
 | [!a],M,R=>(∃ws,M a=-.lst ws/\R (¬↥ws) M)\/∃kvs,M a=-.dK kvs/\R (¬↥kvs) M
 | _,_,_=>False
def Z2{P:↑W->Prop}(I:∀ws,R (¬↥ws) M->P [.tup ws])(O:∀ws,R (¬↥ws) M->P [.sc ws])(t:∀x ws,lV M x ws->R (¬↥ws) M->P [x])(m:∀z,↥z<=Aw/\R (¬↥z) M->P [.str z])(j:∀kvs,R (¬↥kvs) M->P [.dk kvs])(q:∀a kvs,M a=-.dK kvs->R (¬↥kvs) M->P [!a])(l:↑W)(h:cD l M R):P l:=by
 match l,h with
 | [.tup _],h=>show I _ h
 | [.rl _],h=>show t _ _ rfl h
 | [.sc _],h=>show O _ h
 | [.dk _],h=>show j _ h
 | [.str _],h=>show m _ h
 | [!_],h=>show h.elim (λV=>by let#[ws,e,r]:=V;show t _ _ e r) λA=>by let#[ws,e,r]:=A;show q _ _ e r
def Z3:cM X (.builtin "len") (eS X.K cD):=zH (VH.or<|VI.or WH) λxs H Q M R U k=>Z2
 (λws h t=>t.oneE λv T av=>av.tupE λa us e f q=>.inl #[_,_,iM T e,.inr<|bJ.of f,by rw[↥q];show k.at U (¬_) h])
 (λws h t=>t.oneE λv T av=>av.scE λa us e f q=>.inl #[_,_,iM T e,.inl f.sq,by rw[↥q];show k.at U (¬_) h])
 (λx ws C h t=>t.oneE λv T av=>let #[a,us,e,f,q]:=nE U av C;.inl #[_,_,iM T e,.inl<|bO.of f,by rw[↥q];show k.at U (¬_) h])
 (λz h t=>t.oneE λv T av=>.inr<|.inl #[z,iM T av.inv,h.1,k.at U (¬_) h.2])
 (λkvs h t=>t.oneE λv T av=>let #[a,ks,e,f,_,q]:=av.inv;.inr<|.inr #[a,ks,iM T e,f,by rw[Cv q];show k.at U (¬_) h])
 (λa kvs C h t=>t.oneE λv T av=>let #[ks,f,q]:=U _ _ C;.inr<|.inr #[a,ks,iM T av.inv,f,by rw[Cv q];show k.at U (¬_) h])
def vB:↑W->Mm->K3->Prop
 | [.tup ws],M,R=>aO ws M R
 | [.rl ws],M,R=>aO ws M R
 | [.sc ws],M,R=>aO ws M R
 | [.dk kvs],M,R=>aO (kvs.map λg=>wK g.1) M R
 | [!a],M,R=>(∃ws,M a=-.lst ws/\aO ws M R)\/∃kvs,M a=-.dK kvs/\aO (kvs.map λg=>wK g.1) M R
 | _,_,_=>False
def G8{K:Ac}{H:Hp}{M:Mm}{ks:↑(aC×V)}{kvs:↑(aC×W)}(h:bT K H M aC ks kvs):aJ K H M (ks.map λg=>kV g.1) (kvs.map λg=>wK g.1):=by
 induction h with
 | nil=>show .nil
 | @cons p q ps qs r t E=>
  show .cons 8 E;change AV K H M (kV p.1)<|wK q.1;rw[r.1];cases q.1 with
  | inl i=>show ¬i
  | inr x=>show .str x
def Z4{P:↑W->Prop}(I:∀ws,aO ws M R->P [.tup ws])(O:∀ws,aO ws M R->P [.sc ws])(t:∀x ws,lV M x ws->aO ws M R->P [x])(j:∀kvs:↑(aC×W),aO (kvs.map λg=>wK g.1) M R->P [.dk kvs])(q:∀a kvs,M a=-.dK kvs->aO (kvs.map λg=>wK g.1) M R->P [!a])(l:↑W)(h:vB l M R):P l:=by
 match l,h with
 | [.tup _],h=>show I _ h
 | [.rl _],h=>show t _ _ rfl h
 | [.sc _],h=>show O _ h
 | [.dk _],h=>show j _ h
 | [!_],h=>show h.elim (λV=>by let#[ws,e,r]:=V;show t _ _ e r) λA=>by let#[ws,e,r]:=A;show q _ _ e r
def G9(hc:X.calm=ab):cM X (.type "list") (eS X.K vB):=zH (VJ.or<|W8 hc) λxs H Q M R U k=>Z4
 (λws h t=>t.oneE λv T av=>av.tupE λa us e f q=>.inl #[_,_,iM T e,.inr<|bJ.of f,λp B=>gR U k B q h])
 (λws h t=>t.oneE λv T av=>av.scE λa us e f q=>.inl #[_,_,iM T e,.inl f.sq,λp B=>gR U k B q h])
 (λx ws C h t=>t.oneE λv T av=>let #[a,us,e,f,q]:=nE U av C;.inl #[_,_,iM T e,.inl<|bO.of f,λp B=>gR U k B q h])
 (λkvs h t=>t.oneE λv T av=>let #[a,ks,e,f,_,q]:=av.inv;.inr #[a,ks,iM T e,f,λp B=>gR U k B (G8 q) h])
 (λa kvs C h t=>t.oneE λv T av=>let #[ks,f,q]:=U _ _ C;.inr #[a,ks,iM T av.inv,f,λp B=>gR U k B (G8 q) h])
def qA:↑W->Mm->K3->Prop
 | [.tup ws],M,R=>R (.tup ws) M
 | [.rl ws],M,R=>R (.tup ws) M
 | [!a],M,R=>∃ws,M a=-.lst ws/\R (.tup ws) M
 | _,_,_=>False
def Z5{P:↑W->Prop}(I:∀ws,R (.tup ws) M->P [.tup ws])(t:∀x ws,lV M x ws->R (.tup ws) M->P [x])(l:↑W)(h:qA l M R):P l:=by
 match l,h with
 | [.tup _],h=>show I _ h
 | [.rl _],h=>show t _ _ rfl h
 | [!_],h=>show h.elim λws h=>t _ _ h.1 h.2
def Z6:cM X (.type "tuple") (eS X.K qA):=zH VL λxs H Q M R U k=>Z5
 (λws h t=>t.oneE λv T av=>av.tupE λa us e f q=>#[_,_,iM T e,.inr #[bJ.of f,k.at U (by rw[<-e];show av) h]])
 (λx ws C h t=>t.oneE λv T av=>let #[a,us,e,f,q]:=nE U av C;#[_,_,iM T e,.inl #[bO.of f,λp B=>laidT U k B q h]])
def zV:↑W->Mm->K3->Prop
 | [¬i],M,R=>i.natAbs.log2<1920/\R (.str<|toString i) M
 | _,_,_=>False
def Z7:cM X (.type "str") (eS X.K zV):=by
 rintro af s Z H xs us Q I rs ⟨ws,M,R,U,N,h,k⟩
 match ws,h with
 | [¬i],h=>
  let#[v,rfl,av]:=N.one;ext av;show S9 af s Z H _ us Q I rs #[i,7,h.1,k.at U (.str _) h.2]
noncomputable def bools(bs:↑Bool):↑W:=bs.map W.bl
theorem aJ.bools{K:Ac}{H:Hp}{M:Mm}:∀{bs:↑Bool} {vs:↑V},aJ K H M vs (L2.bools bs)->vs=bs.map V.bl
 | [],_,h=>by ext h;rfl
 | b::r,_,h=>by
  cases h with
  | cons x y=>ext x;rw[aJ.bools y];rfl
theorem aJ.ints{K:Ac}{H:Hp}{M:Mm}:∀{bs:↑Int} {vs:↑V},aJ K H M vs (bs.map W.int)->vs=bs.map V.int
 | [],_,h=>by ext h;rfl
 | b::r,_,h=>by
  cases h with
  | cons x y=>ext x;rw[aJ.ints y];rfl
abbrev sC:↑W->Mm->K3->Prop
 | [!a],M,R=>∃bs,M a=-.lst (bools bs)/\R (.bl<|bs.all id) M
 | [.rl ws],M,R=>∃bs,ws=bools bs/\R (.bl<|bs.all id) M
 | _,_,_=>False
def Z8(hc:X.calm=ab):cM X (.builtin "all") (eS X.K sC):=by
 rintro af s Z H xs us Q I rs ⟨ws,M,R,U,N,h,k⟩
 match ws,h with
 | [!a],h=>
  let#[v,rfl,av]:=N.one;ext av;let#[bs,e,r]:=h;let#[vs,f,q]:=U.lst e;rw[q.bools]at f;show uL ac hc af s Z H _ us Q I rs #[a,bs,7,bO.of f,k.at U (.bl _) r]
 | [.rl ws],h=>
  let#[v,rfl,av]:=N.one;let#[bs,rfl,r]:=h;cases av with
  | rl f _ q=>
   rw[q.bools]at f;show uL ac hc af s Z H _ us Q I rs #[_,bs,7,bO.of f,k.at U (.bl _) r]
def dZ:W->↑W->Mm->K3->Prop
 | .ref l,[y],M,R=>∃ws,M l=-.lst ws/\↥ws<Aw/\R .non (put M l<|.lst<|ws++[y])
 | _,_,_,_=>False
def Z9:e9 X "list.append" (jI X.K dZ):=by
 rintro af s Z H x xs v us Q I B rs ⟨n,ws,M,R,U,t,N,h,k⟩
 match n,ws,h with
 | .ref l,[y],h=>
  let#[z,rfl,S]:=N.one;ext t;let#[ws,e,hl,r]:=h;let#[vs,f,q]:=U.lst e;show EI af s Z H _ _ v us Q I B rs #[l,vs,z,7,7,f,by rw[↥q];show hl,r9 U k e (q.append<|.cons S .nil) .non r]
def sD:W->↑W->Mm->K3->Prop
 | .ref l,[!b],M,R=>∃ws A,M l=-.lst ws/\M b=-.lst A/\↥ws+↥A<=Aw/\R .non (put M l<|.lst<|ws++A)
 | .ref l,[.rl A],M,R=>∃ws,M l=-.lst ws/\↥ws+↥A<=Aw/\R .non (put M l<|.lst<|ws++A)
 | _,_,_,_=>False
def zaa:e9 X "list.extend" (jI X.K sD):=by
 rintro af s Z H x xs v us Q I B rs ⟨n,ws,M,R,U,t,N,h,k⟩
 match n,ws,h with
 | .ref l,[!b],h=>
  let#[z,rfl,S]:=N.one;ext t;ext S;let#[ws,A,e,J,hl,r]:=h;let#[vs,f,q]:=U.lst e;let#[a,y,O]:=U.lst J;show EJ af s Z H _ _ v us Q I B rs #[l,b,vs,a,7,7,f,y,by rw[↥q,↥O];show hl,r9 U k e (q.append O) .non r]
 | .ref l,[.rl A],h=>
  let#[z,rfl,S]:=N.one;ext t;cases S with
  | rl y _ O=>
   let#[ws,e,hl,r]:=h;let#[vs,f,q]:=U.lst e;show EJ af s Z H _ _ v us Q I B rs #[l,_,vs,_,7,7,f,y,by rw[↥q,↥O];show hl,r9 U k e (q.append O) .non r]
def lZ:W->↑W->Mm->K3->Prop
 | .ref l,[],M,R=>∃ws w,M l=-.lst (ws++[w])/\R w (put M l<|.lst ws)
 | _,_,_,_=>False
def zab:e9 X "list.pop" (jI X.K lZ):=by
 rintro af s Z H x xs v us Q I B rs ⟨n,ws,M,R,U,t,N,h,k⟩
 match n,ws,h with
 | .ref l,[],h=>
  ext N;ext t;let#[ws,w,e,r]:=h;let#[vs,f,q]:=U.lst e;let hl:=↥q;rw[Ag,Cd]at hl;let#[z,hz,S]:=q.getW (i:=↥ws) (w:=w) 6;show VQ af s Z H _ _ v us Q I B rs #[l,vs,z,7,7,f,by rw[hl];show hz,r9 U k e 8 S r];have:=q.dropLast;rw[List.dropLast_concat]at this;show this
abbrev sE:aR:=λ_ M R=>h9 [] M R
abbrev kS:aR:=λ_ M R=>j0 [] M R
def zac:E3 X (.Dict [] [] pos) sE:=V6.weak λZ H Q #[O,M,R,m,U,h,k] p B=>by
 let#[P,k2]:=U.laid (o:=.dK []) (u:=.dK []) B #[[],b8,.nil];show k _ _ _ _ k2 P (!p)<|h p<|U.nonM B
def zad:E3 X (.Dict [] [] pos) kS:=V7.weak λZ H Q #[O,M,R,m,U,h,k] p B=>by
 let#[P,k2]:=U.laid (o:=.dT []) (u:=.dT []) B #[[],b8,.nil];show k _ _ _ _ k2 P (!p)<|h p<|U.nonM B
end
abbrev P3(X:Cx)(st:Kt)(t:aE):Prop:=PS X st<|rX X.K t
abbrev jK(X:Cx)(st:↑Kt)(t:aE):Prop:=fT X st<|rX X.K t
abbrev eY:=W->S3->Mm->(S3->Mm->Prop)->Prop
abbrev nI:=↑W->S3->Mm->(S3->Mm->Prop)->Prop
def iP(K:Ac)(g:eY):TG:=λv G H Q=>∃w O M R,AV K H M v w/\AS K H M G O/\AM K H M/\g w O M R/\iL K H M R Q
def qB(K:Ac)(g:nI):jX:=λvs G H Q=>∃ws O M R,aJ K H M vs ws/\AS K H M G O/\AM K H M/\g ws O M R/\iL K H M R Q
def iP.el{K:Ac}{H:Hp}{G:SV}{C:Prop}{t:eY}{v:V}{Q:SV->Hp->Prop}(h:iP K t v G H Q)(c:∀w O M R,AV K H M v w->AS K H M G O->AM K H M->t w O M R->iL K H M R Q->C):C:=by let#[w,O,M,R,a,b,d,h,k]:=h;show c w O M R a b d h k
def qB.el{K:Ac}{H:Hp}{G:SV}{C:Prop}{t:nI}{v:↑V}{Q:SV->Hp->Prop}(h:qB K t v G H Q)(c:∀w O M R,aJ K H M v w->AS K H M G O->AM K H M->t w O M R->iL K H M R Q->C):C:=by let#[w,O,M,R,a,b,d,h,k]:=h;show c w O M R a b d h k
section
variable {X:Cx}{pos:Ja}
def _root_.L2.PG.weak(h:PG X e t)(k:∀v G H Q,t' v G H Q->t v G H Q):PG X e t':=λC s G H v u Q I r q=>h C s G H v u Q I r<|k v G H Q q
def _root_.L2.iU.weak(h:iU X e t)(k:∀v G H Q,t' v G H Q->t v G H Q):iU X e t':=λC s G H v u Q I r q=>h C s G H v u Q I r<|k v G H Q q
def iL.at{K:Ac}{H:Hp}{M:Mm}{R:S3->Mm->Prop}{Q:SV->Hp->Prop}(h:iL K H M R Q)(U:AM K H M){G:SV}{O:S3}(m:AS K H M G O)(r:R O M):Q G H:=h G H O M (Kp.refl U) U m r
abbrev aQ(i:Nat):eY:=λw O M R=>R (O.set i<|-w) M
def HA{i:Nat}(a:X.N.Nodup)(hi:X.N[i]? = aa x:=by rfl)(hl:oM X x=ab:=by show pV):PG X (.Name x pos) (iP X.K<|aQ i):=
 (Q9 a hi (m9 hl).1 (m9 hl).2).weak λv G H Q V=>V.el λw O M R av m U h k=>k.at U (m.set av i) h
abbrev eJ:nI:=λws O M R=>ws=[]/\R O M
abbrev bW(t:eY)(u:nI):nI:=λws O M R=>match ws with
 | w::r=>t w O M λd F=>u r d F R
 | []=>False
def zae:iU X [] (qB X.K eJ):=RC.weak λvs G H Q z=>z.el λws O M R av m U h k=>#[aJ.nil_<|by rw[<-h.1];show av,k.at U m h.2]
def zaf{e:Ck}{es:↑Ck}{t:eY}{u:nI}(L:PG X e<|iP X.K t)(Y:iU X es<|qB X.K u)(l:(Iu (e::es) X.env).map (·.2)=Pq e X.env::(Iu es X.env).map (·.2):=by rfl):iU X (e::es) (qB X.K<|bW t u):=
 (RD L Y l).weak λvs G H Q V=>V.el λws O M R av m U h k=>by
  cases av with
  | nil=>show Br h
  | cons x r=>show#[_,_,7,_,O,M,_,x,m,U,h,λc E d F g N q h'=>#[_,d,F,R,r.kp U g,q,N,h',k.kp g]]
abbrev eL(n:Nat)(g:nI):eY:=λw O M R=>match w with
 | .tup ws=>↥ws=n/\g ws O M R
 | .rl ws=>↥ws=n/\g ws O M R
 | .ref a=>∃ws,M a=-.lst ws/\↥ws=n/\g ws O M R
 | _=>False
def zag{k:Nat}{n:Nat}(hc:X.calm=ab)(h:iU X es<|qB X.K t)(V:↥(Iu es X.env)=n:=by rfl)(j:(Iu es X.env).findIdx? (·.1)=ae:=by rfl):PG X (.Tuple es k pos) (iP X.K<|eL n t):=by
 rintro C s G H v u Q I r ⟨w,O,M,R,av,m,U,hw,kk⟩;cases w<;>first|exact Br hw|skip
 case tup ws=>show av.tupE λa xs e f q=>RF hc h V j C s G H _ u Q I r #[a,xs,e,bJ.of f,by rw[↥q];show hw.1,_,O,M,R,q,m,U,hw.2,kk]
 case rl ws=>show av.rlE λa xs e f q=>E9 hc h V j C s G H _ u Q I r #[a,xs,e,bO.of f,by rw[↥q];show hw.1,_,O,M,R,q,m,U,hw.2,kk]
 case ref a=>show hw.elim λws hw=>U.lstE hw.1 λxs f q=>E9 hc h V j C s G H _ u Q I r #[a,xs,av.inv,bO.of f,by rw[↥q];show hw.2.1,_,O,M,R,q,m,U,hw.2.2,kk]
abbrev eU(te:aR)(g:eY):aE:=λD O M=>te O M λx I=>g x O I D.nx
def zah{K:Ac}{te:aR}{g:eY}{D:lK}{G:SV}{H:Hp}(h:rX K (eU te g) D G H):tZ (up K te) (iP K g) D G H:=by
 let#[O,M,s,m,U,h,k]:=h;show#[O,M,_,m,U,h,λx B n I k1 j t L=>#[n,O,I,s.nx,t,m.kp U k1,j,L,k.nx.kp k1]]
def zai(P:E3 X e te)(hg:PG X tg<|iP X.K g)(l:swapsWithSole [tg] e pos.line X.env=pure ac:=by rfl)(hw:swappedStores [tg] e X.env=pure ae:=by rfl)(L:(Iu [tg] X.env).map (·.2)=[Pq tg X.env]:=by rfl):P3 X (.Assign [tg] e pos) (eU te g):=(RI P hg l hw L).weak λ_ _ _ h=>zah h
abbrev aL(i:Nat)(te:aR):aE:=λD O M=>te O M λx I=>D.nx (O.set i<|-x) I
def zaj{i:Nat}(a:X.N.Nodup)(P:E3 X e te)(hi:X.N[i]? = aa x:=by rfl)(hl:oM X x=ab:=by show pV)(l:Nr e (-.Name x b) pos.line X.env=pure ac:=by rfl):
  P3 X (.Assign [.Name x b] e pos) (aL i te):=(RJ a hi (m9 hl).1 P l (m9 hl).2).weak λD G H V=>V.el λO M s m U h k=>#[O,M,_,m,U,h,λy B J I k1 j E L=>k.nx _ _ _ _ k1 j ((m.kp U k1).set E i) L]
def sG(o i v:W)(M:Mm)(Q:Mm->Prop):Prop:=match o with
 | .ref a=>(∃ws k j,i=¬k/\M a=-.lst ws/\gQ ↥ws k=-j/\Q (put M a<|.lst<|ws.set j v))\/
   (∃kvs k,i=wK k/\M a=-.dK kvs/\↥kvs<Aw/\Q (put M a<|.dK<|bU kvs k v))\/
   ∃kvs k,i=.tup (k.map wK)/\M a=-.dT kvs/\↥kvs<Aw/\Q (put M a<|.dT<|bU kvs k v)
 | _=>False
def zak(K:Ac):tX:=λo i v H Q=>∃T wi l M R,AV K H M o T/\AV K H M i wi/\AV K H M v l/\AM K H M/\sG T wi l M R/\∀L F,Kp H M L F->AM K L F->R F->Q L
def set_dict(D:X.A.units+1<Fs):tY X (λo i v H Q=>∃a L,o=!a/\mW H a i v L/\Q L):=by
 intro C s G H o i v p c u Q I x E m h;let#[a,L,rfl,d,q]:=h;ext x;show V1 D I d E m λB S=>#[L,S,q]
def HB{b:Type}[DecidableEq b]{K:Ac}{H:Hp}{M:Mm}{ks:↑(b×V)}{kvs:↑(b×W)}{n:b}{v:V}{l:W}{a:Ao}{o:MO}{u:HO}(U:AM K H M)(e:M a=-o)(q:bT K H M b ks kvs)(av:AV K H M v l){D:MO}:bT K (aK H a u) (put M a D) b (d6 ks n v) (bU kvs n l):=Paired.mapP (u6 q n av) λp q z=>#[z.1,z.2.wr U e]
def zal(D:X.A.units+1<Fs):tY X (zak X.K):=by
 rintro C s G H o i v p c u Q I x E m ⟨T,wi,l,M,R,J,y,av,U,h,k⟩;cases T<;>first|exact Br h|skip
 rename_i a;rcases h with⟨ws,n,j,w,e,F,r⟩|⟨kvs,n,w,e,hl,r⟩|⟨kvs,n,w,e,hl,r⟩
 .rw[w]at y;let#[vs,f,q]:=U.lst e;let#[P,k2]:=U.write (o:=.lst<|ws.set j l) (u:=.lst<|vs.set j v) e #[_,b8,(aJ.set av j q).wr U e];show VA C s G H _ _ v p c u Q I x E m #[a,vs,n,j,J.inv,y.inv,f,by rw[↥q];show F,k _ _ k2 P r]
 .rw[w]at y;let#[ks,f,q]:=U _ _ e;let#[P,k2]:=U.write (o:=.dK<|bU kvs n l) (u:=.dK<|d6 ks n v) e #[_,b8,HB U e q av];show set_dict D C s G H _ _ v p c u Q I x E m #[a,_,J.inv,by rw[y.key];show mW.k f<|by rw[Cv q];show hl,k _ _ k2 P r]
 .rw[w]at y;let#[ks,f,q]:=U _ _ e;let#[P,k2]:=U.write (o:=.dT<|bU kvs n l) (u:=.dT<|d6 ks n v) e #[_,b8,HB U e q av];show y.tupE λb xs d z g=>set_dict D C s G H _ _ v p c u Q I x E m #[a,_,J.inv,by rw[d];show mW.t f (by rw[<-g.keys];show z)<|by rw[Cv q];show hl,k _ _ k2 P r]
abbrev gI(to a:aR):eY:=λw O M R=>to O M λo I=>a O I λi v=>sG o i w v λS=>R O S
def w_sub{o i:Ck}{to a:aR}(D:X.A.units+1<Fs)(f:E3 X o to)(hi:E3 X i a)(S:∀v,Pq (.Subscript o i pos) X.env v=(do
   let p <-Mc [v] (Ff o X.env)
   let c <-Mc [v,p] (Ff i X.env)
   Ry pos
   Mc [v,p,c] (Xk p c v)
   release [v,p,c] []):=by intro _;rfl):PG X (.Subscript o i pos) (iP X.K<|gI to a):=
 (RH f hi (zal D) S).weak λv G H Q V=>V.el λw O M R av m U h k=>#[O,M,_,m,U,h,λo B T I k1 j J L=>#[O,I,_,m.kp U k1,j,L,λi z wi s k2 P y Y=>
  #[T,wi,w,s,_,J.kp j k2,y,(av.kp U k1).kp j k2,P,Y,λE F g N r=>k _ _ _ _ ((k1.trans k2).trans g) N (((m.kp U k1).kp j k2).kp P g) r]]]
abbrev cR:aE:=λD O M=>D.nx O M
abbrev aF(t u:aE):aE:=λD O M=>t {D with nx:=u D} O M
variable {st:Kt}{rest:↑Kt}{t u:aE}{e:Ck}{te:aR}
def zam:jK X [] cR:=QV.weak λD G H V=>V.el λO M s m U h k=>k.nx.at U m h
def zan(L:P3 X st t)(Y:jK X rest u):jK X (st::rest) (aF t u):=(QW L Y).weak λD G H V=>V.el λO M s m U h k=>
 #[O,M,_,m,U,h,#[λc E d F g N q h'=>#[d,F,s,q,N,h',k.kp g],k.rt,k.bk,k.ct]]
def zao(L:P3 X st t):jK X [st] t:=QX L
abbrev bX(te:aR):aE:=λD O M=>te O M λ_ I=>D.nx O I
def zap(P:E3 X e te)(l:Nr e ae pos.line X.env=pure ac:=by rfl):P3 X (.Expr e pos) (bX te):=(QZ P l).weak λD G H V=>V.el λO M s m U h k=>
 #[O,M,_,m,U,h,λv L w F Y N av r=>k.nx _ _ _ _ Y N (m.kp U Y) r]
abbrev bH(te:aR):aE:=λD O M=>te O M D.rt
def zaq(P:E3 X e te):P3 X (.Return (-e) pos) (bH te):=(Q1 P).weak λD G H V=>V.el λO M s m U h k=>#[O,M,_,m,U,h,k.rt]
abbrev zW:aE:=λD _ M=>D.rt .non M
def zar:P3 X (.Return ae pos) zW:=Q3.weak λD G H V=>V.el λO M s m U h k=>k.rt.at U .non h
abbrev bY(c:dR)(t u:aE):aE:=λD O M=>c O M λb I=>if b=ab then t D O I else u D O I
def zas(hc:T3 X c tc)(S:jK X a t)(Z:jK X b u):P3 X (.If c a b pos) (bY tc t u):=(Q6 hc S Z).weak λD G H V=>V.el λO M s m U h k=>
 #[O,M,_,m,U,h,λb B I k1 j L=>by
  cases b with
  | true=>show#[O,I,s,m.kp U k1,j,L,k.kp k1]
  | false=>show#[O,I,s,m.kp U k1,j,L,k.kp k1]]
def zat:P3 X st (λ_ _ _=>False):=Q8.weak λD G H V=>V.el λO M s m U h k=>h.elim
def jL(c:dR)(tb:aE):aE:=λD O M=>∃r:Nat->S3->Mm->Prop,(∃m,r m O M)/\∀m O M,r m O M->
 c O M λb I=>if b=ab then tb {D with nx:=λd F=>∃q a,q<m/\Sub a F/\r q d a,ct:=λd F=>∃q a,q<m/\Sub a F/\r q d a,bk:=D.nx} O I else D.nx O I
def zau(B:Wc X.m X.A X.env X.xe)(hc:T3 X c tc)(Z:jK X Q tb):P3 X (.While c Q [] pos) (jL tc tb):=
 (RL B hc Z).weak λD G H V=>by
  obtain⟨O,M,s,C,U,⟨r,⟨m,T⟩,h⟩,k⟩:=V;show#[λm p L=>∃d F,Kp H M L F/\AM X.K L F/\AS X.K L F p d/\r m d F,#[m,O,M,Kp.refl U,U,C,T],8];rintro m x g ⟨i,I,k1,j,t,J⟩;show#[i,I,_,t,j,h m i I J,λb z v k2 P Y=>8];cases b with
  | false=>show k.nx _ _ _ _ (k1.trans k2) P (t.kp j k2) Y
  | true=>
   let Y:tb {s with nx:=λd F=>∃q a,q<m/\Sub a F/\r q d a,ct:=λd F=>∃q a,q<m/\Sub a F/\r q d a,bk:=s.nx} i v:=Y;show#[λp L=>∃q d F,q<m/\Kp H M L F/\AM X.K L F/\AS X.K L F p d/\r q d F,λp L f=>by let#[q,d,F,W,y,o,w,e]:=f;show#[q,W,d,F,y,o,w,e],i,v,_,t.kp j k2,P,Y,8];let S:iL X.K z v (λd F=>∃q a,q<m/\Sub a F/\r q d a) (λp L=>∃q d F,q<m/\Kp H M L F/\AM X.K L F/\AS X.K L F p d/\r q d F):=
    λp L d F l N n u=>by let#[q,a,W,y,o]:=u;show#[q,d,a,W,((k1.trans k2).trans l).sub y,N.sub y,n.sub y,o]
   show#[S,(k.rt.kp k1).kp k2,(k.nx.kp k1).kp k2,S]
abbrev iA:=S3->Mm->(↑W->(Mm->Prop)->Mm->Prop)->Prop
structure iB(K:Ac)(H0:Hp)(M0:Mm)(J:It)(ws:↑W)(keep:Mm->Prop):Prop where
 go:∀i H M,Kp H0 M0 H M->AM K H M->keep M->i<↥ws->J.go i H
 stop:∀H M,Kp H0 M0 H M->AM K H M->keep M->J.stop ↥ws H
 yld:∀i H M x H',Kp H0 M0 H M->AM K H M->keep M->i<↥ws->J.yld i H x H'->∃w,ws[i]? = aa w/\Kp H M H' M/\AM K H' M/\AV K H' M x w
def f9(K:Ac)(wi:iA):TI:=λG H Q=>∃(O:S3) (M:Mm) (R:↑W->(Mm->Prop)->Mm->Prop),AS K H M G O/\AM K H M/\wi O M R/\∀J L ws keep F,Kp H M L F->AM K L F->iB K L F J ws keep->R ws keep F->Q J L
def f9.el{K:Ac}{H:Hp}{G:SV}{C:Prop}{t:iA}{Q:It->Hp->Prop}(h:f9 K t G H Q)(c:∀O M R,AS K H M G O->AM K H M->t O M R->(∀J L ws keep F,Kp H M L F->AM K L F->iB K L F J ws keep->R ws keep F->Q J L)->C):C:=by let#[O,M,R,a,b,h,k]:=h;show c O M R a b h k
def _root_.L2.PI.weak{tg iter:Ck}{t t':TI}(h:PI X tg iter t)(k:∀G H R,t' G H R->t G H R):PI X tg iter t':=λC s G H R I q=>h C s G H R I<|k G H R q
@[irreducible] def oO(ws:↑W)(keep:Mm->Prop)(g:eY)(tb:aE)(D:D3)(O:S3)(M:Mm):Prop:=
 ∃r:Nat->S3->Mm->Prop,r 0 O M/\(∀i O M,i<=↥ws->r i O M->keep M)/\
  (∀i w O M,ws[i]? = aa w->r i O M->g w O M λf v=>tb {D with nx:=λd F=>∃a,Sub a F/\r (i+1) d a,ct:=λd F=>∃a,Sub a F/\r (i+1) d a,bk:=D.nx} f v)/\
  ∀O M,r ↥ws O M->D.nx O M
abbrev cE(wi:iA)(g:eY)(tb:aE):aE:=λD O M=>wi O M λws keep I=>oO ws keep g tb D O I
def zav(B:Wc X.m X.A X.env X.xe)(hc:X.calm=ab)(hi:PI X tg iter<|f9 X.K wi)(hg:PG X tg<|iP X.K g)(K:jK X Q tb)(l:∀x,Jj iter X.env x=pure x:=by intro _;rfl):P3 X (.For tg iter Q [] pos) (cE wi g tb):=
 (RX B hc hi hg K l).weak λD G H V=>V.el λO M D' C U h k=>by
  show#[O,M,_,C,U,h,λJ z ws keep I k1 j it hw=>8];unfold oO at hw;let#[r,T,hk,l,hd]:=hw;show#[λi m c L=>m=↥ws-i/\i<=↥ws/\∃d F,Kp z I L F/\AM X.K L F/\AS X.K L F c d/\r i d F,#[_,7,Cu _,O,I,Kp.refl j,j,C.kp U k1,T],8];rintro i m s E ⟨rfl,hi,f,v,k2,P,as2,p2⟩
  by_cases S:i<↥ws
  .show .inr #[it.go i E v k2 P (hk i f v hi p2) S,λc L=>∃d F,Kp z I L F/\AM X.K L F/\AS X.K L F c d/\r (i+1) d F,λc L q=>#[↥ws-(i+1),9,7,S,q],λx R y=>8];let#[w,hw,u,b,t]:=it.yld i E v x R k2 P (hk i f v hi p2) S y;show#[w,f,v,_,t,as2.kp P u,b,l i w f v hw p2,λσ4 H4 τ4 M4 k4 am4 as4 W=>#[τ4,M4,_,as4,am4,W,8]];let kk:=((k2.trans u).trans k4);let n:iL X.K H4 M4 (λd F=>∃a,Sub a F/\r (i+1) d a) (λc L=>∃d F,Kp z I L F/\AM X.K L F/\AS X.K L F c d/\r (i+1) d F):=
    λc L d F Y N as' V=>by let#[a,o,p]:=V;show#[d,a,(kk.trans Y).sub o,N.sub o,as'.sub o,p]
   show#[n,k.rt.kp<|k1.trans kk,k.nx.kp<|k1.trans kk,n]
  .let e:i=↥ws:=9
   subst e;show .inl #[it.stop E v k2 P<|hk _ f v hi p2,k.nx _ _ _ _ (k1.trans k2) P as2<|hd f v p2]
def zX{keep:Mm->Prop}(r:Nat->S3->Mm->Prop)(Z:r 0 O M)(hk:∀i O M,i<=↥ws->r i O M->keep M)(l:∀i w O M,ws[i]? = aa w->r i O M->g w O M λf v=>tb {D with nx:=λd F=>∃a,Sub a F/\r (i+1) d a,ct:=λd F=>∃a,Sub a F/\r (i+1) d a,bk:=D.nx} f v)(hd:∀O M,r ↥ws O M->D.nx O M):oO ws keep g tb D O M:=by ext oO;show#[r,Z,hk,l,hd]
variable {tg l a b:Ck}{tl ta tb':aR}
theorem zaw{K:Ac}{j:Hp}{g:Mm}{p:Ao}{ws:↑W}:iB K j g (pH K p) ws λM=>M p=aa (.lst ws) where
 go:=λi H M _ U e hi=>by
  let#[vs,f,q]:=U.lst e;show#[vs,vs[i]'(by rw[↥q];show hi),bO.of f,6]
 stop:=λH M _ U e=>by
  let#[vs,f,q]:=U.lst e;show#[vs,bO.of f,by rw[↥q];show Aj _]
 yld:=λi H M x L _ U e hi y=>by
  let#[rfl,y]:=y;let#[vs,f,q]:=U.lst e;let#[w,hw,av]:=q.getV<|y vs<|bO.of f;show#[w,hw,Kp.refl U,U,av]
def HC{K:Ac}{j:Hp}{g:Mm}{p:Ao}{vs:↑V}{ws:↑W}(s:AM K j g)(st:∀H M,Kp j g H M->bO K H p vs)(G:aJ K j g vs ws):iB K j g (pH K p) ws λ_=>True:=by
 show#[λi H M k U _ hi=>#[vs,vs[i]'(by rw[↥G];show hi),st H M k,6],λH M k U _=>#[vs,st H M k,by rw[↥G];show Aj _],λi H M x L k U _ hi y=>8];let#[rfl,y]:=y;let#[w,hw,av]:=(G.kp s k).getV<|y vs<|st _ M k;show#[w,hw,Kp.refl U,U,av]
def zax{K:Ac}{j:Hp}{g:Mm}{p:Ao}{vs:↑V}{ws:↑W}(s:AM K j g)(e:mY K j p vs)(G:aJ K j g vs ws):iB K j g (pH K p) ws λ_=>True:=
 HC s (λH M k=>by
  show mY.sq 8;rcases e with⟨o,e⟩|e
  .show .inl #[o,(k.fr _ _ (s.noFrz e) e).1]
  .show .inr e) G
def zay{K:Ac}{j:Hp}{g:Mm}{p:Ao}{vs:↑V}{ws:↑W}(s:AM K j g)(e:j p=-.lst vs)(n:g p=ae)(G:aJ K j g vs ws):iB K j g (pH K p) ws λ_=>True:=
 HC s (λH M k=>bO.of (k.fr _ _ n e).1) G
def zaz{K:Ac}{j:Hp}{g:Mm}{p:Ao}{vs:↑V}{ws:↑W}(s:AM K j g)(e:j p=-.tup vs)(G:aJ K j g vs ws):iB K j g (yH K p) ws λ_=>True:=by
 let st:∀H M,Kp j g H M->bJ K H p vs:=λH M k=>bJ.of (k.fr _ _ (s.noTup e) e).1;show#[λi H M k U _ hi=>#[vs,vs[i]'(by rw[↥G];show hi),st H M k,6],λH M k U _=>#[vs,st H M k,by rw[↥G];show Aj _],λi H M x L k U _ hi y=>8];let#[rfl,y]:=y;let#[w,hw,av]:=(G.kp s k).getV<|y vs<|st _ M k;show#[w,hw,Kp.refl U,U,av]
theorem HD{K:Ac}{j:Hp}{g:Mm}{lo:Int}{n:Nat}:iB K j g (rF lo n) ((Ci n).map λi=>W.int<|lo+(i:Nat)) λ_=>True where
 go:=λi H M _ U _ hi=>by change i<n;simpa using hi
 stop:=λH M _ U _=>by change n<=_;simp
 yld:=λi H M x L _ U _ hi y=>by
  let#[rfl,rfl]:=y;let hi:i<n:=by simpa using hi
  show#[.int<|lo+i,by simp[hi],Kp.refl U,U,¬_]
theorem zaA{K:Ac}{j:Hp}{g:Mm}{z:Av}:iB K j g (y0 z) (z.cps.toList.map λc=>W.str #[[c].toArray]) λ_=>True where
 go:=λi H M _ U _ hi=>by change i<z.cps.size;simpa using hi
 stop:=λH M _ U _=>by change z.cps.size<=_;simp
 yld:=λi H M x L _ U _ hi y=>by
  let#[rfl,c,hc,rfl]:=y;show#[.str #[[c].toArray],by rw[Au,hc];rfl,Kp.refl U,U,.str _]
def l5(X:Cx)(tg:Ck)(r:V->Hp->(It->Hp->Prop)->Prop):Prop:=
 ∀(C:Pn) (s:Ai) (G:SV) (H:Hp) (x:V) (u:Value) (R:It->Hp->Prop),Inv X C G H s->RelV x u->r x H R->X.a (Qq u) (rE X C G tg R) X.xe s
def zY:l5 X tg (λx H R=>∃a,x=!a/\(∃xs,bO X.K H a xs)/\R (pH X.K a) H):=by
 rintro C s1 G B x u R g F ⟨a,rfl,⟨xs,N⟩,q⟩;ext F;let#[its,m,p,hz]:=g.list N;show Ko p.isList 8;show#[⇑s1,[⇑s1],_,_,B,7,g.kept (t':=s1.toks) λb o e=>Af _ e,RM a _,#[_,Ax _ rfl,7,7],λb Z=>8,q];let e:b=⇑s1:=by simpa using Z
 subst e;show g.fpOk (Aj _)<|g.hok.fresh<|Aj _
def zaB:l5 X tg (λx H R=>∃a,x=!a/\(∃xs,bJ X.K H a xs)/\R (yH X.K a) H):=by
 rintro C s1 G B x u R g F ⟨a,rfl,⟨xs,N⟩,q⟩;ext F;let#[its,m,p,hz]:=g.tuple N;show Kb (show s1.heap.IsTuple a its.toArray from p) 8;show#[⇑s1,[⇑s1],_,_,B,7,g.kept (t':=s1.toks) λb o e=>Af _ e,RN a _,#[_,Ax _ rfl,7,7],λb Z=>8,q];let e:b=⇑s1:=by simpa using Z
 subst e;show g.fpOk (Aj _)<|g.hok.fresh<|Aj _
def zaC:l5 X (.Name x r) (λx H R=>∃z,x=.str z/\R (y0 z) H):=by
 rintro C s1 G B x u R g F ⟨z,rfl,q⟩;let#[t,rfl]:=F;let fp:∀b∈[⇑s1],gP X C B b:=λb Z=>by
  let e:b=⇑s1:=by simpa using Z
  subst e;show g.fpOk (Aj _)<|g.hok.fresh<|Aj _
 cases S:z.cps.all (· < 128)
 .show wpAny_pyIter_wide S 8;show#[⇑s1,[⇑s1],_,_,B,7,g.kept (t':=s1.toks) λb o e=>Af _ e,
   E7 z _ "str_iterator" t (λA s i c Q E a b d=>wpAny_pyNext_wide_item a b d) (λA s i Q E a b c d=>wpAny_pyNext_wide_end a b c d) λA i s Q E a b=>wpAny_pyIter_striter_wide a b,#[_,Ax _ rfl,7,7],fp,q]
 .show wpAny_pyIter_ascii S 8;show#[⇑s1,[⇑s1],_,_,B,7,g.kept (t':=s1.toks) λb o e=>Af _ e,
   E7 z _ "str_ascii_iterator" t (λA s i c Q E a b d=>wpAny_pyNext_ascii_item a b d) (λA s i Q E a b c d=>wpAny_pyNext_ascii_end a b c d) λA i s Q E a b=>wpAny_pyIter_striter_ascii a b,#[_,Ax _ rfl,7,7],fp,q]
def _root_.L2.PI.of{r:V->Hp->(It->Hp->Prop)->Prop}{tl:TE}(hl:PE X l tl)(G:l5 X tg r):PI X tg l (λd H R=>tl d H λx B=>r x B R):=λC s d H R I h=>
 aY (hl C s d H _ I h) λu s1 #[x,B,g,F,W]=>G C s1 d B x u R g F W
def sH(K:Ac)(r:W->Mm->(↑W->(Mm->Prop)->Mm->Prop)->Prop):V->Hp->(It->Hp->Prop)->Prop:=λx H Q=>∃(n:W) (M:Mm) (R:↑W->(Mm->Prop)->Mm->Prop),AV K H M x n/\AM K H M/\r n M R/\
 ∀J L ws keep F,Kp H M L F->AM K L F->iB K L F J ws keep->R ws keep F->Q J L
abbrev jM:W->Mm->(↑W->(Mm->Prop)->Mm->Prop)->Prop
 | .tup ws,I,R=>R ws (λ_=>True) I
 | .rl ws,I,R=>R ws (λ_=>True) I
 | .sc ws,I,R=>R ws (λ_=>True) I
 | .ref a,I,R=>∃ws,I a=-.lst ws/\R ws (λM=>M a=-.lst ws) I
 | _,_,_=>False
noncomputable abbrev cF:W->Mm->(↑W->(Mm->Prop)->Mm->Prop)->Prop
 | .tup ws,I,R=>R ws (λ_=>True) I
 | .rl ws,I,R=>R ws (λ_=>True) I
 | .sc ws,I,R=>R ws (λ_=>True) I
 | .str z,I,R=>R (z.cps.toList.map λc=>W.str #[[c].toArray]) (λ_=>True) I
 | .ref a,I,R=>∃ws,I a=-.lst ws/\R ws (λM=>M a=-.lst ws) I
 | _,_,_=>False
def HE:l5 X tg (sH X.K jM):=by
 rintro C s G H x u Q I F ⟨d,M,R,t,U,h,k⟩;let k:=λJ ws keep=>k J H ws keep M (Kp.refl U) U;cases d<;>first|exact Br h|skip
 case tup ws=>show t.tupE λa xs e f q=>zaB C s G H _ u Q I F #[a,e,#[xs,bJ.of f],k _ _ _ (zaz U f q) h]
 case rl ws=>let#[a,xs,e,f,n,q]:=t.inv;show zY C s G H _ u Q I F #[a,e,#[xs,bO.of f],k _ _ _ (zay U f n q) h]
 case sc ws=>show t.scE λa xs e f q=>zY C s G H _ u Q I F #[a,e,#[xs,f.sq],k _ _ _ (zax U f q) h]
 case ref a=>show h.elim λws h=>U.lstE h.1 λvs f q=>zY C s G H _ u Q I F #[a,t.inv,#[vs,bO.of f],k _ _ _ zaw h.2]
def zaD:l5 X (.Name y c) (sH X.K cF):=by
 rintro C s G H x u Q I F ⟨n,M,R,t,U,h,k⟩;cases n<;>first|exact Br h|skip
 case str z=>show zaC C s G H _ u Q I F #[z,t.inv,k _ _ _ _ _ (Kp.refl U) U zaA h]
 all_goals exact HE C s G H x u Q I F #[_,M,R,t,U,h,k]
abbrev bM(r:W->Mm->(↑W->(Mm->Prop)->Mm->Prop)->Prop)(tl:aR):iA:=λO M R=>tl O M λw I=>r w I R
def vD{r:W->Mm->(↑W->(Mm->Prop)->Mm->Prop)->Prop}(hl:E3 X l tl)(G:l5 X tg<|sH X.K r):PI X tg l (f9 X.K<|bM r tl):=(PI.of hl G).weak λd H Q V=>V.el λO M R m U h k=>
 #[O,M,_,m,U,h,λx B n I k1 j t L=>#[n,I,R,t,j,L,λJ Y ws keep F g N it r=>k J Y ws keep F (k1.trans g) N it r]]
def zaE(hl:E3 X l tl):PI X tg l (f9 X.K<|bM jM tl):=vD hl HE
def zaF(hl:E3 X l tl):PI X (.Name y c) l (f9 X.K<|bM cF tl):=vD hl zaD
noncomputable def l6(lo:Int)(n:Nat):↑W:=(Ci n).map λi=>W.int<|lo+(i:Nat)
abbrev nJ(ta:dO):iA:=λO M R=>ta O M λws I=>∃j:Int,ws=[¬j]/\-(2 ^ 62)<=j/\j<2 ^ 62/\R (l6 0 j.toNat) (λ_=>True) I
abbrev HF(ta:dO):iA:=λO M R=>ta O M λws I=>∃i j:Int,ws=[¬i,¬j]/\(-(2 ^ 62)<=i/\i<2 ^ 62/\-(2 ^ 62)<=j/\j<2 ^ 62)/\R (l6 i (j-i).toNat) (λ_=>True) I
def zaG(hg:Gl X "range")(J:X.mg "range" = ae)(S:A3 X [a] f)(l:Cr [a] X.env=[(ac,Ff a X.env)]:=by rfl):PI X tg (.Call (.Name "range" p) [a] [] pos) (f9 X.K<|nJ f):=
 (RS hg J S l).weak λG H Q V=>V.el λO M R m U h k=>#[O,M,_,m,U,h,λvs B ws I k1 N t V=>by
  let#[j,e,L,Y,r]:=V;rw[e]at t;let#[v,e,av]:=t.one;show#[j,iM e av.inv,L,Y,k _ _ _ _ _ k1 N HD r]]
def zaH(hg:Gl X "range")(J:X.mg "range" = ae)(S:A3 X [a,b] f)(l:Cr [a,b] X.env=[(ac,Ff a X.env),(ac,Ff b X.env)]:=by rfl)(y:Cr [b] X.env=[(ac,Ff b X.env)]:=by rfl):
  PI X tg (.Call (.Name "range" p) [a,b] [] pos) (f9 X.K<|HF f):=
 (RU hg J S l y).weak λG H Q V=>V.el λO M R m U h k=>#[O,M,_,m,U,h,λvs B ws I k1 N t V=>by
  let#[i,j,e,L,r]:=V;rw[e]at t;let#[v,u,e,av,o]:=t.two;show#[i,j,by rw[e,show _=_ from av.inv,show _=_ from o.inv],L,k _ _ _ _ _ k1 N HD r]]
@[irreducible] def fU(ws:↑W)(keep:Mm->Prop)(g:eY)(tt:dR)(te:aR)(c:S3)(I:Mm)(R:K3):Prop:=
 ∀p,I p=ae->∃r:Nat->S3->↑W->Mm->Prop,r 0 c [] I/\(∀vs i O acc M,i<=↥ws->M p=ae->r i O acc M->keep (put M p<|.fix vs))/\
  (∀vs i w O acc M,ws[i]? = aa w->M p=ae->r i O acc M->g w O (put M p<|.fix vs) λf v=>tt f v λb S=>
   if b=ab then te f S λy a=>a p=-.fix vs/\↥acc<Aw/\∃d,Sub d (del a p)/\r (i+1) f (acc++[y]) d
   else S p=-.fix vs/\∃d,Sub d (del S p)/\r (i+1) f acc d)/\
  ∀O acc M,M p=ae->r ↥ws O acc M->R (!p) (put M p<|.lst acc)
noncomputable def zZ(js:↑(Option Nat))(O:S3):S3:=js.map λo=>o.bind λj=>(O[j]?).join
theorem AS.cmap{K:Ac}{H:Hp}{M:Mm}{G:SV}{O:S3}(h:AS K H M G O):∀js:↑(Option Nat),AS K H M (cmap js G) (zZ js O)
 | []=>.nil
 | none::r=>.cons (λ_ e=>nomatch e) (AS.cmap h r)
 | some j::r=>.cons (λw e=>by
   let e:(O[j]?).join=-w:=e;cases q:O[j]? with
   | none=>rw[q]at e;ext e
   | some z=>
    rw[q]at e;let e:z=-w:=e;subst e;let#[v,L,Y]:=h.get q;show#[v,by change(G[j]?).join=-v;rw[L];rfl,Y])<|AS.cmap h r
abbrev cV(wi:iA)(g:eY)(tt:dR)(te:aR)(js:↑(Option Nat)):aR:=λO M R=>wi O M λws keep I=>fU ws keep g tt te (zZ js O) I R
def z9(h:up X.K (cV wi g tt te js) G H Q):yZ (f9 X.K wi) (λ_=>iP X.K g) (λ_=>kN X.K tt) (λ_=>up X.K te) js G H Q:=by
 let#[O,M,R,C,U,h,k]:=h;show#[O,M,_,C,U,h,λJ z ws keep I k1 j it v p V B=>8];unfold fU at v;let#[r,K,hk,l,hd]:=v p<|j.nonM V;let#[amp,kp]:=j.laid (o:=.fix []) (u:=.lst []) V b8;let hMp:=j.nonM V;show WR ↥ws (λi c D L=>∃d acc F,F p=ae/\Kp z I L (put F p<|.fix D)/\AM X.K L (put F p<|.fix D)/\AS X.K L (put F p<|.fix D) c d/\aJ X.K L (put F p<|.fix D) D acc/\r i d acc F) 8 8 8
 .show#[zZ js O,[],I,hMp,kp,amp,((C.kp U k1).kp j kp).cmap js,.nil,K]
 .rintro c D L ⟨d,acc,F,mp,Y,N,q,av,pv⟩;show#[it.stop L _ Y N<|hk _ _ _ _ _ (Aj _) mp pv,8];let hp':L p=-.lst D:=N p _ aI;show k _ L _ (put F p<|.lst acc) (k1.trans #[λa o n e=>8,Y.dom]) (λa o e=>8) (!p) (hd d acc F mp pv)
  .let#[x,y]:=Y.fr a o n e;show#[x,by rw[aT<|eW e V]at y⊢;show y]
  .by_cases S:a=p
   .subst S;rw[aI]at e;ext e;show#[D,hp',av.go F7]
   .rw[aT S]at e;show(N a o<|by rw[aT S];show e).go F7 rfl
 .rintro i c D L hi ⟨d,acc,F,mp,Y,N,q,av,pv⟩;let hkp:=hk D i d acc F (Hk hi) mp pv;show#[it.go i L _ Y N hkp hi,λx P y=>8];let#[w,hw,s,T,t]:=it.yld i L _ x P Y N hkp hi y;show#[w,d,_,_,t,q.kp N s,T,l D i w d acc F hw mp pv,λσ4 H4 τ4 M4 k4 am4 as4 W=>#[τ4,M4,_,as4,am4,W,λb H5 M5 k5 am5 f=>8]];let kk:Kp L (put F p<|.fix D) H5 M5:=(s.trans k4).trans k5;cases b with
  | false=>
   obtain⟨m5,M6,sb,pv6⟩:M5 p=-.fix D/\∃M6,Sub M6 (del M5 p)/\r (i+1) τ4 acc M6:=f;let sb':Sub (put M6 p<|.fix D) M5:=by
    have:=(sb.trans Sub.del).put (a:=p) (o:=.fix D);rwa [zC m5]at this
   show WI #[τ4,acc,M6,sb.non pR,(Y.trans kk).sub sb',am5.sub sb',(as4.kp am4 k5).sub sb',(av.kp N kk).sub sb',pv6]
  | true=>
   let f:te τ4 M5 λy M4=>M4 p=-.fix D/\↥acc<Aw/\∃M5,Sub M5 (del M4 p)/\r (i+1) τ4 (acc++[y]) M5:=f;show WJ #[τ4,M5,_,as4.kp am4 k5,am5,f,λy H6 A M6 k6 am6 E m=>8];let#[m6,hl,M7,sb,pv7]:=m;let kk6:=kk.trans k6;let hp6:H6 p=-.lst D:=am6 p _ m6;let#[am8,k8]:=am6.write (o:=.fix<|D++[y]) (u:=.lst<|D++[y]) m6 b8;let sb':Sub (put M7 p<|.fix<|D++[y]) (put M6 p<|.fix<|D++[y]):=(sb.trans Sub.del).put;show#[hp6,by rw[↥av];show hl,τ4,acc++[A],M7,sb.non pR,((Y.trans kk6).trans k8).sub sb',am8.sub sb',(((as4.kp am4 k5).kp am5 k6).kp am6 k8).sub sb',8,pv7];show(((av.kp N kk6).append<|.cons E .nil).kp am6 k8).sub sb'
variable {sc:Lm}{N':↑Av}{js:↑(Option Nat)}{iter elt:Ck}{ifs:↑Ck}{wi:iA}{g:eY}{tt:dR}
abbrev d7:dR:=λ_ M Q=>Q ab M
def zaI:iK X [] (kN X.K d7):=WN.weak λG H Q V=>V.el λO M R m U h k=>k ab H M (Kp.refl U) U h
def zaJ{c:Ck}{t:dR}(h:T3 X c t):iK X [c] (kN X.K t):=WO h
noncomputable def zaK:Ck->↑Av
 | .Name x _=>[x]
 | .Tuple es _ _=>es.filterMap λe=>match e with
  | .Name x _=>-x
  | _=>ae
 | _=>[]
noncomputable def cN(N:↑Av)(tg:Ck)(js:↑(Option Nat)):↑Av:=zaK tg++js.filterMap λj=>j.bind λk=>N[k]?
def zaL(hi:PI X tg iter<|f9 X.K wi)(hg:∀B,PG (dX X sc (cN X.N tg js) B) tg<|iP X.K g)(ht:∀B,iK (dX X sc (cN X.N tg js) B) ifs<|kN X.K tt)(P:∀B,PE (dX X sc (cN X.N tg js) B) elt<|up X.K te)(R:oH (cN X.N tg js) sc X.env.scope=ab:=by kernel_rfl)(F:fG (cN X.N tg js) X.N sc js (cN X.N tg js)=ab:=by kernel_rfl)(hc:X.calm=ab:=by rfl)(l:∀x,Jj iter X.env x=pure x:=by intro _;rfl):
  E3 X (.ListComp elt [#[tg,iter,ifs,0]] sc pos) (cV wi g tt te js):=(WQ _ js hi hg ht P R F hc l).weak λ_ _ _ h=>z9 h
def zaM{i:Nat}(a:X.N.Nodup)(hi:PI X tg iter<|f9 X.K wi)(hg:∀B,PG (dX X sc (cN X.N tg js) B) tg<|iP X.K g)(ht:∀B,iK (dX X sc (cN X.N tg js) B) ifs<|kN X.K tt)(P:∀B,PE (dX X sc (cN X.N tg js) B) elt<|up X.K te)(b:X.N[i]? = aa x:=by rfl)(hl:oM X x=ab:=by show pV)(R:oH (cN X.N tg js) sc X.env.scope=ab:=by kernel_rfl)(F:fG (cN X.N tg js) X.N sc js (cN X.N tg js)=ab:=by kernel_rfl)(hc:X.calm=ab:=by rfl)(d:Nr (.ListComp elt [#[tg,iter,ifs,0]] sc pos) (-.Name x r) c.line X.env=pure ab:=by rfl)(l:∀x,Jj iter X.env x=pure x:=by intro _;rfl):P3 X (.Assign [.Name x r] (.ListComp elt [#[tg,iter,ifs,0]] sc pos) c) (aL i<|cV wi g tt te js):=
 (E4 a b (m9 hl).1 _ js hi hg ht P R F hc d (m9 hl).2 l).weak λD G H V=>V.el λO M s m U h k=>z9 #[O,M,_,m,U,h,λy z J I k1 j E L=>k.nx _ _ _ _ k1 j ((m.kp U k1).set E i) L]
end
noncomputable def vE(N:↑Av)(ws:↑W):S3:=ws.map aa++Cb (↥N-↥ws) ae
def kT(R:K3):D3:={nx:=λ_ F=>∃a,Sub a F/\R .non a,rt:=λw F=>∃a,Sub a F/\R w a}
abbrev bE(sp:aW)(c:aE)(N:↑Av):Prop:=∀ws M R,sp ws M R->c (kT R) (vE N ws) M
section
variable {P:Bc}{w:Bq}{K:Ac}{mg:Av->Option Value}{base:Cz}
def vF{x j:Av}{st:Kt}{f:Ao}{fd:Fi}{N ps:↑Av}{k:Nat}{sp:aW}(F:jF K x j st f fd)(S:mT N ps<|dS st)(len:∀ws M R,sp ws M R->↥ws=↥ps)(O:∀(i:Value) (A:Cw) (outer:↑Env) (s:Ai) (H:Hp) (E:XK) (ws:↑W) (M:Mm) (R:K3),cT k (A.deeper<|Nd j (dS st) ⇑s f i)->sp ws M R->
   ∃t,jK (kI eR P w K mg base N j (dS st) f i A outer s H E).nox (gD st) t/\t (kT R) (vE N ws) M):iV P w K mg base eR (k+1) f fd ps (fJ K sp):=by
 show F.ok S (λvs H Q E V=>by let#[ws,M,R,U,av,h,_]:=V;rw[↥av];show len ws M R h) λi A outer s H vs Q E G D=>8;let#[ws,M,R,U,av,h,kk]:=D;let#[t,ht,h']:=O i A outer s H E ws M R G h;show#[_,ht,vE N ws,M,kT R,8,U,h',#[λc L d I Y C q u=>by let#[a,sb,r]:=u;show kk _ L _ a (Y.sub sb) (C.sub sb) .non r,λv L w I Y C g z3=>by let#[a,sb,r]:=z3;show kk v L w a (Y.sub sb) (C.sub sb) (g.sub sb) r,λ_ _ _ _ _ _ _ z=>z.elim,λ_ _ _ _ _ _ _ z=>z.elim]];unfold L2.start vE;rw[↥av];show AS.start av _
def sI:aW:=λws M R=>∃ns:↑Int,ws=[.sc<|ns.map W.int]/\↥ns<=63/\(M=λ_=>ae)/\∀F,R (.bl ab) F
def zaN{H:Hp}{a:Ao}{ns:↑Int}(hl:↥ns<=63)(f:uI H)(l:bO K H a<|ns.map V.int):fJ K sI [!a] H (λv _=>v=.bl ab) λ_ _ _=>False:=by
 let G:mY K H a (ns.map V.int):=by
  rcases l with(e|⟨o,e⟩)|e
  .rcases f a with z|⟨o,xs,z⟩
   .rw[z]at e;ext e
   .rw[z]at e;ext e
  .show .inl #[o,e]
  .show .inr e
 show#[[.sc<|ns.map W.int],λ_=>ae,λw _=>w=.bl ab,λa o e=>(nomatch e),.cons (.sc G<|aJ.int ns) .nil,#[ns,7,hl,7,λ_=>rfl],λv L w F _ _ av r=>by subst r;show av.bl_inv]
end
section
variable {X:Cx}{a b c:Ck}{ta tb tc:aR}{pos:Ja}
abbrev AA(r g:R3)(ta tb tc:aR):aR:=λO M R=>ta O M λx I=>tb O I λy v=>r x y v λz S=>mZ z λk=>if k=ab then tc O S λw a=>g y w a R else R (.bl ac) S
abbrev vG:aE:=λ_ _ _=>False
def HG(M:Mm):W->String->Prop
 | .non,T=>T = "NoneType"
 | .bl _,T=>T = "bool"
 | .int _,T=>T = "int"
 | .str _,T=>T = "str"
 | .tup _,T=>T = "tuple"
 | .rl _,T=>T = "list"
 | .dk _,T=>T = "dict"
 | .ref a,T=>(T = "list"/\∃ws,M a=-.lst ws)\/(T = "dict"/\((∃kvs,M a=-.dK kvs)\/∃kvs,M a=-.dT kvs))
 | _,_=>False
noncomputable def HH:↑(String×String×Bool):=[("int","int",ab),("int","bool",ac),("int","str",ac),("int","tuple",ac),("int","list",ac),("bool","bool",ab),("bool","int",ab),("bool","str",ac),("bool","list",ac),("bool","tuple",ac),("str","str",ab),("str","int",ac),("str","tuple",ac),("str","list",ac),("str","bool",ac),("tuple","tuple",ab),("tuple","list",ac),("tuple","str",ac),("tuple","int",ac),("tuple","bool",ac),("list","list",ab),("list","tuple",ac),("list","str",ac),("list","int",ac),("list","bool",ac),("NoneType","list",ac),("NoneType","tuple",ac),("NoneType","int",ac),("NoneType","str",ac),("NoneType","bool",ac),("dict","dict",ab),("dict","list",ac)]
noncomputable def AB(n T:String):Option Bool:=(HH.find? λp=>p.1==n&&p.2.1==T).map λp=>p.2.2
def HI(K:Ac):↑(String×String×Bool)->Prop
 | []=>True
 | p::l=>Lr K (.type p.1) (.type p.2.1)=-p.2.2/\HI K l
theorem HJ{K:Ac}:∀{l:↑(String×String×Bool)},HI K l->∀p∈l,Lr K (.type p.1) (.type p.2.1)=-p.2.2
 | _::_,h,_,m=>by
  cases m with
  | head=>show h.1
  | tail _ m=>show HJ h.2 _ m
def zaO(K:Ac):∀p∈HH,Lr K (.type p.1) (.type p.2.1)=-p.2.2:=by
 show HJ 8
 repeat refine#[by kernel_rfl,8]
 trivial
def zaP(K:Ac){b:Bool}(h:AB n T=-b):Lr K (.type n) (.type T)=-b:=by
 let#[p,B,e]:=Ay.mp h;let L:=List.find?_some B;let Y:=zaO K p<|Om B;rw[Dg,beq_iff_eq,beq_iff_eq]at L;rw[<-L.1,<-L.2,Y,e]
def nK:↑W->Mm->K3->Prop
 | [w,.ty T],M,R=>∃n b,HG M w n/\AB n T=-b/\R (.bl b) M
 | _,_,_=>False
def zaQ:cM X (.builtin "isinstance") (eS X.K nK):=by
 rintro C s G H xs us Q I rs ⟨ws,M,R,U,N,h,k⟩
 match ws,h with
 | [w,.ty T],h=>
  let#[v,u,rfl,av,o]:=N.two;ext o;let#[n,b,V,l,r]:=h;let ty:iJ X.K H v (.type n):=by
   cases w<;>first|exact Br V|skip
   case non=>rw[show n=_ from V,show v=_ from av.inv];show .non
   case bl b=>rw[show n=_ from V,show v=_ from av.inv];show .bl b
   case int i=>rw[show n=_ from V,show v=_ from av.inv];show ¬i
   case str x=>rw[show n=_ from V,show v=_ from av.inv];show .str x
   case tup=>let#[a,xs,g,e,q]:=av.inv;rw[show n=_ from V,g];show .tup e
   case rl=>let#[a,xs,g,e,_,q]:=av.inv;rw[show n=_ from V,g];show .lst e
   case dk=>let#[a,xs,g,e,_,q]:=av.inv;rw[show n=_ from V,g];show .dK e
   case ref a=>
    rw[show v=_ from av.inv];rcases V with⟨e,ws,h⟩|⟨e,h⟩
    .subst e;let#[vs,f,_]:=U.lst h;show .lst f
    .subst e;rcases h with⟨kvs,h⟩|⟨kvs,h⟩
     .let#[ks,f,_]:=U _ _ h;show .dK f
     .let#[ks,f,_]:=U _ _ h;show .dT f
  show WX C s G H _ us Q I rs #[v,T,_,b,7,ty,zaP X.K l,k.at U (.bl b) r]
def HK:W->↑W->Mm->K3->Prop
 | .str z,[],M,R=>↥z<=5592405/\R (.str<|Td z) M
 | _,_,_,_=>False
def m_upper:e9 X "str.upper" (jI X.K HK):=by
 rintro C s G H x xs v us Q I B rs ⟨n,ws,M,R,U,t,N,h,k⟩
 match n,ws,h with
 | .str z,[],h=>
  ext t;ext N;show WV C s G H _ _ v us Q I B rs #[z,7,7,h.1,k.at U (.str _) h.2]
def HL:W->↑W->Mm->K3->Prop
 | .str z,[.str y],M,R=>(↥y==0)=ac/\↥z<=Aw/\R (.tup [.str (Dl z y).1,.str (Dl z y).2.1,.str (Dl z y).2.2]) M
 | _,_,_,_=>False
def m_partition:e9 X "str.partition" (jI X.K HL):=by
 rintro C s G H x xs v us Q I d rs ⟨n,ws,M,R,U,t,N,h,k⟩
 match n,ws,h with
 | .str z,[.str y],h=>
  let#[u,rfl,o]:=N.one;ext t;ext o;show WW C s G H _ _ v us Q I d rs #[z,y,7,7,h.1,h.2.1,λp B=>laidT U k B (.cons (.str _)<|.cons (.str _)<|.cons (.str _) .nil) h.2.2]
end
section
variable {X:Cx}{a b:Ck}{ta tb:aR}{pos:Ja}{es:↑Ck}{t:dO}
def AD{K:Ac}{H:Hp}{M:Mm}{R:K3}{Q:VK}{p:Ao}{xs:↑V}{ws:↑W}(U:AM K H M)(k:Up K H M R Q)(B:H p=ae)(t:aJ K H M xs ws)(r:R (.rl ws) M):Q (!p) (aK H p<|.lst xs):=by
 let#[P,k2]:=U.tup (u:=.lst xs) B;show k _ _ _ _ k2 P (.rl b8 (U.nonM B)<|t.newT B) r
abbrev d8(t:dO):aR:=λO M R=>t O M λws I=>sz ws<|R (.rl ws) I
def zaR(h:A3 X es t):E3 X (.List es pos) (d8 t):=
 (DX h).weak λG H Q V=>V.el λO M R m U h k=>#[O,M,_,m,U,h,λxs g ws I k1 j N r=>#[by rw[↥N];show r.el.1,λp B=>AD j (k.kp k1) B N r.el.2]]
def HM{f:Value->Value->Uw Value}(h:bF X f<|cP X.K r)(k:∀x y M R,g x y M R->r x y M λw F=>frz w F R):bF X f (cP X.K g):=λC s G H x y v u Q I B T #[n,J,M,R,U,t,E,h',kk]=>
 h C s G H x y v u Q I B T #[n,J,M,_,U,t,E,k _ _ _ _ h',kk.frz]
def HN{r g:↑W->Mm->K3->Prop}(h:cM X f<|eS X.K r)(k:∀x M R,g x M R->r x M λw F=>frz w F R):cM X f (eS X.K g):=λC s G H xs us Q I rs #[ws,M,R,U,t,h',kk]=>
 h C s G H xs us Q I rs #[ws,M,_,U,t,k _ _ _ h',kk.frz]
noncomputable abbrev cH:R3
 | .int i,¬j,M,R=>R (.int<|i+j) M
 | .tup xs,.tup Z,M,R=>xs≠[]/\↥xs+↥Z<=Aw/\R (.tup<|xs++Z) M
 | .ref a,!b,M,R=>∃xs Z,M a=-.lst xs/\M b=-.lst Z/\↥xs+↥Z<=Aw/\R (.rl<|xs++Z) M
 | .rl xs,!b,M,R=>∃Z,M b=-.lst Z/\↥xs+↥Z<=Aw/\R (.rl<|xs++Z) M
 | .ref a,.rl Z,M,R=>∃xs,M a=-.lst xs/\↥xs+↥Z<=Aw/\R (.rl<|xs++Z) M
 | .rl xs,.rl Z,M,R=>↥xs+↥Z<=Aw/\R (.rl<|xs++Z) M
 | _,_,_,_=>False
def HP:bF X (Ez .Add) (cP X.K cH):=HM GN λx y M R h=>by
 cases x<;>first|exact Br h|(cases y<;>first|exact Br h|skip)
 case int.int i j=>show h
 case tup.tup i j=>show h
 case ref.ref i j=>let#[xs,Z,L,Y,O,r]:=h;show#[xs,Z,L,Y,O,aO.frz r]
 case rl.ref i j=>let#[Z,Y,O,r]:=h;show#[Z,Y,O,aO.frz r]
 case ref.rl i j=>let#[Z,Y,O,r]:=h;show#[Z,Y,O,aO.frz r]
 case rl.rl i j=>show#[h.1,aO.frz h.2]
abbrev jN:R3
 | .int i,¬j,M,R=>(pK i j\/uK i j)/\R (.int<|i*j) M
 | .ref a,¬n,M,R=>∃xs,M a=-.lst xs/\-(2 ^ 63)<=n/\n<2 ^ 63/\↥xs*n.toNat<=Aw/\R (.rl (Cb n.toNat xs).flatten) M
 | .rl xs,¬n,M,R=>-(2 ^ 63)<=n/\n<2 ^ 63/\↥xs*n.toNat<=Aw/\R (.rl (Cb n.toNat xs).flatten) M
 | _,_,_,_=>False
def zaS:bF X (Ez .Mult) (cP X.K jN):=HM ZK λx y M R h=>by
 cases x<;>first|exact Br h|(cases y<;>first|exact Br h|skip)
 case int.int i j=>show h
 case ref.int i j=>let#[xs,L,Y,O,W,r]:=h;show#[xs,L,Y,O,W,aO.frz r]
 case rl.int i j=>let#[Y,O,W,r]:=h;show#[Y,O,W,aO.frz r]
abbrev HQ:↑W->Mm->K3->Prop
 | [.tup ws],M,R=>R (.rl ws) M
 | [.rl ws],M,R=>R (.rl ws) M
 | [.sc ws],M,R=>R (.rl ws) M
 | [.dk kvs],M,R=>R (.rl<|kvs.map λg=>wK g.1) M
 | [!a],M,R=>(∃ws,M a=-.lst ws/\R (.rl ws) M)\/∃kvs,M a=-.dK kvs/\R (.rl<|kvs.map λg=>wK g.1) M
 | _,_,_=>False
def zaT(hc:X.calm=ab):cM X (.type "list") (eS X.K HQ):=HN (G9 hc) λx M R h=>by
 match x,h with
 | [.tup ws],h=>show aO.frz h
 | [.rl ws],h=>show aO.frz h
 | [.sc ws],h=>show aO.frz h
 | [.dk kvs],h=>show aO.frz h
 | [!a],h=>
  rcases h with⟨ws,e,r⟩|⟨kvs,e,r⟩
  .show .inl #[ws,e,aO.frz r]
  .show .inr #[kvs,e,aO.frz r]
abbrev HR:W->Option Int->Option Int->Mm->K3->Prop
 | .rl ws,lo,hi,M,R=>R (.rl<|dJ ws lo hi) M
 | .sc ws,lo,hi,M,R=>R (.rl<|dJ ws lo hi) M
 | .ref a,lo,hi,M,R=>∃ws,M a=-.lst ws/\R (.rl<|dJ ws lo hi) M
 | .tup ws,lo,hi,M,R=>¬(HT.sIx ↥ws 0 lo=0/\HT.sIx ↥ws ↥ws hi=↥ws)/\R (.tup<|dJ ws lo hi) M
 | _,_,_,_,_=>False
def zaU(h:HR x l u M R):G0 x l u M λw F=>frz w F R:=by
 cases x<;>first|exact Br h|skip
 case tup ws=>show h
 case rl ws=>show aO.frz h
 case sc ws=>show aO.frz h
 case ref a=>let#[ws,e,r]:=h;show#[ws,e,aO.frz r]
abbrev l7(ta:aR)(tl i:p7):aR:=λO M R=>ta O M λx I=>tl O I λl v=>i O v λu S=>HR x l u S R
def zaV{lo hi:Option Ck}{tl i:p7}{p2:Ja}(P:E3 X a ta)(hl:PO X lo<|p9 X.K tl)(Z:PO X hi<|p9 X.K i):E3 X (.Subscript a (.Slice lo hi ae p2) pos) (l7 ta tl i):=
 (UW ZW P hl Z).weak λG H Q V=>V.el λO M R m U h k=>#[O,M,_,m,U,h,λx B n I k1 j t L=>#[O,I,_,m.kp U k1,j,L,λl z v k2 N Y=>#[O,v,_,(m.kp U k1).kp j k2,N,Y,λu E S p F D=>
  #[n,S,_,F,(t.kp j k2).kp N p,zaU D,(((k.kp k1).kp k2).kp p).frz]]]]
variable {sc:Lm}{N':↑Av}{js:↑(Option Nat)}{tg iter elt:Ck}{ifs:↑Ck}{wi:iA}{g:eY}{tt:dR}{te:aR}
def zaW{i:Nat}(a:X.N.Nodup)(hi:PI X tg iter<|f9 X.K wi)(hg:∀B,PG (dX X sc (cN X.N tg js) B) tg<|iP X.K g)(ht:∀B,iK (dX X sc (cN X.N tg js) B) ifs<|kN X.K tt)(P:∀B,PE (dX X sc (cN X.N tg js) B) elt<|up X.K te)(b:X.N[i]? = aa x:=by rfl)(hl:oM X x=ab:=by show pV)(R:oH (cN X.N tg js) sc X.env.scope=ab:=by kernel_rfl)(F:fG (cN X.N tg js) X.N sc js (cN X.N tg js)=ab:=by kernel_rfl)(hc:X.calm=ab:=by rfl)(d:Nr (.ListComp elt [#[tg,iter,ifs,0]] sc pos) (-.Name x r) c.line X.env=pure ab:=by rfl)(l:∀x,Jj iter X.env x=pure x:=by intro _;rfl):P3 X (.Assign [.Name x r] (.ListComp elt [#[tg,iter,ifs,0]] sc pos) c) (aL i<|bD<|cV wi g tt te js):=
 (E4 a b (m9 hl).1 _ js hi hg ht P R F hc d (m9 hl).2 l).weak λD G H V=>V.el λO M s m U h k=>z9 #[O,M,_,m,U,h,Up.frz λy z J I k1 j E L=>k.nx _ _ _ _ k1 j ((m.kp U k1).set E i) L]
end
def Pl:Nat->W->Prop
 | _,.non=>True
 | _,¬_=>True
 | _,.str x=>Rq x=ab
 | n+1,.tup ws=>∀w∈ws,Pl n w
 | n+1,.rl ws=>∀w∈ws,Pl n w
 | _,_=>False
noncomputable def c9(M:Mm):W->W
 | .ref a=>match M a with
  | some (.lst ws)=>.rl ws
  | _=>!a
 | w=>w
section
variable {M:Mm}
theorem AE{n:Nat}(E:∀{w:W},Pl n w->∃d,Snap M w d/\d.canLay0=ab/\d.depth<=n):∀{ws:↑W},(∀w∈ws,Pl n w)->∃P,iZ M ws P/\PyData.canLayAll0 P=ab/\Sv P<=n
 | [],_=>#[[],.nil,7,by simp[Sv]]
 | w::ws,h=>by
  let#[d,s,c,e]:=E<|h w Bj;let#[P,ss,a,b]:=AE E λz hz=>h z<|Bi _ hz;show#[d::P,.cons s ss,by simp[PyData.canLayAll0,c,a],by simp only[Sv];lia]
def zaX:∀{n:Nat} {w:W},Pl n w->∃d,Snap M w d/\d.canLay0=ab/\d.depth<=n:=by
 intro n
 induction n with
 | zero=>
  intro w h;cases w<;>first|exact Br h|skip
  case non=>show#[_,.non,7,by simp[Km]]
  case int i=>show#[_,¬i,7,by simp[Km]]
  case str x=>show#[_,.str x,h,by simp[Km]]
 | succ n E=>
  intro w h;cases w<;>first|exact Br h|skip
  case non=>show#[_,.non,7,by simp[Km]]
  case int i=>show#[_,¬i,7,by simp[Km]]
  case str x=>show#[_,.str x,h,by simp[Km]]
  case tup ws=>
   let#[P,s,c,e]:=AE E h;show#[_,.tup s,by simpa [PyData.canLay0] using c,by simp only[Km];lia]
  case rl ws=>
   let#[P,s,c,e]:=AE E h;show#[_,.rl s,by simpa [PyData.canLay0] using c,by simp only[Km];lia]
def HS{n:Nat}(h:Pl n<|c9 M w):∃d,Snap M w d/\Snap M (c9 M w) d/\d.canLay0=ab/\d.depth<=n:=by
 let#[d,s,c,e]:=zaX (M:=M) h;show#[d,8,s,c,e];cases w<;>first|exact s|skip
 case ref a=>
  cases q:M a with
  | none=>
   let e:c9 M (!a)=!a:=by simp[c9,q]
   rw[e]at s;show s
  | some o=>
   cases o with
   | lst ws=>
    let e:c9 M (!a)=.rl ws:=by simp[c9,q]
    rw[e]at s;cases s with
    | rl r=>show .ref q r
   | dK _=>
    let e:c9 M (!a)=!a:=by simp[c9,q]
    rw[e]at s;show s
   | dT _=>
    let e:c9 M (!a)=!a:=by simp[c9,q]
    rw[e]at s;show s
   | fix _=>
    let e:c9 M (!a)=!a:=by simp[c9,q]
    rw[e]at s;show s
   | ins _ _ _=>
    let e:c9 M (!a)=!a:=by simp[c9,q]
    rw[e]at s;show s
   | dn _ _ _ _=>
    let e:c9 M (!a)=!a:=by simp[c9,q]
    rw[e]at s;show s
   | vw _=>
    let e:c9 M (!a)=!a:=by simp[c9,q]
    rw[e]at s;show s
   | dh _ _ _ _ _=>
    let e:c9 M (!a)=!a:=by simp[c9,q]
    rw[e]at s;show s
def HU{n:Nat}(E:∀{x y:W} {s a:Pc},Pl n x->Pl n y->Snap M x s->Snap M y a->(Oa s a=ab↔x=y)):∀{xs Z:↑W} {s a:↑Pc},(∀w∈xs,Pl n w)->(∀w∈Z,Pl n w)->iZ M xs s->iZ M Z a->(Qs s a=ab↔xs=Z):=by
 intro xs
 induction xs with
 | nil=>
  intro Z s a S U s1 V;ext s1;cases V<;>simp[Qs]
 | cons x xs b=>
  intro Z s a S U s1 V;cases s1 with
  | cons s1 F=>
   cases V with
   | nil=>simp[Qs]
   | cons V R=>
    rw[Qs,Dg,E (S x Bj) (U _ Bj) s1 V,b (λz hz=>S z<|Bi _ hz) (λz hz=>U z<|Bi _ hz) F R];simp
def zaY:∀{n:Nat} {x y:W} {s a:Pc},Pl n x->Pl n y->Snap M x s->Snap M y a->(Oa s a=ab↔x=y):=by
 intro n
 induction n with
 | zero=>
  intro x y s a S U c b;cases c<;>first|exact Br S|skip
  all_goals cases b<;>first|exact Br U|simp[Oa]
 | succ n E=>
  intro x y s a S U c b;cases c<;>first|exact Br S|skip
  all_goals cases b<;>first|exact Br U|skip
  all_goals first|(simp[Oa];done)|skip
  case tup.tup r1 _ _ r2=>rw[Oa,HU E S U r1 r2];simp
  case rl.rl r1 _ _ r2=>rw[Oa,HU E S U r1 r2];simp
def zaZ{neg:Bool}(n:Nat)(K:n<=60)(S:Pl n<|c9 M x)(U:Pl n<|c9 M y)(h:∀b:Bool,(b=ab↔c9 M x=c9 M y)->R (.bl (if neg then !(b) else b)) M):nG neg x y M R:=by
 let#[s,s1,c,I,T]:=HS S;let#[a,V,d,O,J]:=HS U;ext nG;show#[s,a,s1,V,#[I,9],#[O,9],h _<|zaY S U c d]
def nL{neg:Bool}(n:Nat)(K:n<=60)(S:Pl n<|c9 M x)(U:Pl n<|c9 M y)(h:∀b:Bool,(b=ab↔c9 M x=c9 M y)->R (.bl (if neg then !(b) else b)) M):dH neg x y M R:=by
 let d:=zaZ n K S U h;cases x<;>first|exact d|skip
 case int i=>
  cases y<;>first|exact d|skip
  case int j=>show h (decide<|i=j) (by simp[c9])
 case str i=>
  cases y<;>first|exact d|skip
  case str j=>show h (decide<|i=j) (by simp[c9])
 case bl i=>
  cases y<;>first|exact d|skip
  case bl j=>show(show False by cases n<;>exact S).elim
end
def HV{neg:Bool}(n:Nat)(K:n<=60)(S:Pl n<|c9 M x)(e:c9 M y=c9 M x)(h:R (.bl<|!(neg)) M):dH neg x y M R:=by
 show nL n K S (by rw[e];show S) λb Z=>8;have:b=ab:=Z.mpr e.symm;subst this;cases neg<;>exact h
def vH{keep:Mm->Prop}(St:S3->Prop)(h:W->S3)(e:W->Option W->Prop)(hl:↥ws<=Aw)(hk:∀M,Sub I M->keep M)(T:St c)(ht:∀w∈ws,St<|h w)(hg:∀w∈ws,∀O M (C:S3->Mm->Prop),St O->C (h w) M->g w O M C)(U:∀w∈ws,∀M (C:K3) (D:Mm->Prop),Sub I M->(∀y,e w (-y)->C y M)->(e w ae->D M)->k (h w) M λb S=>if b=ab then j (h w) S C else D S)(r:∀os,Dz e ws os->aO (os.filterMap id) I R):fU ws keep g k j c I R:=by
 ext fU;intro p B;show#[λi O acc M=>St O/\(∃os,Dz e (ws.take i) os/\acc=os.filterMap id)/\M=I,#[T,#[[],by simp;show .nil,7],7],8,8,8]
 .rintro vs i O acc M _ d ⟨_,_,rfl⟩;show hk _<|Sub.new B
 .rintro vs i w O acc M hw d ⟨st,⟨os,po,rfl⟩,rfl⟩;let J:w∈ws:=Ah hw;let hi:i<↥ws:=(An.mp hw).1;let f:ws.take (i+1)=ws.take i++[w]:=by rw[Bx,hw];rfl
  let snoc:∀o,e w o->Dz e (ws.take<|i+1) (os++[o]):=λo x=>by
   rw[f];clear hw d st f
   revert os
   generalize ws.take i=l;intro os po
   induction po with
   | nil=>show .cons x .nil
   | cons a b E=>show .cons a E
  let Z:↥(os.filterMap id)<Aw:=by
   let L:=List.length_filterMap_le id os;let Y:=Cv po;rw[Ct]at Y;lia
  show hg w J O _ _ st<|U w J _ _ _ (Sub.new B) (λy H=>#[aI,Z,M,8,ht w J,#[_,snoc _ H,8],7]) λK=>#[aI,M,8,ht w J,#[_,snoc _ K,8],7]
  .rw[iW B];show aV
  .simp
  .rw[iW B];show aV
  .simp
 .rintro O acc M d ⟨_,⟨os,po,rfl⟩,rfl⟩;rw[Bn]at po;show r os po p B
def AF(rest:S3):S3->Prop:=λO=>∃o,O=o::rest
def l8{keep:Mm->Prop}(f:W->W)(hl:↥ws<=Aw)(hk:∀M,Sub I M->keep M)(l:∀w∈ws,∀M (C:K3),Sub I M->C (f w) M->j (-w::rest) M C)(r:aO (ws.map f) I R):fU ws keep (aQ 0) d7 j (o::rest) I R:=by
 show vH (AF rest) (λw=>-w::rest) (λw o=>o=-f w) hl hk #[_,7] (λw _=>#[_,7]) 8 8 8
 .rintro w _ O M C ⟨o,rfl⟩ h;show h
 .intro w hw M C D sb L _;change(if ab=ab then j (-w::rest) M C else D M);rw[Xu rfl];show l w hw M C sb<|L _ rfl
 .intro os po;have:os.filterMap id=ws.map f:=by
   clear r l hl hk
   induction po with
   | nil=>rfl
   | cons a b E=>subst a;simp[E]
  rw[this];show r
def vJ{keep:Mm->Prop}(f:W->Option W)(hl:↥ws<=Aw)(hk:∀M,Sub I M->keep M)(l:∀w∈ws,∀M (C:K3) (D:Mm->Prop),Sub I M->(∀y,f w=-y->C y M)->(f w=ae->D M)->k (-w::rest) M λb S=>if b=ab then j (-w::rest) S C else D S)(r:aO (ws.filterMap f) I R):fU ws keep (aQ 0) k j (o::rest) I R:=by
 show vH (AF rest) (λw=>-w::rest) (λw o=>o=f w) hl hk #[_,7] (λw _=>#[_,7]) 8 8 8
 .rintro w _ O M C ⟨o,rfl⟩ h;show h
 .intro w hw M C D sb L Y;show l w hw M C D sb (λy e=>L y e.symm) λe=>Y e.symm
 .intro os po;have:os.filterMap id=ws.filterMap f:=by
   clear r l hl hk
   induction po with
   | nil=>rfl
   | @cons a b c d e _ E=>
    subst e;cases q:f a<;>simp[q,E]
  rw[this];show r
def sJ{keep:Mm->Prop}(P:W->W->Prop)(hl:↥ws<=Aw)(hk:∀M,Sub I M->keep M)(l:∀w∈ws,∀M (C:K3),Sub I M->(∀y,P w y->C y M)->j (-w::rest) M C)(r:∀Z,Dz P ws Z->aO Z I R):fU ws keep (aQ 0) d7 j (o::rest) I R:=by
 show vH (AF rest) (λw=>-w::rest) (λw o=>∃y,o=-y/\P w y) hl hk #[_,7] (λw _=>#[_,7]) 8 8 8
 .rintro w _ O M C ⟨o,rfl⟩ h;show h
 .intro w hw M C D sb L _;change(if ab=ab then j (-w::rest) M C else D M);rw[Xu rfl];show l w hw M C sb λy c=>L y #[y,7,c]
 .intro os po;have:∃Z,os=Z.map aa/\Dz P ws Z:=by
   clear r l hl hk
   induction po with
   | nil=>show#[[],7,.nil]
   | cons a b E=>
    let#[y,rfl,c]:=a;let#[Z,rfl,h]:=E;show#[y::Z,7,.cons c h]
  let#[Z,rfl,c]:=this;rw[Lq];have:(Z.filterMap<|id ∘ aa)=Z:=by simp
  rw[this];show r Z c
def Paired.all{P:W->W->Prop}{Q:W->Prop}(h:Dz P xs Z)(k:∀x y,P x y->Q y):∀y∈Z,Q y:=by
 induction h with
 | nil=>intro y U;ext U
 | cons a b E=>
  intro y U;rcases Bd.mp U with rfl|U
  .show k _ _ a
  .show E y U
def za0(rest:S3):S3->Prop:=λO=>∃s V,O=s::V::rest
noncomputable def za1(rest:S3):W->S3
 | .tup [a,b]=>-a::-b::rest
 | _=>ae::ae::rest
abbrev AG:eY:=eL 2<|bW (aQ 0)<|bW (aQ 1) eJ
def vK{ws:↑W}{keep:Mm->Prop}{k:dR}{j:aR}{s V:Option W}{rest:S3}{I:Mm}{R:K3}(P:W->Option W->Prop)(hw:∀w∈ws,∃a b,w=.tup [a,b])(hl:↥ws<=Aw)(hk:∀M,Sub I M->keep M)(l:∀a b,.tup [a,b]∈ws->∀M (C:K3) (D:Mm->Prop),Sub I M->(∀y,P (.tup [a,b]) (-y)->C y M)->(P (.tup [a,b]) ae->D M)->k (-a::-b::rest) M λd S=>if d=ab then j (-a::-b::rest) S C else D S)(r:∀os,Dz P ws os->aO (os.filterMap id) I R):fU ws keep AG k j (s::V::rest) I R:=by
 show vH (za0 rest) (za1 rest) P hl hk #[_,_,7] (λw J=>8) 8 8 r
 .let#[a,b,rfl]:=hw w J;show#[_,_,7]
 .rintro w J O M C ⟨m,Z,rfl⟩ h;let#[a,b,rfl]:=hw w J;show#[7,7,h]
 .intro w J M C D sb L Y;let#[a,b,rfl]:=hw w J;show l a b J M C D sb L Y
def HW{ws:↑W}{keep:Mm->Prop}{j:aR}{s V:Option W}{rest:S3}{I:Mm}{R:K3}(P:W->W->Prop)(hw:∀w∈ws,∃a b,w=.tup [a,b])(hl:↥ws<=Aw)(hk:∀M,Sub I M->keep M)(l:∀a b,.tup [a,b]∈ws->∀M (C:K3),Sub I M->(∀y,P (.tup [a,b]) y->C y M)->j (-a::-b::rest) M C)(r:∀Z,Dz P ws Z->aO Z I R):fU ws keep AG d7 j (s::V::rest) I R:=by
 show vK (λw o=>∃y,o=-y/\P w y) hw hl hk (λa b J M C D sb L _=>8) λos po=>8
 .change(if ab=ab then j (-a::-b::rest) M C else D M);rw[Xu rfl];show l a b J M C sb λy c=>L y #[y,7,c]
 .have:∃Z,os=Z.map aa/\Dz P ws Z:=by
   clear r l hl hk hw
   induction po with
   | nil=>show#[[],7,.nil]
   | cons a b E=>
    let#[y,rfl,c]:=a;let#[Z,rfl,h]:=E;show#[y::Z,7,.cons c h]
  let#[Z,rfl,c]:=this;rw[Lq];have:(Z.filterMap<|id ∘ aa)=Z:=by simp
  rw[this];show r Z c
structure Df(K:Ac)(mg:Av->Option Value)(x:Av)(st:Kt)(ps:↑Av)(f:Ao)(fd:Fi):Prop where
 fn:jF K x x st f fd
 at_:mg x=-!f
 bi:Binds K fd ps []
def za2:Cy "len" = aa (.builtin "len"):=PySem.boot_len
def vL:Cy "list" = aa (.type "list"):=5
def HX:Cy "tuple" = aa (.type "tuple"):=5
def za3:Cy "str" = aa (.type "str"):=5
def HY:Cy "int" = aa (.type "int"):=5
def AH:Cy "dict" = aa (.type "dict"):=5
def za4:Cy "isinstance" = aa (.builtin "isinstance"):=5
def za5:Cy "all" = aa (.builtin "all"):=5
def za6:Cy "any" = aa (.builtin "any"):=5
def za7:Cy "sum" = aa (.builtin "sum"):=5
def za8:Cy "sorted" = aa (.builtin "sorted"):=5
def l9{g:Type}(x:g)(xs:↑g):bP (x::xs) 0=-x:=by simp[bP,gQ]
def vM{g:Type}{xs:↑g}{i:Int}(Z:0<=i)(L:i<↥xs):∃x,bP xs i=-x/\xs[i.toNat]? = aa x/\x∈xs:=by
 let a:i.toNat<↥xs:=9
 show#[xs[i.toNat],8,Bh a,Sy a];simp[bP,gQ,Z,L,a]
def za9{g:Type}{xs:↑g}{i n:Int}(K:n=↥xs)(B:0<n):∃x,bP xs (i % n)=-x/\x∈xs:=by
 let Z:0<=i % n:=Ga _ 9;let L:i % n<n:=Fb _ B;let#[x,e,_,m]:=vM (xs:=xs) Z 9;show#[x,e,m]
def AI{ws:↑W}{lo hi:Option Int}{w:W}(h:w∈dJ ws lo hi):w∈ws:=Nm<|Ft h
def HZ{ws:↑W}{lo hi:Option Int}:↥(dJ ws lo hi)<=↥ws:=by
 ext dJ;rw[Ct,Eo];show Am (Kv _ _)<|Wt _ _
def qC(ws:↑W):Prop:=∀w∈ws,∃i,w=W.int i
def ints_map(ns:↑Int):qC (ns.map W.int):=λw h=>by
 let#[i,_,e]:=Ap.mp h;show#[i,e.symm]
def qC.cut(h:qC ws)(lo hi:Option Int):qC (dJ ws lo hi):=λw m=>h w<|AI m
def small{n:Nat}(h:n<=10000000):n<=Aw:=Am h ∅
def cS{n:Nat}(h:n<10000000):n<Aw:=Ca h ∅
def zba(a b n:Nat):min a n-min b n<=a-b:=by
 rcases Nat.le_total b n with h|h
 .rw[Nv h];show Nat.sub_le_sub_right (Nu _ _) _
 .rw[Nat.min_eq_right h,Nat.sub_eq_zero_of_le<|Kv _ _];show Cu _
def vN{i j:Int}(Z:0<=i)(L:0<=j):↥(dJ S (-i)<|-j)<=(j-i).toNat:=by
 let#[a,rfl]:=Jq Z;let#[b,rfl]:=Jq L;rw[Int.toNat_sub,dJ,Ct,HT.sIx_nat,HT.sIx_nat];show Am (Nu _ _)<|zba ..
def vO{b:Bool}(K:∀m,HG M w m↔m=n)(l:AB n T=-b):nK [w,.ty T] M R↔R (.bl b) M:=
 #[λV=>by let#[_,_,L,Y,O]:=V;cases (K _).mp L;cases l.symm.trans Y;show O,λh=>#[n,b,(K n).mpr rfl,l,h]]
def zbb{i:Int}:nK [W.int i,.ty "int"] M R↔R (.bl ab) M:=vO (λ_=>Ri) ∅
def zbc:nK [W.str x,.ty "tuple"] M R↔R (.bl ac) M:=vO (λ_=>Ri) ∅
def zbd:nK [W.tup ws,.ty "tuple"] M R↔R (.bl ab) M:=vO (λ_=>Ri) ∅
def IA:nK [W.tup ws,.ty "int"] M R↔R (.bl ac) M:=vO (λ_=>Ri) ∅
def sM{M:Mm}{a:Ao}{k:Av}{v:W}{kvs:↑(aC×W)}{Q:Mm->Prop}(h:M a=-.dK kvs)(hl:↥kvs<Aw)(q:Q<|put M a<|.dK<|bU kvs (Sum.inr k) v):sG (!a) (.str k) v M Q:=.inr<|.inl #[kvs,.inr k,7,h,hl,q]
def oP{M:Mm}{a:Ao}{k:↑aC}{v:W}{kvs:↑(↑aC×W)}{Q:Mm->Prop}(h:M a=-.dT kvs)(hl:↥kvs<Aw)(q:Q<|put M a<|.dT<|bU kvs k v):sG (!a) (.tup<|k.map wK) v M Q:=.inr<|.inr #[kvs,k,7,h,hl,q]
def AJ{M:Mm}{a:Ao}{k:Int}{v:W}{ws:↑W}{Q:Mm->Prop}(h:M a=-.lst ws)(Z:0<=k)(L:k<↥ws)(q:Q<|put M a<|.lst<|ws.set k.toNat v):sG (!a) (¬k) v M Q:=
 .inl #[ws,k,k.toNat,7,h,by ext gQ;rw[Xu Z,Xu L],q]
section
variable {X:Cx}{a b c:Ck}{ta tb tc:aR}{pos:Ja}
def zbe{K:Ac}{r g:R3}{G:SV}{H:Hp}{Q:VK}(h:up K (AA r g ta tb tc) G H Q):DR (cP K r) (cP K g) (up K ta) (up K tb) (up K tc) G H Q:=by
 let#[O,M,R,m,U,h,k]:=h;show#[O,M,_,m,U,h,λx B n I k1 j t L=>#[O,I,_,m.kp U k1,j,L,λy i J v k2 P E Y=>#[n,J,v,_,P,t.kp j k2,E,Y,λz l f S p F V h=>8]]];let#[c,rfl,D]:=mZ.el h;show#[c,V.bl_inv,8];cases c with
 | false=>show((k.kp k1).kp k2).kp p |>.at F (.bl ac) D
 | true=>show#[O,S,_,((m.kp U k1).kp j k2).kp P p,F,D,λw T e a d b o W=>#[J,e,a,R,b,(E.kp P p).kp F d,o,W,(((k.kp k1).kp k2).kp p).kp d]]
def zbf{op q:Xb}{r g:R3}(f:bF X (Dq op)<|cP X.K r)(E:bF X (Dq q)<|cP X.K g)(S:E3 X a ta)(Z:E3 X b tb)(hc:E3 X c tc)(J:lastMarks [op,q] [b,c]=ac:=by with_unfolding_all rfl):T3 X (.Compare a [op,q] [b,c] pos) (bL<|AA r g ta tb tc):=
 (S4 f E S Z hc J).weak λG H Q V=>V.el λO M R m U h k=>zbe #[O,M,_,m,U,h,λv L w F Y N av h=>by
  let#[c,rfl,r]:=mZ.el h;show#[c,av.bl_inv,k c L F Y N r]]
abbrev vP:↑W->Mm->K3->Prop
 | [!a],M,R=>∃bs,M a=-.lst (bools bs)/\R (.bl<|bs.any id) M
 | [.rl ws],M,R=>∃bs,ws=bools bs/\R (.bl<|bs.any id) M
 | _,_,_=>False
def zbg(hc:X.calm=ab):cM X (.builtin "any") (eS X.K vP):=by
 rintro C s G H xs us Q I rs ⟨ws,M,R,U,N,h,k⟩
 match ws,h with
 | [!a],h=>
  let#[v,rfl,av]:=N.one;obtain rfl:=av.inv;let#[bs,e,r]:=h;let#[vs,f,q]:=U.lst e;rw[q.bools]at f;show uL ab hc C s G H _ us Q I rs #[a,bs,7,bO.of f,k.at U (.bl _) r]
 | [.rl ws],h=>
  let#[v,rfl,av]:=N.one;let#[bs,rfl,r]:=h;cases av with
  | rl f _ q=>
   rw[q.bools]at f;show uL ab hc C s G H _ us Q I rs #[_,bs,7,bO.of f,k.at U (.bl _) r]
end
noncomputable def i0(n:Nat)(ws:↑W):↑W:=(ws.zipIdx n).map λx=>.tup [.int (x.2:Nat),x.1]
def oQ{n:Nat}:↥(i0 n ws)=↥ws:=by rw[i0,Ab,Rr]
def AK{n i:Nat}:(i0 n ws)[i]? = (ws[i]?).map λw=>W.tup [.int ((n+i:Nat):Int),w]:=by rw[i0,Au,List.getElem?_zipIdx,Qc];rfl
def vQ{g:Type}(f:g->W)(ws:↑g)(n:Nat):i0 n (ws.map f)=(ws.zipIdx n).map λx=>W.tup [.int (x.2:Int),f x.1]:=by rw[i0,List.zipIdx_map,Bp];rfl
section
variable {X:Cx}{a b c:Ck}{ta tb tc:aR}{pos:Ja}
def IC{K:Ac}{j:Hp}{g:Mm}{b:Bool}{p:Ao}{vs:↑V}{ws:↑W}(G:aJ K j g vs ws)(s:AM K j g)(st:∀H M,Kp j g H M->rV K b H p vs):iB K j g (zB K b p vs) (i0 0 ws) λ_=>True:=by
 show#[λi H M k U kp hi=>#[st H M k,by rw[oQ]at hi;rw[↥G];show hi],λH M k U kp=>#[st H M k,by rw[oQ,↥G]],λi H M x L k U kp hi y=>8];let#[f,u,D,d,rfl,rfl]:=y;let#[w,hw,av]:=(G.kp s k).getV D;let#[P,k2]:=U.tup (u:=.tup [.int (i:Nat),u]) d;show#[.tup [.int ((i:Nat):Int),w],by rw[AK,hw,Jb];rfl,k2,P,.tup b8<|.cons (¬_)<|.cons (av.go<|go_same d) .nil]
abbrev zbh:↑W->Mm->(↑W->(Mm->Prop)->Mm->Prop)->Prop
 | [.rl A],M,R=>R (i0 0 A) (λ_=>True) M
 | [.tup A],M,R=>R (i0 0 A) (λ_=>True) M
 | _,_,_=>False
abbrev qD(ta:dO):iA:=λO M R=>ta O M λws I=>zbh ws I R
def zbi{kx:Nat}(hg:Gl X "enumerate")(J:X.mg "enumerate" = ae)(S:A3 X [a] f)(l:Cr [a] X.env=[(ac,Ff a X.env)]:=by rfl):PI X (.Tuple es kx Y) (.Call (.Name "enumerate" p) [a] [] pos) (f9 X.K<|qD f):=
 (YG hg J S l).weak λG H Q V=>V.el λO M R m U h k=>#[O,M,_,m,U,h,λvs B ws I k1 j t r=>by
  match ws,r with
  | [.rl A],r=>
   let#[v,rfl,av]:=t.one;let#[b,Z,rfl,e,n,q]:=av.inv;show#[ac,b,Z,7,bO.of e,k _ _ _ _ _ k1 j (IC q j λH M k=>bO.of (k.fr _ _ n e).1) r]
  | [.tup A],r=>
   let#[v,rfl,av]:=t.one;let#[b,Z,rfl,e,q]:=av.inv;show#[ab,b,Z,7,bJ.of e,k _ _ _ _ _ k1 j (IC q j λH M k=>bJ.of (k.fr _ _ (j.noTup e) e).1) r]]
noncomputable abbrev oR:↑W->↑W->↑W:=List.zipWith λx y=>.tup [x,y]
def zbj:↥(oR xs Z)=min ↥xs ↥Z:=List.length_zipWith
def zbk{i:Nat}(h:xs[i]? = aa x)(h':Z[i]? = aa y):(oR xs Z)[i]? = aa (.tup [x,y]):=by rw[List.getElem?_zipWith,h,h']
end
section
variable {X:Cx}{a b c:Ck}{ta tb tc:aR}{pos:Ja}
def zbl{K:Ac}{j:Hp}{g:Mm}{p q:Ao}{vs us:↑V}{ws A:↑W}(s:AM K j g)(T:j p=-.tup vs)(J:j q=-.tup us)(F:aJ K j g vs ws)(R:aJ K j g us A)(l:↥ws=↥A):iB K j g (uS K p q vs us) (oR ws A) λ_=>True:=by
 let s1:∀H M,Kp j g H M->bJ K H p vs:=λH M k=>bJ.of (k.fr _ _ (s.noTup T) T).1;let n:∀H M,Kp j g H M->bJ K H q us:=λH M k=>bJ.of (k.fr _ _ (s.noTup J) J).1;let m:↥(oR ws A)=↥vs:=by rw[zbj,<-l,Nat.min_self,↥F]
 show#[λi H M k U _ hi=>#[s1 H M k,n H M k,m▸hi,by rw[↥F,↥R];show l],λH M k U _=>#[s1 H M k,Hw m.symm],λi H M x L k U _ hi y=>8];let#[f,u,v,D,c,d,rfl,rfl]:=y;let#[w,hw,av]:=(F.kp s k).getV D;let#[z,hz,S]:=(R.kp s k).getV c;let#[P,k2]:=U.tup (u:=.tup [u,v]) d;show#[.tup [w,z],zbk hw hz,k2,P,.tup b8<|.cons (av.go<|go_same d)<|.cons (S.go<|go_same d) .nil]
def zbm:↑W->Mm->(↑W->(Mm->Prop)->Mm->Prop)->Prop
 | [.tup xs,.tup Z],M,R=>↥xs=↥Z/\R (oR xs Z) (λ_=>True) M
 | _,_,_=>False
abbrev AL(ta:dO):iA:=λO M R=>ta O M λws I=>zbm ws I R
def zbn{kx:Nat}(hg:Gl X "zip")(J:X.mg "zip" = ae)(S:A3 X [a,b] f)(l:Cr [a,b] X.env=[(ac,Ff a X.env),(ac,Ff b X.env)]:=by rfl)(L:Cr [b] X.env=[(ac,Ff b X.env)]:=by rfl):
  PI X (.Tuple es kx Y) (.Call (.Name "zip" p) [a,b] [] pos) (f9 X.K<|AL f):=
 (YD hg J S l L).weak λG H Q V=>V.el λO M R m U h k=>#[O,M,_,m,U,h,λvs B ws I k1 j t r=>by
  match ws,r with
  | [.tup xs,.tup Z],r=>
   let#[v,u,e,av,o]:=t.two;let#[i,x1,F,T,C]:=av.inv;let#[c,x2,y,D,d]:=o.inv;show#[i,c,_,_,by rw[e,F,y],bJ.of T,bJ.of D,k _ _ _ _ _ k1 j (zbl j T D C d r.1) r.2]]
def AN:W->Mm->K3->Prop
 | .tup ws,M,R=>R (.rl ws.reverse) M
 | .rl ws,M,R=>R (.rl ws.reverse) M
 | _,_,_=>False
abbrev AQ(ta:aR):aR:=λO M R=>ta O M λw I=>AN w I R
def zbo{p p2 pos c:Ja}(hg:Gl X "list")(J:X.mg "list" = ae)(x:Gl X "reversed")(Y:X.mg "reversed" = ae)(S:E3 X a ta)(hc:X.calm=ab:=by rfl)(f:Cr [.Call (.Name "reversed" p2) [a] [] c] X.env=[(ac,Ff (.Call (.Name "reversed" p2) [a] [] c) X.env)]:=by rfl)(L:Cr [a] X.env=[(ac,Ff a X.env)]:=by rfl):
  E3 X (.Call (.Name "list" p) [.Call (.Name "reversed" p2) [a] [] c] [] pos) (AQ ta):=
 (X7 hc hg J x Y (pX S r6<|L.trans rfl) f L).weak λG H Q V=>V.el λO M R m U h k=>#[O,M,λws I=>match ws with | [w]=>AN w I R|_=>False,m,U,h,λvs z ws I k1 j t r=>by
  obtain⟨w,rfl,r⟩:∃w,ws=[w]/\AN w I R:=by
   match ws,r with
   | [w],r=>show#[w,7,r]
  let#[v,rfl,av]:=t.one;let g:(∃us,w=.tup us/\R (.rl us.reverse) I)\/∃us,w=.rl us/\R (.rl us.reverse) I:=by
   cases w with
   | tup us=>show .inl #[us,7,r]
   | rl us=>show .inr #[us,7,r]
   | _=>show Br r
  rcases g with⟨us,rfl,r⟩|⟨us,rfl,r⟩
  .let#[b,Z,rfl,e,q]:=av.inv;show#[b,Z,7,.inl<|bJ.of e,λp B=>AD j (k.kp k1) B q.reverse r]
  .let#[b,Z,rfl,e,_,q]:=av.inv;show#[b,Z,7,.inr<|bO.of e,λp B=>AD j (k.kp k1) B q.reverse r]]
end
section
variable {X:Cx}
def aJ.intsL{K:Ac}{H:Hp}{M:Mm}{ns:↑Int}{vs:↑V}(h:aJ K H M vs<|ns.map W.int):vs=ns.map V.int:=h.ints
def vR:↑W->Mm->K3->Prop
 | [.rl ws],M,R=>∃ns:↑Int,ws=ns.map W.int/\R (¬ns.sum) M
 | _,_,_=>False
def zbp(hc:X.calm=ab):cM X (.builtin "sum") (eS X.K vR):=by
 rintro C s G H xs us Q I rs ⟨ws,M,R,U,N,h,k⟩
 match ws,h with
 | [.rl ws],h=>
  let#[v,rfl,av]:=N.one;let#[ns,rfl,r]:=h;cases av with
  | rl f _ q=>
   rw[q.intsL]at f;show YI hc C s G H _ us Q I rs #[_,ns,7,bO.of f,k.at U (¬_) r]
def zbq:↑W->Mm->K3->Prop
 | [.dk kvs],M,R=>∃ks:↑Av,kvs.map Cg=ks.map Sum.inr/\↥ks<64/\∀ss:↑Av,ss.Perm ks->aO (ss.map W.str) M R
 | _,_,_=>False
def ID:↑W->Mm->K3->Prop
 | [.dk kvs],M,R=>∃ks:↑Av,kvs.map Cg=ks.map Sum.inr/\↥ks<64/\∀ss:↑Av,ss.Perm ks->R (.rl<|ss.map W.str) M
 | _,_,_=>False
def zbr{K:Ac}{H:Hp}{M:Mm}(ss:↑Av):aJ K H M (ss.map V.str) (ss.map W.str):=by
 induction ss with
 | nil=>show .nil
 | cons s r E=>show .cons (.str s) E
def zbs(hc:X.calm=ab):cM X (.builtin "sorted") (eS X.K zbq):=by
 rintro C s G H xs us Q I rs ⟨ws,M,R,U,N,h,k⟩
 match ws,h with
 | [.dk kvs],h=>
  let#[v,rfl,av]:=N.one;let#[ks,hk,a,r]:=h;cases av with
  | dk e n c q=>show YH hc C s G H _ us Q I rs #[_,_,ks,7,e,c.trans hk,a,λss B p b=>gR U k b (zbr ss)<|r ss B]
def zbt(hc:X.calm=ab):cM X (.builtin "sorted") (eS X.K ID):=HN (zbs hc) λx M R h=>by
 match x,h with
 | [.dk kvs],#[ks,L,Y,r]=>show#[ks,L,Y,λss B=>aO.frz<|r ss B]
end
end L2
namespace PySem
namespace Dp
open L2
section
variable {prog:Bc}{w:Bq}{A:Cw}{E:Value->Ai->Prop}{s:Ai}
def zbu:Ky (.type "list") "keys" = pure ae:=by rw[Gj,Eh];kernel_rfl
def keys_miss{k:Nat}{Q:Option Value->Ai->Prop}(hx:s.heap.get? a=aa {cls:=.type "list",data:=.seq xs k})(hA:A.handled=ae)(h:∀h' tk,(∀b o,s.heap.get? b=-o->h'.get? b=-o)->Q ae {s with heap:=h',toks:=tk}):Bm (Cp prog w) A (Vi (!a)<|Bz "keys") Q E s:=by
 let#[hp,g,d,tk,os]:=s;let hT:∀tk',(#[hp,g,d,tk',os]:Ai).TypeIs (!a) "list":=λ_=>#[_,hx,7]
 let f1:=sub_AttributeError;let f3:=Pk.lookup;let f4:=Pk.bind !a;let f5:=am_list_getattr_none;unfold Vi getAttrBy? getAttrBy
 repeat (any_goals (first|assumption|exact hT _|((with_reducible change Bm _ _ (call (Value.builtin "list.__getattribute__") _ _) _ _ _);refine La Pk (hT _) am_entry_list_getattribute (F.args_list_getattribute_2 _ _) (meets_getattribute_miss_list a xs k #[] (Bz "keys") _ zbu 5<|5) #[hx,hA,λh' tk' e hx'=>8])|wp_step))
 let#[t',u',he]:=hx'.there;let hx2:=hx'.of.keeps;change Bm _ _ (Oz _ _ _ _ _ _ _) _ _ _;unfold Oz
 repeat (any_goals (first|assumption|wp_step))
 show h _ _ hx2
def IE:Vk table "dict.update.loop" = aa Hs.«dict.update.loop»:=Ui (by kernel_rfl)
def vS:plainId "dict.update.loop" = ab:=5
variable {K:Type}[DecidableEq K]{knd:KeyKind prog w K}
def zbv(kvs:↑(K×Value))(k:K)(v:Value):↥(Wh kvs k v)<=↥kvs+1:=by
 unfold Wh;split
 .rw[Ab];lia
 .rw[Ag,Cd];show Aj _
noncomputable def all(kvs:↑(K×Value))(ps:↑(K×Value)):↑(K×Value):=ps.foldl (λkvs p=>Wh kvs p.1 p.2) kvs
def zbw{n:Nat}{Dd:Nat->Ai->Prop}{Z:Ai->Prop}{R:Wr->Ai->Prop}(nx:∀{i:Nat} {t:Ai} {E:Value->Ai->Prop} {Q:Option Value->Ai->Prop},i<n->Dd i t->(∀(a:Ao) (key v:Value) (t':Ai),t'.heap.IsTuple a [key,v].toArray->(∀{E:Value->Ai->Prop} {Q:Unit->Ai->Prop},(∀W,Dd (i+1) W->Q () W)->Bm (Cp prog w) A.in1 (Wk d key v) Q E t')->Q (aa !a) t')->Bm (Cp prog w) A.in1 (Ia I) Q E t)(dn:∀{t:Ai} {E:Value->Ai->Prop} {Q:Option Value->Ai->Prop},Dd n t->(∀t',Z t'->Q ae t')->Bm (Cp prog w) A.in1 (Ia I) Q E t)(g:∀t',Z t'->R (.ok<|.ret .none) t'):
  ∀(k i:Nat) (s:Ai),i+k=n->Dd i s->Ny (Cp prog w) A (.builtin "dict.update.loop" #[[!d,I,Ie (i:Int),.none],[]]) R s:=by
 intro k
 induction k with
 | zero=>
  intro i s hk hd;show Rg IE 8;rw[Na vS _];change Bm _ A.in1 (Ia I>>=_) _ _ s;show Aa<|dn (hk▸hd) λt' f=>8;change Bm _ A.in1 (Builtin.Dict.addKeywords d []>>=_) _ _ _;show Aa<|Ak<|Ak<|g t' f
 | succ k O=>
  intro i s hk hd;show Rg IE 8;rw[Na vS _];change Bm _ A.in1 (Ia I>>=_) _ _ s;show Aa<|nx (hk▸Nat.lt_add_of_pos_right (Sn k)) hd λa key v t' c go=>8;let#[o,D,hc,m,l]:=c;change Bm _ A.in1 (Mc [Value.ref a] _>>=_) _ _ _;show Aa<|Eg<|Aa<|wpAny_tryCatch 8;unfold Builtin.Dict.pairItems;show Aa<|Qo (T:="tuple") #[o,D,hc] 8;rw[Xu ∅];show Aa<|Gx D l<|Ak 8;change Bm _ _ (Mc [key,v]<|Wk d key v) _ _ _;show Eg<|go λW b=>Ak #[Pp vS _,O (i+1) W (by rw[Rx];show hk) b]
def callG{l:Ao}{ob:Nh}{T:String}{n:Nat}{Dd:Value->Nat->Ai->Prop}{Z:Ai->Prop}{Q:Value->Ai->Prop}(S:s.heap.get? l=-ob)(hc:ob.cls=.type T)(K:(Value.type T != .type "dict")=ab)(d:∀{t:Ai} {E:Value->Ai->Prop} {Q:Option Value->Ai->Prop},t.heap.get? l=-ob->(∀h' tk,(∀b o,t.heap.get? b=-o->h'.get? b=-o)->Q ae {t with heap:=h',toks:=tk})->Bm (Cp prog w) A.in1.in1 (Vi (!l)<|Bz "keys") Q E t)(it:∀{h':Cz} {tk:Nat} {E:Value->Ai->Prop} {Q:Value->Ai->Prop},(∀b o,(s.heap.push {cls:=.type "dict",data:=.dict #[]}).get? b=-o->h'.get? b=-o)->(∀I Y,Dd I 0 {s with heap:=Y,toks:=tk}->Q I {s with heap:=Y,toks:=tk})->Bm (Cp prog w) A.in1.in1 (Qq !l) Q E {s with heap:=h',toks:=tk})(nx:∀{I:Value} {i:Nat} {t:Ai} {E:Value->Ai->Prop} {Q:Option Value->Ai->Prop},i<n->Dd I i t->(∀(a:Ao) (key v:Value) (t':Ai),t'.heap.IsTuple a [key,v].toArray->(∀{E:Value->Ai->Prop} {Q:Unit->Ai->Prop},(∀W,Dd I (i+1) W->Q () W)->Bm (Cp prog w) A.in1.in1 (Wk ⇑s key v) Q E t')->Q (aa !a) t')->Bm (Cp prog w) A.in1.in1 (Ia I) Q E t)(dn:∀{I:Value} {t:Ai} {E:Value->Ai->Prop} {Q:Option Value->Ai->Prop},Dd I n t->(∀t',Z t'->Q ae t')->Bm (Cp prog w) A.in1.in1 (Ia I) Q E t)(h:∀t',Z t'->Q (!⇑s) t'):
  Bm (Cp prog w) A (call (.type "dict") [!l]) Q E s:=by
 show callType_codes (Q₁:=λobj j=>obj=!⇑s/\j = (s<&>s.heap.push {cls:=.type "dict",data:=.dict #[]})) F.kt_called_dict (F.kt_typeCall_dict_1 _) F.entry_dict_init (kt_code_dict_new _ #[7,7]) 8;rintro obj j ⟨rfl,rfl⟩;let H:(s.heap.push {cls:=.type "dict",data:=.dict #[]}).get? l=-ob:=Af _ S;let q:((s<&>s.heap.push {cls:=.type "dict",data:=.dict #[]}):Ai).TypeIs (!⇑s) "dict":=#[_,Ax _ rfl,7];show#[q,F.args_dict_init_2 _ _,8];unfold Hs.«dict.__init__»;show Aa 8;unfold Builtin.Dict.selfAndRest;show Aa<|Iz q 8;change Bm _ _ (pure (⇑s,[Value.ref l])) _ _ _;show Ak 8;change Bm _ _ (Builtin.Dict.updateFrom "dict.__init__" ⇑s (!l) [] .none) _ _ _;unfold Builtin.Dict.updateFrom;show Aa<|Qo (T:=T) #[_,H,hc] 8;rw[Xu K];show Aa<|d (t:=(s<&>s.heap.push {cls:=.type "dict",data:=.dict #[]})) H λL e c=>8;rw[Xu ∅];show Aa<|Iq<|Aa<|it c λI Y C=>Ak #[Pp vS _,zbw nx dn (λt' f=>#[7,h t' f]) n 0 _ (Jb n) C]
def callL{c:Nat}{Dd:Nat->Cz->Prop}{Q:Value->Ai->Prop}(hh:A.handled=ae)(hx:s.heap.get? l=aa {cls:=.type "list",data:=.seq items c})(d0:Dd 0<|s.heap.push {cls:=.type "dict",data:=.dict #[]})(fr:∀{i h h'},Dd i h->(∀b o,@LE.le Nat _ b ⇑s->h.get? b=-o->h'.get? b=-o)->Dd i h')(st:∀{i:Nat} {t:Ai},i<items.size->Dd i t.heap->(∀b o,s.heap.get? b=-o->t.heap.get? b=-o)->∃(a:Ao) (key v:Value),items[i]? = aa (!a)/\s.heap.IsTuple a [key,v].toArray/\∀{E:Value->Ai->Prop} {Q:Unit->Ai->Prop},(∀h2 tk,Dd (i+1) h2->Fd ⇑s t.heap h2->Q () {t with heap:=h2,toks:=tk})->Bm (Cp prog w) A.in1.in1 (Wk ⇑s key v) Q E t)(h:∀h' tk,(∀b o,s.heap.get? b=-o->h'.get? b=-o)->Dd items.size h'->Q (!⇑s) {s with heap:=h',toks:=tk}):
  Bm (Cp prog w) A (call (.type "dict") [!l]) Q E s:=by
 let lt:l<⇑s:=Ba hx;show callG (n:=items.size) (Z:=λt=>∃h' tk,t = {s with heap:=h',toks:=tk}/\(∀b o,s.heap.get? b=-o->h'.get? b=-o)/\Dd items.size h')
  (Dd:=λI i t=>∃(J:Ao) (h':Cz) (tk:Nat),I=!J/\⇑s<J/\t = {s with heap:=h',toks:=tk}/\Dd i h'/\(∀b o,s.heap.get? b=-o->h'.get? b=-o)/\h'.IsListIter J l i) hx rfl ∅ (λhx' k=>keys_miss hx' hh k) (λ{h' tk E Q} hk k=>8) (λ{I i t E Q} hi z0 k=>8) (λ{I t E Q} z0 k=>8) λt z0=>by let#[h',tk,rfl,e,d]:=z0;show h h' tk e d
 .let hx1:=hk _ _<|Af _ hx;show Ko (items:=items) #[_,hx1,7,c,7]<|k _ _ #[_,_,_,7,Ba<|hk _ _<|Ax _ rfl,7,fr d0 λb o _ e=>Af _<|hk b o e,λb o e=>Af _<|hk b o<|Af _ e,#[_,Ax _ rfl,7,7]]
 .let#[J,g,tk,rfl,lJ,rfl,d,up,ii]:=z0;let ls:g.IsList l items:=#[_,up _ _ hx,7,c,7];show(Tw (prog:=prog) (w:=w) (A:=A.in1.in1) hh J l (Bw<|Hv lt lJ) items).item i _ _ _ hi #[ii,ls] λv h' tk' hv hst hm=>8;let up':∀b o,s.heap.get? b=-o->h'.get? b=-o:=λb o e=>hm b o (λz=>absurd (Ae.mp z)<|Bw<|Hv (Ba e) lJ)<|up b o e;obtain⟨a,key,u,ha,⟨o,ho,r⟩,go⟩:=st (t:={s with heap:=h',toks:=tk'}) hi (fr d λb o hb e=>hm b o (λz=>absurd (Ae.mp z)<|Bw<|Er hb lJ) e) up';rw[ha]at hv;ext hv;show k a key u _ #[o,up' a o ho,r] λk2=>go λh2 tk2 d2 sb=>k2 _ #[J,h2,tk2,7,lJ,7,d2,λb o e=>(sb.2 b<|Bw<|Ba e).trans<|up' b o e,hst.1.at λo e=>(sb.2 J<|Dr lJ).trans e]
 .let#[J,g,tk,rfl,lJ,rfl,d,up,ii]:=z0;show(Tw (prog:=prog) (w:=w) (A:=A.in1.in1) hh J l (Bw<|Hv lt lJ) items).done _ _ _ #[ii,#[_,up _ _ hx,7,c,7]] λh' tk' hm=>k _ #[h',tk',7,λb o e=>hm b o (λz=>absurd (Ae.mp z)<|Bw<|Hv (Ba e) lJ)<|up b o e,fr d λb o hb e=>hm b o (λz=>absurd (Ae.mp z)<|Bw<|Er hb lJ) e]
def take_at{g:Type}{ps:↑g}{i:Nat}{p:g}(h:ps[i]? = aa p):ps.take (i+1)=ps.take i++[p]:=by rw[Bx,h];rfl
def zbx(ps:↑(K×Value)):∀kvs,↥(all kvs ps)<=↥kvs+↥ps:=by
 induction ps with
 | nil=>show λ_=>Aj _
 | cons p ps E=>show λkvs=>Am (E _) (by have:=zbv kvs p.1 p.2;rw[Bl];lia)
def call_pairs{l:Ao}{items:Array Value}{c:Nat}{ps:↑(K×Value)}{Q:Value->Ai->Prop}(hh:A.handled=ae)(hx:s.heap.get? l=aa {cls:=.type "list",data:=.seq items c})(hn:↥ps=items.size)(hz:items.size<=Aw)(hp:∀(j:Nat) (p:K×Value),ps[j]? = aa p->∃(a:Ao) (key:Value),items[j]? = aa (!a)/\s.heap.IsTuple a [key,p.2].toArray/\knd.is p.1 key=ab)(h:∀h' tk,(∀b o,s.heap.get? b=-o->h'.get? b=-o)->h'.DictOf knd ⇑s (all [] ps)->Q (!⇑s) {s with heap:=h',toks:=tk}):
  Bm (Cp prog w) A (call (.type "dict") [!l]) Q E s:=by
 show callL (Dd:=λi h=>h.DictOf knd ⇑s<|all []<|ps.take i) hh hx (Heap.DictOf.new s.heap) (λ#[o,es,ep,ho,rest] hm=>#[o,es,ep,hm _ o (Aj _) ho,rest]) (λ{i t} hi hd _=>8) λh' tk e d=>h h' tk e (by rw[<-hn,Bn]at d;show d);obtain⟨p,hpi⟩:∃p,ps[i]? = aa p:=#[_,Bh 9];let#[a,key,g1,g2,g3]:=hp i p hpi;let len:=zbx (ps.take i) [];rw[Ct,Iw]at len;show#[a,key,p.2,g1,g2,λk=>wpAny_dictSet_pairs g3 hd (λh2 d2 s2=>k h2 _ 8 s2) 9];rw[take_at hpi,all,Mg];show d2
end
end Dp
end PySem
namespace L2
section
variable {X:Cx}
noncomputable def j9(kvs:↑(aC×W))(ps:↑(aC×W)):↑(aC×W):=ps.foldl (λkvs p=>bU kvs p.1 p.2) kvs
noncomputable def oS(ps:↑(aC×W)):↑W:=ps.map λp=>.tup [wK p.1,p.2]
def AR:↑W->Mm->K3->Prop
 | [.rl ws],M,R=>∃ps:↑(aC×W),ws=oS ps/\↥ws<=Aw/\h9 (j9 [] ps) M R
 | _,_,_=>False
theorem AU(I:L2.Inv X C G H s):∀{ps:↑(aC×W)} {vs:↑V} {its:↑Value},aJ X.K H M vs (oS ps)->a6 vs its->
  ∃(ks:↑(aC×V)) (rs:↑(aC×Value)),bT X.K H M aC ks ps/\KV ks rs/\↥rs=↥its/\
   ∀(j:Nat) (p:aC×Value),rs[j]? = aa p->∃(a:Ao) (key:Value),its[j]? = aa (!a)/\s.heap.IsTuple a [key,p.2].toArray/\(bS X.prog X.w).is p.1 key=ab
 | [],_,_,.nil,.nil=>#[[],[],.nil,.nil,7,λj p h=>by simp at h]
 | (k,w)::ps,_,_,.cons av D,.cons m b=>by
  let#[ks,rs,L,Y,O,R]:=AU I D b;let#[a,xs,g,e,q]:=av.inv;rw[g]at m;let#[Z,P,ex,l,c]:=q.two;let#[i,U,pl,_]:=I.tuple<|bJ.of e;rw[ex,l.key]at U;let#[n,d,S,x1,x2]:=vals2 U;rw[S]at pl;show#[(k,P)::ks,(k,d)::rs,.cons #[7,c] L,.cons #[7,x2] Y,congrArg (· + 1) O,λj p F=>8];cases j with
  | zero=>rw[<-Cm F];show#[a,n,congrArg aa m,pl,jY x1]
  | succ j=>show R j p F
def IF(h:bT X.K H M aC ks ps):∀{rs:↑(aC×Value)} {kvs:↑(aC×W)} {g:↑(aC×V)} {us:↑(aC×Value)},KV ks rs->bT X.K H M aC g kvs->KV g us->
  ∃c:↑(aC×V),bT X.K H M aC c (j9 kvs ps)/\KV c (Dp.all us rs)/\↥c<=↥g+↥ps:=by
 induction h with
 | nil=>
  intro rs kvs g us Z L Y;ext Z;show#[g,L,Y,Aj _]
 | @cons a p ks ps x r E=>
  intro rs kvs g us Z L Y;cases Z with
  | @cons _ b _ rs y t=>
   let#[k,w]:=p;let#[k1,v]:=a;let#[k2,u]:=b;let#[x1,x2]:=x;let#[n,d]:=y;ext x1;ext n;let#[c,N,i,f]:=E (kvs:=bU _ k w) t (u6 L k x2)<|Y.put k d;have:=pM g k v;show#[c,N,i,by simp at f⊢;lia]
def zby(hc:X.calm=ab):cM X (.type "dict") (eS X.K AR):=by
 rintro C s G H xs us Q I rs ⟨ws,M,R,U,N,h,k⟩
 match ws,h with
 | [.rl ws],h=>
  let#[v,rfl,av]:=N.one;let#[ps,rfl,hz,r]:=h;let#[u,rfl,ru]:=vals1 rs;cases av with
  | rl f n q=>
   ext ru;let#[z,its,c,m,hl,e]:=I.lstM f;let#[ks,a,L,Y,O,A]:=AU I q m;let#[g,Z,i,l]:=IF L Y .nil .nil;show Dp.call_pairs (knd:=bS X.prog X.w) (items:=its.toArray) (ps:=a) (I.ok.hd hc) e O⁻¹ (by rw[Bg];lia) (λj p F=>by simpa using A j p F) λh' tk hk hd=>8;let b:↥ps<=Aw:=by simpa [oS] using hz
   let y:=I.hok.fresh<|Aj _;show#[!⇑s,aK H ⇑s<|.dK g,I.laid (o:=.dK g) (t':=tk) hk (Aj _) #[by simp at l;lia,beq_eq_false_iff_ne.mpr<|Cs<|Bw I.big,_,i,hd],7,8];let#[P,k2]:=U.laid (o:=.dK<|j9 [] ps) (u:=.dK g) y #[g,b8,pkv_new y Z];show k _ _ _ _ k2 P (!_)<|r _<|U.nonM y
where
 pkv_new:∀{H:Hp} {M:Mm} {p:Ao} {ks g:↑(aC×V)} {kvs d:↑(aC×W)},H p=ae->bT X.K H M aC ks kvs->bT X.K (aK H p<|.dK g) (put M p<|.dK d) aC ks kvs:=λB h=>oJ h.keys<|h.vals.newL B
def IG:↑W->Mm->K3->Prop
 | [.rl ws],M,R=>∃ps:↑(aC×W),ws=oS ps/\↥ws<=Aw/\R (.dk<|j9 [] ps) M
 | _,_,_=>False
def zbz(hc:X.calm=ab):cM X (.type "dict") (eS X.K IG):=by
 rintro C s G H xs us Q I rs ⟨ws,M,R,U,N,h,k⟩
 match ws,h with
 | [.rl ws],h=>
  let#[v,rfl,av]:=N.one;let#[ps,rfl,hz,r]:=h;let#[u,rfl,ru]:=vals1 rs;cases av with
  | rl f n q=>
   ext ru;let#[z,its,c,m,hl,e]:=I.lstM f;let#[ks,a,L,Y,O,W]:=AU I q m;let#[g,Z,i,l]:=IF L Y .nil .nil;show Dp.call_pairs (knd:=bS X.prog X.w) (items:=its.toArray) (ps:=a) (I.ok.hd hc) e O⁻¹ (by rw[Bg];lia) (λj p F=>by simpa using W j p F) λh' tk hk hd=>8;let b:↥ps<=Aw:=by simpa [oS] using hz
   let y:=I.hok.fresh<|Aj _;show#[!⇑s,aK H ⇑s<|.dK g,I.laid (o:=.dK g) (t':=tk) hk (Aj _) #[by simp at l;lia,beq_eq_false_iff_ne.mpr<|Cs<|Bw I.big,_,i,hd],7,8];let#[P,k2]:=U.tup (u:=.dK g) y;show k _ _ _ _ k2 P (.dk b8 (U.nonM y) Z.keys<|Z.vals.newT y) r
end
noncomputable def d9(f:Av)(w:W):↑(Av×W)->↑(Av×W)
 | []=>[(f,w)]
 | (k,x)::r=>if k=f then(k,w)::r else(k,x)::d9 f w r
section
variable {K:Ac}{H:Hp}{M:Mm}
def bT.look(p:bT K H M Av gs fs)(h:fs.lookup f=-w):∃v,gs.lookup f=-v/\AV K H M v w:=by
 induction p with
 | nil=>ext h
 | @cons a b _ _ r t E=>
  let#[k,v]:=a;let#[Y,L]:=b;let#[rfl,av]:=r
  by_cases hk:(f==k)=ab
  .simp only[Cj,hk]at h⊢;ext h;show#[v,7,av]
  .let q:(f==k)=ac:=by simpa using hk
   simp only[Cj,q]at h⊢;show E h
def bT.lookN(p:bT K H M Av gs fs)(h:fs.lookup f=ae):gs.lookup f=ae:=by
 induction p with
 | nil=>rfl
 | @cons a b _ _ r t E=>
  let#[k,v]:=a;let#[Y,L]:=b;let#[rfl,av]:=r
  by_cases hk:(f==k)=ab
  .simp only[Cj,hk]at h;ext h
  .let q:(f==k)=ac:=by simpa using hk
   simp only[Cj,q]at h⊢;show E h
def bT.putF{f:Av}{v:V}{w:W}(av:AV K H M v w){gs:↑(Av×V)}{fs:↑(Av×W)}(p:bT K H M Av gs fs):bT K H M Av (L2.putF f v gs) (d9 f w fs):=by
 induction p with
 | nil=>show .cons #[7,av] .nil
 | @cons a b _ _ r t E=>
  let#[k,X]:=a;let#[Y,L]:=b;let#[rfl,g]:=r;change bT K H M Av (if k=f then(k,v)::_ else(k,X)::L2.putF f v _) (if k=f then(k,w)::_ else(k,L)::d9 f w _)
  by_cases hk:k=f
  .rw[Xu hk,Xu hk];show .cons #[7,av] t
  .rw[Xs hk,Xs hk];show .cons #[7,g] E
def bT.len{b:Type}{gs:↑(b×V)}{fs:↑(b×W)}(h:bT K H M b gs fs):↥gs=↥fs:=by
 have:=congrArg Js h.keys;simpa using this
end
section
variable {X:Cx}{C:Ao}{f m:Av}{pos apos cpos:Ja}{ta tv:aR}{o e value:Ck}{es:↑Ck}{t:dO}{sp:aW}
abbrev dB(C:Ao)(ta:aR)(f:Av):aR:=λO M R=>ta O M λx I=>∃a s fs w,x=!a/\I a=-.ins C s fs/\fs.lookup f=-w/\R w I
def zbA(c:gE X.K C)(n:fF X.K C f)(P:E3 X o ta)(S:Hr o f X.env (Ff o X.env)=Ff o X.env:=by rfl):E3 X (.Attribute o f pos) (dB C ta f):=
 (TV P S).weak λZ H Q V=>V.el λO M R m U h k=>#[O,M,_,m,U,h,λx B d I k1 j t V=>by
  let#[a,s,fs,w,T,J,W,r]:=V;subst T;obtain rfl:=t.inv;let#[gs,Y,q]:=j a _ J;let#[v,p,av]:=q.look W;show#[a,C,s,gs,v,7,Y,c,n,p,k _ _ _ _ k1 j av r]]
abbrev i4(C:Ao)(ta:aR)(f:Av)(tv:aR):aE:=λD O M=>tv O M λy I=>ta O I λx v=>∃a s fs,x=!a/\v a=-.ins C s fs/\↥fs<1000/\D.nx O (put v a<|.ins C s<|d9 f y fs)
def zbB(c:gE X.K C)(n:fF X.K C f)(S:E3 X o ta)(W:E3 X value tv)(l:Nr value (-.Attribute o f apos) pos.line X.env=pure ac:=by rfl):P3 X (.Assign [.Attribute o f apos] value pos) (i4 C ta f tv):=
 (TX S W l).weak λD Z H V=>V.el λO M R m U h k=>#[O,M,_,m,U,h,λy B N I k1 j E L=>#[O,I,_,m.kp U k1,j,L,λx z d v k2 P t V=>by
  let#[a,s,fs,T,J,hl,r]:=V;subst T;obtain rfl:=t.inv;let#[gs,Y,q]:=P a _ J;show#[a,C,s,gs,7,Y,c,n,by rw[q.len];show hl,8];let#[F,p]:=P.write (o:=.ins C s<|d9 f N fs) (u:=.ins C s<|L2.putF f y gs) J #[_,b8,((q.putF<|E.kp j k2)).go<|oK P J];show k.nx _ _ _ _ ((k1.trans k2).trans p) F (((m.kp U k1).kp j k2).kp P p) r]]
variable {k:Nat}{g:Ao}{fd:Fi}{ps:↑Av}
abbrev eA(C:Ao)(m:Av)(sp:aW)(ta:aR)(t:dO):aR:=λO M R=>ta O M λx I=>∃a s fs,x=!a/\I a=-.ins C s fs/\fs.lookup m=ae/\t O I λws v=>sp (.ref a::ws) v R
def zbC(h:up X.K (eA C m sp ta t) Z H Q):yM C m (fJ X.K sp) [] E0 (up X.K ta) (pU X.K t) Z H Q:=by
 let#[O,M,R,A,U,h,k]:=h;show#[O,M,_,A,U,h,λx B n I k1 j E V=>8];let#[a,s,fs,T,J,W,L]:=V;subst T;obtain rfl:=E.inv;let#[gs,p,q]:=j a _ J;show#[a,s,gs,7,p,q.lookN W,O,I,_,A.kp U k1,j,L,λvs z ws v k2 P D Y=>#[.ref a::ws,v,R,P,8,Y,k.kp<|k1.trans k2]];rw[Bv];show .cons (!a) D
def oU(c:gE X.K C)(J:pL X.K C m g)(F:X.f eR k g fd ps<|fJ X.K sp)(G:cT k X.A)(Z:Binds X.K fd ps [])(P:E3 X o ta)(S:A3 X (e::es) t)(j:Se X e es:=by rfl)(y:Sb X pos es:=by rfl)(ht:Ff (.Call (.Attribute o m apos) (e::es) [] pos) X.env=(do
   let p <-Ff o X.env
   Ry apos.atName
   let (f,first) <-Mc [p] (Rz p m pl)
   Xa pos f first (Og pos<|Cr (e::es) X.env) (Qd pos<|Ms [] X.env)):=by rfl):
  E3 X (.Call (.Attribute o m apos) (e::es) [] pos) (eA C m sp ta t):=(UC (pl:=pl) P c J F G Z .nil pN S j y ht).weak λ_ _ _ h=>zbC h
def vT(c:gE X.K C)(J:pL X.K C m g)(F:X.f eR k g fd ps<|fJ X.K sp)(G:cT k X.A)(S:Binds X.K fd ps [])(P:E3 X o ta)(ht:Ff (.Call (.Attribute o m apos) [] [] pos) X.env=(do
   let p <-Ff o X.env
   Ry apos.atName
   let (f,first) <-Mc [p] (Rz p m pl)
   Xa pos f first (Og pos<|Cr [] X.env) (Qd pos<|Ms [] X.env)):=by rfl):
  E3 X (.Call (.Attribute o m apos) [] [] pos) (eA C m sp ta aB):=(UD (pl:=pl) P c J F G S .nil pN ht).weak λZ H Q h=>by
 let#[O,M,R,d,U,h,k]:=h;show#[O,M,_,d,U,h,λx B n I k1 j t V=>8];let#[a,s,fs,T,D,W,L]:=V;subst T;obtain rfl:=t.inv;let#[gs,Y,q]:=j a _ D;show#[a,s,gs,7,Y,q.lookN W,[!a],I,R,j,.cons (!a) .nil,L,k.kp k1]
abbrev mB(C:Ao)(sp:aW)(t:dO):aR:=λO M R=>t O M λws I=>∀a s,I a=ae->I s=ae->s≠a->sp (.ref a::ws) (put I a<|.ins C s []) λw v=>w=.non/\R (!a) v
def AM.made{K:Ac}{H:Hp}{M:Mm}{x s:Ao}(U:AM K H M)(S:H x=ae)(hd:H s=ae)(ne:s≠x):AM K (aK (aK H s<|.own x) x<|.ins C s []) (put M x<|.ins C s [])/\Kp H M (aK (aK H s<|.own x) x<|.ins C s []) (put M x<|.ins C s []):=by
 let#[j,k1]:=U.tup (u:=.own x) hd;let m:aK H s (.own x) x=ae:=by rw[bB<|Cs ne];show S
 let#[P,k2]:=j.laid (o:=.ins C s []) (u:=.ins C s []) m #[[],b8,.nil];show#[P,k1.trans k2]
def II(U:AM X.K H M)(D:aJ X.K H M vs ws)(h:∀a s,M a=ae->M s=ae->s≠a->sp (.ref a::ws) (put M a<|.ins C s []) λw f=>w=.non/\R (!a) f)(k:Up X.K H M R Q):
  ∀x s,H x=ae->H s=ae->s≠x->fJ X.K sp (.ref x::(vs++[])) (aK (aK H s<|.own x) x<|.ins C s []) (λv z=>v=.non/\Q (!x) z) E0:=by
 intro x s S hd ne;let#[j,k1]:=U.made (C:=C) S hd ne;show#[.ref x::ws,_,_,j,8,h x s (U.nonM S) (U.nonM hd) ne,λv z w f k2 P av r=>8]
 .rw[Bv];show .cons (!x)<|D.kp U k1
 .let#[rfl,r]:=r;obtain rfl:=av.inv;show#[7,k _ _ _ _ (k1.trans k2) P (!x) r]
def zbD(M:Mk X.K C g)(F:X.f eR k g fd ps<|fJ X.K sp)(G:cT (k+1) X.A)(hg:Gl X x)(J:X.mg x=aa !C)(Y:Binds X.K fd ps [])(S:A3 X (e::es) t)(o:Db x:=by decide)(P:Se X e es:=by rfl)(y:Sb X pos es:=by rfl):
  E3 X (.Call (.Name x p) (e::es) [] pos) (mB C sp t):=(UE M F G hg J Y .nil pN S o P y).weak λZ H Q V=>V.el λO M R m U h k=>#[O,M,_,m,U,h,λvs B ws I k1 j D L=>II j D L<|k.kp k1]
def IJ(M:Mk X.K C g)(F:X.f eR k g fd ps<|fJ X.K sp)(G:cT (k+1) X.A)(hg:Gl X x)(J:X.mg x=aa !C)(Y:Binds X.K fd ps [])(o:Db x:=by decide):E3 X (.Call (.Name x p) [] [] pos) (mB C sp aB):=(UG M F G hg J Y .nil pN o).weak λZ H Q V=>V.el λO M R m U h k=>II U .nil h k
end
section
variable {prog:Bc}{w:Bq}{K:Type}[DecidableEq K]{knd:HeapKind prog w K}{A:Cw}{E:Value->Ai->Prop}{s:Ai}{d a:Ao}{k:K}{xs:↑(K×Ao×Value)}
def IK{Q:Value->Ai->Prop}(D:knd.room A)(m:knd.is s.heap k a)(J:s.heap.DictOfH knd d xs)(hsz:↥xs<=Aw)(L:∀p,Np xs k=-p->Q p.2 {s with toks:=s.toks+knd.draws k})(Y:Np xs k=ae->∀h',h'.DictOfH knd d (Qp xs k a y)->Fd d s.heap h'->Q y {s with heap:=h',toks:=s.toks+knd.draws k}):
  Bm (Cp prog w) A (dictSetDefault d (!a) y) Q E s:=by
 let#[o,es,ep,f,hc,hd,P,n,K]:=J;unfold dictSetDefault;show Eg<|Aa<|knd.pyHash D m<|Aa<|wpAny_dictFind_heap (s:={s with toks:=s.toks+knd.draws k}) D m f hd P n K (λg=>8) λj p F=>8
 .let hk:=atKey_none_of_get g;let b:k∉xs.map (·.1):=not_mem_keys_of_get g;show Aa (Iq (Aa (wpAny_updateDictKeys (hz:=by let e:=Mb P;lia) (s:={s with toks:=s.toks+knd.draws k}) f hd (Ak (Y hk _ #[_,_,ep+1,Fo _ f<|Obj.isFreed_of_dict<|Nn hd _,
   hc.mapDictKeys _,Nn hd _,8,λx S=>8,8]<|Gy ..)))))
  .rw[Uq hk];simp[P,Tc]
  .rw[Uq hk]at S;rcases Az.mp S with q|q
   .show knd.keeps (n x q) f hd<|Gy ..
   .obtain rfl:=Ae.mp q;show knd.keeps m f hd<|Gy ..
  .rw[Uq hk,Ar,Cf];show#[K,6,λx S y U=>8];simp only[Be,Oc,Ae]at U;subst U;show λe=>b<|e▸S
 .show Aa<|Ji (s:={s with toks:=s.toks+knd.draws k}) f hd 8;rw[Vj P j,F];show Aa<|Iq<|Ak<|L p<|atKey_of_get K F
theorem IL:∀{xs:↑(K×Ao×Value)} {j:Nat} {p:Ao×Value},(xs.map (·.1)).Nodup->xs[j]? = aa (k,p)->xs.eraseIdx j=xs.filter λx=>decide (x.1≠k)
 | [],j,p,_,h=>by simp at h
 | x::r,0,p,V,h=>by
  let e:x=(k,p):=by simpa using h
  subst e;rw[Be,Dc]at V;rw[List.eraseIdx_zero,List.tail_cons,List.filter_cons_of_neg<|6];show(List.filter_eq_self.mpr λy U=>8).symm;rw[decide_eq_true_eq];show λe=>V.1<|Ap.mpr #[y,U,e]
 | x::r,j+1,p,V,h=>by
  rw[Be,Dc]at V;let F:r[j]? = aa (k,p):=by simpa using h
  let S:x.1≠k:=λe=>V.1<|Ap.mpr #[(k,p),Ah F,e.symm];rw[List.eraseIdx_cons_succ,IL V.2 F,List.filter_cons_of_pos S⁻¹]
def zbE{v:Value}{b:Ao}{Q:Option Ey->Ai->Prop}(D:knd.room A)(m:knd.is s.heap k a)(J:s.heap.DictOfH knd d xs)(hsz:↥xs<=Aw)(c:Np xs k=-(b,v))(h:∀h',h'.DictOfH knd d (xs.filter λx=>decide<|x.1≠k)->Fd d s.heap h'->Q (-#[knd.hash k,!b,v]) {s with heap:=h',toks:=s.toks+knd.draws k}):
  Bm (Cp prog w) A (Builtin.Dict.takeOut d !a) Q E s:=by
 let#[o,es,ep,f,hc,hd,P,n,K]:=J;unfold Builtin.Dict.takeOut;show Eg<|Aa<|knd.pyHash D m<|Aa<|wpAny_dictFind_heap (s:={s with toks:=s.toks+knd.draws k}) D m f hd P n K (λg=>8) λj p F=>8
 .rw[atKey_none_of_get g]at c;ext c
 .rw[atKey_of_get K F]at c;ext c;let i:=IL K F;show Aa<|Ji (s:={s with toks:=s.toks+knd.draws k}) f hd 8;rw[Vj P j,F];show Aa (wpAny_updateDictKeys (hz:=by let e:=Mb P;lia) (s:={s with toks:=s.toks+knd.draws k}) f hd (Ak (h _ #[_,_,ep+1,Fo _ f<|Obj.isFreed_of_dict<|Nn hd _,
   hc.mapDictKeys _,Nn hd _,8,λx S=>knd.keeps (n x (Dy.mp S).1) f hd<|Gy ..,8]<|Gy ..)))
  .rw[<-i];let G:(xs.eraseIdx j).map (Tc knd)=(xs.map<|Tc knd).eraseIdx j:=by simp[List.eraseIdx_eq_take_drop_succ,Ur,Rn]
   rw[G,<-P];let#[l]:=es;simp
  .show K.sublist<|Jl.map _
end
section
variable {X:Cx}{af:Pn}{Z:St}{H:Hp}{s:Ai}{a b:Ao}{v:V}{r:Value}{A:Cw}{E:Value->Ai->Prop}{kvs:↑(↑aC×V)}{k:↑aC}
def KT.drop(J:KT H kvs xs)(k:↑aC):KT H (oC kvs k) (xs.filter λx=>decide<|x.1≠k):=by
 induction J with
 | nil=>show .nil
 | @cons p q ps qs h t E=>
  unfold oC at E⊢;rw[Ds,Ds,<-h.1];split
  .show .cons h E
  .show E
def zbF{Q:Value->Ai->Prop}(D:A.units+1<Fs)(I:Inv X af Z H s)(e:H a=-.dT kvs)(P:H b=-.tup (k.map kV))(j:RelV v r)(hl:↥kvs<Aw)(L:∀W U M,fY kvs k=-W->Inv X af Z H M->RelV W U->Q U M)(Y:fY kvs k=ae->∀M,Inv X af Z (aK H a<|.dT<|d6 kvs k v) M->Q r M):
  Bm X.m A (call (.builtin "dict.setdefault") [!a,!b,r]) Q E s:=by
 let#[z,hd,xs,J,x]:=rM I.hok e;let hz:↥xs<=Aw:=by rw[<-Cv J];show z
 let T:=J.val k;show Kd Nf x.typeIs PySem.F.entry_dict_setdefault (PySem.F.args_dict_setdefault_3 _ _ _)
  (S:=λA R s1=>(Ic<|bS X.prog X.w).room A.in1/\(Ic<|bS X.prog X.w).is s1.heap k b/\s1.heap.DictOfH (Ic<|bS X.prog X.w) a xs/\
   (∀p,Np xs k=-p->R (.ok<|.ret p.2) {s1 with toks:=s1.toks+(↥k+1)})/\
   (Np xs k=ae->∀h',h'.DictOfH (Ic<|bS X.prog X.w) a (Qp xs k b r)->Fd a s1.heap h'->R (.ok<|.ret r) {s1 with heap:=h',toks:=s1.toks+(↥k+1)}))
  (.of_wp λA R s1 #[G,C,O,o,u]=>8) #[Gf D,jE I.hok P,x,λp B=>8,λK h' t l=>8]
 .unfold Hs.«dict.setdefault»;show Aa 8;unfold Mz;show Aa<|Iz O.typeIs 8;show Ak 8;dsimp only;rw[Xs<|by rw[hd];show Bb];show Aa<|IK G C O hz (λp B=>Ak #[_,7,o p B]) λK h' h n=>Ak #[_,7,u K h' h n]
 .rw[B]at T;cases q:fY kvs k with
  | none=>rw[q]at T;show Br T
  | some W=>rw[q]at T;show L W _ _ q (I.tok _) T
 .rw[K]at T;let q:fY kvs k=ae:=by
   cases q:fY kvs k with
   | none=>rfl
   | some W=>rw[q]at T;show Br T
  let y:↥(d6 kvs k v)<=Aw:=by have:=pM kvs k v;lia
  let#[C,es,ep,N,i,f,V,_,d]:=t;show Y q _<|oF (t':=s.toks+(↥k+1)) I (by rw[e];show True.intro) l #[C,N] #[y,hd,_,(J.put k P j).keeps λc F g=>8,C,es,ep,N,i,f,V,d];rw[bB<|tT g e λz=>nomatch z];show g
def zbG{Q:Value->Ai->Prop}(D:A.units+1<Fs)(I:Inv X af Z H s)(e:H a=-.dT kvs)(d:H b=-.tup (k.map kV))(l:fY kvs k=-v)(h:∀Y M,Inv X af Z (aK H a<|.dT<|oC kvs k) M->RelV v Y->Q Y M):Bm X.m A (call (.builtin "dict.pop") [!a,!b]) Q E s:=by
 let#[z,hd,xs,J,t]:=rM I.hok e;let hz:↥xs<=Aw:=by rw[<-Cv J];show z
 let#[Y,hw,V]:=fS.some_of (v:=v) (o:=(Np xs k).map (·.2)) (by rw[<-l];show J.val k);obtain⟨⟨c,w2⟩,hc,rfl⟩:=Ay.mp hw;show Kd PySem.F.slot_dict_pop t.typeIs PySem.F.entry_dict_pop (PySem.F.args_dict_pop_2 _ _)
  (S:=λA R s1=>(Ic<|bS X.prog X.w).room A.in1/\(Ic<|bS X.prog X.w).is s1.heap k b/\s1.heap.DictOfH (Ic<|bS X.prog X.w) a xs/\
   ∀h',h'.DictOfH (Ic<|bS X.prog X.w) a (xs.filter λx=>decide<|x.1≠k)->Fd a s1.heap h'->R (.ok<|.ret w2) {s1 with heap:=h',toks:=s1.toks+(↥k+1)})
  (.of_wp λA R s1 #[G,C,O,T]=>8) #[Gf D,jE I.hok d,t,λh' B U=>8]
 .unfold Hs.«dict.pop»;show Aa 8;unfold Mz;show Aa<|Iz O.typeIs 8;show Ak 8;dsimp only;rw[Xs (show ¬((keyPart<|Value.ref b).isSome=ab) from Bb)];let#[o,es,ep,f,hc',u,P,q,K]:=id O;let j:es.isEmpty=ac:=by
   let L:=Mb P;cases xs with
   | nil=>ext hc
   | cons x r=>rw[Array.isEmpty_eq_false_iff];intro z;rw[z]at L;simp at L
  show Aa<|Ji f u 8;show Aa<|Ak 8;rw[j,Xs Bb];show Aa<|zbE G C O hz hc λh' hm' n=>8;rw[Xs<|6];show Aa<|Uo<|Ak #[_,7,T h' hm' n]
 .let#[C,es,ep,N,i,W,y,_,p]:=B;show h w2 _ (oF (t':=s.toks+(↥k+1)) I (by rw[e];show True.intro) U #[C,N] #[Am (VX kvs k) z,hd,_,(J.drop k).keeps λc F g=>8,C,es,ep,N,i,W,y,p]) V;rw[bB<|tT g e λz=>nomatch z];show g
end
section
variable {X:Cx}
def nM:W->↑W->Mm->K3->Prop
 | d,[y],M,R=>∃o,eX M d y o/\R (o.getD .non) M
 | d,[y,v],M,R=>∃o,eX M d y o/\R (o.getD v) M
 | _,_,_,_=>False
def zbH(D:X.A.units+1<Fs):e9 X "dict.get" (jI X.K nM):=by
 rintro af s Z H x xs v us Q I B rs ⟨n,ws,M,R,U,t,N,h,k⟩
 match ws,h with
 | [y],h=>
  let#[z,rfl,S]:=N.one;let#[o,g,r]:=h;let#[a,rfl,i]:=u7 U t S g;ext B;let#[u,rfl,ru]:=rs.one;rcases i with⟨rfl,f⟩|⟨W,E,rfl,f,av⟩
  .show EX D I f ru λL C w d=>#[_,H,w,d,k.at U .non r]
  .show EX D I f ru λL C w d=>#[_,H,w,d,k.at U av r]
 | [y,q],h=>
  let#[z,G,rfl,S,b]:=N.two;let#[o,g,r]:=h;let#[a,rfl,i]:=u7 U t S g;ext B;let#[u,Y,rfl,ru,j]:=vals2 rs;rcases i with⟨rfl,f⟩|⟨W,E,rfl,f,av⟩
  .show EY D I f ru j λL C w d=>#[_,H,w,d,k.at U b r]
  .show EY D I f ru j λL C w d=>#[_,H,w,d,k.at U av r]
def qE:W->↑W->Mm->K3->Prop
 | .ref a,[.tup ks,v],M,R=>∃kvs k,M a=-.dT kvs/\ks=k.map wK/\↥kvs<Aw/\(∀w,aN kvs k=-w->R w M)/\(aN kvs k=ae->R v (put M a<|.dT<|bU kvs k v))
 | _,_,_,_=>False
def zbI(D:X.A.units+1<Fs):e9 X "dict.setdefault" (jI X.K qE):=by
 rintro af s Z H x xs v us Q I B rs ⟨n,ws,M,R,U,t,N,h,k⟩
 match n,ws,h with
 | .ref a,[.tup ks,y],h=>
  let#[z,G,rfl,S,i]:=N.two;let#[kvs,kk,e,rfl,hl,L,Y]:=h;obtain rfl:=t.inv;ext B;let#[u,K,rfl,ru,j]:=vals2 rs;let#[gs,T,q]:=U _ _ e;cases S with
  | @tup b vs _ P m=>
   cases (show u=Value.ref b from ru);rw[m.keys]at P;let g:=u5 q kk;show zbF D I T P j (by rw[q.len];show hl) (λW O C J w d=>8) λJ C w=>8
   .rcases g with⟨_,c⟩|⟨l,V,f,c,av⟩
    .rw[c]at J;ext J
    .rw[c]at J;ext J;show#[_,H,w,d,k.at U av<|L V f]
   .rcases g with⟨f,c⟩|⟨l,V,f,c,av⟩
    .let#[F,p]:=U.write (o:=.dT<|bU kvs kk y) (u:=.dT<|d6 gs kk G) e #[_,b8,(u6 q kk i).go<|oK U e];show#[_,_,w,j,k _ _ _ _ p F (i.wr U e)<|Y f]
    .rw[c]at J;ext J
noncomputable def mC{b:Type}[DecidableEq b](kvs:↑(b×W))(k:b):↑(b×W):=kvs.filter λg=>decide<|g.1≠k
def zbJ{b:Type}[DecidableEq b]{K:Ac}{H:Hp}{M:Mm}{gs:↑(b×V)}{kvs:↑(b×W)}(h:bT K H M b gs kvs)(k:b):bT K H M b (oC gs k) (mC kvs k):=by
 induction h with
 | nil=>show .nil
 | @cons p q ps qs r t E=>
  unfold oC mC at E⊢;rw[Ds,Ds,<-r.1];split
  .show .cons r E
  .show E
def IM:W->↑W->Mm->K3->Prop
 | .ref a,[.tup ks],M,R=>∃kvs k w,M a=-.dT kvs/\ks=k.map wK/\aN kvs k=-w/\R w (put M a<|.dT<|mC kvs k)
 | _,_,_,_=>False
def zbK(D:X.A.units+1<Fs):e9 X "dict.pop" (jI X.K IM):=by
 rintro af s Z H x xs v us Q I B rs ⟨n,ws,M,R,U,t,N,h,k⟩
 match n,ws,h with
 | .ref a,[.tup ks],h=>
  let#[z,rfl,S]:=N.one;let#[kvs,kk,w,e,rfl,l,r]:=h;obtain rfl:=t.inv;ext B;let#[u,rfl,ru]:=rs.one;let#[gs,T,q]:=U _ _ e;cases S with
  | @tup b vs _ P g=>
   cases (show u=Value.ref b from ru);rw[g.keys]at P;rcases u5 q kk with⟨f,c⟩|⟨y,V,f,c,av⟩
   .rw[f]at l;ext l
   .rw[f]at l;ext l;let#[F,p]:=U.write (o:=.dT<|mC kvs kk) (u:=.dT<|oC gs kk) e #[_,b8,(zbJ q kk).go<|oK U e];show zbG D I T P c λL C E d=>#[_,_,E,d,k _ _ _ _ p F (av.wr U e) r]
end
section
variable {X:Cx}{af:Pn}{Z:St}{H:Hp}{s:Ai}{a b:Ao}{v:V}{r:Value}{A:Cw}{E:Value->Ai->Prop}{es:↑(bQ×Ao×V)}{tl:↑Int}{x:bQ}
def zbL{o e:Ck}{args:↑Ck}{to:TE}{t:TA}{name:Av}{apos cpos:Ja}{T id:String}{d:V->↑V->Hp->VK->Prop}{tq:V->Hp->Prop}(G:Qt T)(slot:Slot T name id)(q:Wg (.builtin id)=pure (.type "method_descriptor"))(J:e9 X id d)(f:PE X o to)(S:PA X (e::args) t)(tp:∀af Z H s x v,Inv X af Z H s->RelV x v->tq x H->s.TypeIs v T/\∀a,v=!a->∃ob,s.heap.get? a=-ob/\ob.dict=ae)(y:Hr o name X.env (Ff o X.env)=Ff o X.env)(D:((Og cpos<|Cr (e::args) X.env).all (λx=>!(x.1))&&(Qd cpos<|Ms [] X.env).all (λx=>x.1.isSome)&&decide (↥(e::args)+↥([]:↑Si)+(if ([]:↑Si).isEmpty then 0 else 1)<30))=ab)(b:(apos.endLine==cpos.line)=ab)(l:Se X e args)(c:Sb X cpos args):
  PE X (.Call (.Attribute o name apos) (e::args) [] cpos) (λZ H Q=>to Z H λx B=>tq x B/\t Z B λxs z=>d x xs z Q):=by
 intro af s Z H Q I h;show wpAny_Call_method_late y D b rfl<|aY (f af s Z H _ I h) λv s1 m=>8;let#[x,B,g,F,ty,C]:=m;let#[L,Y]:=tp _ _ _ _ _ _ g F ty;show#[T,id,G,slot,q,L,Y,8];let U:=S cpos af s1 Z B _ g C;rw[l]at U⊢;show Ma (by change(ac||(Og cpos<|Cr args X.env).any (·.1))=ac;rw[c]<;>rfl)<|Calls.evalArgs_plain 8;show aY U λus n A=>by let#[vs,z,i,R,O]:=A;show J af n Z z x vs v us Q i F R O
def zbM{o:Ck}{to:TE}{name:Av}{apos cpos:Ja}{T id:String}{d:V->↑V->Hp->VK->Prop}{tq:V->Hp->Prop}(G:Qt T)(slot:Slot T name id)(q:Wg (.builtin id)=pure (.type "method_descriptor"))(J:e9 X id d)(f:PE X o to)(tp:∀af Z H s x v,Inv X af Z H s->RelV x v->tq x H->s.TypeIs v T/\∀a,v=!a->∃ob,s.heap.get? a=-ob/\ob.dict=ae)(y:Hr o name X.env (Ff o X.env)=Ff o X.env)(b:(apos.endLine==cpos.line)=ab):PE X (.Call (.Attribute o name apos) [] [] cpos) (λZ H Q=>to Z H λx B=>tq x B/\d x [] B Q):=by
 intro af s Z H Q I h;show wpAny_Call_method0_late y b<|aY (f af s Z H _ I h) λv s1 m=>8;let#[x,B,g,F,ty,C]:=m;let#[L,Y]:=tp _ _ _ _ _ _ g F ty;show#[T,id,G,slot,q,L,Y,Ma rfl<|PySem.evalArgs_none<|J af s1 Z B x [] v [] Q g F .nil C]
def IP{g i:Type}{F:g->i->Prop}{a c:↑g}{b d:↑i}(p:Dz F a b)(h:Dz F c d):Dz F (a++c) (b++d):=by
 induction p with
 | nil=>show h
 | cons r t E=>show .cons r E
def qF(I:Inv X af Z H s)(e:H a=-.ext (dQ X.prog X.w tl a es)):dQ X.prog X.w tl a es s.heap:=(show b9 X.prog X.w H s.heap a (.ext<|dQ X.prog X.w tl a es) from I.hok a _ e).1
def NX.val(q:NX es xs)(x:bQ):(Np xs x=ae/\∀e∈es,e.1≠x)\/∃b v u,Np xs x=-(b,u)/\(x,b,v)∈es/\RelV v u:=by
 induction q with
 | nil=>show .inl #[7,λe P=>nomatch P]
 | @cons p z ps Q h t E=>
  let#[G,p2,X]:=p;let#[A,f,z3]:=z;let#[rfl,rfl,O]:=h;unfold Np at E⊢;rw[De]
  by_cases S:G=x
  .subst S;rw[Xw rfl];show .inr #[p2,X,z3,7,Bj,O]
  .rw[Xx S];rcases E with⟨a,i⟩|⟨b,v,u,a,i,c⟩
   .show .inl #[a,λe P=>8];rcases Bd.mp P with rfl|P
    .show S
    .show i e P
   .show .inr #[b,v,u,a,Bi _ i,c]
def zbN{Q:Value->Ai->Prop}(D:A.units+2<Fs)(I:Inv X af Z H s)(e:H a=-.ext (dQ X.prog X.w tl a es))(ks:∀z∈es,hZ H tl z.1 z.2.1)(d:hZ H tl x b)(j:RelV v r)(hl:↥es<Aw)(L:∀c v0 k M,(x,c,v0)∈es->Inv X af Z H M->RelV v0 k->Q k M)(Y:(∀z∈es,z.1≠x)->∀M,Inv X af Z (aK H a<|.ext<|dQ X.prog X.w tl a<|es++[(x,b,v)]) M->Q r M):
  Bm X.m A (call (.builtin "dict.setdefault") [!a,!b,r]) Q E s:=by
 let#[o,g,ep,xs,f,hc,hd,P,nx,K,hz,hsys]:=qF I e;let isAll:∀z∈xs,(jG X.prog X.w tl).is s.heap z.1 z.2.1:=by
  have:∀{es:↑(bQ×Ao×V)} {xs:↑(bQ×Ao×Value)},NX es xs->(∀z∈es,hZ H tl z.1 z.2.1)->∀z∈xs,(jG X.prog X.w tl).is s.heap z.1 z.2.1:=by
   intro es xs q
   induction q with
   | nil=>intro _ z hz;ext hz
   | @cons p z ps J h t T=>
    intro hk u D;rcases Bd.mp D with rfl|D
    .have:=(hk p Bj).is I.hok;rw[h.1,h.2.1]at this;show this
    .show T (λy U=>hk y<|Bi _ U) u D
  show this nx ks
 let W:s.heap.DictOfH (jG X.prog X.w tl) a xs:=#[o,g,ep,f,hc,hd,P,isAll,K];let F:↥xs=↥es:=(Cv nx).symm;show Kd Nf W.typeIs PySem.F.entry_dict_setdefault (PySem.F.args_dict_setdefault_3 _ _ _)
  (S:=λA R s1=>(jG X.prog X.w tl).room A.in1/\(jG X.prog X.w tl).is s1.heap x b/\s1.heap.DictOfH (jG X.prog X.w tl) a xs/\
   (∀p,Np xs x=-p->R (.ok<|.ret p.2) {s1 with toks:=s1.toks+(jG X.prog X.w tl).draws x})/\
   (Np xs x=ae->∀h',h'.DictOfH (jG X.prog X.w tl) a (Qp xs x b r)->Fd a s1.heap h'->R (.ok<|.ret r) {s1 with heap:=h',toks:=s1.toks+(jG X.prog X.w tl).draws x}))
  (.of_wp λA R s1 #[G,C,O,q3,q4]=>8) #[D,d.is I.hok,W,λp B=>8,λhno h' dd' l=>8]
 .unfold Hs.«dict.setdefault»;show Aa 8;unfold Mz;show Aa<|Iz O.typeIs<|Ak 8;dsimp only;rw[Xs<|by rw[hsys];show Bb];show Aa<|IK G C O hz (λp B=>Ak #[_,7,q3 p B]) λK h' hm' hs'=>Ak #[_,7,q4 K h' hm' hs']
 .rcases nx.val x with⟨i1,_⟩|⟨c,v0,u,i1,i2,i3⟩
  .rw[i1]at B;ext B
  .rw[i1]at B;ext B;show L c v0 u _ i2 (I.tok _) i3
 .rcases nx.val x with⟨_,i2⟩|⟨c,v0,u,i1,_,_⟩
  .rw[Uq hno]at dd';let#[C,es',ep',N,i,n,g4,_,g5]:=dd';show Y i2 _<|oF (t':=s.toks+(jG X.prog X.w tl).draws x) I (by rw[e];show True.intro) l #[C,N]<|dQ.ok #[C,es',ep',_,N,i,n,g4,IP nx<|.cons #[7,7,j] .nil,g5,8,hsys];rw[Ag,F];simp;lia
  .rw[i1]at hno;ext hno
end
noncomputable def gJ(tl:↑Int)(x:bQ):W:=.tup<|wK x.1::.tup (x.2.map wK)::tl.map W.int
section
variable {K:Ac}{H:Hp}{M:Mm}
def IQ(k:aC):AV K H M (kV k) (wK k):=by cases k<;>first|exact ¬_|exact .str _
theorem vU:∀ks:↑aC,aJ K H M (ks.map kV) (ks.map wK)
 | []=>.nil
 | k::r=>.cons (IQ k)<|vU r
theorem IS:∀tl:↑Int,aJ K H M (tl.map V.int) (tl.map W.int)
 | []=>.nil
 | i::r=>.cons (¬i)<|IS r
theorem aJ.intsN:∀{tl:↑Int} {vs:↑V},aJ K H M vs (tl.map W.int)->vs=tl.map V.int
 | [],_,h=>by ext h;rfl
 | i::r,_,h=>by
  cases h with
  | cons a b=>ext a;rw[aJ.intsN b];rfl
def hZ.av(n:hZ H tl x b):AV K H M (!b) (gJ tl x):=by
 let#[G,T,J]:=n;show .tup T<|.cons (IQ x.1)<|.cons (.tup J<|vU x.2)<|IS tl
def zbO{tl:↑Int}{x:bQ}{v:V}(h:AV K H M v<|gJ tl x):∃b,v=!b/\hZ H tl x b:=by
 unfold gJ at h;cases h with
 | @tup b xs _ e q=>
  cases q with
  | @cons y d _ _ i C=>
   cases C with
   | @cons l a _ _ c O=>
    let T:=i.key;subst T;let W:=O.intsN;subst W;cases c with
    | @tup G Z _ Y m=>
     rw[m.keys]at Y;show#[b,7,G,e,Y]
end
section
variable {X:Cx}
abbrev IT(P:Bc)(w:Bq)(tl:↑Int):aR:=λO M R=>∀p,M p=ae->R (!p) (put M p<|.dn P w tl [])
def zbP:E3 X (.Dict [] [] pos) (IT X.prog X.w tl):=by
 rintro af s Z H Q I ⟨O,M,R,m,U,h,k⟩;let hf:=I.hok.fresh<|Aj ⇑s;let Y:=I.big;let#[P,k2]:=U.laid (o:=.dn X.prog X.w tl []) (u:=.ext<|dQ X.prog X.w tl ⇑s []) hf #[[],b8,.nil];show Ug #[!⇑s,_,I.laid (a:=⇑s) (o:=.ext<|dQ X.prog X.w tl ⇑s []) (t':=s.toks) (λ_ _ q=>Af _ q) (Aj _)<|dQ.ok #[_,#[],0,[],Ax _ rfl,#[7,7,7],7,7,.nil,Gu,Cu _,8],7,k _ _ _ _ k2 P (!_)<|h _<|U.nonM hf];rw[beq_eq_false_iff_ne];show Dr Y
abbrev zbQ(P:Bc)(w:Bq)(tl:↑Int)(x:W)(M:Mm):Prop:=∃a kvs,x=!a/\M a=-.dn P w tl kvs
def IU{P:Bc}{w:Bq}{tl:↑Int}{af:Pn}{Z:SV}{H:Hp}{s:Ai}{v:V}{u:Value}(I:Inv X af Z H s)(r:RelV v u)(h:∃a es,v=!a/\H a=-.ext (dQ P w tl a es)):s.TypeIs u "dict"/\∀a,u=!a->∃ob,s.heap.get? a=-ob/\ob.dict=ae:=by
 let#[a,es,rfl,e]:=h;cases (show u=Value.ref a from r);let#[o,B,ep,xs,f,hc,hd,_]:=(show b9 X.prog X.w H s.heap a (.ext<|dQ P w tl a es) from I.hok a _ e).1;show#[#[o,f,hc.1],λb O=>8];ext O;show#[o,f,hc.2.1]
abbrev IV(P:Bc)(w:Bq)(tl:↑Int)(to:aR)(tk tv:aR):aR:=λO M R=>to O M λd I=>zbQ P w tl d I/\tk O I λb f=>tv O f λv S=>∃a kvs x,d=!a/\S a=-.dn P w tl kvs/\b=gJ tl x/\↥kvs<Aw/\
 (∀E,aN kvs x=-E->R E S)/\(aN kvs x=ae->R v (put S a<|.dn P w tl<|kvs++[(x,v)]))
abbrev PN(K:Ac)(H:Hp)(M:Mm)(tl:↑Int)(es:↑(bQ×Ao×V))(kvs:↑(bQ×W)):Prop:=Dz (λ(e:bQ×Ao×V) (p:bQ×W)=>e.1=p.1/\hZ H tl e.1 e.2.1/\AV K H M e.2.2 p.2) es kvs
def PN.look{K:Ac}{H:Hp}{M:Mm}{tl:↑Int}{es:↑(bQ×Ao×V)}{kvs:↑(bQ×W)}(q:PN K H M tl es kvs)(d:(es.map (·.1)).Nodup)(x:bQ):(aN kvs x=ae/\∀e∈es,e.1≠x)\/∃w,aN kvs x=-w/\∀c v,(x,c,v)∈es->AV K H M v w:=by
 induction q with
 | nil=>show .inl #[7,λe P=>nomatch P]
 | @cons p z ps Q h t E=>
  rw[Be,Dc]at d;let#[G,p2,X]:=p;let#[A,f]:=z;let#[rfl,_,O]:=h;unfold aN at E⊢;rw[De]
  by_cases S:G=x
  .subst S;rw[Xw rfl];show .inr #[f,7,λc v J=>8];rcases Bd.mp J with e|J
   .ext e;show O
   .show absurd (Ap.mpr #[_,J,7]) d.1
  .rw[Xx S];rcases E d.2 with⟨a,i⟩|⟨w,a,i⟩
   .show .inl #[a,λe P=>8];rcases Bd.mp P with rfl|P
    .show S
    .show i e P
   .show .inr #[w,a,λc v J=>8];rcases Bd.mp J with e|J
    .ext e;show absurd rfl S
    .show i c v J
def zbR(nx:NX es xs):es.map (·.1)=xs.map (·.1):=by
 induction nx with
 | nil=>rfl
 | cons h _ E=>rw[Be,Be,E,h.1]
def dQ.nodup(x:dQ P w tl a es h):(es.map (·.1)).Nodup:=by
 let#[o,B,ep,xs,_,_,_,_,nx,K,_]:=x;rw[zbR nx];show K
def PN.keys{K:Ac}{H:Hp}{M:Mm}{tl:↑Int}{es:↑(bQ×Ao×V)}{kvs:↑(bQ×W)}(q:PN K H M tl es kvs):aJ K H M (es.map λe=>V.ref e.2.1) (kvs.map λp=>gJ tl p.1):=by
 induction q with
 | nil=>show .nil
 | @cons p z ps A h _ E=>
  show .cons 8 E;change AV K H M (!p.2.1)<|gJ tl z.1;rw[<-h.1];show hZ.av h.2.1
def PN.vals{K:Ac}{H:Hp}{M:Mm}{tl:↑Int}{es:↑(bQ×Ao×V)}{kvs:↑(bQ×W)}(q:PN K H M tl es kvs):aJ K H M (es.map λe=>e.2.2) (kvs.map λp=>p.2):=by
 induction q with
 | nil=>show .nil
 | cons h _ E=>show .cons h.2.2 E
def PN.ats{K:Ac}{H:Hp}{M:Mm}{tl:↑Int}{es:↑(bQ×Ao×V)}{kvs:↑(bQ×W)}(q:PN K H M tl es kvs):∀z∈es,hZ H tl z.1 z.2.1:=by
 induction q with
 | nil=>intro z hz;ext hz
 | cons h _ E=>
  intro z hz;rcases Bd.mp hz with rfl|hz
  .show h.2.1
  .show E z hz
def zbS(D:X.A.units+2<Fs)(f:E3 X o to)(hk:E3 X ek tk)(N:E3 X ev tv)(hbase:Hr o "setdefault" X.env (Ff o X.env)=Ff o X.env:=by rfl)(hfew:((Og cpos<|Cr [ek,ev] X.env).all (λx=>!(x.1))&&(Qd cpos<|Ms [] X.env).all (λx=>x.1.isSome)&&decide (↥([ek,ev]:↑Ck)+↥([]:↑Si)+(if ([]:↑Si).isEmpty then 0 else 1)<30))=ab:=by rfl)(hline:(apos.endLine==cpos.line)=ab:=by rfl)(l:Cr [ek,ev] X.env=(ac,Ff ek X.env)::Cr [ev] X.env:=by rfl)(hs2:Cr [ev] X.env=(ac,Ff ev X.env)::Cr [] X.env:=by rfl)(hplain:(Og cpos<|Cr [ev] X.env).any (·.1)=ac:=by rfl):
  E3 X (.Call (.Attribute o "setdefault" apos) [ek,ev] [] cpos) (IV X.prog X.w tl to tk tv):=by
 let J:e9 X "dict.setdefault" (λd vs H Q=>∃M R w kw ww a kvs x y z,AM X.K H M/\d=!a/\vs=[y,z]/\AV X.K H M y kw/\AV X.K H M z ww/\M a=-.dn X.prog X.w tl kvs/\kw=gJ tl x/\↥kvs<Aw/\(∀w0,aN kvs x=-w0->R w0 M)/\(aN kvs x=ae->R ww (put M a<|.dn X.prog X.w tl<|kvs++[(x,ww)]))/\w=()/\Up X.K H M R Q):=by
  rintro af s Z H d vs v us Q I rd rs ⟨M,R,_,kw,ww,a,kvs,x,y,z,U,rfl,rfl,n,az,e,rfl,hl,L,Y,_,k⟩;cases (show v=Value.ref a from rd);let#[u,u1,rfl,ru,ru1]:=vals2 rs;let#[es,T,q]:=U _ _ e;let#[b,rfl,nb]:=zbO n;cases (show u=Value.ref b from ru);let nd:=dQ.nodup<|qF I T;let lk:=PN.look q nd x;show zbN D I T (PN.ats q) nb ru1 (by rw[Cv q];show hl) (λc v0 w' i J I' rw'=>8) λhno i I'=>8
  .rcases lk with⟨_,l2⟩|⟨w,l1,l2⟩
   .show absurd rfl<|l2 _ J
   .show#[_,H,I',rw',k.at U (l2 c v0 J)<|L w l1]
  .rcases lk with⟨l1,_⟩|⟨w,l1,l2⟩
   .let g:=oK (o:=.dn X.prog X.w tl<|kvs++[(x,ww)]) (u:=.ext<|dQ X.prog X.w tl a<|es++[(x,b,z)]) U e;let#[am3,k3]:=U.write (o:=.dn X.prog X.w tl<|kvs++[(x,ww)]) (u:=.ext<|dQ X.prog X.w tl a<|es++[(x,b,z)]) e #[_,b8,IP (Paired.mapP q λp r t=>#[t.1,let #[pa,n1,n2]:=t.2.1;#[pa,g.ht _ _ n1,g.ht _ _ n2],t.2.2.go g])<|.cons #[7,let #[pa,n1,n2]:=nb;#[pa,g.ht _ _ n1,g.ht _ _ n2],az.go g] .nil];show#[_,_,I',ru1,k _ _ _ _ k3 am3 (az.wr U e)<|Y l1]
   .exfalso;have:∀{es:↑(bQ×Ao×V)} {kvs:↑(bQ×W)},PN X.K H M tl es kvs->(∀z∈es,z.1≠x)->aN kvs x=ae:=by
     intro es kvs q
     induction q with
     | nil=>intro _;rfl
     | @cons p r ps rs h t E=>
      intro hz;unfold aN at E⊢;rw[De,Xx<|by rw[<-h.1];show hz p Bj];show E λy K=>hz y<|Bi _ K
    rw[this q hno]at l1;ext l1
 show(zbL (tq:=λx H=>∃a es,x=!a/\H a=-.ext (dQ X.prog X.w tl a es)) Ou Nf PySem.F.type_dict_setdefault J f (pX hk (pX N r6 hs2) l) (λaf Z H s x v I r h=>IU I r h) hbase hfew hline l hplain).weak 8;rintro Z H Q ⟨O,M,R,C,U,h,k⟩;show#[O,M,_,C,U,h,λd B wd S k1 j ad m=>8];obtain⟨⟨a,kvs,T,G⟩,L⟩:=m;subst T;ext ad;let#[es,e3,q]:=j _ _ G;show#[#[a,es,7,e3],O,S,λws M3=>match ws with | [kw,v]=>∃a' kvs x,W.ref a=!a'/\M3 a'=-.dn X.prog X.w tl kvs/\kw=gJ tl x/\↥kvs<Aw/\(∀w0,aN kvs x=-w0->R w0 M3)/\(aN kvs x=ae->R v (put M3 a'<|.dn X.prog X.w tl<|kvs++[(x,v)]))|_=>False,C.kp U k1,j,8,λvs H2 ws M2 k2 P avs r=>8]
 .show L
 .match ws,r with
  | [kw,ww],#[a',kvs,x,ea,e4,e5,hl,g1,g2]=>
   ext ea;let#[y,z,rfl,n,az]:=avs.two;show#[M2,R,(),kw,ww,a,kvs,x,y,z,P,7,7,n,az,e4,e5,hl,g1,g2,7,k.kp<|k1.trans k2]
end
section
variable {X:Cx}{af:Pn}{Z:St}{H:Hp}{s:Ai}{a d:Ao}{es:↑(bQ×Ao×V)}{tl:↑Int}{A:Cw}{E:Value->Ai->Prop}
def zbT{prog:Bc}{w:Bq}{B:Array Ey}{ep:Nat}{Q:Value->Ai->Prop}(hd:(d==Gg)=ac)(J:gH s.heap d B ep)(H:Q (!⇑s)<|s<&>s.heap.push {cls:=.type "dict_values",data:=.fields [!d].toArray}):Bm (Cp prog w) A (call (.builtin "dict.values") [!d]) Q E s:=
 Kd PySem.F.slot_dict_values J.typeIs PySem.F.entry_dict_values (PySem.F.args_dict_values_1 _) (S:=λ_ R s1=>gH s1.heap d B ep/\R (.ok<|.ret !⇑s1) (s1<&>s1.heap.push {cls:=.type "dict_values",data:=.fields [!d].toArray}))
  (.of_wp λA R s1 V=>by
   let#[C,O]:=V;show Aa 8;unfold Builtin.Dict.noArgs;show Aa<|Iz C.typeIs<|Ak 8;change Bm _ _ (Lk d>>=_) _ _ _;unfold Lk;rw[Xs<|by rw[hd];show Bb];show Aa<|Ak<|Aa<|Du<|Ak #[_,7,O]) #[J,H]
def sO(x:dQ P w tl a es h):∃B ep,gH h a B ep/\B.size=↥es/\B.size<=Aw/\(a==Gg)=ac/\
  (∀(j:Nat) (e:Ey),B[j]? = aa e->∃z:bQ×Ao×V,es[j]? = aa z/\e.key=!z.2.1/\RelV z.2.2 e.val):=by
 let#[o,B,ep,xs,L,Y,O,W,nx,_,G,H]:=x;let T:=Mb W;let J:=Cv nx;show#[B,ep,#[o,L,Y,O],9,9,H,λj e d=>8];rw[Vj W j]at d;let#[q,N,rfl]:=Ay.mp d;let key:∀{es:↑(bQ×Ao×V)} {xs:↑(bQ×Ao×Value)} {j:Nat} {q:bQ×Ao×Value},NX es xs->xs[j]? = aa q->∃z,es[j]? = aa z/\z.2.1=q.2.1/\RelV z.2.2 q.2.2:=by
  intro es xs j q n
  induction n generalizing j with
  | nil=>intro h;simp at h
  | @cons p z ps A h t E=>
   intro F;cases j with
   | zero=>simp at F;subst F;show#[p,7,h.2.1,h.2.2]
   | succ j=>rw[Ha]at F⊢;show E F
 let#[z,Z,i,f]:=key nx N;show#[z,Z,by change Value.ref q.2.1=_;rw[i],f]
def AW{n:Nat}{P:Nat->Value->Prop}{b:Cz->Prop}(hc:X.calm=ab)(I:Inv X af Z H s)(S:PySem.W.KdlSrc X.prog X.w T r d n P b)(ok:b s.heap)(K:n<=Aw)(U:↥xs=n)(M:∀j v,P j v->∃x,xs[j]? = aa x/\RelV x v)(q:∀l,H l=ae->Q (!l) (aK H l<|.lst xs)):X.a (call (.type "list") [!r]) (EP X af Z Q) X.xe s:=by
 show PySem.W.kdl_call S (I.ok.hd hc) ok K λh' tk D G hk y N=>8;show#[!⇑s,_,I.laid (o:=.lst xs) (t':=tk) hk (Aj _) #[by rw[U];show K,D.toList,G,8,by rw[Iy];show y],7,q _<|I.hok.fresh<|Aj _];show rQ (by let L:=N.1;let Y:↥D.toList=D.size:=Gk;lia) λj v c=>8;show M j v (N.2 j v<|by rw[<-Ht];show c)
end
section
variable {X:Cx}
abbrev IW(P:Bc)(w:Bq)(tl:↑Int)(to:aR):aR:=λO M R=>to O M λd I=>∃a kvs,d=!a/\I a=-.dn P w tl kvs/\∀p,I p=ae->R (!p) (put I p<|.vw a)
def zbU(f:E3 X o to)(y:Hr o "values" X.env (Ff o X.env)=Ff o X.env:=by rfl)(b:(apos.endLine==cpos.line)=ab:=by rfl):
  E3 X (.Call (.Attribute o "values" apos) [] [] cpos) (IW X.prog X.w tl to):=by
 let J:e9 X "dict.values" (λx vs H Q=>∃M R a kvs,AM X.K H M/\x=!a/\vs=[]/\M a=-.dn X.prog X.w tl kvs/\(∀p,M p=ae->R (!p) (put M p<|.vw a))/\Up X.K H M R Q):=by
  rintro af s Z H x vs v us Q I N rs ⟨M,R,a,kvs,U,rfl,rfl,e,h,k⟩;cases (show v=Value.ref a from N);ext rs;let#[es,T,q]:=U _ _ e;let#[A,ep,G,_,_,g,_]:=sO<|qF I T;let hf:=I.hok.fresh<|Aj ⇑s;let#[P,k2]:=U.laid (o:=.vw a) (u:=.ext λh=>h.IsValuesView ⇑s a) hf b8;show zbT g G #[!⇑s,_,I.laid (a:=⇑s) (o:=.ext λh=>h.IsValuesView ⇑s a) (t':=s.toks) (λ_ _ z=>Af _ z) (Aj _) #[#[_,Ax _ rfl,7,7],#[_,Ax _ rfl],λL Y #[o,f,r] kk=>#[o,kk o f,r]],7,k _ _ _ _ k2 P (!_)<|h _<|U.nonM hf]
 show(zbM (tq:=λx H=>∃a es,x=!a/\H a=-.ext (dQ X.prog X.w tl a es)) Ou PySem.F.slot_dict_values PySem.F.type_dict_values J f (λaf Z H s x v I r h=>IU I r h) y b).weak 8;rintro Z H Q ⟨O,M,R,m,U,h,k⟩;show#[O,M,_,m,U,h,λd B wd S k1 j c V=>8];let#[a,kvs,T,D,L]:=V;subst T;ext c;let#[es,W,q]:=j _ _ D;show#[#[a,es,7,W],S,R,a,kvs,j,7,7,D,L,k.kp k1]
def AX(P:Bc)(w:Bq)(tl:↑Int):↑W->Mm->K3->Prop
 | [!a],M,R=>(∃kvs,M a=-.dn P w tl kvs/\aO (kvs.map λp=>gJ tl p.1) M R)\/∃d kvs,M a=-.vw d/\M d=-.dn P w tl kvs/\aO (kvs.map λp=>p.2) M R
 | _,_,_=>False
def zbV(hc:X.calm=ab):cM X (.type "list") (eS X.K<|AX X.prog X.w tl):=by
 rintro af s Z H xs us Q I rs ⟨ws,M,R,U,N,h,k⟩
 match ws,h with
 | [!a],h=>
  let#[v,rfl,av]:=N.one;ext av;let#[u,rfl,ru]:=vals1 rs;cases (show u=Value.ref a from ru);rcases h with⟨kvs,e,r⟩|⟨d,kvs,C,e,r⟩
  .let#[es,T,q]:=U _ _ e;let#[B,ep,G,L,Y,b,g]:=sO<|qF I T;show AW hc I (FO (es:=B) (ep:=ep) b) G Y (xs:=es.map λe=>V.ref e.2.1) (by rw[Ab];show L.symm) (λj v m=>8) λl hl=>gR U k hl (PN.keys q) r;let#[en,P,c]:=m;let#[z,W,i,_]:=g j en P;show#[!z.2.1,by rw[Au,W];rfl,by rw[c,i];rfl]
  .let#[es,T,q]:=U _ _ e;let J:H a=aa (.ext λh=>h.IsValuesView a d):=U _ _ C;let c:s.heap.IsValuesView a d:=(show b9 X.prog X.w H s.heap a (.ext λh=>h.IsValuesView a d) from I.hok a _ J).1;let#[B,ep,G,L,Y,b,g]:=sO<|qF I T;show AW hc I (XG (r:=a) (d:=d) (es:=B) (ep:=ep)) #[c,G] Y (xs:=es.map λe=>e.2.2) (by rw[Ab];show L.symm) (λj v A=>8) λl hl=>gR U k hl (PN.vals q) r;let#[en,P,c]:=A;let#[z,W,_,f]:=g j en P;show#[z.2.2,by rw[Au,W];rfl,by rw[c];show f]
end
end L2
namespace PySem
namespace Tr
open PySem.AutoSeq1 (wpAny_loadPart')
section
variable {prog:Bc}{w:Bq}{A:Cw}{E:Value->Ai->Prop}{s:Ai}
def zbW{Q:↑Value->Ai->Prop}{n:Nat}{b:Int}(hh:A.handled=ae)(hr:IsRange s.heap r 0 b 1 t u v)(hsm:Builtin.Range.small 0 b 1=ab)(hn:Il 0 b 1=n)(hl:n<=2 ^ 24)(hQ:∀h' tk acc',(∀c o,s.heap.get? c=-o->h'.get? c=-o)->Qw (λi v=>∃t,v=.int (0+i*1) t) acc' n->Q acc'.toList {s with heap:=h',toks:=tk}):
  Bm (Cp prog w) A (collect !r) Q E s:=by
 unfold collect;show Aa<|wpAny_runValue<|Rg F.entry_proto_collect 8;rw[Na F.plain_proto_collect _];change Bm _ A.in1 (newList []>>=λl=>again<|.builtin "list.__iadd__" #[[l,!r],[]]) _ _ s;show Aa<|Du<|Ak #[Pp F.plain_list_iadd _,Rg F.entry_list_iadd 8];rw[Na F.plain_list_iadd _];change Bm _ A.in1 (Jr (!⇑s) (!r) !⇑s) _ _ _;let g0:(s.heap.push {cls:=.type "list",data:=.seq ([]:↑Value).toArray}).get? ⇑s=aa {cls:=.type "list",data:=.seq #[] 0}:=Ax _ rfl;let last:∀(h':Cz) (tk:Nat) (acc:Array Value) (c:Nat),(∀b o,b≠⇑s->(s.heap.push {cls:=.type "list",data:=.seq ([]:↑Value).toArray}).get? b=-o->h'.get? b=-o)->h'.get? ⇑s=aa {cls:=.type "list",dict:=ae,data:=.seq acc c,slots:=#[]}->Qw (λi v=>∃t,v=.int (0+i*1) t) acc n->
   Bm (Cp prog w) A (match Value.ref ⇑s with
   | Value.ref a=>do
    match (<-load a).data with
     | Data.seq xs _=>pure xs.toList
     | _=>unsupported "internal:collect"
   | _=>unsupported "internal:collect") Q E {s with heap:=h',toks:=tk}:=by
  intro h' tk acc c hk hS hacc;change Bm _ A (load ⇑s>>=_) _ _ _;show Aa<|wpAny_load hS<|Ak<|hQ h' tk acc (λb o e=>hk b o (Bw<|Ba e)<|Af _ e) hacc
 show Ir (wpAny_extend_range (A:=A) (R:=λq s'=>∃h' tk acc c,q=.ok (.ret !⇑s)/\s' = {s with heap:=h',toks:=tk}/\(∀b o,b≠⇑s->(s.heap.push {cls:=.type "list",data:=.seq ([]:↑Value).toArray}).get? b=-o->h'.get? b=-o)/\h'.get? ⇑s=aa {cls:=.type "list",dict:=ae,data:=.seq acc c,slots:=#[]}/\Qw (λi v=>∃t,v=.int (0+i*1) t) acc n)
  (s:=(s<&>s.heap.push {cls:=.type "list",data:=.seq ([]:↑Value).toArray})) hh (Af _ hr) hsm hn hl _ (!⇑s) 0 g0 λh' tk acc c hk hS hacc=>#[h',tk,acc,c,7,7,hk,hS,hacc]) (λfin s' h=>8) (λe s' h=>8)
 .cases fin with
  | done f=>
   let#[h',tk,acc,c,e,rfl,q1,q2,q3]:=h;ext e;show last h' tk acc c q1 q2 q3
  | again c'=>show#[h.1,Qr h.2 λq s'' hr=>by let#[h',tk,acc,c,rfl,rfl,q1,q2,q3]:=hr;show last h' tk acc c q1 q2 q3]
 .let#[h',tk,acc,c,e,_]:=h;ext e
def made{n:Nat}{b:Int}{Q:Value->Ai->Prop}(hh:A.handled=ae)(hr:IsRange s.heap r 0 b 1 t u v)(hsm:Builtin.Range.small 0 b 1=ab)(hn:Il 0 b 1=n)(hl:n<=2 ^ 24)(h:∀(h':Cz) (tk:Nat) (acc:Array Value),(∀c o,s.heap.get? c=-o->h'.get? c=-o)->Qw (λi v=>∃t,v=.int (0+i*1) t) acc n->Q (!h'.objs.size) {s with heap:=h'.push {cls:=.type "tuple",data:=.seq acc},toks:=tk}):
  Bm (Cp prog w) A (call (.type "tuple") [!r]) Q E s:=by
 show callType_newIn F.called_tuple ∅ (F.typeCall_tuple_1 _) (F.newCall_tuple_1 _) (λobj=>Ro obj _) F.entry_tuple_new
  (S:=λA R s=>A.handled=ae/\IsRange s.heap r 0 b 1 t u v/\∀(h':Cz) (tk:Nat) (acc:Array Value),(∀c o,s.heap.get? c=-o->h'.get? c=-o)->Qw (λi v=>∃t,v=.int (0+i*1) t) acc n->R (.ok<|.ret !h'.objs.size) {s with heap:=h'.push {cls:=.type "tuple",data:=.seq acc},toks:=tk})
  (.of_wp λA R s h=>8) #[hh,hr,λh' tk acc hk hacc=>#[#[_,Ax _ rfl,7],h h' tk acc hk hacc]]
 let#[hp,g,d,tk,os]:=s;let#[hA,ht,h]:=h;let hsub:=sub_tuple_self;let hinit:=init_tuple_lookup;let hmh:=madeHere_tuple;let hT:Shared.TypeIs #[hp,g,d,tk,os] (!r) "range":=#[_,ht,7]
 wp_walk using wpAny_loadPart' ht,Qo hT,zbW (A:=A.in1) hA ht hsm hn hl
 intro h' tk acc hk hacc;change Bm _ _ (Hm acc.toList.toArray>>=λv=>ret v) _ _ _;unfold Hm;show Aa (Du 8<|by change acc.toList.toArray.size<=Aw;rw[Iy,hacc.1,Kz];show hl);show Ak #[_,7,8];rw[Iy];show h h' tk acc hk hacc
end
end Tr
end PySem
namespace L2
section
variable {X:Cx}{a:Ck}{ta:TA}{p p2 pos pos2:Ja}
def zbX(ta:TA):TE:=λG H Q=>ta G H λvs B=>∃n:Nat,vs=[¬n]/\n<=1000/\∀q,B q=ae->Q (!q) (aK B q<|.tup<|(Ci n).map λ(i:Nat)=>V.int i)
def zbY(hc:X.calm=ab)(hg:Gl X "tuple")(hm:X.mg "tuple" = ae)(hg2:Gl X "range")(hm2:X.mg "range" = ae)(ha:PA X [a] ta)(hs1:Cr [.Call (.Name "range" p2) [a] [] pos2] X.env=[(ac,Ff (.Call (.Name "range" p2) [a] [] pos2) X.env)]:=by rfl)(hs2:Cr [a] X.env=[(ac,Ff a X.env)]:=by rfl):
  PE X (.Call (.Name "tuple" p) [.Call (.Name "range" p2) [a] [] pos2] [] pos) (zbX ta):=by
 intro af s Z H Q I h;show Ek<|gO I hg hm (by decide +kernel:Cy "tuple" = aa (.type "tuple"))<|Ce 8 hs1 rfl;rw[hs1];show Lj<|Ek<|gO I hg2 hm2 (by decide +kernel:Cy "range" = aa (.type "range"))<|Ce (aY (ha pos2 af s Z H _ I h) λus s1 z0=>8) hs2 rfl;let#[vs,H1,I1,r1,q1]:=z0;let#[n,rfl,hn,q]:=q1;let#[u,rfl,ru]:=vals1 r1;let#[t,rfl]:=ru;show Wm<|Lz 8;let sz:Il 0 (n:Int) 1=(n:Nat):=by rw[Vv];split<;>lia
 show Tr.made (n:=n) (b:=(n:Int)) (I1.ok.hd hc) (Vb _ _ _ _ _ _ _) (PySem.small_one ∅ ∅ 9 9) sz 9 λh' tk acc hk hacc=>8;let up:∀b o,s1.heap.get? b=-o->h'.get? b=-o:=λb o e=>hk b o<|Af _ e;let le:⇑s1<=h'.objs.size:=by
  show Hk<|Ba<|hk ⇑s1 _<|Ax _ rfl
 show#[!h'.objs.size,_,I1.laid (a:=h'.objs.size) (o:=.tup<|(Ci n).map λ(i:Nat)=>V.int i) (t':=tk) (λb o e=>Af _<|up b o e) le #[by simp[Kz];lia,acc.toList,8,#[_,Ax _ rfl,7,0,6]],7,q _<|I1.hok.fresh le];show rQ (by simp[hacc.1]) λj v hv=>8;let hv':acc[j]? = aa v:=by simpa using hv
 let#[t',rfl]:=hacc.2 j v hv';let hj:j<n:=by have:=(Kl.mp hv').1;rw[hacc.1]at this;show this
 show#[¬j,8,t',6];simp[hj]
end
section
variable {X:Cx}{a:Ck}{ta:aR}
abbrev IX(ta:aR):aR:=λO M R=>ta O M λw I=>∃n:Nat,w=¬n/\n<=1000/\R (.tup<|(Ci n).map λ(i:Nat)=>W.int i) I
def zbZ(hg:Gl X "tuple")(J:X.mg "tuple" = ae)(x:Gl X "range")(Y:X.mg "range" = ae)(S:E3 X a ta)(hc:X.calm=ab:=by rfl)(f:Cr [.Call (.Name "range" p2) [a] [] pos2] X.env=[(ac,Ff (.Call (.Name "range" p2) [a] [] pos2) X.env)]:=by rfl)(L:Cr [a] X.env=[(ac,Ff a X.env)]:=by rfl):
  E3 X (.Call (.Name "tuple" p) [.Call (.Name "range" p2) [a] [] pos2] [] pos) (IX ta):=
 (zbY hc hg J x Y (pX S r6<|L.trans rfl) f L).weak λG H Q m=>m.el λO M R C U h k=>#[O,M,λws I=>match ws with | [w]=>∃n:Nat,w=¬n/\n<=1000/\R (.tup<|(Ci n).map λ(i:Nat)=>W.int i) I|_=>False,C,U,h,λvs B ws I k1 j t r=>by
  match ws,r with
  | [w],#[n,e,d,r]=>
   subst e;let#[v,rfl,av]:=t.one;obtain rfl:=av.inv;show#[n,7,d,λq N=>8];let#[P,k2]:=j.tup (u:=.tup<|(Ci n).map λ(i:Nat)=>V.int i) N;show k _ _ _ _ (k1.trans k2) P (.tup b8 8) r;have:∀l:↑Nat,aJ X.K (aK B q<|.tup<|(Ci n).map λ(i:Nat)=>V.int i) I (l.map λ(i:Nat)=>V.int i) (l.map λ(i:Nat)=>W.int i):=by
    intro l
    induction l with
    | nil=>show .nil
    | cons i r E=>show .cons (¬_) E
   show this _]
def IY:↑W->Mm->K3->Prop
 | [!a],M,R=>∃kvs:↑(↑aC×W),M a=-.dT kvs/\aO (kvs.map λp=>.tup<|p.1.map wK) M R
 | _,_,_=>False
def zb0(hc:X.calm=ab):cM X (.type "list") (eS X.K IY):=by
 rintro C s G H xs us Q I rs ⟨ws,M,R,U,N,h,k⟩
 match ws,h with
 | [!a],#[kvs,e,r]=>
  let#[v,rfl,av]:=N.one;obtain rfl:=av.inv;let#[u,rfl,ru]:=vals1 rs;cases (show u=Value.ref a from ru);let#[ks,T,q]:=U _ _ e;let#[z,b,ys,J,x]:=rM I.hok T;let#[o,B,ep,f,L,hd,P,_,_]:=x;let s1:=Mb P;let n:=Cv J;show AW hc I (FO (es:=B) (ep:=ep) b) #[o,f,L,hd] 9 (xs:=ys.map λy=>V.ref y.2.1) (by rw[Ab];lia) (λj v #[en,D,c]=>8) λl hl=>gR U k hl 8 r
  .rw[Vj P j]at D;let#[y,F,rfl]:=Ay.mp D;show#[!y.2.1,by rw[Au,F];rfl,by rw[c];rfl]
  .have:∀{ks:↑(↑aC×V)} {kvs:↑(↑aC×W)} {ys:↑(↑aC×Ao×Value)},bT X.K H M (↑aC) ks kvs->KT H ks ys->aJ X.K H M (ys.map λy=>V.ref y.2.1) (kvs.map λp=>.tup<|p.1.map wK):=by
    intro ks kvs ys q
    induction q generalizing ys with
    | nil=>intro J;ext J;show .nil
    | @cons p z ps A h t E=>
     intro J;cases J with
     | @cons _ y _ d g t'=>
      show .cons 8<|E t';let i:=g.2.1;rw[h.1]at i;show .tup i<|vU z.1
   show this q J
end
end L2
namespace PySem
namespace Zd
open L2 Zt
section
variable {prog:Bc}{w:Bq}{A:Cw}{E:Value->Ai->Prop}{s:Ai}
variable {z TI TO i1 i2 l1 l2:Ao}{xs ys:Array Value}{S1 S2:Nat->Cz->Prop}
abbrev qG(h:Cz)(z TI TO p:Ao)(b:Bool):Prop:=
 h.get? z=aa {cls:=.type "zip",dict:=ae,data:=.fields [Ie p,.bool b,.bool ac,!TI,!TO].toArray,slots:=#[]}
def IZ{b:Bool}{Q:Bool->Ai->Prop}(hz:qG s.heap z TI TO p b)(B:s.heap.get? p=-o)(h:∀h',qG h' z TI TO p ab->Fd z s.heap h'->Q ac (s<&>h')):
  Bm (Cp prog w) A (Dk !z) Q E s:=by
 unfold Dk;show Aa<|Dh hz rfl (x:=Ie p) rfl 8;change Bm _ _ (loadIfAlive ((p:Int).toNat)>>=_) _ _ _;rw[Cq];show Aa<|PySem.W.kdx_alive B 8;simp only[Option.isNone_some,Fv,if_false];show Aa<|Dh hz rfl (x:=.bool b) rfl 8;cases b with
 | true=>
  rw[Xs (show ¬((Value.bool ab !=Value.bool ab)=ab) from Bb)];show Ak<|h _ hz<|Heap.SameBut.refl _ _
 | false=>
  rw[Xu (show(Value.bool ac !=Value.bool ab)=ab from rfl)];show Aa<|Hc hz 6 λh' R n=>Ak<|h h' R n
def zb1{k:Nat}{b:Bool}{Q:Value->Ai->Prop}(D:Zt.Apart z TI TO i1 i2 l1 l2)(r:fZ prog w i1 l1 xs S1)(J:fZ prog w i2 l2 ys S2)(hz:qG s.heap z TI TO p b)(B:s.heap.get? p=-o)(F:Jp s.heap TI (!i1) !i2)(L:S1 k s.heap)(Y:S2 k s.heap)(S:xs[k]? = aa x)(U:ys[k]? = aa y)(H:∀h',qG h' z TI TO p ab->S1 (k+1) h'->S2 (k+1) h'->Jp h' ⇑s x y->(∀c o,c≠z->c≠i1->c≠i2->s.heap.get? c=-o->h'.get? c=-o)->Q (!⇑s) (s<&>h')):
  Bm (Cp prog w) A (Hs.«zip.__next__» #[[!z],[]]) (λfin M=>∃v,fin=.done (.ret v)/\Q v M) E s:=by
 change Bm _ _ (Su (!z) 2>>=λq=>_) _ _ _;show Aa<|Dh hz rfl (x:=.bool ac) rfl 8;change Bm _ _ (Su (!z) 3>>=λq=>_) _ _ _;show Aa<|Dh hz rfl (x:=!TI) rfl<|Aa<|Gx F rfl 8;change Bm _ _ (Dk (!z)>>=λq=>_) _ _ _;show Aa<|IZ hz B λN C s1=>8;simp only[Fv,if_false];show Aa 8;rw[<-Ll];simp only[Li,Qi];show Aa<|Aa<|Eg 8;change Bm _ _ (Ee (!i1)>>=λq=>_) _ _ _;show Aa<|r.item _ _ (s<&>N) k x _ (r.keep k _ _ L λc hc o e=>s1.extBut c o (D.k1 c hc).1 e) S λi W n=>Ak 8;show Ak 8;show Aa<|Aa<|Eg 8;change Bm _ _ (Ee (!i2)>>=λq=>_) _ _ _;show Aa<|J.item _ _ (s<&>i) k y _ (J.keep k _ _ Y λc hc o e=>n.extBut c o (D.k2 c hc).2.2<|s1.extBut c o (D.k2 c hc).1 e) U λf G j=>Ak 8;show Ak<|Ak 8;show Aa (wpAny_newTuple (Ak #[_,7,8]) (hsz:=by change 2<=Aw;decide));let a:f.objs.size=⇑s:=by rw[j.1,n.1,s1.1]
 change Q (!f.objs.size) _;rw[a];show H _ (Af _<|j.extBut _ _ D.nd.1.2.2.2<|n.extBut _ _ D.nd.1.2.2.1 C) (r.keep _ _ _ W λc hc o e=>Af _<|j.extBut _ _ (D.k1 c hc).2.2 e) (J.keep _ _ _ G λc hc o e=>Af _ e) 8 λc o I O t e=>Af _<|j.extBut _ _ t<|n.extBut _ _ O<|s1.extBut _ _ I e;rw[<-a];show Ax _ rfl
def zb2{k:Nat}{b:Bool}{Q:Fin->Ai->Prop}(hh:A.handled=ae)(D:Zt.Apart z TI TO i1 i2 l1 l2)(r:fZ prog w i1 l1 xs S1)(hz:qG s.heap z TI TO p b)(B:s.heap.get? p=-o)(F:Jp s.heap TI (!i1) !i2)(L:S1 k s.heap)(a:xs[k]? = ae)(T:∀h' e,(∀c o,c≠z->c≠i1->s.heap.get? c=-o->h'.get? c=-o)->(∃o,h'.get? e=-o/\o.cls=.type "StopIteration")->E (!e) (s<&>h')):
  Bm (Cp prog w) A (Hs.«zip.__next__» #[[!z],[]]) Q E s:=by
 change Bm _ _ (Su (!z) 2>>=λq=>_) _ _ _;show Aa<|Dh hz rfl (x:=.bool ac) rfl 8;change Bm _ _ (Su (!z) 3>>=λq=>_) _ _ _;show Aa<|Dh hz rfl (x:=!TI) rfl<|Aa<|Gx F rfl 8;change Bm _ _ (Dk (!z)>>=λq=>_) _ _ _;show Aa<|IZ hz B λN C s1=>8;simp only[Fv,if_false];show Aa 8;rw[<-Ll];simp only[Li,Qi];show Aa<|Aa<|Eg 8;change Bm _ _ (Ee (!i1)>>=λq=>_) _ _ _;show Aa<|r.stop _ _ (s<&>N) k _ hh (r.keep k _ _ L λc hc o e=>s1.extBut c o (D.k1 c hc).1 e) a λi e n P=>T i e (λc o I t u=>n _ _ t<|s1.extBut _ _ I u) P
def Zs(d z TI TO i1 i2:Ao)(S1 S2:Nat->Cz->Prop)(k:Nat)(h:Cz):Prop:=
 Jp h TI (!i1) (!i2)/\S1 k h/\S2 k h/\@LT.lt Nat _ d h.objs.size/\((Tb h z TI TO .none/\∃a b,Jp h TO a b)\/∃p b o,qG h z TI TO p b/\h.get? p=-o/\@LT.lt Nat _ d p)
def Lo(d z TI TO i1 i2 l1 l2:Nat):Prop:=z<d/\TI<d/\TO<d/\i1<d/\i2<d/\l1<d/\l2<d
def next{k:Nat}{Q:Option Value->Ai->Prop}(L:Lo d z TI TO i1 i2 l1 l2)(D:Zt.Apart z TI TO i1 i2 l1 l2)(r:fZ prog w i1 l1 xs S1)(m:fZ prog w i2 l2 ys S2)(st:Zs d z TI TO i1 i2 S1 S2 k s.heap)(S:xs[k]? = aa x)(U:ys[k]? = aa y)(H:∀h',Zs d z TI TO i1 i2 S1 S2 (k+1) h'->Jp h' ⇑s x y->(∀c o,c≠z->c≠TO->c≠i1->c≠i2->s.heap.get? c=-o->h'.get? c=-o)->Q (aa !⇑s) (s<&>h')):
  Bm (Cp prog w) A (Ia !z) Q E s:=by
 obtain⟨⟨h,e,G,f⟩,⟨v,g,i⟩,_⟩:=D.nd;let#[F,s1,n,u,st]:=st;rcases st with⟨hz,a,b,X⟩|⟨p,b,o,hz,B,pd⟩
 .show next_item D r m hz F X s1 n S U λh' I O t l j q=>H h' #[q _ _ (Cs h) v g i F,t,l,Hv u<|Ba j,.inr #[_,_,_,I,j,u]] j q
 .let ty:s.TypeIs (!z) "zip":=#[_,hz,7];unfold Ia;show Aa<|Hq<|Dj (name:=Bz "__next__") ty Jf<|Co Jf ty Py (zb1 D r m hz B F s1 n S U λh' I O t l j=>Ak<|H h' #[j _ _ (Cs h) g i F,O,t,Hv u<|Ba l,.inr #[_,_,_,I,j p o (Dr<|Hv L.1 pd) (Dr<|Hv L.2.2.2.1 pd) (Dr<|Hv L.2.2.2.2.1 pd) B,pd]] l λc o T J W Y=>j c o T W Y)<|Ph _
def done{k:Nat}{Q:Option Value->Ai->Prop}(hh:A.handled=ae)(D:Zt.Apart z TI TO i1 i2 l1 l2)(r:fZ prog w i1 l1 xs S1)(st:Zs d z TI TO i1 i2 S1 S2 k s.heap)(S:xs[k]? = ae)(H:∀h',(∀c o,c≠z->c≠TO->c≠i1->c≠i2->s.heap.get? c=-o->h'.get? c=-o)->Q ae (s<&>h')):
  Bm (Cp prog w) A (Ia !z) Q E s:=by
 let#[F,s1,n,u,st]:=st;rcases st with⟨hz,a,b,X⟩|⟨p,b,o,hz,B,pd⟩
 .show next_stop hh D r hz F s1 S H
 .let ty:s.TypeIs (!z) "zip":=#[_,hz,7];unfold Ia;show Aa<|Hq<|Dj (name:=Bz "__next__") ty Jf<|Co Jf ty Py (zb2 hh D r hz B F s1 S λh' e hk #[o,f,hc]=>8)<|Ph _;show Aa<|Fp (T:="StopIteration") (b:=ab) #[o,f,hc] Rw<|Ak<|H _ λc o P J W Y=>hk c o P W
def Zs.at{k:Nat}(L:Lo d z TI TO i1 i2 l1 l2)(r:fZ prog w i1 l1 xs S1)(J:fZ prog w i2 l2 ys S2)(st:Zs d z TI TO i1 i2 S1 S2 k h)(U:Fd d h h'):Zs d z TI TO i1 i2 S1 S2 k h':=by
 let#[F,s1,n,u,st]:=st;let#[m,g,lO,N,i,f,V]:=L;let up:∀{c:Nat} {o:Nh},c<d->h.get? c=-o->h'.get? c=-o:=λl e=>(U.2 _<|Bw l).trans e;show#[up g F,r.keep _ _ _ s1 λc hc o e=>up (by rcases hc with rfl|rfl<;>assumption) e,J.keep _ _ _ n λc hc o e=>up (by rcases hc with rfl|rfl<;>assumption) e,U.1▸u,8];rcases st with⟨hz,a,b,X⟩|⟨p,b,o,hz,B,pd⟩
 .show .inl #[up m hz,a,b,up lO X]
 .show .inr #[p,b,o,up m hz,(U.2 _<|Dr pd).trans B,pd]
abbrev TK(prog:Bc)(w:Bq):=Ic<|bS prog w
def allH(es:↑(↑aC×Ao×Value))(ps:↑(↑aC×Ao×Value)):↑(↑aC×Ao×Value):=ps.foldl (λes p=>Qp es p.1 p.2.1 p.2.2) es
def JA(es:↑(↑aC×Ao×Value))(k:↑aC)(a:Ao)(v:Value):↥(Qp es k a v)<=↥es+1:=by
 unfold Qp;split
 .rw[Ab];lia
 .rw[Ag,Cd];show Aj _
def vV(x:(TK prog w).is h k a)(e:∀o,h.get? a=-o->h'.get? a=-o):(TK prog w).is h' k a:=by
 let#[o,items,n,f,r]:=x;show#[o,items,n,e o f,r]
def Ed(prog:Bc)(w:Bq)(d N:Ao)(ps:↑(↑aC×Ao×Value))(i:Nat)(h:Cz):Prop:=∃es,es=allH [] (ps.take i)/\h.DictOfH (TK prog w) d es/\↥es<=i/\∀e∈es,@LT.lt Nat _ e.2.1 N
def Ed.new(h:Cz)(N:Ao)(ps:↑(↑aC×Ao×Value)):Ed prog w h.objs.size N ps 0 (h.push {cls:=.type "dict",data:=.dict #[]}):=#[[],7,Heap.DictOfH.new h,Aj _,λ_ h=>nomatch h]
def Ed.fr{i:Nat}(x:Ed prog w d N ps i h)(J:∀b o,(b=d\/@LT.lt Nat _ b N)->h.get? b=-o->h'.get? b=-o):Ed prog w d N ps i h':=by
 obtain⟨es,P,⟨o,en,ep,f,hc,j,g,n,c⟩,hl,a⟩:=x;show#[es,P,#[o,en,ep,J _ o (.inl rfl) f,hc,j,g,λx H=>vV (n x H) λD e=>J _ D (.inr<|a x H) e,c],hl,a]
def Ed.set{i:Nat}{Q:Unit->Ai->Prop}(x:Ed prog w d N ps i s.heap)(D:(TK prog w).room A)(hi:i<=Aw)(B:ps[i]? = aa p)(kx:(TK prog w).is s.heap p.1 p.2.1)(g:@LT.lt Nat _ p.2.1 N)(H:∀Y tk,Ed prog w d N ps (i+1) Y->Fd d s.heap Y->Q () {s with heap:=Y,toks:=tk}):Bm (Cp prog w) A (Wk d (!p.2.1) p.2.2) Q E s:=by
 let#[es,P,hd,hl,a]:=x;show wpAny_dictSet_heap D kx hd (λY y n=>H Y _ #[_,8,y,Am (JA ..)<|Ea hl,λe P=>8] n)<|Am hl hi
 .rw[P,Dp.take_at B];ext allH;rw[Mg];rfl
 unfold Qp at P;split at P
 .let#[C,b,rfl]:=Ap.mp P;rw[show(putAt p.1 p.2.2 C).2.1=C.2.1 by unfold putAt;split<;>rfl];show a C b
 .rcases Az.mp P with q|q
  .show a e q
  .rw[Ae.mp q];show g
end
end Zd
end PySem
namespace L2
noncomputable def mD(ks:↑(↑aC×V))(ps:↑(↑aC×V)):↑(↑aC×V):=ps.foldl (λk p=>d6 k p.1 p.2) ks
theorem JB:∀(ps:↑(↑aC×V)) (ks:↑(↑aC×V)),↥(mD ks ps)<=↥ks+↥ps
 | [],ks=>Aj _
 | p::ps,ks=>by
  let L:=JB ps<|d6 ks p.1 p.2;let Y:=pM ks p.1 p.2;change(mD (d6 ks p.1 p.2) ps).length<=↥ks+(↥ps+1);lia
noncomputable def gT(kvs:↑(↑aC×W))(ps:↑(↑aC×W)):↑(↑aC×W):=ps.foldl (λkvs p=>bU kvs p.1 p.2) kvs
abbrev JC(ta:dO):aR:=λO M R=>ta O M λws I=>∃ps:↑(↑aC×W),ws=[.rl<|ps.map λp=>.tup<|p.1.map wK,.rl<|ps.map λp=>p.2]/\R (.dt<|gT [] ps) I
structure Dm(K:Ac)(C:Ao)(x qual:Av)(st:Kt)(ps:↑Av)(f:Ao)(fd:Fi):Prop where
 fn:jF K x qual st f fd
 me:pL K C x f
 bi:Binds K fd ps []
structure Di(K:Ac)(C:Ao)(x qual:Av)(st:Kt)(ps:↑Av)(f:Ao)(fd:Fi):Prop where
 fn:jF K x qual st f fd
 mak:Mk K C f
 bi:Binds K fd ps []
def AY{k:Nat}(G:cT k A):A.units+2<Fs:=by have:=G.un;lia
section
variable {prog:Bc}{w:Bq}{A:Cw}{E:Value->Ai->Prop}{s:Ai}
def zb3{a b:Ao}{m ob:Nh}{xs ys:Array Value}{G nb:Nat}{x1 x2 n d:Int}{f W Z P:Wq}{Q:Value->Ai->Prop}(D:A.units+1<Fs)(g:s.heap.get? a=-m)(x:m.cls=.type "tuple")(y:m.data=.seq xs G)(l:s.heap.get? b=-ob)(Y:ob.cls=.type "tuple")(o:ob.data=.seq ys nb)(ex:xs.toList=[.int x1 f,.int x2 W])(S:ys.toList=[.int n Z,.int d P])(h:∀b,(x1=n->x2=d->b=ac)->Q (.bool b) s):Bm (Cp prog w) A (Dq .Lt (!a) !b) Q E s:=by
 let k:s.TypeIs (!b) "tuple":=#[ob,l,Y];show Oq (op:=.Lt) #[m,g,x] k PySem.F.slot_tuple_lt (Co PySem.F.slot_tuple_lt #[m,g,x] PySem.F.entry_tuple_lt 8<|PySem.F.args_tuple_lt_2 _ _)<|Mo D;change Bm _ _ (Xg (!b) (.type "tuple")>>=_) _ _ s;show Aa<|Fp k Kn<|Aa<|Im g y<|Aa<|Im l o<|Aa 8;rw[ex,S];let T:=congrArg Js ex;let J:=congrArg Js S;show Lg _ (λrest q M=>q.1=ae/\M=s/\∀p∈rest,∃i t j u,p=(Value.int i t,Value.int j u)/\(x1=n->x2=d->i=j)) _ 8 8 _ _ #[7,7,λp B=>8]
 .rintro p rest q M ⟨N,rfl,hc⟩;let#[i,t,j,u,rfl,e]:=hc p<|Bj ..;show Aa<|Ue 8;cases hi:i==j
  .show Aa<|Iq<|Aa<|PyProof.Rows.lt_int<|Aa<|Ak<|Ak<|Ak #[_,7,(λe=>nomatch e),h _ λa b=>absurd (e a b)<|ne_of_beq_false hi]
  .show Ak #[7,7,λp B=>hc p<|Bi _ B]
 .rintro⟨C,O⟩ M ⟨rfl,rfl,hc⟩;show Ak #[_,7,(λe=>nomatch e),h _ λ_ _=>8];rw[Gk]at T J;rw[T,J];rfl
 .rcases Bd.mp B with rfl|B
  .show#[_,_,_,_,7,λa _=>a]
  .rw[Ae.mp B];show#[_,_,_,_,7,λ_ a=>a]
def zb4{a b:Ao}{m ob:Nh}{xs ys:Array Value}{G nb:Nat}{x1 x2 n d:Int}{f W Z P:Wq}{Q:Value->Ai->Prop}(D:A.units+1<Fs)(g:s.heap.get? a=-m)(x:m.cls=.type "tuple")(y:m.data=.seq xs G)(l:s.heap.get? b=-ob)(Y:ob.cls=.type "tuple")(o:ob.data=.seq ys nb)(ex:xs.toList=[.int x1 f,.int x2 W])(S:ys.toList=[.int n Z,.int d P])(h:∀b,(x1=n->x2=d->b=ac)->Q (.bool b) s):Bm (Cp prog w) A (Dq .Gt (!a) !b) Q E s:=by
 let k:s.TypeIs (!b) "tuple":=#[ob,l,Y];show Oq (op:=.Gt) #[m,g,x] k PySem.F.slot_tuple_gt (Co PySem.F.slot_tuple_gt #[m,g,x] PySem.F.entry_tuple_gt 8<|PySem.F.args_tuple_gt_2 _ _)<|Mo D;change Bm _ _ (Xg (!b) (.type "tuple")>>=_) _ _ s;show Aa<|Fp k Kn<|Aa<|Im g y<|Aa<|Im l o<|Aa 8;rw[ex,S];let T:=congrArg Js ex;let J:=congrArg Js S;show Lg _ (λrest q M=>q.1=ae/\M=s/\∀p∈rest,∃i t j u,p=(Value.int i t,Value.int j u)/\(x1=n->x2=d->i=j)) _ 8 8 _ _ #[7,7,λp B=>8]
 .rintro p rest q M ⟨N,rfl,hc⟩;let#[i,t,j,u,rfl,e]:=hc p<|Bj ..;show Aa<|Ue 8;cases hi:i==j
  .show Aa<|Iq<|Aa<|PyProof.Rows.gt_int<|Aa<|Ak<|Ak<|Ak #[_,7,(λe=>nomatch e),h _ λa b=>absurd (e a b)<|ne_of_beq_false hi]
  .show Ak #[7,7,λp B=>hc p<|Bi _ B]
 .rintro⟨C,O⟩ M ⟨rfl,rfl,hc⟩;show Ak #[_,7,(λe=>nomatch e),h _ λ_ _=>8];rw[Gk]at T J;rw[T,J];rfl
 .rcases Bd.mp B with rfl|B
  .show#[_,_,_,_,7,λa _=>a]
  .rw[Ae.mp B];show#[_,_,_,_,7,λ_ a=>a]
end
section
variable {X:Cx}
def rInsert:V->↑V->Hp->VK->Prop:=λx vs H Q=>∃l xs y i,x=!l/\vs=[.int (i:Nat),y]/\H l=-.lst xs/\↥xs<Aw/\i<=↥xs/\Q .non (aK H l<|.lst<|xs.take i++y::xs.drop i)
def zb5:rL X "list.insert" rInsert:=by
 intro C s G H x vs v us Q I B m h;let#[l,xs,y,i,rfl,rfl,S,hz,hi,q]:=h;ext B;let#[V,P,rfl,O,R]:=vals2 m;let#[tk,rfl]:=O;let#[z,its,n,r,hl,e]:=I.lstM S;let T:↥its=↥xs:=r.length.symm;let U:Aw=16777216:=Kz;let o:¬((!(Builtin.List.listFitsIndex ((i:Nat):Int)))=ab):=by
  let L:Ju ((i:Nat):Int)=ab:=by
   unfold Ju;rw[Dg,decide_eq_true_eq,decide_eq_true_eq];lia
  rw[L];decide
 let f:its.toArray.size<=Aw:=by rw[Bg];lia
 generalize Z:((i:Nat):Int)=j at o e⊢;let J:=PySem.AutoSeq1.list_insert_list_int_val_1 l its.toArray n j tk P o f;show La F.slot_list_insert #[_,e,7] F.entry_list_insert (F.args_list_insert_3 _ _ _) J #[e,8];let#[L,Y]:=a6.splitAt i r;show#[.non,_,I.lset (its':=its.take i++P::its.drop i) S e 8 (L.append<|.cons R Y) 8,7,q]
 .let hk:(if j<0 then(j+(its.toArray.size:Int)).toNat else min j.toNat its.toArray.size)=i:=by
   rw[<-Z,Xs 9,Cq,Bg];lia
  change(its.toArray.extract 0 (if j<0 then(j+(its.toArray.size:Int)).toNat else min j.toNat its.toArray.size)).push P++its.toArray.extract (if j<0 then(j+(its.toArray.size:Int)).toNat else min j.toNat its.toArray.size)=_;rw[hk];refine' Array.toList_inj.mp ..;simp[Qx,Array.toList_push];rw[Pm<|by rw[Eo];lia]
 .rw[Ag,Bl,Ct,Eo];lia
end
section
variable {X:Cx}
abbrev sP:R3:=λx y M R=>∃a b c d:Int,x=.tup [¬a,¬b]/\y=.tup [¬c,¬d]/\∀z,(a=c->b=d->z=ac)->R (.bl z) M
def vW{C:Pn}{G:SV}{H:Hp}{M:Mm}{s:Ai}{x:V}{v:Value}{a b:Int}(I:Inv X C G H s)(B:RelV x v)(E:AV X.K H M x<|.tup [¬a,¬b]):∃p o its n t u,v=!p/\s.heap.get? p=-o/\o.cls=.type "tuple"/\o.data=.seq its n/\its.toList=[.int a t,.int b u]:=by
 cases E with
 | @tup p xs _ e q=>
  cases (show v=Value.ref p from B);let#[y,z,rfl,N,S]:=q.two;obtain rfl:=N.inv;obtain rfl:=S.inv;let#[_,its,r,o,L,Y,m,O]:=(show b9 X.prog X.w H s.heap p (.tup [¬a,¬b]) from I.hok p _ e);let#[Z,P,rfl,F,R]:=vals2 r;let#[f,rfl]:=F;let#[W,rfl]:=R;show#[p,o,_,m,f,W,7,L,Y,O,6]
def JD(D:X.A.units+1<Fs):bF X (Dq .Lt) (cP X.K sP):=by
 rintro C s G H x y v u Q I B T ⟨F,J,M,R,U,t,E,⟨a,b,c,d,rfl,rfl,r⟩,k⟩;let#[p,o,its,n,Z,P,rfl,L,Y,O,W]:=vW I B t;let#[w,m,its',l,e,g,rfl,N,i,f,V]:=vW I T E;show zb3 D L Y O N i f W V λz hz=>#[.bl z,H,I,7,k.at U (.bl _)<|r z hz]
def JE(D:X.A.units+1<Fs):bF X (Dq .Gt) (cP X.K sP):=by
 rintro C s G H x y v u Q I B T ⟨F,J,M,R,U,t,E,⟨a,b,c,d,rfl,rfl,r⟩,k⟩;let#[p,o,its,n,Z,P,rfl,L,Y,O,W]:=vW I B t;let#[w,m,its',l,e,g,rfl,N,i,f,V]:=vW I T E;show zb4 D L Y O N i f W V λz hz=>#[.bl z,H,I,7,k.at U (.bl _)<|r z hz]
def JF:W->↑W->Mm->K3->Prop
 | .ref l,[¬i,y],M,R=>∃ws,M l=-.lst ws/\↥ws<Aw/\0<=i/\i<=↥ws/\R .non (put M l<|.lst<|ws.take i.toNat++y::ws.drop i.toNat)
 | _,_,_,_=>False
theorem JG{K:Ac}{H:Hp}{M:Mm}:∀{vs:↑V} {ws:↑W} (i:Nat),aJ K H M vs ws->aJ K H M (vs.take i) (ws.take i)/\aJ K H M (vs.drop i) (ws.drop i)
 | _,_,0,h=>#[.nil,h]
 | _,_,i+1,.nil=>#[.nil,.nil]
 | _,_,i+1,.cons r t=>by
  let#[L,Y]:=JG i t;show#[.cons r L,Y]
def zb6:e9 X "list.insert" (jI X.K JF):=by
 rintro C s G H x xs v us Q I B rs ⟨n,ws,M,R,U,t,N,h,k⟩
 match n,ws,h with
 | .ref l,[¬i,y],h=>
  let#[u,z,rfl,o,S]:=N.two;obtain rfl:=t.inv;obtain rfl:=o.inv;let#[ws,e,hl,Z,L,r]:=h;let#[i,rfl]:=Jq Z;let#[vs,f,q]:=U.lst e;let#[W,O]:=JG i q;rw[Cq]at r;show zb5 C s G H _ _ v us Q I B rs #[l,vs,z,i,7,7,f,by rw[↥q];show hl,by rw[↥q];lia,r9 U k e (W.append<|.cons S O) .non r]
end
structure aD where
 name:Av
 parts:↑Av
 cost:Int
def vY(t:Av):Prop:=∀c∈cs t,c<128
structure c7(t:Av):Prop where
 len:↥t<=20
 nm:isNameB t=ab
 hd:∃c r,cs t=c::r/\c∈cs gG
 asc:vY t
structure fD(t:Av):Prop where
 len:↥t<=20
 ne:cs t≠[]
 sm:∀c∈cs t,c∈cs kM
def zb7:∀c∈cs kM,c<128:=5
def JH:∀c∈cs gG,c<128:=5
def zb8:∀c∈cs mX,c<128:=5
def fD.asc(h:fD t):vY t:=λc hc=>zb7 c<|h.sm c hc
structure oV(hs ws:↑Av)(r:aD):Prop where
 name:r.name∈hs
 parts:∀t∈r.parts,t∈ws\/t∈hs
 few:↥r.parts<=04
 lo:0<=r.cost
 hi:r.cost<10 ^ 60
structure zb9(rs:↑aD):Prop where
 ne:rs≠[]
 few:↥rs<=60
 ex:∃hs ws:↑Av,↥hs<=12/\(∀t∈hs,c7 t)/\(∀t∈ws,fD t)/\(∀r∈rs,oV hs ws r)/\∀t∈hs,∃r∈rs,r.name=t
theorem JI(c:Array Nat):∀(k:Nat) (acc:Array Nat) (d:Nat),d∈((Cb k c).foldl (·++·) acc).toList->d∈acc.toList\/d∈c.toList
 | 0,acc,d,h=>.inl h
 | k+1,acc,d,h=>by
  rw[Hl,Gw]at h;rcases JI c k _ d h with q|q
  .rw[Qx]at q;show Az.mp q
  .show .inr q
def JJ{n:Int}{d:Nat}(h:d∈cs (Jm x n)):d∈cs x:=by
 unfold Jm at h;split at h
 .show absurd h (by rw[show cs Te=[] from rfl];simp)
 .split at h
  .show h
  .rcases JI x.cps _ #[] d h with q|q
   .simp at q
   .show q
def JK{n:Int}(S:↥x=1)(Z:0<=n):(↥(Jm x n):Int)=n:=by
 rw[len_mul,S];have:¬(n<0):=by lia
 simp[this]
noncomputable def dC(acc:↑Av)(t:Av):↑Av:=if t∈acc then acc else acc++[t]
noncomputable def mE(acc:↑Av)(rs:↑aD):↑Av:=(rs.map aD.name).foldl dC acc
def namesOf(rs:↑aD):↑Av:=mE [] rs
def kU:u∈dC acc t↔u∈acc\/u=t:=by
 ext dC;split
 .rename_i h;constructor
  .show .inl
  .rintro(q|q)
   .show q
   .rw[q];show h
 .rw[Az,Ae]
def zca:↥(dC acc t)<=↥acc+1:=by
 ext dC;split
 .lia
 .rw[Ag];show Aj _
theorem vZ:∀{ts acc:↑Av} {u:Av},u∈ts.foldl dC acc↔u∈acc\/u∈ts
 | [],acc,u=>6
 | t::r,acc,u=>by
  rw[Gw,vZ,kU,Bd];constructor
  .rintro((h|h)|h)
   .show .inl h
   .show .inr<|.inl h
   .show .inr<|.inr h
  .rintro(h|h|h)
   .show .inl<|.inl h
   .show .inl<|.inr h
   .show .inr h
def gU:u∈namesOf rs↔∃r∈rs,r.name=u:=by
 unfold namesOf mE;rw[vZ];simp
def oW(h:vY t):Rq t=ab:=by
 unfold Rq;rw[Array.all_eq_true'];intro c hc;have:=h c (by ext cs;show Array.mem_toList_iff.mpr hc);show Xw 9
def v3(g:Bool)(t:Av):Prop:=if g then c7 t else fD t
noncomputable def kW:Bool->Av
 | true=>Td kM
 | false=>kM
def AZ(g:Bool):↥(cs<|kW g)=26:=by cases g<;>decide +kernel
def JL(hg:↥(cs g)=26)(n:Int):∃c,bP g.cps.toList (n % 26)=-c/\c∈cs g:=by
 let Z:0<=n % 26:=Ga _ ∅;let L:n % 26<26:=Fb _ ∅;let#[j,F]:=Jq Z;let a:j<↥(cs g):=9
 show#[(cs g)[j],8,Sy a];rw[F];show g9<|Bh a
def A1(c:Nat):cs (#[[c].toArray]:Av)=[c]:=rfl
def zcb{g:Bool}(hl:↥t<=08)(j:cs t≠[])(h:∀c∈cs t,c∈cs (kW g)):v3 g t:=by
 cases g with
 | false=>show#[9,j,h]
 | true=>
  let a:kW ab=gG:=by change Td kM=gG;decide +kernel
  rw[a]at h;show#[9,W4 j h,8,λc hc=>JH c<|h c hc];cases e:cs t with
  | nil=>show absurd e j
  | cons c r=>show#[c,r,7,h c<|by rw[e];simp]
def JM(n:Int)(Z:0<=n)(L:n<10000)(hl:↥t<=08)(j:cs t≠[])(h:∀c∈cs t,c∈cs (kW ab)):v3 ab (t++"_"++Bz (toString n)):=by
 let a:kW ab=gG:=by change Td kM=gG;decide +kernel
 rw[a]at h;let d:↥(Bz<|toString n)<=10:=Qb Z 9;let l:↥("_" : Av)=1:=5
 let#[m,rfl]:=Jq Z;let b:=FH (m:=m);let g:cs (t++"_"++Bz (toString ((m:Nat):Int)))=cs t++95::cs (Bz<|toString ((m:Nat):Int)):=by rw[pP,pP,FE];simp
 show#[by rw[Nx,Nx,l];lia,W5 g j h b.2 b.1,8,λc hc=>8]
 .cases e:cs t with
  | nil=>show absurd e j
  | cons c r=>show#[c,_,by rw[g,e];rfl,h c<|by rw[e];simp]
 .rw[g]at hc;rcases Az.mp hc with q|q
  .show JH c<|h c q
  .rcases Bd.mp q with q|q
   .lia
   .show zb8 c<|b.1 c q
def JN{n:Int}(Z:0<=n)(L:n<10000):n.natAbs.log2<1920:=by
 rcases Nat.eq_zero_or_pos n.natAbs with h|B
 .rw[h];decide
 .have:n.natAbs<2 ^ 14:=by
   have:(2:Nat) ^ 14=16384:=by decide
   lia
  have:=(Vx<|Dr B).mpr this;lia
def zcc(h:Drawn P<|a++b):∃f y,P=f++y/\Drawn f a/\Drawn y b:=by
 induction a generalizing P with
 | nil=>show#[[],P,7,.nil,h]
 | cons x r E=>
  cases h with
  | cons L Y=>
   let#[f,y,rfl,T,J]:=E Y;show#[_::f,y,7,.cons L T,J]
def zcd{a b c d:Int}(h:Drawn P [a,b,c,d]):∃x1 x2 x3 x4,P=[x1,x2,x3,x4]/\Below x1 a/\Below x2 b/\Below x3 c/\Below x4 d:=by
 cases h with|cons L h=>cases h with|cons Y h=>cases h with|cons O h=>cases h with|cons W h=>ext h;show#[_,_,_,_,7,L,Y,O,W]
def JO{s:Int}(h:Drawn P ss)(l:∀z∈ss,z=s):∀d∈P,Below d s:=by
 induction h with
 | nil=>intro d hd;ext hd
 | cons r t E=>
  intro d hd;rcases Bd.mp hd with e|hd
  .subst e;have:=l _ Bj;rw[<-this];show r
  .show E (λz hz=>l z<|Bi _ hz) d hd
def zce{a b:Int}(h:Drawn P [a,b]):∃x1 x2,P=[x1,x2]/\Below x1 a/\Below x2 b:=by
 cases h with|cons L h=>cases h with|cons Y h=>ext h;show#[_,_,7,L,Y]
theorem sQ:∀(ts acc:↑Av),↥(ts.foldl dC acc)<=↥acc+↥ts
 | [],acc=>6
 | t::r,acc=>by
  rw[Gw,Bl];have:=sQ r<|dC acc t;have:=zca (acc:=acc) (t:=t);lia
noncomputable def bK(r:aD):W:=.tup [.str r.name,.tup<|r.parts.map W.str,¬r.cost]
noncomputable def a9(rs:↑aD):W:=.rl<|rs.map bK
abbrev dA:=Int×Int
noncomputable def JP(a b:dA):dA:=(a.1+b.1,a.2+b.2)
section
variable {U J:Type}[DecidableEq U]
noncomputable def cB(t:↑(U×J))(k:U):Option J:=(t.find? λe=>decide<|e.1=k).map (·.2)
noncomputable def i5(t:↑(U×J))(k:U)(v:J):↑(U×J):=if (t.any λe=>decide<|e.1=k)=ab then t.map (λe=>if e.1=k then(e.1,v) else e) else t++[(k,v)]
def nN(e:U×J)(t:↑(U×J))(k:U):cB (e::t) k=if e.1=k then aa e.2 else cB t k:=by
 ext cB;rw[De]
 by_cases h:e.1=k
 .rw[Xw h,Xu h];rfl
 .rw[Xx h,Xs h]
def jO(t:↑(U×J))(k:U):(t.any λe=>decide<|e.1=k)=(cB t k).isSome:=by
 induction t with
 | nil=>rfl
 | cons e t E=>
  rw[Fx,nN,E]
  by_cases h:e.1=k
  .rw[Xw h,Xu h];rfl
  .rw[Xx h,Xs h];rfl
def JQ(a b:↑(U×J))(k:U):cB (a++b) k=(cB a k).or (cB b k):=by
 ext cB;rw[List.find?_append,Option.map_or]
def zcf(t:↑(U×J))(k j:U)(v:J):cB (t.map λe=>if e.1=k then(e.1,v) else e) j=if k=j then(cB t j).map λ_=>v else cB t j:=by
 induction t with
 | nil=>change ae=_;split<;>rfl
 | cons e t E=>
  rw[Be,nN,nN,E]
  by_cases hk:e.1=k
  .rw[Xu hk]
   by_cases F:k=j
   .rw[Xu F,Xu<|hk.trans F,Xu<|hk.trans F,Xu F];rfl
   .rw[Xs F,Xs λz=>F<|hk.symm.trans z,Xs λz=>F<|hk.symm.trans z,Xs F]
  .rw[Xs hk]
   by_cases F:e.1=j
   .rw[Xu F,Xu F,Xs λz=>hk<|F.trans z.symm]
   .rw[Xs F,Xs F]
def A2(t:↑(U×J))(k j:U)(v:J):cB (i5 t k v) j=if k=j then aa v else cB t j:=by
 ext i5;rw[jO];split
 .rename_i h;rw[zcf]
  by_cases F:k=j
  .subst F;let#[_,e]:=El.mp h;rw[Xu rfl,Xu rfl,e];rfl
  .rw[Xs F,Xs F]
 .rename_i h;rw[JQ,nN];change(cB t j).or (if k=j then aa v else ae)=_
  by_cases F:k=j
  .subst F;rw[Xu rfl,Xu rfl];cases e:cB t k with
   | none=>rfl
   | some z=>rw[e]at h;show absurd rfl h
  .rw[Xs F,Xs F,Option.or_none]
def zcg(t:↑(U×J))(k:U)(v:J):↥(i5 t k v)<=↥t+1:=by
 ext i5;split
 .rw[Ab];lia
 .simp
end
def JR{U J:Type}[DecidableEq U]{t:↑(U×J)}{k:U}(h:∀e∈t,e.1≠k):cB t k=ae:=by
 ext cB;rw[List.find?_eq_none.mpr λe P z=>h e P<|Xv z];rfl
def v5{U J:Type}[DecidableEq U]{t:↑(U×J)}{k:U}{v:J}(h:cB t k=ae):i5 t k v=t++[(k,v)]:=by
 ext i5;rw[jO,h];rfl
def qH{U J:Type}[DecidableEq U]{t:↑(U×J)}{k:U}{v:J}(h:cB t k=-v):∃a b,t=a++(k,v)::b:=by
 induction t with
 | nil=>ext h
 | cons e t E=>
  rw[nN]at h
  by_cases hk:e.1=k
  .rw[Xu hk]at h;ext h;show#[[],t,by rw[<-hk];rfl]
  .rw[Xs hk]at h;let#[a,b,rfl]:=E h;show#[e::a,b,7]
theorem len_sub{g:Type}[DecidableEq g]:∀{a b:↑g},a.Nodup->(∀x∈a,x∈b)->↥a<=↥b
 | [],b,_,_=>Cu _
 | x::a,b,K,l=>by
  rw[Dc]at K;let S:=l x Bj;let E:=len_sub (a:=a) (b:=b.erase x) K.2 λy U=>by
   let j:y≠x:=λe=>K.1 (by rw[<-e];show U);show(List.mem_erase_of_ne j).mpr<|l y<|Bi _ U
  rw[List.length_erase_of_mem S]at E;have:=Po S;rw[Bl];lia
theorem JS{g J:Type}{f:g->↑J}{k:Nat}:∀{l:↑g},(∀x∈l,↥(f x)=k)->↥(l.flatMap f)=↥l*k
 | [],_=>6
 | x::l,h=>by
  rw[Mh,Ag,h x Bj,JS λy U=>h y<|Bi _ U,Bl,So];lia
structure Sr where
 rs:↑aD
 own:Av->Bool
 places:↑Int
 steps:Av->Int->↑(Int×Int)
 wt:Nat->Int
abbrev cI:=Av×Int×Int
abbrev dD:=↑(cI×dA×Nat×↑Int)
def mF{U:Type}[DecidableEq U]{kvs:↑(U×W)}{k j:U}{w:W}:aN (bU kvs k w) j=if k=j then aa w else aN kvs j:=A2 kvs k j w
def qI{U:Type}[DecidableEq U](e:U×W)(t:↑(U×W))(k:U):aN (e::t) k=if e.1=k then aa e.2 else aN t k:=nN e t k
theorem v7{U:Type}[DecidableEq U]{k j:U}:∀{kvs:↑(U×W)},aN (mC kvs k) j=if k=j then ae else aN kvs j
 | []=>by ext mC;rw[Tq];split<;>rfl
 | e::t=>by
  let E:=v7 (k:=k) (j:=j) (kvs:=t);unfold mC at E⊢;rw[Ds]
  by_cases h:e.1=k
  .rw[Xs<|by simp[h],E,qI]
   by_cases F:k=j
   .rw[Xu F,Xu F]
   .rw[Xs F,Xs F,Xs<|by rw[h];show F]
  .rw[Xu<|by simp[h],qI,E,qI]
   by_cases F:k=j
   .rw[Xu F,Xu F,Xs<|by rw[<-F];show h]
   .rw[Xs F,Xs F]
def A4{U:Type}[DecidableEq U](kvs:↑(U×W))(k:U)(w:W):↥(bU kvs k w)<=↥kvs+1:=zcg kvs k w
structure dE{U:Type}(kk:U->↑aC)(M0 M:Mm)(a:Ao)(kvs:↑(↑aC×W))(g:U->Option (↑W)):Prop where
 sub:L2.Sub M0 M
 new:M0 a=ae
 at_:M a=-.dT kvs
 non:∀k,g k=ae->aN kvs (kk k)=ae
 som:∀k ws,g k=-ws->∃p,aN kvs (kk k)=-!p/\p≠a/\M0 p=ae/\M p=-.lst ws
 inj:∀k j p,aN kvs (kk k)=-!p->aN kvs (kk j)=-!p->k=j
def gK(h:L2.Sub M0 M)(n:M0 p=ae):L2.Sub M0 (put M p o):=λa u e=>by
 rw[aT (λz=>by rw[z,n]at e;ext e)];show h a u e
section
variable {U:Type}[DecidableEq U]{kk:U->↑aC}{M0 M:Mm}{a p:Ao}{kvs:↑(↑aC×W)}{g:U->Option (↑W)}{o:MO}{k:U}{ws:↑W}
theorem dE.lift(h:dE kk M0 M a kvs g)(B:M p=ae\/∃u,M0 p=-u):dE kk (put M0 p o) (put M p o) a kvs g:=by
 let ne:∀{b:Ao},M0 b=ae->(∃u,M b=-u)->b≠p:=λ{b} Z #[u,L] e=>by
  subst e;rcases B with z|⟨v,z⟩
  .rw[L]at z;ext z
  .rw[Z]at z;ext z
 show#[Sub.put h.sub,8,8,h.non,λk ws e=>8,h.inj]
 .rw[aT<|ne h.new #[_,h.at_]];show h.new
 .rw[aT<|ne h.new #[_,h.at_]];show h.at_
 .let#[q,L,Y,O,W]:=h.som k ws e;have:=ne O #[_,W];show#[q,L,Y,by rw[aT this];show O,by rw[aT this];show W]
theorem dE.more(h:dE kk M0 M a kvs g)(B:M p=ae):dE kk M0 (put M p o) a kvs g:=by
 let ne:∀{b:Ao},(∃u,M b=-u)->b≠p:=λ{b} #[u,L] e=>by subst e;rw[B]at L;ext L
 show#[gK h.sub<|h.sub.non B,h.new,by rw[aT<|ne #[_,h.at_]];show h.at_,h.non,λk ws e=>8,h.inj];let#[q,L,Y,O,W]:=h.som k ws e;show#[q,L,Y,O,by rw[aT<|ne #[_,W]];show W]
theorem dE.has(h:dE kk M0 M a kvs g)(e:g k=-ws):∃p,aN kvs (kk k)=-!p/\M p=-.lst ws:=by
 let#[q,L,_,_,W]:=h.som k ws e;show#[q,L,W]
theorem dE.look(h:dE kk M0 M a kvs g)(k:U):(aN kvs<|kk k).isSome=(g k).isSome:=by
 cases e:g k with
 | none=>rw[h.non k e];rfl
 | some ws=>let#[q,L,_]:=h.has e;rw[L];rfl
def dE.wr(h:dE kk M0 M a kvs g)(hk:aN kvs (kk k)=aa !p):dE kk M0 (put M p<|.lst ws) a kvs (λj=>if k=j then aa ws else g j):=by
 obtain⟨b,C⟩:∃b,g k=-b:=by
  cases e:g k with
  | none=>rw[h.non k e]at hk;ext hk
  | some ws=>show#[_,7]
 let#[q,L,Y,O,W]:=h.som k b C;rw[hk]at L;ext L;show#[gK h.sub O,h.new,by rw[aT<|Cs Y];show h.at_,λj e=>8,λj us e=>8,h.inj]
 .by_cases F:k=j
  .rw[Xu F]at e;ext e
  .rw[Xs F]at e;show h.non j e
 .by_cases F:k=j
  .rw[Xu F]at e;ext e;subst F;show#[p,hk,Y,O,aI]
  .rw[Xs F]at e;let#[q,N,i,f,V]:=h.som j us e;show#[q,N,i,f,8];rw[aT λz=>F<|h.inj k j p hk<|by rw[<-z];show N];show V
def dE.add(c:∀k j,kk k=kk j->k=j)(h:dE kk M0 M a kvs g)(hg:g k=ae)(B:M p=ae):dE kk M0 (put (put M p<|.lst ws) a<|.dT<|bU kvs (kk k) !p) a (bU kvs (kk k) !p) (λj=>if k=j then aa ws else g j):=by
 let ne:∀{b:Ao},(∃u,M b=-u)->b≠p:=λ{b} #[u,L] e=>by subst e;rw[B]at L;ext L
 let l:p≠a:=Cs<|ne #[_,h.at_];let m:∀j q,aN kvs (kk j)=-!q->∃u,M q=-u:=λj q e=>by
  cases n:g j with
  | none=>rw[h.non j n]at e;ext e
  | some us=>
   let#[A,N,_,_,V]:=h.som j us n;rw[e]at N;ext N;show#[_,V]
 show#[gK (gK h.sub<|h.sub.non B) h.new,h.new,aI,λj e=>8,λj us e=>8,λi j q T J=>8]
 .by_cases F:k=j
  .rw[Xu F]at e;ext e
  .rw[Xs F]at e;rw[mF,Xs λz=>F<|c _ _ z];show h.non j e
 .by_cases F:k=j
  .rw[Xu F]at e;ext e;subst F;show#[p,by rw[mF,Xu rfl],l,h.sub.non B,by rw[aT l,aI]]
  .rw[Xs F]at e;let#[q,N,d,f,V]:=h.som j us e;show#[q,by rw[mF,Xs λz=>F<|c _ _ z];show N,d,f,by rw[aT d,aT<|ne #[_,V]];show V]
 .rw[mF]at T J
  by_cases L:kk k=kk i
  .by_cases Y:kk k=kk j
   .show(c _ _ L).symm.trans<|c _ _ Y
   .rw[Xu L]at T;rw[Xs Y]at J;ext T;let#[u,z]:=m j p J;rw[B]at z;ext z
  .by_cases Y:kk k=kk j
   .rw[Xs L]at T;rw[Xu Y]at J;ext J;let#[u,z]:=m i p T;rw[B]at z;ext z
   .rw[Xs L]at T;rw[Xs Y]at J;show h.inj i j q T J
def dE.del(c:∀k j,kk k=kk j->k=j)(h:dE kk M0 M a kvs g):dE kk M0 (put M a<|.dT<|mC kvs<|kk k) a (mC kvs<|kk k) (λj=>if k=j then ae else g j):=by
 show#[gK h.sub h.new,h.new,aI,λj e=>8,λj us e=>8,λi j q T J=>8]
 .rw[v7]
  by_cases F:k=j
  .rw[Xu<|by rw[F]]
  .rw[Xs F]at e;rw[Xs λz=>F<|c _ _ z];show h.non j e
 .by_cases F:k=j
  .rw[Xu F]at e;ext e
  .rw[Xs F]at e;let#[q,N,d,f,V]:=h.som j us e;show#[q,by rw[v7,Xs λz=>F<|c _ _ z];show N,d,f,by rw[aT d];show V]
 .rw[v7]at T J;split at T
  .ext T
  .split at J
   .ext J
   .show h.inj i j q T J
theorem dE.same{g':U->Option (↑W)}(h:dE kk M0 M a kvs g)(e:∀k,g' k=g k):dE kk M0 M a kvs g':=by
 have:g'=g:=funext e;rw[this];show h
def dP(h:M a=-.lst ws):j7 "list" (!a) M:=.inl #[7,_,h]
def oX(h:M a=-.dT kvs):j7 "dict" (!a) M:=.inr #[7,.inr #[_,h]]
def dE.push{Q:Mm->Mm->Prop}{v:Mm}{x:W}{R:K3}{T:W->Mm->Prop}(c:∀k j,kk k=kk j->k=j)(d:∀{N i:Mm} {p:Ao} {o:MO},Q N i->(i p=ae\/∃u,N p=-u)->Q (put N p o) (put i p o))(sb:∀{N i:Mm},Q N i->L2.Sub N i)(u:Q M v)(t:dE kk M0 M a kvs g)(X:∀y N,dZ y [x] N R->T y N)(K:↥kvs<10000000)(hl:↥((g k).getD [])<10000000)(r:∀N i b,dE kk M0 N a b (λj=>if k=j then aa ((g k).getD []++[x]) else g j)->Q N i->↥b<=↥kvs+1->R .non i):j7 "dict" (!a) v/\∀p,v p=ae->qE (!a) [.tup<|(kk k).map wK,!p] (put v p<|.lst []) λy N=>j7 "list" y N/\T y N:=by
 let S:=sb u _ _ t.at_;show#[oX S,λp B=>8];let l:=(sb u).non B;let ne:p≠a:=λz=>by rw[z,S]at B;ext B
 show#[kvs,kk k,by rw[aT<|Cs ne];show S,7,cS K,λw hw=>8,λhw=>8]
 .cases e:g k with
  | none=>rw[t.non k e]at hw;ext hw
  | some ws=>
   let#[q,L,Y]:=t.has e;rw[hw]at L;ext L;let z:put M p (.lst []) q=-.lst ((g k).getD []):=by rw[aT (λz=>by rw[z,l]at Y;ext Y),e];show Y
   let Z:=d (o:=.lst []) u<|.inl B;let y:=sb Z _ _ z;show#[dP y,X _ _ #[_,y,cS hl,r _ _ kvs ((t.more l).wr hw) (d Z<|.inr #[_,z])<|Fw _]]
 .let e:g k=ae:=by
   cases e:g k with
   | none=>rfl
   | some ws=>let#[_,L,_]:=t.has e;rw[hw]at L;ext L
  let P:=d (p:=a) (o:=.dT<|bU kvs (kk k) !p) (d (o:=.lst []) u<|.inl B)<|.inr #[.dT kvs,by rw[aT<|Cs ne];show t.at_];let z:put (put M p<|.lst []) a (.dT<|bU kvs (kk k) !p) p=-.lst []:=by rw[aT ne,aI]
  let y:=sb P _ _ z;show#[dP y,X _ _ #[[],y,cS ∅,r _ _ _ (((t.add c (ws:=[]) e l).wr (ws:=[x])<|by rw[mF,Xu rfl]).same λj=>8) (d P<|.inr #[_,z])<|A4 ..]];rw[e]
  by_cases F:k=j
  .rw[Xu F,Xu F];rfl
  .rw[Xs F,Xs F,Xs F]
end
noncomputable def lo{g:Type}(f:g->W)(l:↑g):Option (↑W):=if l=[] then ae else aa (l.map f)
def v8{g:Type}(f:g->W)(l:↑g):(lo f l).getD []=l.map f:=by cases l<;>rfl
def A5{g:Type}(f:g->W)(l:↑g)(x:g):lo f (l++[x])=aa ((lo f l).getD []++[f x]):=by
 rw[v8];ext lo;rw[Xs 6,Ar];rfl
structure Cc where
 q:Ao
 s:Ao
 f:Ao
 g:Ao
 p:Ao
 h:Ao
 i:Ao
 c:Ao
 t:Ao
noncomputable def cW(c:dA):W:=.tup [¬c.1,¬c.2]
noncomputable def cK(c:dA):↑aC:=[Sum.inl c.1,Sum.inl c.2]
def JT:∀a b:dA,cK a=cK b->a=b:=λa b h=>by
 unfold cK at h;simp only[Fh,Oh,and_true]at h;show Pe h.1 h.2
abbrev rep(k:Nat):↑Int:=Cb k 0
noncomputable def gL(cut:↑Int):W:=.tup<|cut.map W.int
noncomputable def kX(x:Nat×Nat):W:=.tup [¬x.1,gL<|rep x.2]
structure Aq where
 o:Ao
 d:Ao
 c:Ao
 w:Ao
noncomputable def qf(A:Aq):↑(Av×W):=[("costs",!A.c),("waiting",!A.w)]
def qJ:Cj ("costs" : Av) (qf A)=-W.ref A.c:=by kernel_rfl
def qK:Cj ("waiting" : Av) (qf A)=-W.ref A.w:=by kernel_rfl
def zch:Cj ("place_of" : Av) (qf A)=ae:=by kernel_rfl
def zci:Cj ("put" : Av) (qf A)=ae:=by kernel_rfl
def zcj:Cj ("take" : Av) (qf A)=ae:=by kernel_rfl
def zck:Cj ("is_done" : Av) (qf A)=ae:=by kernel_rfl
structure Qm(C:Cc)(M0 M:Mm)(A:Aq)(cs:↑dA):Prop where
 sub:L2.Sub M0 M
 no:M0 A.o=ae
 nc:M0 A.c=ae
 ne:A.o≠A.c
 ob:M A.o=-.ins C.q A.d (qf A)
 co:M A.c=-.lst (cs.map cW)
abbrev Qu:=↑(dA×Nat×Nat)
noncomputable abbrev wG(q:Qu)(c:dA):Option (↑W):=lo (λe=>kX e.2)<|q.filter λe=>decide<|e.1=c
structure QR(C:Cc)(M0 M:Mm)(A:Aq)(q:Qu)(m:Nat):Prop where
 le:↥q<=m
 ex:∃M1 kvs cs,Qm C M0 M1 A cs/\dE cK M1 M A.w kvs (wG q)/\cs.Nodup/\(∀c,c∈cs↔c∈q.map (·.1))/\↥kvs<=m
def v9:wG q c=ae↔c∉q.map (·.1):=by
 have:(q.filter λe=>decide<|e.1=c)=[]↔c∉q.map (·.1):=by
  rw[List.filter_eq_nil_iff];show#[λh z=>let #[e,h1,h2]:=Ap.mp z;h e h1<|Xw h2,λh e P z=>h<|Ap.mpr #[e,P,Xv z]]
 rw[<-this];unfold wG lo;split
 .show#[λ_=>‹_›,λ_=>rfl]
 .show#[(λh=>nomatch h),λh=>absurd h ‹_›]
theorem JU:∀{q:Qu},c∈q.map (·.1)->∃q1 x q2,q=q1++(c,x)::q2/\c∉q2.map (·.1)
 | e::q,h=>by
  by_cases Y:c∈q.map (·.1)
  .let#[a,x,b,rfl,O]:=JU Y;show#[e::a,x,b,7,O]
  .rcases Bd.mp h with rfl|h
   .show#[[],e.2,q,7,Y]
   .show absurd h Y
def Qm.lift{C:Cc}{g M:Mm}{A:Aq}{cs:↑dA}{p:Ao}{o:MO}(h:Qm C g M A cs)(B:M p=ae\/∃u,g p=-u):Qm C (put g p o) (put M p o) A cs:=by
 let ne:∀{b:Ao},g b=ae->(∃u,M b=-u)->b≠p:=λ{b} Z #[u,L] e=>by
  subst e;rcases B with z|⟨v,z⟩
  .rw[L]at z;ext z
  .rw[Z]at z;ext z
 let f:=ne h.no #[_,h.ob];let D:=ne h.nc #[_,h.co];show#[Sub.put h.sub,by rw[aT f];show h.no,by rw[aT D];show h.nc,h.ne,by rw[aT f];show h.ob,by rw[aT D];show h.co]
def Qm.costs{C:Cc}{g M:Mm}{A:Aq}{cs cs':↑dA}(h:Qm C g M A cs):Qm C g (put M A.c<|.lst<|cs'.map cW) A cs':=
 #[gK h.sub h.nc,h.no,h.nc,h.ne,by rw[aT h.ne];show h.ob,aI]
def QR.lift{m:Nat}(h:QR C g M A q m)(B:M p=ae\/∃u,g p=-u):QR C (put g p o) (put M p o) A q m:=by
 let#[I,kvs,cs,L,Y,O]:=h.ex;show#[h.le,put I p o,kvs,cs,L.lift 8,Y.lift 8,O]
 .rcases B with z|z
  .show .inl<|Y.sub.non z
  .show .inr z
 .rcases B with z|⟨u,z⟩
  .show .inl z
  .show .inr #[u,L.sub _ _ z]
def QR.sub{m:Nat}(h:QR C g M A q m):L2.Sub g M:=by
 let#[I,kvs,cs,L,Y,O]:=h.ex;show L.sub.trans Y.sub
def QR.ob{m:Nat}(h:QR C g M A q m):M A.o=-.ins C.q A.d (qf A):=by
 let#[I,kvs,cs,L,Y,O]:=h.ex;show Y.sub _ _ L.ob
section
variable {ws:↑W}{g:eY}{tb:aE}{D:D3}{τ:S3}{M:Mm}
def mG(r:Nat->S3->Mm->Prop)(Z:r 0 τ M)(l:∀i w τ M,ws[i]? = aa w->r i τ M->g w τ M λf v=>tb {D with nx:=λd F=>∃a,Sub a F/\r (i+1) d a,ct:=λd F=>∃a,Sub a F/\r (i+1) d a,bk:=D.nx} f v)(hd:∀τ M,r ↥ws τ M->D.nx τ M):oO ws (λ_=>True) g tb D τ M:=zX r Z (λ_ _ _ _ _=>trivial) l hd
def c8(r:Nat->S3->Mm->Prop)(Z:r 0 τ M)(l:∀i w τ M,ws[i]? = aa w->r i τ M->∀s:D3,(∀τ M,r (i+1) τ M->s.nx τ M)->g w τ M λf v=>tb s f v)(hd:∀τ M,r ↥ws τ M->D.nx τ M):oO ws (λ_=>True) g tb D τ M:=mG r Z (λi w τ M e p=>l i w τ M e p _ λ_ M z=>#[M,aV,z]) hd
def mH(r:Nat->S3->Mm->Prop)(Z:∃m,r m τ M)(U:∀m τ M,r m τ M->∀s:D3,(∀q τ M,q<m->r q τ M->s.nx τ M)->c τ M λb I=>if b=ab then tb s τ I else D.nx τ I):jL c tb D τ M:=#[r,Z,λm τ M p=>U m τ M p _ λq _ M l z=>#[q,M,l,aV,z]]
end
def JV(C:Cc):aW:=λws M R=>∃g a s,ws=[!a]/\M=put g a (.ins C.q s [])/\g a=ae/\∀F (A:Aq),A.o=a->QR C g F A [] 0->R .non F
def JW(C:Cc):aW:=λws M R=>∃g A q m,ws=[!A.o]/\QR C g M A q m/\R (.bl<|decide<|q=[]) M
def JX(C:Cc):aW:=λws M R=>∃(A:Aq) (cs:↑dA) (c:dA),ws=[!A.o,cW c]/\M A.o=-.ins C.q A.d (qf A)/\M A.c=-.lst (cs.map cW)/\∀i:Nat,i<=↥cs->R (¬i) M
def JY(C:Cc):aW:=λws M R=>∃g A q m c x,ws=[!A.o,cW c,kX x]/\QR C g M A q m/\m<1000000/\∀F,QR C g F A (q++[(c,x)]) (m+1)->R .non F
def JZ(C:Cc):aW:=λws M R=>∃g A q m,ws=[!A.o]/\QR C g M A q m/\q≠[]/\∀F q1 c x q2,q=q1++(c,x)::q2->QR C g F A (q1++q2) m->R (.tup [cW c,kX x]) F
noncomputable abbrev zcl:↑Av:=["self"]
abbrev zcm(C:Cc):aE:=
   (aF (i4 C.q aH "costs"<|fB aB)
   (i4 C.q aH "waiting" kS))
noncomputable abbrev zcn:↑Av:=["self"]
abbrev zco(C:Cc):aE:=
   (bH<|aG (dH ac) (bG cD<|dB C.q aH "costs"^aB) a8)
noncomputable abbrev zcp:↑Av:=["self","cost","thing"]
abbrev zcq(C:Cc):aE:=
   (aF (bY (bL<|aG (bZ ab) aM<|dB C.q aH "waiting")
    (aF (eU (fB aB)<|gI (dB C.q aH "waiting") aM)
   (bX<|cJ "list" JF (dB C.q aH "costs")<|eA C.q "place_of" (JX C) aH (aM^aB)^aM^aB))
    cR)
   (bX<|cJ "list" dZ (vX (dB C.q aH "waiting") aM)<|aS^aB))
noncomputable abbrev zcr:↑Av:=["self","cost","low","high","middle"]
abbrev zcs(C:Cc):aE:=
   (aF (aL 04<|aG jJ (aG cH aS a7) lU)
   (bY (bL<|aG sP (vX (dB C.q aH "costs") bC) aM)
    (aL 2<|aG cH bC aX)
    (aL 3 bC)))
abbrev zct(C:Cc):aE:=(aF (aL 2 a8)<|aF (aL 3<|bG cD<|dB C.q aH "costs"^aB)<|aF (jL (bL<|aG lX aS a7)<|zcs C)<|bH aS)
noncomputable abbrev zcu:↑Av:=["self","cost","things","thing"]
abbrev zcv(C:Cc):aE:=
   (bY (bL<|aG (dH ac) (bG cD<|aS^aB) a8)
    (aF (bX<|kQ "list" lZ<|dB C.q aH "costs")
   (bX<|cJ "dict" IM (dB C.q aH "waiting")<|aM^aB))
    cR)
abbrev zcw(C:Cc):aE:=(aF (aL 1<|vX (dB C.q aH "costs")<|j1 j8 aX)<|aF (aL 2<|vX (dB C.q aH "waiting") aM)<|aF (aL 3<|kQ "list" lZ aS)<|aF (zcv C)<|bH<|bA<|aM^a7^aB)
def z3:3<=Aw:=by decide
def bN{b:Bool}{P Q:Prop}(L:b=ab->P)(Y:b=ac->Q):if b=ab then P else Q:=by ext b;show Y rfl;show L rfl
def zcx{R:↑W->(Mm->Prop)->Mm->Prop}(e:w=.rl ws)(h:R ws (λ_=>True) M):L2.jM w M R:=by rw[e];show h
def qL(h:M a=-.dT kvs)(hl:aN kvs k=-w)(r:R w M):nH a (.tup<|k.map wK) M R:=GZ (.inr #[kvs,k,h,7,hl.symm]) r
def fI{C a s:Ao}{fs:↑(Av×W)}{f:Av}{w:W}{M:Mm}{R:W->Prop}(h:M a=-.ins C s fs)(l:fs.lookup f=-w)(r:R w):∃c s fs w,W.ref a=!c/\M c=-.ins C s fs/\fs.lookup f=-w/\R w:=#[a,s,fs,w,7,h,l,r]
def mI{C a s:Ao}{fs:↑(Av×W)}{f:Av}{M:Mm}{R:Ao->Prop}(h:M a=-.ins C s fs)(l:fs.lookup f=ae)(r:R a):∃c s fs,W.ref a=!c/\M c=-.ins C s fs/\fs.lookup f=ae/\R c:=#[a,s,fs,7,h,l,r]
def zcy{C:Cc}:bE (JW C) (zco C) zcn:=by
 rintro _ M R ⟨g,A,q,m,rfl,N,r⟩;let#[I,kvs,cs,m1,f,_,mem,_]:=N.ex;show fI N.ob qJ<|.inl #[_,f.sub _ _ m1.co,M,aV,8];let e:decide ((↥(cs.map cW):Int)=0)=decide (q=[]):=by
  cases cs with
  | nil=>
   cases q with
   | nil=>rfl
   | cons e q=>show nomatch (mem e.1).mpr (Bj ..)
  | cons d cs=>
   cases q with
   | nil=>show nomatch (mem d).mp (Bj ..)
   | cons e q=>show(Xx<|by rw[Be,Bl];lia)
 change R (.bl<|decide<|(↥(cs.map cW):Int)=0) M;rw[e];show r
def zcz:bE (JV C) (zcm C) zcl:=by
 rintro _ M R ⟨g,a,s,rfl,rfl,S,r⟩;show(λp B=>8);let l:p≠a:=λe=>by rw[e,aI]at B;ext B
 let m:g p=ae:=by rw[aT l]at B;show B
 show#[a,s,[],7,by rw[aT<|Cs l,aI],by decide,λw hw=>8];let d:w≠a:=λe=>by rw[e,aI]at hw;ext hw
 let f:w≠p:=λe=>by rw[e,aT l,aI]at hw;ext hw
 let i:g w=ae:=by rw[aT d,aT f,aT d]at hw;show hw
 show#[a,s,d9 "costs" (!p) [],7,by rw[aT<|Cs d,aI],(show(1:Nat)<1000 by decide),_,aV,r _ #[a,s,p,w] rfl #[Aj _,put (put g p<|.lst []) a<|.ins C.q s<|qf #[a,s,p,w],[],[],#[gK (gK (aV) m) S,S,m,Cs l,aI,by rw[aT l,aI];rfl],8,.nil,(λc=>#[(λh=>nomatch h),(λh=>nomatch h)]),Aj _]];let e:put (put (put (put (put g a<|.ins C.q s []) p<|.lst []) a<|.ins C.q s<|d9 "costs" (!p) []) w<|.dT []) a (.ins C.q s<|d9 "waiting" (!w)<|d9 "costs" (!p) [])=put (put (put g p<|.lst []) a<|.ins C.q s<|qf #[a,s,p,w]) w (.dT []):=by
  let eq:d9 "waiting" (!w) (d9 "costs" (!p) [])=qf #[a,s,p,w]:=by
   change(if (("costs" : Av)=("waiting" : Av)) then _ else _)=_;rw[Xs<|5];rfl
  rw[eq];funext b;ext put
  by_cases L:b=a<;>by_cases Y:b=w<;>by_cases O:b=p<;>simp_all
 rw[e];show#[gK (aV)<|by rw[aT d,aT f];show i,by rw[aT d,aT f];show i,aI,(λ_ _=>rfl),(λk ws e=>nomatch e),(λk j p e=>nomatch e)]
def zcA{C:Cc}:bE (JX C) (zct C) zcr:=by
 rintro _ M R ⟨A,cs,c,rfl,f,hc,r⟩;show fI f qJ<|.inl #[_,hc,8];show mH (λm τ F=>∃lo hi:Nat,∃o,τ=[aa !A.o,-cW c,aa ¬lo,aa ¬hi,o]/\F=M/\hi<=↥cs/\lo<=hi/\m=hi-lo) #[_,0,↥cs,ae,by rw[Ab];rfl,7,Aj _,Cu _,7] 8;rintro m τ F ⟨lo,hi,o,rfl,rfl,L,Y,rfl⟩ D I;show(bN (λZ=>8) λZ=>#[_,aV,r lo 9]);let a:lo<hi:=Int.ofNat_lt.mp<|Xv Z;show#[#[by decide,by decide],8];obtain⟨b,J⟩:∃b,b=(lo+hi)/2:=#[_,7];let i:((lo:Int)+(hi:Int))/2=(b:Nat):=J▸rfl;let q1:lo<=b:=9
 let q2:b<hi:=9
 clear J Z;dsimp only;rw[i];obtain⟨d,hd⟩:∃d,cs[b]? = aa d:=#[_,Bh<|Ca q2 L];show fI f qJ<|lY (w:=cW d) hc (g9<|by rw[Au,hd];rfl) #[d.1,d.2,c.1,c.2,7,7,λz _=>bN (λ_=>8) λ_=>8]
 .show I _ _ _ (Nat.sub_lt_sub_left a<|Kh q1) #[b+1,hi,_,7,7,L,q2,7]
 .show I _ _ _ (Nat.sub_lt_sub_right q1 q2) #[lo,b,_,7,7,Am (Hk q2) L,q1,7]
def zcB{C:Cc}:bE (JY C) (zcq C) zcp:=by
 rintro _ M R ⟨g,A,q,m,c,x,rfl,N,J,r⟩;let#[I,kvs,cs,m1,f,nd,mem,u]:=N.ex;let hl:=N.le;show fI N.ob qK<|.inr #[_,.inr #[kvs,cK c,f.at_,7,7],8];rw[f.look c];let b:∀j,wG (q++[(c,x)]) j=if c=j then aa ((wG q c).getD []++[kX x]) else wG q j:=λj=>by
  change lo _ (Qj _ _)=_;rw[Jt]
  by_cases F:c=j
  .subst F;rw[Xu rfl,Ds,Xu<|Xw rfl];show A5 ..
  .rw[Xs F,Ds,Xs λz=>F<|Xv z,Tq,Bv]
 let le:↥(q++[(c,x)])<=m+1:=by rw[Ag];show Ea hl
 let me:∀d,d∈(q++[(c,x)]).map (·.1)↔d=c\/d∈cs:=λd=>by rw[mem,Ar,Az,or_comm];show or_congr Ae Ri
 cases hg:wG q c with
 | some ws=>
  let#[p,a,l]:=f.has hg;let hw:ws=(q.filter λe=>decide<|e.1=c).map λe=>kX e.2:=by rw[<-v8,show lo _ _=aa ws from hg];rfl
  let hc:c∈cs:=(mem c).mpr (Fz λz=>by rw[v9.mpr z]at hg;ext hg);let hf:=Fc (λe=>decide<|e.1=c) q;show fI N.ob qK<|qL f.at_ a #[dP l,_,l,cS<|by rw[hw,Ab];lia,_,aV,r _ #[le,I,kvs,cs,m1,(f.wr a).same λj=>by rw[b,hg];rfl,nd,λd=>8,Ow u]];rw[me];show#[.inr,λh=>h.elim (λz=>z▸hc) id]
 | none=>
  let K:c∉cs:=λz=>v9.mp hg<|(mem c).mp z;let s:=len_sub nd λd hd=>(mem d).mp hd;rw[Ab]at s;show λp B=>8;let W:=f.add JT (ws:=[]) hg B;let n:A.o≠p:=λe=>by rw[<-e,N.ob]at B;ext B
  show fI (by rw[aT n];show N.ob) qK<|oP (k:=cK c) (kvs:=kvs) (by rw[aT (λe=>by rw[<-e,f.at_]at B;ext B)];show f.at_) (cS 9) 8;let V:=W.sub _ _ m1.ob;let O:=W.sub _ _ m1.co;show fI V qJ #[dP O,mI V zch #[A,cs,c,7,V,O,λi hi=>#[_,O,cS<|by rw[Ab];lia,9,by rw[Ab];lia,8]]];rw[show(cs.map cW).take (Int.toNat (i:Nat))++cW c::(cs.map cW).drop (Int.toNat (i:Nat))=(cs.take i++c::cs.drop i).map cW by rw[Cq,Ar,Be,Ur,Rn]];let G:=W.lift (p:=A.c) (o:=.lst<|(cs.take i++c::cs.drop i).map cW)<|.inr #[_,m1.co];let m3:=m1.costs (cs':=cs.take i++c::cs.drop i);let#[w,a,l]:=G.has (k:=c) (ws:=[]) (by rw[Xu rfl]);show fI (G.sub _ _ m3.ob) qK<|qL G.at_ a #[dP l,_,l,cS ∅,_,aV,r _ #[le,_,_,_,m3,(G.wr a).same λj=>8,My.nodup_iff.mpr<|by rw[Jz];show Dc.mpr #[K,nd],λd=>by rw[me,My.mem_iff,Jz,Bd],Am (A4 ..)<|Ea u]];rw[b j,hg]
  by_cases F:c=j
  .rw[Xu F,Xu F];rfl
  .rw[Xs F,Xs F,Xs F]
def zcC{C:Cc}:bE (JZ C) (zcw C) zcu:=by
 rintro _ M R ⟨g,A,q,m,rfl,N,J,r⟩;let#[I,kvs,cs,m1,f,nd,mem,u]:=N.ex;rcases Mv cs with rfl|⟨cs,c,rfl⟩
 .cases q with
  | nil=>show absurd rfl J
  | cons e q=>show nomatch (mem e.1).mpr (Bj ..)
 rw[Mw]at m1 nd mem;let#[q1,x,q2,rfl,K]:=JU ((mem c).mp<|6);obtain⟨Z,U⟩:∃Z,Z=q1.filter λe=>decide (e.1=c):=#[_,7];let Y:(q2.filter λe=>decide<|e.1=c)=[]:=List.filter_eq_nil_iff.mpr λe P z=>K<|Ap.mpr #[e,P,Xv z];let hf:wG (q1++(c,x)::q2) c=aa (Z.map (λe=>kX e.2)++[kX x]):=by
  change lo _ (Qj _ _)=_;rw[Jt,Ds,Xu<|Xw rfl,Y,<-U,A5,v8]
 let hg:∀j,wG (q1++q2) j=if c=j then lo (λe=>kX e.2) Z else wG (q1++(c,x)::q2) j:=λj=>by
  change lo _ (Qj _ _)=if c=j then _ else lo _ (Qj _ _);rw[Jt,Jt,Ds]
  by_cases F:c=j
  .subst F;rw[Xu rfl,Y,Bv,<-U]
  .rw[Xs F,Xs λz=>F<|Xv z]
 let#[p,a,l]:=f.has hf;let Q:I A.c=-.lst (cs.map cW++[cW c]):=by rw[m1.co,Ar];rfl
 let le:↥(q1++q2)<=m:=Am (by rw[Ag,Ag,Bl];lia) N.le;let me:∀d,d∈cs++[c]↔d=c\/d∈(q1++q2).map (·.1):=λd=>by rw[mem,Ar,Be,My.mem_iff,Bd,Ar]
 let W:=f.wr (ws:=Z.map λe=>kX e.2) a;show fI N.ob qJ<|lY (f.sub _ _ Q) (EB _ _)<|fI N.ob qK<|qL f.at_ a #[dP l,#[_,_,l,.inl #[_,aI,8]]];cases Z with
 | nil=>
  let m2:=m1.costs (cs':=cs);let G:=W.lift (p:=A.c) (o:=.lst<|cs.map cW)<|.inr #[_,Q];let hc:c∉(q1++q2).map (·.1):=v9.mp<|(hg c).trans<|Xu rfl;show fI (W.sub _ _ m1.ob) qJ #[dP<|W.sub _ _ Q,_,_,W.sub _ _ Q,fI (G.sub _ _ m2.ob) qK #[oX G.at_,_,cK c,_,G.at_,7,a,_,aV,r _ _ _ _ _ rfl #[le,_,_,cs,m2,(G.del (k:=c) JT).same λj=>8,(Cf.mp nd).1,λd=>#[λh=>8,λh=>8],Am (Fc ..) u]]]
  .rw[hg]
   by_cases F:c=j
   .rw[Xu F,Xu F];rfl
   .rw[Xs F,Xs F,Xs F]
  .show((me d).mp<|Bf _ h).resolve_left λz=>8;show(Cf.mp nd).2.2 d h c (Ae.mpr rfl) z
  .show(Az.mp<|(me d).mpr<|.inr h).resolve_right λz=>hc<|Ae.mp z▸h
 | cons y Z=>
  show#[_,aV,r _ _ _ _ _ rfl #[le,_,_,_,m1,W.same λj=>hg j,nd,λd=>(me d).trans #[λh=>h.elim (λz=>8) id,.inr],u]];rw[z];show Fz λz=>by have:=(hg c).symm.trans<|v9.mpr z;rw[Xu rfl]at this;ext this
noncomputable def kx(x:Nat×Nat):↑aC:=[Sum.inl x.1,Sum.inl x.2,Sum.inl 0,Sum.inl 0]
def zcD(h:kx x=kx y):x=y:=by
 unfold kx at h;simp only[Fh,Oh,and_true,Int.natCast_inj]at h;show Pe h.1 h.2
def told(B:dD)(t:Av):Prop:=(t,0,0)∈B.map (·.1)
structure One(G:Sr):Prop where
 pl:G.places=[0]
 st:∀t,G.steps t 0=[]\/∃c,G.steps t 0=[(0,c)]
structure Gd(G:Sr):Prop where
 o:One G
 n:↥G.rs<=500
 p:∀r∈G.rs,↥r.parts<=900
def eD(G:Sr)(B:dD)(t:Av):Prop:=if G.own t=ab then told B t else G.steps t 0≠[]
def At(G:Sr)(t:Av)(x:Nat×Nat):Prop:=G.own t=ab/\∃r,G.rs[x.1]? = aa r/\r.parts[x.2-1]? = aa t
structure Sd(G:Sr)(B:dD)(P:↑(Nat×Nat))(x:Nat×Nat)(r:aD):Prop where
 ru:G.rs[x.1]? = aa r
 one:1<=x.2
 le:x.2<=↥r.parts+1
 ok:∀t∈r.parts.take (x.2-1),eD G B t
 pd:2<=x.2->(x.1,x.2-1)∈P
structure SS where
 q:Qu
 rk:↑(↑aC×W)
 best:dD
 en:Av->↑dA
 bg:Av->Qu
 bn:Nat
 n:Nat
noncomputable abbrev al(P:↑(Nat×Nat))(q:Qu)(X:↑(Nat×Nat)):=P++q.map (·.2)++X
def Ord(G:Sr)(B:dD):Prop:=∀pre e post,B=pre++e::post->∃r,G.rs[e.2.2.1]? = aa r/\e.1=(r.name,0,0)/\e.2.2.2=rep (↥r.parts+1)/\(∀t∈r.parts,eD G pre t)/\¬(told pre r.name)
structure J(G:Sr)(st:SS)(P X:↑(Nat×Nat)):Prop where
 g:Gd G
 nd:(al P st.q X).Nodup
 it:∀e∈st.q,aN st.rk (kx e.2)=-cW e.1
 rch:∀x,(aN st.rk<|kx x).isSome=ab->x∈P++st.q.map (·.2)
 rl:st.n<=↥(P++st.q.map (·.2))
 sd:∀x∈al P st.q X,∃r,Sd G st.best P x r
 fin:∀x∈P,∀r,G.rs[x.1]? = aa r->r.parts[x.2-1]? = ae->told st.best r.name
 nx:∀x∈P,∀r t,G.rs[x.1]? = aa r->r.parts[x.2-1]? = aa t->eD G st.best t->(x.1,x.2+1)∈al P st.q X
 bg:∀t x,x∈(st.bg t).map (·.2)↔x∈P/\At G t x
 bd:∀t,((st.bg t).map (·.2)).Nodup
 en:∀t,(st.en t=[]/\¬(told st.best t))\/∃c,st.en t=[c]/\told st.best t
 ini:∀n r,G.rs[n]? = aa r->(n,1)∈al P st.q X
 ln:↥st.best<=↥P/\st.bn<=↥P
 bs:Ord G st.best
section
variable {G:Sr}{st:SS}{P X:↑(Nat×Nat)}{c:dA}{x:Nat×Nat}{q1 q2:Qu}{r:aD}{t:Av}{B B':dD}
def J.free(j:J G st P<|x::X):aN st.rk (kx x)=ae:=by
 cases e:aN st.rk (kx x) with
 | none=>rfl
 | some w=>show absurd rfl<|(Cf.mp j.nd).2.2 x (j.rch x<|by rw[e];rfl) x<|Bj ..
def J.reach(j:J G st P<|x::X):J G {st with rk:=bU st.rk (kx x)<|cW c,q:=st.q++[(c,x)],n:=st.n+1} P X:=by
 let C:P++(st.q++[(c,x)]).map (·.2)=P++st.q.map (·.2)++[x]:=by rw[Ar,<-Bs];rfl
 let e:al P (st.q++[(c,x)]) X=al P st.q (x::X):=by ext al;rw[C,Bs];rfl
 let T:∀y,y∈al P (st.q++[(c,x)]) X↔y∈al P st.q (x::X):=λy=>by rw[e]
 show#[j.g,(congrArg Xr e).mpr j.nd,λy U=>8,λy U=>8,8,λy h=>j.sd y<|(T y).mp h,j.fin,λy h r t L Y O=>(T _).mpr<|j.nx y h r t L Y O,j.bg,j.bd,j.en,λn r h=>(T _).mpr<|j.ini n r h,j.ln,j.bs]
 .change aN (bU _ _ _) _=_;rw[mF];rcases Az.mp U with U|U
  .rw[Xs (λz=>by have:=j.it y U;rw[<-z,j.free]at this;ext this)];show j.it y U
  .rw[Ae.mp U,Xu rfl]
 .let U:(aN (bU st.rk (kx x)<|cW c)<|kx y).isSome=ab:=U;change y∈P++(st.q++[(c,x)]).map (·.2);rw[C];rw[mF]at U;split at U
  .show Bo _<|Ae.mpr (zcD ‹_›).symm
  .show Bf _<|j.rch y U
 .change _<=↥(P++(st.q++[(c,x)]).map (·.2));rw[C,Ag];show Ea j.rl
def J0:told (B++[e]) t↔told B t\/e.1=(t,0,0):=by
 ext told;rw[Ar,Az];show or_congr Ri (by rw[List.map_singleton,Ae];show eq_comm)
def eD.mono(f:told B t->told B' t)(h:eD G B t):eD G B' t:=by
 unfold eD at h⊢;split
 .rw[Xu ‹_›]at h;show f h
 .rw[Xs ‹_›]at h;show h
theorem Sd.next(s:Sd G B P x r)(h:r.parts[x.2-1]? = aa t)(f:∀t,told B t->told B' t)(ok:eD G B' t)(hz:x∈a):Sd G B' a (x.1,x.2+1) r:=by
 let L:=(An.mp h).1;let Y:=s.one;show#[s.ru,Ln ..,by change x.2+1<=_;lia,λu D=>8,λ_=>hz];let D:u∈r.parts.take (x.2-1+1):=by rw[Oj Y];show D
 rw[Bx,h]at D;rcases Az.mp D with D|D
 .show(s.ok u D).mono<|f u
 .rw[Option.toList_some,Ae]at D;rw[D];show ok
def J.step{E:Av->↑dA}{b:Av->Qu}{n:Nat}(j:J G st P [])(N:st.q=q1++(c,x)::q2)(hl:↥B<=↥st.best+1/\n<=st.bn+1)(Q:X.Nodup)(k:∀y∈X,y∉P++st.q.map (·.2))(i:∀y∈X,∃r,Sd G B (P++[x]) y r)(f:∀t,told st.best t->told B t)(fin:∀r,G.rs[x.1]? = aa r->r.parts[x.2-1]? = ae->told B r.name)(nx:∀y r t,(y∈P/\¬(eD G st.best t))\/y=x->G.rs[y.1]? = aa r->r.parts[y.2-1]? = aa t->eD G B t->(y.1,y.2+1)∈X)(bg:∀t,(b t=st.bg t/\¬(At G t x))\/(b t=st.bg t++[(c,x)]/\At G t x))(en:∀t,(E t=[]/\¬(told B t))\/∃c,E t=[c]/\told B t)(bs:Ord G B):J G #[q1++q2,st.rk,B,E,b,n,st.n] (P++[x]) X:=by
 let V:(P++[x]++(q1++q2).map (·.2)).Perm (P++st.q.map (·.2)):=by
  rw[N,Ar,Ar,Be,Bs,List.singleton_append];show List.Perm.append_left _ My.symm
 let nd:=j.nd;unfold al at nd;rw[Bv]at nd;let T:∀y,y∈P++[x]++(q1++q2).map (·.2)↔y∈P++st.q.map (·.2):=λy=>V.mem_iff;let up:∀{y},y∈al P st.q []->y∈al (P++[x]) (q1++q2) X:=λh=>Bf _ ((T _).mpr<|by unfold al at h;rwa [Bv]at h);let l:x∉P:=λz=>(Cf.mp nd).2.2 x z x (by rw[N];simp) rfl;let lt:∀{y},y∈P++[x]->y∈P\/y=x:=λh=>(Az.mp h).imp_right Ae.mp;show#[j.g,Cf.mpr #[V.nodup_iff.mpr nd,Q,λa S b Z e=>k b Z<|e▸(T a).mp S],λe d=>j.it e<|by rw[N];show My.mem_iff.mpr<|Bi _ d,λy h=>(T y).mpr<|j.rch y h,by rw[V.length_eq];show j.rl,λy U=>8,λy U r L Y=>8,λy U r t L Y O=>8,λt y=>8,λt=>8,en,λn r h=>up<|j.ini n r h,8,bs]
 .rcases Az.mp U with U|U
  .let#[r,s]:=j.sd y<|Bf _<|(T y).mp U;show#[r,s.ru,s.one,s.le,λt h=>(s.ok t h).mono<|f t,λh=>Bf _<|s.pd h]
  .show i y U
 .rcases lt U with U|rfl
  .show f _<|j.fin y U r L Y
  .show fin r L Y
 .by_cases o:y∈P/\eD G st.best t
  .show up<|j.nx y o.1 r t L Y o.2
  .show Bo _<|nx y r t ((lt U).imp_left λh=>#[h,λz=>o #[h,z]]) L Y O
 .change y∈(b t).map _↔_;rcases bg t with⟨h,n⟩|⟨h,a⟩
  .rw[h,j.bg];show#[λz=>#[Bf _ z.1,z.2],λz=>#[(lt z.1).resolve_right λe=>n<|e▸z.2,z.2]]
  .rw[h,Ar,Az,j.bg];show#[λz=>z.elim (λz=>#[Bf _ z.1,z.2]) λz=>(Ae.mp z)▸#[Bo _<|Ae.mpr rfl,a],λz=>(lt z.1).imp (λh=>#[h,z.2]) λh=>Ae.mpr h]
 .change((b t).map _).Nodup;rcases bg t with⟨h,n⟩|⟨h,a⟩
  .rw[h];show j.bd t
  .rw[h,Ar,Cf];show#[j.bd t,6,λy U z hz e=>l<|((j.bg t x).mp<|(show y=x from e.trans (Ae.mp hz))▸U).1]
 .let h:=j.ln;rw[Ag];show#[Am hl.1<|Ea h.1,Am hl.2<|Ea h.2]
def J.at_(j:J G st P [])(N:st.q=q1++(c,x)::q2):∃r,Sd G st.best P x r:=j.sd x (Bf _<|Bo _<|by rw[N];simp)
def J.part{b:Av->Qu}{n:Nat}(j:J G st P [])(N:st.q=q1++(c,x)::q2)(S:G.rs[x.1]? = aa r)(B:r.parts[x.2-1]? = aa t)(K:n<=st.bn+1)(Q:(X=[]/\¬(eD G st.best t))\/(X=[(x.1,x.2+1)]/\eD G st.best t))(Z:∀t',b t'=if G.own t=ab/\t=t' then st.bg t'++[(c,x)] else st.bg t'):J G #[q1++q2,st.rk,st.best,st.en,b,n,st.n] (P++[x]) X:=by
 let#[g,s]:=j.at_ N;cases S.symm.trans s.ru;let T:∀y∈X,y=(x.1,x.2+1)/\eD G st.best t:=λy U=>by
  rcases Q with⟨rfl,_⟩|⟨rfl,h⟩
  .ext U
  .show#[Ae.mp U,h]
 let D:∀t',At G t' x↔G.own t=ab/\t=t':=λt'=>by
  show#[λV=>8,λA=>by let#[L,Y]:=A;show Y▸#[L,r,S,B]];let#[L,R,Y,O]:=V;rw[S]at Y;ext Y;rw[B]at O;ext O;show#[L,7]
 show j.step N #[Fw _,K] 8 (λy U z=>8) (λy U=>8) (λ_ h=>h) (λg L Y=>8) (λy g t' h L Y O=>8) (λt'=>8) j.en j.bs
 .rcases Q with⟨rfl,_⟩|⟨rfl,_⟩
  .show .nil
  .simp
 .rw[(T y U).1]at z;let#[_,M]:=j.sd _<|Bf _ z;show(Cf.mp (Cf.mp j.nd).1).2.2 x (M.pd 8) x (by rw[N];simp) rfl;have:=s.one;change 2<=x.2+1;lia
 .let#[rfl,h]:=T y U;show#[r,s.next B (λ_ h=>h) h<|Bo _<|Ae.mpr rfl]
 .rw[S]at L;ext L;rw[B]at Y;ext Y
 .rcases h with h|rfl
  .show absurd O h.2
  .rw[S]at L;ext L;rw[B]at Y;ext Y;rcases Q with⟨_,h⟩|⟨rfl,_⟩
   .show absurd O h
   .show Ae.mpr rfl
 .rw[Z,D]
  by_cases h:G.own t=ab/\t=t'
  .rw[Xu h];show .inr #[7,h]
  .rw[Xs h];show .inl #[7,h]
def J.old(j:J G st P [])(N:st.q=q1++(c,x)::q2)(S:G.rs[x.1]? = aa r)(B:r.parts[x.2-1]? = ae)(tb:told st.best r.name):J G {st with q:=q1++q2} (P++[x]) []:=by
 show j.step N #[Fw _,Fw _] .nil (λ_ h=>nomatch h) (λ_ h=>nomatch h) (λ_ h=>h) (λg L _=>8) (λy g t h L Y O=>8) (λt=>.inl #[7,λ#[_,g,L,Y]=>8]) j.en j.bs
 .rw[S]at L;ext L;show tb
 .rcases h with h|rfl
  .show absurd O h.2
  .rw[S]at L;ext L;rw[B]at Y;ext Y
 .rw[S]at L;ext L;rw[B]at Y;ext Y
def J.set(j:J G st P [])(N:st.q=q1++(c,x)::q2)(S:G.rs[x.1]? = aa r)(V:r.parts[x.2-1]? = ae)(b:¬(told st.best r.name)):J G #[q1++q2,st.rk,st.best++[((r.name,0,0),c,x.1,rep x.2)],λt=>if r.name=t then [c] else st.en t,st.bg,st.bn,st.n] (P++[x]) ((st.bg r.name).map λe=>(e.2.1,e.2.2+1)):=by
 let#[g,s]:=j.at_ N;cases S.symm.trans s.ru;let hk:x.2=↥r.parts+1:=by
  have:=List.getElem?_eq_none_iff.mp V;have:=s.le;have:=s.one;lia
 let tl:∀t,told (st.best++[((r.name,0,0),c,x.1,rep x.2)]) t↔told st.best t\/r.name=t:=λt=>by
  rw[J0];show or_congr Ri #[λh=>(Of h).1,λh=>by rw[h]]
 let T:∀y∈(st.bg r.name).map (λe=>(e.2.1,e.2.2+1)),∃z,y=(z.1,z.2+1)/\z∈P/\G.own r.name=ab/\∃g,Sd G st.best P z g/\g.parts[z.2-1]? = aa r.name:=λy U=>by
  let#[e,m,rfl]:=Ap.mp U;let#[L,Y,g,O,W]:=(j.bg r.name e.2).mp<|Ap.mpr #[e,m,7];let#[R,A]:=j.sd e.2<|Bf _<|Bf _ L;cases O.symm.trans A.ru;show#[e.2,7,L,Y,_,A,W]
 let ok:∀{B},G.own r.name=ab->(eD G B r.name↔told B r.name):=λo=>by ext eD;rw[Xu o]
 show j.step N #[by rw[Ag];show Aj _,Fw _] 8 (λy U w=>8) (λy U=>8) (λt h=>(tl t).mpr<|.inl h) (λg L _=>8) (λy g t h L Y O=>8) (λt=>.inl #[7,λ#[_,g,L,Y]=>8]) (λt=>8) λpre e post h=>8
 .have:=j.bd r.name;unfold Xr at this⊢;rw[Kf]at this⊢;show this.imp λh e=>h<|Pe (Of e).1<|Ua (Of e).2
 .let#[z,rfl,L,Y,g,s1,O]:=T y U;let#[R,A]:=j.sd _<|Bf _ w;cases s1.ru.symm.trans A.ru;let L:=s1.one;show b ((ok Y).mp<|A.ok _<|Ah (i:=z.2-1)<|by change(g.parts.take z.2)[_]? = _;rw[List.getElem?_take,Xu 9];show O)
 .let#[z,rfl,L,Y,g,s1,O]:=T y U;show#[g,s1.next O (λt h=>(tl t).mpr<|.inl h) ((ok Y).mpr<|(tl _).mpr<|.inr rfl)<|Bf _ L]
 .rw[S]at L;ext L;show(tl _).mpr<|.inr rfl
 .rcases h with⟨h,W⟩|rfl
  .let a:G.own t=ab:=Fz λo=>by
    unfold eD at W O;rw[Xs o]at W O;show W O
   unfold eD at W O;rw[Xu a]at W O;have:=((tl t).mp O).resolve_left W;let#[e,m,rfl]:=Ap.mp<|(j.bg t y).mpr #[h,a,g,L,Y];show Ap.mpr #[e,this▸m,7]
  .rw[S]at L;ext L;rw[V]at Y;ext Y
 .rw[S]at L;ext L;rw[V]at Y;ext Y
 .change((if r.name=t then [c] else st.en t)=[]/\_)\/∃d,(if r.name=t then [c] else st.en t)=[d]/\_;rw[tl]
  by_cases e:r.name=t
  .rw[Xu e];show .inr #[c,7,.inr e]
  .rw[Xs e];rcases j.en t with⟨L,Y⟩|⟨d,L,Y⟩
   .show .inl #[L,λz=>z.elim Y e]
   .show .inr #[d,L,.inl Y]
 .rcases Mv post with rfl|⟨post,y,rfl⟩
  .let#[L,Y]:=List.append_inj' h rfl;ext Y;rw[<-L];show#[r,S,7,by rw[hk],λt ht=>s.ok t 8,b];rw[hk,Nat.add_sub_cancel,Bn];show ht
  .rw[Mw,<-List.cons_append,<-Bs]at h;show j.bs pre e post (List.append_inj' h rfl).1
noncomputable def A6:SS:=#[[],[],[],λ_=>[],λ_=>[],0,0]
def J.start(g:Gd G):J G A6 [] ((Ci ↥G.rs).map λn=>(n,1)):=by
 show#[g,List.Pairwise.map _ (λa b h z=>h (Of z).1) Sx,(λ_ h=>nomatch h),(λx h=>nomatch (show ac=ab from h)),Aj _,λx S=>8,(λ_ h=>nomatch h),(λ_ h=>nomatch h),λt x=>#[(λh=>nomatch h),λh=>(nomatch h.1)],λ_=>.nil,λt=>.inl #[7,(λh=>nomatch h)],λn r h=>8,#[Aj _,Aj _],λpre e post h=>by cases pre<;>ext h]
 .let#[n,K,rfl]:=Ap.mp S;show#[_,Bh<|Fj.mp K,Aj _,Ln _ _,λt h=>(by simp at h),λh=>absurd (show 2<=1 from h) ∅]
 .show Ap.mpr #[n,Fj.mpr (An.mp h).1,7]
theorem J.few(j:J G st P X):↥(al P st.q X)<=450500:=by
 have:=len_sub (b:=(Ci ↥G.rs).flatMap λn=>(Ci 901).map λk=>(n,k+1)) j.nd λx S=>by
  let#[r,s]:=j.sd x S;let Y:=j.g.p r<|Ah s.ru;let O:=s.le;show Jn.mpr #[x.1,Fj.mpr (An.mp s.ru).1,Ap.mpr #[x.2-1,Fj.mpr 9,by rw[Oj s.one]]]
 rw[JS (k:=901) λn _=>by rw[Ab,Hi],Hi]at this;have:=j.g.n;lia
def J.small(j:J G st P X):st.n<1000000/\st.bn<1000000/\↥st.best<1000000:=by
 let h:=j.few;have:=j.rl;have:=j.ln;unfold al at h;rw[Ag,Ag]at *;show#[9,9,9]
def J.bl(j:J G st P X):↥(st.bg t)<1000000:=by
 have:=len_sub (j.bd t) λx S=>((j.bg t x).mp S).1;let h:=j.few;unfold al at h;rw[Ag,Ag]at h;rw[Ab]at this;lia
structure mJ(G:Sr)(B:dD):Prop where
 cl:∀r∈G.rs,(∀t∈r.parts,eD G B t)->told B r.name
 bs:Ord G B
def J.done(j:J G st P [])(N:st.q=[]):mJ G st.best:=by
 show#[λr S ok=>8,j.bs];let#[n,K]:=Fu S;let a:∀{x},x∈al P st.q []->x∈P:=λh=>by unfold al at h;rw[N]at h;simpa using h
 let go:∀k,k<=↥r.parts->(n,k+1)∈P:=λk=>by
  induction k with
  | zero=>show λ_=>a (j.ini n r K)
  | succ k E=>
   intro hk;let B:r.parts[k+1-1]? = aa r.parts[k]:=Bh hk;show a<|j.nx _ (E 9) r _ K B<|ok _<|Sy hk
 show j.fin _ (go _<|Aj _) r K<|Hu<|Aj _
end
noncomputable def ownB(rs:↑aD)(t:Av):Bool:=decide<|t∈namesOf rs
def qM(h:r∈rs):ownB rs r.name=ab:=Xw<|gU.mpr #[r,h,7]
noncomputable def jP(rs:↑aD)(ss:↑Av):Sr:=#[rs,ownB rs,[0],λt p=>if p=0/\t∈ss then [(0,1)] else [],λ_=>0]
def J1:(jP rs ss).steps t 0=if t∈ss then [(0,1)] else []:=by
 change(if (0:Int)=0/\t∈ss then _ else _)=_
 by_cases h:t∈ss
 .rw[Xu #[7,h],Xu h]
 .rw[Xs λz=>h z.2,Xs h]
def J2(rs:↑aD)(ss:↑Av):One (jP rs ss):=#[7,λt=>by
 rw[J1];split
 .show .inr #[_,7]
 .show .inl rfl]
inductive fM(rs:↑aD)(w:Bool):Av->Prop
 | mk {r:aD}:r∈rs->(∀t∈r.parts,ownB rs t=ab->fM rs w t)->(∀t∈r.parts,ownB rs t=ac->w=ab)->fM rs w r.name
def wA:eD (jP rs ss) B t↔(ownB rs t=ab->told B t)/\(ownB rs t=ac->t∈ss):=by
 ext eD;change(if ownB rs t=ab then _ else _)↔_;cases h:ownB rs t with
 | true=>rw[Xu rfl];simp
 | false=>
  rw[Xs ∅,J1];split<;>simp_all
def zcE{w:Bool}(hw:∀r∈rs,∀t∈r.parts,ownB rs t=ac->(t∈ss↔w=ab))(F:mJ (jP rs ss) B)(X:Av):told B X↔fM rs w X:=by
 constructor
 .have:∀k pre post,↥pre=k->B=pre++post->∀X,told pre X->fM rs w X:=by
   intro k
   induction k with
   | zero=>intro pre post h _ X Q;rw[Gz.mp h]at Q;ext Q
   | succ k E=>
    intro pre post h Z X Q;rcases Mv pre with rfl|⟨pre,e,rfl⟩
    .ext h
    rw[Mw]at Q Z h;rw[Ag]at h;let go:=E pre (e::post) (Ua h) (by rw[Z,Bs];rfl);rcases J0.mp Q with L|L
    .show go X L
    .let#[r,Y,O,_,W,_]:=F.bs pre e post (by rw[Z,Bs];rfl);rw[O]at L;rw[<-(Of L).1];let J:=Ah Y;show .mk J (λt ht f=>go t<|(wA.mp<|W t ht).1 f) λt ht f=>(hw r J t ht f).mp<|(wA.mp<|W t ht).2 f
  show this ↥B B [] rfl (Bv B).symm X
 .intro h
  induction h with
  | mk G _ Y E=>show F.cl _ G λt ht=>wA.mpr #[E t ht,λf=>(hw _ G t ht f).mpr<|Y t ht f]
def zcF(F:mJ G B):(B.map (·.1)).Nodup:=by
 rw[Hh,Kf];show List.pairwise_iff_getElem.mpr λi j hi Z a e=>8;let#[r,_,Y,_,_,O]:=F.bs _ _ _ (show B=B.take j++B[j]::B.drop (j+1) by rw[<-Eu Z,Jz]);rw[Y]at e;show O<|Ap.mpr #[B[i],8,e];rw[List.mem_iff_getElem];show#[i,by rw[Ct];lia,by rw[List.getElem_take]]
def J3(F:mJ G B)(h:f∈B.map (·.1)):∃r∈G.rs,f=(r.name,0,0):=by
 let#[e,P,rfl]:=Ap.mp h;let#[pre,post,Z]:=Rt P;let#[r,L,Y,_]:=F.bs pre e post Z;show#[r,Ah L,Y]
def J4(F:mJ G B):↥B<=↥(namesOf G.rs):=by
 have:=len_sub (b:=(namesOf G.rs).map λX=>(X,(0:Int),(0:Int))) (zcF F) λf hf=>by
  let#[r,L,Y]:=J3 F hf;show Ap.mpr #[r.name,gU.mpr #[r,L,7],Y.symm]
 rwa [Ab,Ab]at this
open Classical in
def mK(rs:↑aD)(w:Bool)(t:Av):Bool:=decide<|fM rs w t
def nO{w:Bool}:mK rs w t=ab↔fM rs w t:=by ext mK;show @decide_eq_true_iff _ (Classical.propDecidable _)
section
variable {X:Cx}
abbrev oY:R3:=λx y M R=>∃i j,x=.str i/\y=.str j/\↥i+↥j<=Aw/\R (.str<|i++j) M
abbrev wB:R3:=λx y M R=>∃z n,x=.str z/\y=¬n/\↥z<=16/\-(2 ^ 63)<=n/\n<=1048576/\R (.str<|Jm z n) M
def zcG:bF X (Ez .Add) (cP X.K oY):=by
 rintro C s G H x y v u Q I B T ⟨n,J,M,R,U,t,E,⟨i,j,rfl,rfl,L,Y⟩,k⟩;show S8 C s G H _ _ v u Q I B T #[i,j,t.inv,E.inv,L,k.at U (.str _) Y]
def zcH:bF X (Ez .Mult) (cP X.K wB):=by
 rintro C s G H x y v u Q I B T ⟨d,J,M,R,U,t,E,⟨z,n,rfl,rfl,L,Y,O,W⟩,k⟩;show WU C s G H _ _ v u Q I B T #[z,n,t.inv,E.inv,L,Y,O,k.at U (.str _) W]
end
def A7:aW:=λws M R=>∃z g:Av,ws=[.str z,.str g]/\↥z<=1000/\R (.bl<|lL z g) M
def wC:aW:=λws M R=>∃z:Av,ws=[.str z]/\↥z<=1000/\R (.bl<|isNameB z) M
def i6:aW:=λws M R=>∃rs:↑aD,ws=[.rl<|rs.map bK]/\↥rs<=20000/\aO ((namesOf rs).map W.str) M R
def qN:aW:=λws M R=>∃(r:aD) (rs:↑aD),ws=[.rl<|(r::rs).map bK]/\R (.str r.name) M
def J5:aW:=λws M R=>∃(r:aD) (ns:↑Av),ws=[bK r,.rl<|ns.map W.str]/\0<=r.cost/\(∀t∈r.parts,↥t<=1000/\(isNameB t=ab->t∈ns))/\R .non M
def wF:aW:=λws M R=>∃(A:↑W) (k:Int),(ws=[.sc A,¬k]\/ws=[.rl A,¬k])/\qC A/\0<=k/\∀i,R (¬i) M
def wH:aW:=λws M R=>∃c k:Int,ws=[¬c,¬k]/\0<=k/\k<=1000/\∀z:Int,0<=z->z<10 ^ 61->R (¬z) M
def sR:aW:=λws M R=>∃(c:Int) (ss:↑Int),ws=[¬c,.rl<|ss.map W.int]/\↥ss<=100/\(∀s∈ss,0<s/\s<=10 ^ 59)/\∀P,Drawn P ss->aO (P.map W.int) M R
def A8:aW:=λws M R=>∃(n m:Int) (g:Bool),ws=[¬n,¬m,.bl g]/\0<=m/\m<=12/\∀ts:↑Av,↥ts=m.toNat->(∀t∈ts,v3 g t)->aO (ts.map W.str) M R
def J6:aW:=λws M R=>∃(c:Int) (l wds:↑Av) (f:Int),ws=[¬c,.rl<|l.map W.str,.rl<|wds.map W.str,¬f]/\0<↥l/\↥l<=12/\↥wds=3/\0<=f/\f<=04/\∀r:aD,oV l wds r->(↥r.parts:Int)<=f->R (bK r) M
def J7:aW:=λws M R=>∃(A:↑W) (u f:Int),ws=[.rl A,¬u,¬f]/\qC A/\↥A<=40/\1<=u/\u<=12/\1<=f/\f<=04/\∀rs:↑aD,zb9 rs->(∀r∈rs,(↥r.parts:Int)<=f)->(∃l wds:↑Av,(↥l:Int)<=u/\↥wds=3/\(∀t∈l,c7 t)/\(∀t∈wds,fD t)/\(∀r∈rs,oV l wds r)/\(∀t∈l,∃r∈rs,r.name=t)/\(↥rs:Int)<=↥A+u/\∃k,k<=↥A-1/\∀r∈rs.drop k,↥r.parts<=1)->aO (rs.map bK) M R
noncomputable abbrev zcI:↑Av:=["text","signs"]
abbrev zcJ:aE:=
   (bH<|pW (aG (dH ab) aH<|vC<|.str "")<|bG sC<|bD (cV (bM cF aH) (aQ 0) d7 (aG (bZ ac) aH aM) [ae,aa 1])^aB)
noncomputable abbrev zcK:↑Av:=["part","pieces","right_end"]
abbrev zcL:aE:=
   (aL 1<|cJ "str" HL aH<|vC (.str "_")^aB)
abbrev zcM:aE:=
   (aL 2<|nB (aG (dH ac) (vX aM aX)<|vC<|.str "")<|aP A7<|vX aM lU^vC (.str "0123456789")^aB)
abbrev J8:aE:=
   (bH<|pW aS<|aP A7<|vX aM a8^vC (.str "ABCDEFGHIJKLMNOPQRSTUVWXYZ")^aB)
abbrev zcN:aE:=(aF zcL<|aF zcM J8)
noncomputable abbrev zcO:↑Av:=["grammar","found","rule"]
abbrev zcP:aE:=
   (aL 1 sE)
abbrev zcQ:aE:=
   (eU (vC<|.bl ab)<|gI aM<|vX aS a8)
abbrev zcR:aE:=
   (cE (bM cF aH) (aQ 2) zcQ)
abbrev zcS:aE:=
   (bH<|bG vB<|aM^aB)
abbrev zcT:aE:=(aF zcP<|aF zcR zcS)
noncomputable abbrev zcU:↑Av:=["grammar"]
abbrev zcV:aE:=
   (bH<|vX (vX aH a8) a8)
noncomputable abbrev zcW:↑Av:=["rule","known","part"]
abbrev zcX:aE:=
   (aF (bY (bL<|aG lX (vX aH lU) a8)
    vG
    cR)
   (cE (bM cF<|vX aH aX) (aQ 2)
    (bY (iX (dG<|aP wC<|aS^aB)<|bL<|aG (bZ ab) aS aM)
    vG
    cR)))
noncomputable abbrev zcY:↑Av:=["script","k"]
abbrev zcZ:aE:=
   (aF (bY (bL<|aG lX aM<|bG cD<|aH^aB)
    (bH<|vX aH aM)
    cR)
   (bH a8))
noncomputable abbrev zc0:↑Av:=["cell","k","number"]
abbrev zc1:aE:=
   (aL 2<|aG cH (aG cH (aG jN (aG gS aH<|aG iY (vI 10)<|vI 40)<|vI 48271)<|aG jN (aG jN (aG iY kO<|vI 60)<|aG cH aM aX)<|aG cH aM aX) aM)
abbrev zc2:aE:=
   (aL 2<|aG cH (aG jN aS aS)<|aG jN (vI 69621) aS)
abbrev zc3:aE:=
   (bH<|aG jJ (aG gS (aG jN aS aS)<|aG cH (aG iY (vI 10)<|vI 61)<|vI 07)<|vI 08)
abbrev zc4:aE:=(aF zc1<|aF zc2 zc3)
noncomputable abbrev zc5:↑Av:=["cell","sizes","found","rest","k"]
abbrev zc6:aE:=
   (aL 2<|fB aB)
abbrev zc7:aE:=
   (aL 3<|aG kR aH<|aG iY (vI 10)<|vI 18)
abbrev zc8:aE:=
   (bY (bL<|aG zN aH<|aG iY (vI 10)<|vI 18)
    (aF (bX<|cJ "list" dZ aS<|aG gS a7 (vX aM bC)^aB)
   (aL 3<|aG jJ a7<|vX aM bC))
    (bX<|cJ "list" dZ aS<|aG gS (aP wH<|aH^bC^aB) (vX aM bC)^aB))
abbrev zc9:aE:=
   (cE (nJ<|bG cD (aM^aB)^aB) (aQ 04) zc8)
abbrev zda:aE:=
   (bH aS)
abbrev zdb:aE:=(aF zc6<|aF zc7<|aF zc9 zda)
noncomputable abbrev zdc:↑Av:=["number","many","great","letters","pad","size","at","first","found","k","sign"]
abbrev zdd:aE:=
   (aL 3<|vC<|.str "abcdefghijklmnopqrstuvwxyz")
abbrev zde:aE:=
   (bY (dG aS)
    (aL 3<|kQ "str" HK a7)
    cR)
abbrev J9:aE:=
   (aL 04<|vX a7<|aG gS aH<|vI 26)
abbrev KA:aE:=
   (aL 05<|aG cH aX<|aG gS (aG jJ aH<|vI 26)<|vI 08)
abbrev KC:aE:=
   (aL 06<|aG gS (aG jJ aH<|vI 208) cA)
abbrev KD:aE:=
   (aL 07<|aG gS (aG jJ aH<|vI 1664)<|vI 26)
abbrev KG:aE:=
   (aL 08<|fB aB)
abbrev zdf:aE:=
   (aF (aL 10<|vX a7<|aG gS (aG cH cC<|aG jN kO iN)<|vI 26)
   (aF (bX<|cJ "list" dZ fA<|aG oY (aG oY (aG wB bC cQ) uV) (aG wB bC<|aG kR (aG kR cA cQ) aX)^aB)
   (bY (iX (dG aS)<|iX (bL<|aG (dH ac) (aG gS (aG jJ aH<|vI 43264) kO) aX)<|bL<|aG (dH ac) (aG GP (aG GO (aG jJ aH<|vI 129792) iN) aX) aX)
    (eU (aG oY (aG oY (vX fA iN)<|vC<|.str "_")<|bG zV<|aG gS (aG jJ aH<|vI 129792) (vI 10000)^aB)<|gI fA iN)
    cR)))
abbrev KH:aE:=
   (cE (nJ<|aM^aB) (aQ 09) zdf)
abbrev KI:aE:=
   (bH fA)
abbrev zdg:aE:=(aF zdd<|aF zde<|aF J9<|aF KA<|aF KC<|aF KD<|aF KG<|aF KH KI)
noncomputable abbrev zdh:↑Av:=["cell","heads","words","most","drawn","parts","place"]
abbrev zdi:aE:=
   (aL 04<|bD<|aP sR<|aH^aG cH (d8<|bG cD (aM^aB)^aG cH a7 aX^kO^aG iY (vI 10) (vI 59)^aB) (aG jN (d8<|vI 06^aB) a7)^aB)
abbrev zdj:aE:=
   (aL 05<|fB aB)
abbrev zdk:aE:=
   (bY (bL<|aG lX cQ kO)
    (bX<|cJ "list" dZ cA<|vX aS cQ^aB)
    (bX<|cJ "list" dZ cA<|vX aM (aG gS (aG cH (aG kR cQ kO)<|vX bC a8)<|bG cD<|aM^aB)^aB))
abbrev zdl:aE:=
   (cE (bM cF<|l7 bC (iO<|vI 04)<|iO<|aG cH (vI 04)<|vX bC aX) (aQ 06) zdk)
abbrev zdm:aE:=
   (bH<|bA<|vX aM (vX bC a8)^bG qA (cA^aB)^aG gS (vX bC kO) (vX (d8<|aX^vI 10^aG iY (vI 10) (vI 59)^aB)<|vX bC lU)^aB)
abbrev zdn:aE:=(aF zdi<|aF zdj<|aF zdl zdm)
noncomputable abbrev zdo:↑Av:=["cells","many","most","one","other","heads","words","rules","name"]
abbrev zdp:aE:=
   (eU (bD<|aP sR<|aP wF (aH^a8^aB)^d8 (aG iY (vI 10) (vI 09)^aG iY (vI 10) (vI 09)^aB)^aB)<|eL 2<|bW (aQ 3)<|bW (aQ 04) eJ)
abbrev zdq:aE:=
   (aL 05<|bD<|aP A8<|a7^aM^vC (.bl ab)^aB)
abbrev zdr:aE:=
   (aL 06<|bD<|aP A8<|bC^kO^vC (.bl ac)^aB)
abbrev zds:aE:=
   (aL 07<|cV (bM cF<|l7 aH (iO aX) vA) (aQ 0) d7 (aP J6<|aH^aM^aS^a7^aB) [ae,aa 05,aa 06,aa 2])
abbrev zdt:aE:=
   (bY (bL<|aG (bZ ab) fA<|bD<|cV (bM cF cC) (aQ 0) d7 (vX aH a8) [ae])
    (bX<|cJ "list" dZ cC<|bA (fA^bA (vX cQ a8^aB)^a8^aB)^aB)
    cR)
abbrev zdu:aE:=
   (cE (bM cF cA) (aQ 08) zdt)
abbrev zdv:aE:=
   (bH cC)
abbrev zdw:aE:=(aF zdp<|aF zdq<|aF zdr<|aF zds<|aF zdu zdv)
def zdx:∀ws M R,wF ws M R->↥ws=2:=by rintro ws M R ⟨_,_,rfl|rfl,_⟩<;>rfl
def KJ(c:Nat)(g:Av):occ #[[c].toArray] g=decide (c∈cs g):=StrLaws.found_one g c
def fV{b:Bool}{P Q:Prop}(L:b=ab->P)(Y:b=ac->Q):if b=ab then P else Q:=by ext b;show Y rfl;show L rfl
def zdy:bE A7 zcJ zcI:=by
 rintro _ M R ⟨z,g,rfl,hz,r⟩;let i:lL z g=(!(decide<|z = "")&&(cs z).all λc=>decide<|c∈cs g):=by rw[<-u3];rfl
 show(fV (λZ=>(l8 (rest:=[-.str g]) (λw=>match w with|.str x=>.bl (occ x g)|_=>.non) (small<|by rw[Ab];show Am (Hw<|rO z)<|Am hz ∅) (λ_ _=>trivial) (λw hw F C sb L=>8)<|aO.frz #[(cs z).map λc=>decide<|c∈cs g,8,_,aV,8])) λZ=>#[_,aV,8])
 .let#[c,_,rfl]:=Ap.mp hw;show L
 .unfold bools;rw[Bp,Bp];show Ei λc _=>congrArg W.bl<|KJ c g
 .rw[i,show(!(decide<|z = ""))=ab from Z,Us]at r;rw[Mi];show r
 .rw[i,show(!(decide<|z = ""))=ac from Z,Qn]at r;show r
def zdz(z:Av):(Dl z "_").1.length<=↥z/\(Dl z "_").2.2.length<=↥z:=by
 have:=fact_partition z "_";show#[this.1,this.2.2]
def zdA(z:Av):isNameB z=((decide ((Dl z "_").2.1 = "")||lL (Dl z "_").2.2 mX)&&lL (Dl z "_").1 gG):=by
 ext isNameB;rw[u3]
def zdB:bE wC zcN zcK:=by
 rintro _ M R ⟨z,rfl,hz,r⟩;let#[L,O]:=zdz z;rw[zdA z]at r;let go:∀{b:Bool} {M:Mm},R (.bl<|b&&lL (Dl z "_").1 gG) M->J8 (kT R) [-.str z,-.tup [.str (Dl z "_").1,.str (Dl z "_").2.1,.str (Dl z "_").2.2],-.bl b] M:=λ{b M} r=>(fV (λZ=>#[_,_,7,Am L hz,_,aV,by rw[Z]at r;show r]) λZ=>#[_,aV,by rw[Z]at r;show r])
 show#[7,5,Am hz ∅,fV (λZ=>go (b:=ab)<|by rw[show decide ((Dl z "_").2.1 = "")=ab from Z]at r;show r) λZ=>#[_,_,7,Am O hz,go<|by rw[show decide ((Dl z "_").2.1 = "")=ac from Z]at r;show r]]
noncomputable def cL(t:Av):aC×W:=(Sum.inr t,.bl ab)
def wI(acc:↑Av)(t:Av):bU (acc.map cL) (Sum.inr t:aC) (.bl ab)=(dC acc t).map cL:=by
 unfold bU dC;let e:((acc.map cL).any λkv=>decide<|kv.1=Sum.inr t)=decide (t∈acc):=by
  rw[Kq,Ef];simp[cL,Mr]
 rw[e]
 by_cases h:t∈acc
 .rw[Xu<|Xw h,Xu h,Bp];show Ei λu hu=>8;simp[cL,Mr]
 .rw[Xs h⁻¹,Xs h,Ar];rfl
def zdC:bE i6 zcT zcO:=by
 rintro _ M R ⟨rs,rfl,hl,r⟩;show λp B=>((mG (λi O F=>∃o,O=[-.rl (rs.map bK),aa !p,o]/\F=put M p (.dK<|(namesOf<|rs.take i).map cL)) #[_,7,7] 8 8))
 .rintro i w O F hw ⟨o,rfl,rfl⟩;rw[Au]at hw;let#[q,N,rfl]:=Ay.mp hw;let hi:i<↥rs:=(An.mp N).1;let e:namesOf (rs.take<|i+1)=dC (namesOf<|rs.take i) q.name:=by
   rw[Bx,N];unfold namesOf mE;simp
  let Z:↥(namesOf<|rs.take i)<=i:=by
   have:=sQ ((rs.take i).map aD.name) [];unfold namesOf mE;simp at this;simp;lia
  show(sM aI (by rw[Ab];show cS 9) #[_,aV,_,7,8]);rw[bV,wI,e]
 .rintro O F ⟨o,rfl,rfl⟩;rw[Ab,Bn];show(.inr #[_,aI,λq N=>8]);let t:q≠p:=λe=>by subst e;rw[aI]at N;ext N
  rw[aT t]at N;show#[_,8,r q N];rw[Bp];show Sub.put<|Sub.new B
def zdD:bE qN zcV zcU:=by
 rintro _ M R ⟨q,rs,rfl,r⟩;show(so.of (g9 (j:=0) rfl) #[_,aV,r])
def wJ{t:Av}{ts:↑Av}:inW (.str t) (ts.map W.str)=decide (t∈ts):=by
 ext inW;rw[Kq,Ef,Gb,decide_eq_true_eq];show#[λV=>by let#[x,h,e]:=V;show eq_of_beq (show(x==t)=ab from e)▸h,λh=>#[t,h,beq_self_eq_true t]]
def wL(ts:↑Av):(ts.map W.str).all fL=ab:=by
 rw[Mi,Fl];intro t _;rfl
def zdE:bE J5 zcX zcW:=by
 rintro _ M R ⟨q,ns,rfl,hc,B,r⟩;show(fV (λZ=>absurd (Xv Z)<|Ww.mpr hc) λ_=>8);show mG (ws:=q.parts.map W.str) (λi O F=>∃o,O=[-bK q,-.rl (ns.map W.str),o]/\F=M) #[_,7,7] 8 8
 .rintro i w O F hw ⟨o,rfl,rfl⟩;let#[t,ht,rfl]:=Ap.mp<|Ah hw;let#[L,Y]:=B t ht;show#[t,7,L,fV (λZ=>#[7,wL ns,fV (λa=>8) λ_=>#[_,aV,_,7,7]]) λ_=>#[_,aV,_,7,7]];rw[show(!(inW (.str t)<|ns.map W.str))=ac by rw[wJ,Xw<|Y Z];rfl]at a;ext a
 .rintro O F ⟨o,rfl,rfl⟩;show#[_,aV,r]
def zdF:bE wF zcZ zcY:=by
 rintro _ M R ⟨A,k,e,hi,hk,r⟩;let go:decide (k<↥A)=ab->so (bP A k) λw=>∃F,L2.Sub F M/\R w F:=λhd=>by
  let#[x,e,_,m]:=vM hk<|Xv hd;let#[i,rfl]:=hi x m;show so.of e #[_,aV,r i]
 rcases e with rfl|rfl
 .show fV go λ_=>#[_,aV,r 0]
 .show fV go λ_=>#[_,aV,r 0]
noncomputable abbrev gM(c k:Int):Int:=c % 10 ^ 40*48271+3 ^ 60*(k+1)*(k+1)+k
def zdG:bE wH zc4 zc0:=by
 rintro _ M R ⟨c,k,rfl,Z,L,r⟩;let U:(gM c k).natAbs<2 ^ 200:=W6 (a:=c % 10 ^ 40) (k:=k) (Ga _ ∅) (Fb _ ∅) Z L;let v:(gM c k*gM c k).natAbs<2 ^ 400:=FI U U;let x:(69621*gM c k:Int).natAbs<2 ^ 400:=uM (FI (m:=17) (i:=69621) ∅ U) ∅;let V:(gM c k*gM c k+69621*gM c k).natAbs<2 ^ 401:=W7 v x;let d:(gM c k).natAbs<2 ^ 4096:=uM U ∅;let e:(gM c k*gM c k+69621*gM c k).natAbs<2 ^ 4096:=uM V ∅;let b:(0:Int)<10 ^ ((61:Int).toNat)+07:=by decide
 show#[#[by decide,by decide,by decide],(by decide:(0:Int)<10 ^ ((40:Int).toNat)),.inl<|.inr #[by decide,by decide],#[by decide,by decide,by decide],.inl<|.inr #[9,9],.inl<|.inr #[9,9],.inr #[d,d],.inl<|.inl #[by decide,by decide],.inr #[e,e],#[by decide,by decide,by decide],b,#[by decide,by decide],_,aV,r _ 8 8]
 .show Int.ediv_nonneg (Ga _<|Int.ne_of_gt b) ∅
 .let Y:=Fb ((gM c k*gM c k+69621*gM c k)*(gM c k*gM c k+69621*gM c k)) b;let O:(10:Int) ^ ((61:Int).toNat)+07=10 ^ 61+07:=rfl;rw[O]at Y;show Int.ediv_lt_of_lt_mul ∅ 8;show Vp Y ∅
noncomputable def eK(k:Av×Int):↑aC:=[Sum.inr k.1,Sum.inl k.2]
noncomputable abbrev eT(t:Av):↑aC:=eK (t,0)
def KL:∀a b:Av,eT a=eT b->a=b:=λa b h=>Sa (Tg h).1
noncomputable def wM(c:dA):W:=.tup [.int 0,cW c]
noncomputable def sS(y:dA×Nat×Nat):W:=.tup [¬y.2.1,gL<|rep y.2.2,cW y.1]
noncomputable def fK(f:cI):↑aC:=[Sum.inr f.1,Sum.inl f.2.1,Sum.inl f.2.2]
noncomputable def eN(e:dA×Nat×↑Int):W:=.tup [cW e.1,¬e.2.1,gL e.2.2]
def nP:∀a b:cI,fK a=fK b->a=b:=λa b h=>by
 unfold fK at h;simp only[Fh,Oh,Qg,and_true]at h;let#[i,c,d]:=a;let#[U,v,x]:=b;simp only at h;let#[L,Y,O]:=h;rw[L,Y,O]
section
variable {U J:Type}[DecidableEq U]{kk:U->↑aC}{f:J->W}
noncomputable abbrev eC(kk:U->↑aC)(f:J->W)(t:↑(U×J)):↑(↑aC×W):=t.map λe=>(kk e.1,f e.2)
def nQ(c:∀a b,kk a=kk b->a=b)(t:↑(U×J))(k:U):aN (eC kk f t) (kk k)=(cB t k).map f:=by
 induction t with
 | nil=>rfl
 | cons e t E=>
  change aN ((kk e.1,f e.2)::eC kk f t) (kk k)=_;rw[qI,nN,E]
  by_cases h:e.1=k
  .rw[Xu<|by rw[h],Xu h];rfl
  .rw[Xs λz=>h<|c _ _ z,Xs h]
def A9(c:∀a b,kk a=kk b->a=b)(t:↑(U×J))(k:U)(v:J):bU (eC kk f t) (kk k) (f v)=eC kk f (i5 t k v):=by
 unfold bU i5;rw[show((eC kk f t).any λg=>decide<|g.1=kk k)=(aN (eC kk f t)<|kk k).isSome from jO _ _,nQ c,jO];cases cB t k with
 | none=>simp
 | some w=>
  simp only[Option.map_some,Option.isSome_some,if_true,Bp];refine' Ei ..;intro e _;simp only[Mr]
  by_cases h:e.1=k
  .rw[Xu<|by rw[h],Xu h]
  .rw[Xs λz=>h<|c _ _ z,Xs h]
end
structure Env where
 rs:↑aD
 own:↑(aC×W)
 stp:↑(↑aC×W)
structure Ad where
 s:Ao
 d:Ao
 Q:Aq
 r:Ao
 b:Ao
 e:Ao
 g:Ao
noncomputable def sf(E:Env)(A:Ad):↑(Av×W):=[("grammar",(a9 E.rs)),("own",(.dk E.own)),("steps",(.dt E.stp)),("queue",(!A.Q.o)),("reached",(!A.r)),("best",(!A.b)),("ends",(!A.e)),("begun",(!A.g))]
def KN:Cj ("grammar" : Av) (sf E A)=-a9 E.rs:=by kernel_rfl
def zdH:Cj ("own" : Av) (sf E A)=-W.dk E.own:=by kernel_rfl
def zdI:Cj ("steps" : Av) (sf E A)=-W.dt E.stp:=by kernel_rfl
def BA:Cj ("queue" : Av) (sf E A)=-W.ref A.Q.o:=by kernel_rfl
def BB:Cj ("reached" : Av) (sf E A)=-W.ref A.r:=by kernel_rfl
def BC:Cj ("best" : Av) (sf E A)=-W.ref A.b:=by kernel_rfl
def KO:Cj ("ends" : Av) (sf E A)=-W.ref A.e:=by kernel_rfl
def KP:Cj ("begun" : Av) (sf E A)=-W.ref A.g:=by kernel_rfl
def wN:Cj ("reach" : Av) (sf E A)=ae:=by kernel_rfl
def zdJ:Cj ("take_next" : Av) (sf E A)=ae:=by kernel_rfl
def zdK:Cj ("step_by_name" : Av) (sf E A)=ae:=by kernel_rfl
def zdL:Cj ("settle" : Av) (sf E A)=ae:=by kernel_rfl
structure Mn(C:Cc)(E:Env)(M0 M:Mm)(A:Ad)(rk:↑(↑aC×W))(bs:dD):Prop where
 sub:L2.Sub M0 M
 ns:M0 A.s=ae
 nr:M0 A.r=ae
 nb:M0 A.b=ae
 sr:A.s≠A.r
 sb:A.s≠A.b
 rb:A.r≠A.b
 os:M A.s=-.ins C.s A.d (sf E A)
 or:M A.r=-.dT rk
 ob:M A.b=-.dT (eC fK eN bs)
def Kept(M:Mm):Option (Ao×↑W)->Prop
 | none=>True
 | some x=>M x.1=-.lst x.2
structure SK(C:Cc)(E:Env)(M0 M:Mm)(A:Ad)(st:SS)(kp:Option<|Ao×↑W):Prop where
 ex:∃M1 M2 M3 e g,Mn C E M0 M1 A st.rk st.best/\dE eT M1 M2 A.e e (λt=>lo wM<|st.en t)/\dE eT M2 M3 A.g g (λt=>lo sS<|st.bg t)/\QR C M3 M A.Q st.q st.n/\↥st.rk<=st.n/\↥e<=↥st.best/\↥g<=st.bn/\Kept M3 kp
abbrev SR(C:Cc)(E:Env)(M0 M:Mm)(A:Ad)(st:SS):Prop:=SK C E M0 M A st ae
def dE.get{U g:Type}[DecidableEq U]{kk:U->↑aC}{M0 M:Mm}{a:Ao}{kvs:↑(↑aC×W)}{f:g->W}{h:U->↑g}(t:dE kk M0 M a kvs λk=>lo f<|h k)(k:U):(aN kvs (kk k)=ae/\h k=[])\/∃p,aN kvs (kk k)=-!p/\M p=-.lst ((h k).map f):=by
 cases e:h k with
 | nil=>show .inl #[t.non k<|by change lo f (h k)=_;rw[e];rfl,7]
 | cons y Z=>show .inr (t.has<|by change lo f (h k)=_;rw[e];rfl)
section
variable {C:Cc}{E:Env}{M0 M:Mm}{A:Ad}{st:SS}{kp:Option (Ao×↑W)}
def SK.up(h:SK C E M0 M A st kp):∃I,Mn C E M0 I A st.rk st.best/\L2.Sub I M/\↥st.rk<=st.n:=by
 let#[I,v,S,e,g,L,Y,O,W,U,_]:=h.ex;show#[I,L,(Y.sub.trans O.sub).trans W.sub,U]
def SK.os(h:SK C E M0 M A st kp):M A.s=-.ins C.s A.d (sf E A):=let #[_,m,s,_]:=h.up;s _ _ m.os
def SK.or(h:SK C E M0 M A st kp):M A.r=-.dT st.rk:=let #[_,m,s,_]:=h.up;s _ _ m.or
def SK.ob(h:SK C E M0 M A st kp):M A.b=-.dT (eC fK eN st.best):=let #[_,m,s,_]:=h.up;s _ _ m.ob
def SK.free(h:SK C E M0 M A st kp):SR C E M0 M A st:=by
 let#[I,v,S,e,g,L,Y,O,W,U,G,H,_]:=h.ex;show#[I,v,S,e,g,L,Y,O,W,U,G,H,trivial]
def SK.kept(h:SK C E M0 M A st<|-(p,ws)):M p=-.lst ws:=by
 let#[I,v,S,e,g,L,Y,O,R,U,G,_,H]:=h.ex;show R.sub _ _ H
def SK.rpush(h:SK C E M0 M A st kp)(k:↑aC)(w:W):∃S,QR C S (put M A.r<|.dT<|bU st.rk k w) A.Q st.q st.n/\put M A.r (.dT<|bU st.rk k w) A.s=-.ins C.s A.d (sf E A)/\∀F q,QR C S F A.Q q (st.n+1)->SK C E M0 F A {st with rk:=bU st.rk k w,q:=q,n:=st.n+1} kp:=by
 let#[I,v,S,e,g,m,Y,O,R,U,G,H,a]:=h.ex;let k2:=Y.sub _ _ m.or;let p:=O.sub _ _ k2;show#[_,R.lift<|.inr #[_,p],by rw[aT m.sr];show h.os,λF q N=>#[_,_,_,e,g,#[gK m.sub m.nr,m.ns,m.nr,m.nb,m.sr,m.sb,m.rb,by rw[aT m.sr];show m.os,aI,by rw[aT<|Cs m.rb];show m.ob],Y.lift<|.inr #[_,m.or],O.lift<|.inr #[_,k2],N,Am (A4 ..)<|Ea U,G,H,8]];cases kp with
 | none=>trivial
 | some x=>
  let a:S x.1=-.lst x.2:=a;change put S A.r _ x.1=-.lst x.2;rw[aT (λz=>by rw[z,p]at a;ext a)];show a
def SK.que(h:SK C E M0 M A st kp):∃S,QR C S M A.Q st.q st.n/\∀F q,QR C S F A.Q q st.n->SK C E M0 F A {st with q:=q} kp:=by
 let#[I,v,S,e,g,L,Y,O,W,U]:=h.ex;show#[S,W,λF q N=>#[I,v,S,e,g,L,Y,O,N,U]]
def SK.bo(h:SR C E M0 M A st):put M A.b o A.s=-.ins C.s A.d (sf E A):=by
 let#[_,m,_]:=h.up;rw[aT m.sb];show h.os
def SK.epush(h:SR C E M0 M A st){v:cI×dA×Nat×↑Int}{t:Av}{c:dA}{R:K3}{T:W->Mm->Prop}(X:∀y f,dZ y [wM c] f R->T y f)(K:↥st.best<1000000)(hl:st.en t=[])(r:∀F,SR C E M0 F A {st with best:=st.best++[v],en:=λj=>if t=j then [c] else st.en j}->R .non F):
  j7 "dict" (!A.e) (put M A.b<|.dT<|eC fK eN<|st.best++[v])/\∀p,put M A.b (.dT<|eC fK eN<|st.best++[v]) p=ae->qE (!A.e) [.tup [.str t,.int 0],!p] (put (put M A.b<|.dT<|eC fK eN<|st.best++[v]) p<|.lst []) λy f=>j7 "list" y f/\T y f:=by
 let#[I,f,S,e,g,m,Y,O,d,J,G,H,_]:=h.ex;let k2:=Y.sub _ _ m.ob;show dE.push (Q:=λN i=>∃S g,dE eT N S A.g g (λt=>lo sS<|st.bg t)/\QR C S i A.Q st.q st.n/\↥g<=st.bn) (k:=t) KL (λ#[_,g,a,b,l] B=>#[_,g,a.lift<|B.imp_left b.sub.non,b.lift (B.imp_right λV=>by let#[u,z]:=V;show#[u,a.sub _ _ z]),l]) (λD=>by let#[_,_,a,b,_]:=D;show a.sub.trans b.sub) #[_,g,O.lift<|.inr #[_,k2],d.lift<|.inr #[_,O.sub _ _ k2],H] (Y.lift (p:=A.b) (o:=.dT<|eC fK eN<|st.best++[v])<|.inr #[_,m.ob]) X 9 (by rw[hl];decide) λN i kvs t' #[S,g,a,b,l] hk=>r _ #[_,_,_,_,g,#[gK m.sub m.nb,m.ns,m.nr,m.nb,m.sr,m.sb,m.rb,by rw[aT m.sb];show m.os,by rw[aT m.rb];show m.or,aI],t'.same λj=>8,a,b,J,8,l,trivial]
 .change lo _ (if t=j then _ else _)=_;rw[hl]
  by_cases Z:t=j
  .rw[Xu Z,Xu Z];rfl
  .rw[Xs Z,Xs Z]
 .change _<=↥(_++[v]);rw[Ag];show Am hk<|Ea G
def SK.gpush(h:SR C E M0 M A st)(K:st.bn<1000000)(hl:↥(st.bg t)<1000000)(r:∀F,SR C E M0 F A {st with bg:=λj=>if t=j then st.bg j++[y] else st.bg j,bn:=st.bn+1}->R .non F):
  j7 "dict" (!A.g) M/\∀p,M p=ae->qE (!A.g) [.tup [.str t,.int 0],!p] (put M p<|.lst []) λz v=>j7 "list" z v/\dZ z [sS y] v R:=by
 let#[I,v,S,e,g,m,Y,O,W,J,G,H,_]:=h.ex;show dE.push (Q:=λN i=>QR C N i A.Q st.q st.n) (k:=t) KL QR.lift QR.sub W O (λ_ _ h=>h) 9 (by rw[v8,Ab];lia) λN i kvs t' u hk=>r _ #[_,_,_,e,_,m,Y,t'.same λj=>8,u,J,G,Am hk<|Ea H,trivial];change lo _ (if t=j then _ else _)=_
 by_cases Z:t=j
 .subst Z;rw[Xu rfl,Xu rfl];show A5 ..
 .rw[Xs Z,Xs Z]
def SK.ends_at(h:SR C E M0 M A st)(t:Av):∃kvs,M A.e=-.dT kvs/\((aN kvs (eT t)=ae/\st.en t=[])\/∃p,aN kvs (eT t)=-!p/\SK C E M0 M A st (-(p,(st.en t).map wM))):=by
 let#[I,v,S,e,g,L,Y,O,W,U,G,H,_]:=h.ex;show#[e,W.sub _ _<|O.sub _ _ Y.at_,(Y.get t).imp_right λV=>by let#[p,a,b]:=V;show#[p,a,I,v,S,e,g,L,Y,O,W,U,G,H,O.sub _ _ b]]
def SK.begun_at(h:SR C E M0 M A st)(t:Av):∃kvs,M A.g=-.dT kvs/\((aN kvs (eT t)=ae/\st.bg t=[])\/∃p,aN kvs (eT t)=-!p/\SK C E M0 M A st (-(p,(st.bg t).map sS))):=by
 let#[I,v,S,e,g,L,Y,O,W,U,G,H,_]:=h.ex;show#[g,W.sub _ _ O.at_,(O.get t).imp_right λV=>by let#[p,a,b]:=V;show#[p,a,I,v,S,e,g,L,Y,O,W,U,G,H,b]]
end
def mL:aW:=λws M R=>∃ts:↑Av,ws=[.rl<|ts.map W.str]/\↥ts<=20000/\R (.dk<|(ts.foldl dC []).map cL) M
noncomputable def ownOf(rs:↑aD):↑(aC×W):=((namesOf rs).foldl dC []).map cL
def wO:aW:=λws M R=>∃a b:dA,ws=[cW a,cW b]/\R (cW<|JP a b) M
def qO(C:Cc):aW:=λws M R=>∃(G:Sr) (E:Env) (M0:Mm) (A:Ad) (st:SS) (P X:↑(Nat×Nat)) (x:Nat×Nat) (c:dA) (kp:Option<|Ao×↑W),ws=[!A.s,¬x.1,gL<|rep x.2,cW c]/\SK C E M0 M A st kp/\J G st P (x::X)/\∀F Q,SK C E M0 F A Q kp->J G Q P X->R .non F
structure Tk(C:Cc)(G:Sr)(E:Env)(M0 M:Mm)(A:Ad)(st:SS)(P:↑(Nat×Nat))(c:dA)(x:Nat×Nat)(r:aD)(R:K3):Prop where
 j:J G st P []
 q:∃q1 q2,st.q=q1++(c,x)::q2/\SR C E M0 M A {st with q:=q1++q2}
 r:G.rs[x.1]? = aa r
 k:∀M' st',SR C E M0 M' A st'->J G st' (P++[x]) []->R .non M'
def KQ(C:Cc):aW:=λws M R=>∃(G:Sr) (E:Env) (M0:Mm) (A:Ad) (st:SS) (P:↑(Nat×Nat)) (c:dA) (x:Nat×Nat) (r:aD) (t:Av),ws=[!A.s,¬x.1,gL<|rep x.2,cW c,.tup [.str t,.int 0]]/\Tk C G E M0 M A st P c x r R/\r.parts[x.2-1]? = aa t/\G.own t=ab
def KR(C:Cc):aW:=λws M R=>∃(G:Sr) (E:Env) (M0:Mm) (A:Ad) (st:SS) (P:↑(Nat×Nat)) (c:dA) (x:Nat×Nat) (r:aD),ws=[!A.s,¬x.1,gL<|rep x.2,cW c]/\Tk C G E M0 M A st P c x r R/\r.parts[x.2-1]? = ae/\G.rs=E.rs
structure KS(G:Sr)(E:Env):Prop where
 rs:G.rs=E.rs
 own:∀t,(aN E.own (Sum.inr t:aC)).isSome=G.own t
 stp:∀t p,(aN E.stp (eK (t,p))=ae/\G.steps t p=[])\/aN E.stp (eK (t,p))=-.rl ((G.steps t p).map λz=>.tup [¬z.1,¬z.2])
def KU(C:Cc):aW:=λws M R=>∃(G:Sr) (E:Env) (M0:Mm) (A:Ad) (st:SS) (P:↑(Nat×Nat)),ws=[!A.s]/\SR C E M0 M A st/\KS G E/\J G st P []/\st.q≠[]/\∀F Q x,SR C E M0 F A Q->J G Q (P++[x]) []->R .non F
def KW(C:Cc):aW:=λws M R=>∃(M0:Mm) (s dx:Ao) (rs:↑aD) (stp:↑(↑aC×W)),ws=[!s,a9 rs,.dt stp]/\↥rs<=500/\M=put M0 s (.ins C.s dx [])/\M0 s=ae/\∀F (A:Ad),A.s=s->SR C #[rs,ownOf rs,stp] M0 F A A6->R .non F
def BD(C:Cc):aW:=λws M R=>∃(G:Sr) (E:Env),ws=[a9 E.rs,.rl [.int 0],.dt E.stp,.rl<|(Ci ↥G.rs).map λn=>¬G.wt n]/\↥E.rs<=500/\E.own=ownOf E.rs/\KS G E/\One G/\(∀r∈G.rs,↥r.parts<=900)/\∀B,mJ G B->j0 (eC fK eN B) M R
noncomputable abbrev zdM:↑Av:=["things"]
abbrev zdN:aE:=
   (bH<|bG IG<|bD (cV (bM cF aH) (aQ 0) d7 (bA<|aH^vC (.bl ab)^aB) [ae])^aB)
noncomputable abbrev zdO:↑Av:=["cost","other"]
abbrev zdP:aE:=
   (bH<|bA<|aG cH (vX aH a8) (vX aM a8)^aG cH (vX aH aX) (vX aM aX)^aB)
noncomputable abbrev zdQ:↑Av:=["self","grammar","steps"]
abbrev KY(C:Cc):aE:=
   (i4 C.s aH "queue"<|mB C.q (JV C) aB)
abbrev zdR(C:Cc):aE:=(aF (i4 C.s aH "grammar" aM)<|aF (i4 C.s aH "own"<|aP mL<|bD (aP i6<|aM^aB)^aB)<|aF (i4 C.s aH "steps" aS)<|aF (KY C)<|aF (i4 C.s aH "reached" kS)<|aF (i4 C.s aH "best" kS)<|aF (i4 C.s aH "ends" kS)<|i4 C.s aH "begun" kS)
noncomputable abbrev zdS:↑Av:=["self","number","cut","cost","key"]
abbrev zdT(C:Cc):aE:=
   (aF (aL 04<|bA<|aM^bG cD (aS^aB)^vX aS a8^vX aS (j1 j8 aX)^aB)
   (bY (oN (bL<|aG (bZ ab) bC<|dB C.s aH "reached")<|bL<|aG sP a7<|vX (dB C.s aH "reached") bC)
    (aF (eU a7<|gI (dB C.s aH "reached") bC)
   (bX<|eA C.q "put" (JY C) (dB C.s aH "queue")<|a7^bA (aM^aS^aB)^aB))
    cR))
noncomputable abbrev zdU:↑Av:=["self","taken","cost","number","cut","parts","end","price"]
abbrev zdV(C:Cc):aE:=
   (bY (bL<|aG sP (vX (dB C.s aH "reached")<|bA<|a7^bG cD (bC^aB)^vX bC a8^vX bC (j1 j8 aX)^aB) aS)
    zW
    cR)
abbrev zdW(C:Cc):aE:=
   (bY (bL<|aG uZ (bG cD<|bC^aB)<|bG cD<|cA^aB)
    (bX<|eA C.s "settle" (KR C) aH<|a7^bC^aS^aB)
    (bY (bL<|aG (bZ ac) (vX cA<|aG kR (bG cD<|bC^aB) aX)<|dB C.s aH "own")
    (bX<|eA C.s "step_by_name" (KQ C) aH<|a7^bC^aS^bA (vX cA (aG kR (bG cD<|bC^aB) aX)^vX bC (j1 j8 aX)^aB)^aB)
    (cE (bM jM<|cJ "dict" nM (dB C.s aH "steps")<|bA (vX cA (aG kR (bG cD<|bC^aB) aX)^vX bC (j1 j8 aX)^aB)^d8 aB^aB) (eL 2<|bW (aQ 06)<|bW (aQ 07) eJ)
    (bX<|eA C.s "reach" (qO C) aH<|a7^aG cH bC (bA<|cQ^aB)^bA (aG cH (vX aS a8) cC^vX aS aX^aB)^aB))))
abbrev zdX(C:Cc):aE:=(aF (aL 1<|eA C.q "take" (JZ C) (dB C.s aH "queue") aB)<|aF (aL 2<|vX aM a8)<|aF (aL 3<|vX (vX aM aX) a8)<|aF (aL 04<|vX (vX aM aX) aX)<|aF (zdV C)<|aF (aL 05<|vX (vX (dB C.s aH "grammar") a7) aX)<|zdW C)
noncomputable abbrev zdY:↑Av:=["self","number","cut","cost","key","end","more"]
abbrev zdZ(C:Cc):aE:=
   (aF (bX<|cJ "list" dZ (cJ "dict" qE (dB C.s aH "begun")<|bC^fB aB^aB)<|bA (aM^aS^a7^aB)^aB)
   (cE (bM jM<|cJ "dict" nM (dB C.s aH "ends")<|bC^d8 aB^aB) (eL 2<|bW (aQ 05)<|bW (aQ 06) eJ)
    (bX<|eA C.s "reach" (qO C) aH<|aM^aG cH aS (bA<|cA^aB)^aP wO (a7^cQ^aB)^aB)))
noncomputable abbrev zd0:↑Av:=["self","number","cut","cost","key","fact","other","before","paid"]
abbrev zd1(C:Cc):aE:=
   (bX<|cJ "list" dZ (cJ "dict" qE (dB C.s aH "ends")<|bC^fB aB^aB)<|bA (vX aS (j1 j8 aX)^a7^aB)^aB)
abbrev zd2(C:Cc):aE:=
   (bX<|eA C.s "reach" (qO C) aH<|cQ^aG cH cC (bA<|vX aS (j1 j8 aX)^aB)^aP wO (fA^a7^aB)^aB)
abbrev zd3(C:Cc):aE:=(aF (aL 04<|bA<|vX (vX (dB C.s aH "grammar") aM) a8^vX aS a8^aB)<|aF (aL 05<|aG cH bC<|bA<|vX aS (j1 j8 aX)^aB)<|aF (bY (bL<|aG (bZ ac) cA<|dB C.s aH "best") zW cR)<|aF (eU (bA<|a7^aM^aS^aB)<|gI (dB C.s aH "best") cA)<|aF (zd1 C)<|cE (bM jM<|cJ "dict" nM (dB C.s aH "begun")<|bC^d8 aB^aB) (eL 3<|bW (aQ 06)<|bW (aQ 07)<|bW (aQ 08) eJ)<|zd2 C)
noncomputable abbrev zd4:↑Av:=["grammar","places","steps","weights","search","number","place"]
abbrev zd5(C:Cc):aE:=
   (cE (bM cF aM) (aQ 06)
    (bX<|eA C.s "reach" (qO C) bC<|cA^bA (cQ^aB)^bA (vX a7 cA^aX^aB)^aB))
abbrev zd6(C:Cc):aE:=(aF (aL 04<|mB C.s (KW C)<|aH^aS^aB)<|aF (cE (nJ<|bG cD (aH^aB)^aB) (aQ 05)<|zd5 C)<|aF (jL (j6<|dG<|eA C.q "is_done" (JW C) (dB C.s bC "queue") aB)<|bX<|eA C.s "take_next" (KU C) bC aB)<|bH<|dB C.s bC "best")
theorem KZ:∀(ts acc:↑Av),j9 (acc.map cL) (ts.map cL)=(ts.foldl dC acc).map cL
 | [],acc=>rfl
 | t::r,acc=>by
  change j9 (bU (acc.map cL) (Sum.inr t)<|.bl ab) (r.map cL)=_;rw[wI,KZ,Gw]
def zd7:bE mL zdN zdM:=by
 rintro _ M R ⟨ts,rfl,hl,r⟩;let l:↥(ts.map W.str)<=Aw:=small (by rw[Ab];show Am hl ∅);show(l8 (rest:=[]) (λw=>.tup [w,.bl ab]) l (λ_ _=>trivial) (λw hw F C sb L=>L)<|aO.frz #[ts.map cL,8,by rw[Ab];show l,_,aV,8])
 .unfold oS;rw[Bp,Bp];rfl
 .rw[show([]:↑(aC×W))=([]:↑Av).map cL from rfl,KZ];show r
def zd8:bE wO zdP zdO:=by
 rintro _ M R ⟨a,b,rfl,r⟩;show#[_,aV,r]
def wQ(k:Nat):(rep k).map W.int++[W.int 0]=(rep<|k+1).map W.int:=by
 rw[show rep (k+1)=rep k++[0] from List.replicate_succ' ..,Ar];rfl
def BE{k:Nat}{Q:W->Prop}(h:1<=k)(r:Q<|.int 0):so (bP ((rep k).map W.int) 0) Q:=by
 cases k with
 | zero=>ext h
 | succ k=>show so.of (l9 _ _) r
def oZ{k:Nat}{Q:W->Prop}(h:1<=k)(r:Q<|.int 0):so (bP ((rep k).map W.int)<|-1) Q:=by
 cases k with
 | zero=>ext h
 | succ k=>rw[<-wQ];show so.of (EB _ _) r
def BF{k:Nat}(h:1<=k):(rep k).map W.int≠[]:=by
 cases k with
 | zero=>ext h
 | succ k=>show Jo _ _
def nR(k:Nat):↥((rep k).map W.int)=k:=by rw[Ab,Ka]
def zd9:bE (qO C) (zdT C) zdS:=by
 rintro _ M R ⟨G,E,M0,A,st,P,X,x,c,kp,rfl,l,j,r⟩;let#[_,s]:=j.sd x<|Bo _<|Bj ..;let#[_,_,_,hl]:=l.up;let K:=j.small.1;let#[S,N,f,back]:=l.rpush (kx x)<|cW c;show BE s.one<|oZ s.one 8;rw[nR];show fI l.os BB<|.inr #[_,.inr #[_,kx x,l.or,7,7],8];rw[j.free];show fI l.os BB<|oP (k:=kx x) l.or (cS 9)<|fI f BA<|mI N.ob zci #[S,A.Q,_,_,c,x,7,N,9,λF h'=>#[F,aV,r F _ (back F _ h') j.reach]]
def BG{C:Cc}{G:Sr}{E:Env}{M0 M:Mm}{A:Ad}{st:SS}{P X:↑(Nat×Nat)}{x:Nat×Nat}{c:dA}{kp:Option (Ao×↑W)}{ws:↑W}{R:K3}(e:ws=[!A.s,¬x.1,gL<|rep x.2,cW c])(l:SK C E M0 M A st kp)(j:J G st P<|x::X)(r:∀F Q,SK C E M0 F A Q kp->J G Q P X->R .non F):qO C ws M R:=#[G,E,M0,A,st,P,X,x,c,kp,e,l,j,r]
def K0(r:R (cW<|JP a b) M):wO [cW a,cW b] M R:=#[a,b,7,r]
def wR{g J:Type}{f:g->J}{l:↑g}{i:Nat}{a:g}(h:l[i]? = aa a):(l.map f).drop i=f a::(l.map f).drop (i+1):=by
 let#[L,rfl]:=An.mp h;rw[Eu<|by rw[Ab];show L,List.getElem_map]
def wU{g J:Type}{f:g->J}{l:↑g}{n:Nat}(h:n=↥l):(l.map f).drop n=[]:=List.drop_eq_nil_of_le (by rw[Ab,h];show Aj _)
def zea{C:Cc}:bE (KQ C) (zdZ C) zdY:=by
 rintro _ M R ⟨G,E,M0,A,st,P,c,x,u,t,rfl,⟨j,⟨W,o,N,l⟩,S,r⟩,B,f⟩;let#[D,s]:=j.at_ N;let hk:=j.g.p D<|Ah s.ru;let Z:=s.le;let ok:eD G st.best t↔told st.best t:=by ext eD;rw[Xu f]
 let jp:=j.part (X:=(st.en t).map λ_=>(x.1,x.2+1)) (b:=λj=>if t=j then st.bg j++[(c,x)] else st.bg j) N S B (Aj _) (by
  rw[ok];rcases j.en t with⟨h,n⟩|⟨d,h,n⟩
  .rw[h];show .inl #[7,n]
  .rw[h];show .inr #[7,n]) λt'=>by
  by_cases h:t=t'
  .rw[Xu h,Xu #[f,h]]
  .rw[Xs h,Xs λz=>h z.2]
 show fI l.os KP<|l.gpush (t:=t) (y:=(c,x)) j.small.2.1 j.bl λI T=>8;let#[kvs,m,hc]:=T.ends_at t;show fI T.os KO #[oX m,_,.inr #[kvs,eT t,m,7,7],8];rcases hc with⟨L,Y⟩|⟨p,L,hk⟩
 .rw[L];rw[show st.en t=[] from Y]at jp;show mG (λi O F=>F=I) rfl (λi w O F hw=>nomatch hw) λO F e=>#[_,aV,r _ _ (e▸T) jp]
 .rw[L];show#[_,hk.kept,zX (λi O F=>∃Q K H,O=[aa !A.s,aa ¬x.1,-gL (rep x.2),-cW c,-.tup [.str t,.int 0],K,H]/\SK C E M0 F A Q (-(p,(st.en t).map wM))/\J G Q (P++[x]) (((st.en t).map λ_=>(x.1,x.2+1)).drop i)) #[_,_,_,7,hk,jp] (λi O F _ V=>by let#[_,_,_,_,h,_]:=V;show h.kept) 8 8]
  .rintro i w O F hw ⟨Q,K,H,rfl,q,U⟩;rw[Au]at hw;let#[z,hz,rfl]:=Ay.mp hw;rw[wR hz]at U;show#[7,7,mI q.os wN #[BF s.one,by rw[nR];show small (show x.2+1<=_ by lia),K0<|BG (x:=(x.1,x.2+1)) (by rw[gL,<-wQ]) q U λv a k j2=>#[v,aV,a,_,_,7,k,j2]]]
  .rintro O F ⟨Q,K,H,rfl,q,U⟩;rw[wU<|Ab _]at U;show#[_,aV,r _ _ q.free U]
def jQ{rs:↑aD}{n:Nat}(h:n<↥rs):∃r,rs[n]? = aa r/\bP (rs.map bK) (n:Int)=-bK r:=by
 show#[rs[n],Bh h,g9 8];rw[Au,Bh h];rfl
def zeb:(cB B (t,0,0)).isSome=ab↔told B t:=by
 rw[<-jO,Gb];show#[λV=>by let#[e,L,Y]:=V;show Ap.mpr #[e,L,Xv Y],λz=>let #[e,L,Y]:=Ap.mp z;#[e,L,Xw Y]]
def zec{bs:dD}{k:cI}{v:dA×Nat×↑Int}(h:cB bs k=ae):bU (eC fK eN bs) (fK k) (eN v)=eC fK eN (bs++[(k,v)]):=by
 rw[A9 nP,v5 h]
def zed{C:Cc}:bE (KR C) (zd3 C) zd0:=by
 rintro _ M R ⟨G,E,M0,A,st,P,c,x,ru,rfl,⟨j,⟨d,o,N,l⟩,S,r⟩,V,hG⟩;let#[_,s]:=j.at_ N;let L:=s.one;let#[a,hr1,hr2]:=jQ (An.mp S).1;rw[S]at hr1;ext hr1;rw[hG]at hr2;show fI l.os KN<|so.of hr2<|BE L<|oZ L #[(λh=>nomatch h),z3,fI l.os BC<|.inr #[_,.inr #[_,fK (ru.name,0,0),l.ob,7,7],8]];rw[nQ nP];change if ((cB st.best (ru.name,0,0)).map eN).isSome=ab then _ else _;let ti:=zeb (B:=st.best) (t:=ru.name);cases Z:cB st.best (ru.name,0,0) with
 | some v=>
  rw[Z]at ti;show#[M,aV,r M _ l<|j.old N S V<|ti.mp rfl]
 | none=>
  rw[Z]at ti;let nt:¬(told st.best ru.name):=λz=>nomatch ti.mpr z;let js:=j.set N S V nt;let K:st.en ru.name=[]:=(j.en ru.name).elim (λh=>h.1) λm=>by let#[_,_,h]:=m;show absurd h nt
  show fI l.os BC<|oP (k:=fK (ru.name,0,0)) l.ob (cS<|by rw[Ab];show Ca j.small.2.2 ∅) 8;rw[show bU (eC fK eN st.best) _ (W.tup [cW c,W.int x.1,gL<|rep x.2])=_ from zec (v:=(c,x.1,rep x.2)) Z];show fI l.bo KO<|l.epush (v:=((ru.name,0,0),c,x.1,rep x.2)) (t:=ru.name) (c:=c) (λ_ _ h=>oZ L h) j.small.2.2 K λI D=>8;let#[kvs,hg,hc]:=D.begun_at ru.name;show fI D.os KP #[oX hg,_,.inr #[kvs,eT ru.name,hg,7,7],8];rcases hc with⟨L,Y⟩|⟨p,Y,hk⟩
  .rw[L];rw[show st.bg ru.name=[] from Y]at js;show mG (λi O F=>F=I) rfl (λi w O F hw=>nomatch hw) λO F e=>#[_,aV,r _ _ (e▸D) js]
  .rw[Y];show#[_,hk.kept,zX (λi O F=>∃Q H X n,O=[aa !A.s,aa ¬x.1,-gL (rep x.2),-cW c,-.tup [.str ru.name,.int 0],-.tup ([.str ru.name,.int 0]++[.int 0]),H,X,n]/\SK C E M0 F A Q (-(p,(st.bg ru.name).map sS))/\J G Q (P++[x]) (((st.bg ru.name).map λe:dA×Nat×Nat=>(e.2.1,e.2.2+1)).drop i)) #[_,_,_,_,7,hk,js] (λi O F _ u=>by let#[_,_,_,_,_,h,_]:=u;show h.kept) 8 8]
   .rintro i w O F hw ⟨Q,H,X,n,rfl,q,j'⟩;rw[Au]at hw;let#[y,U,rfl]:=Ay.mp hw;rw[wR U]at j';let#[T,sy]:=j.sd y.2<|Bf _<|Bf _ ((j.bg _ _).mp<|Ap.mpr #[y,Ah U,7]).1;let hly:=sy.le;let hlp:=j.g.p T<|Ah sy.ru;show#[7,7,mI q.os wN<|oZ L #[BF sy.one,by rw[nR];show small (show y.2.2+1<=_ by lia),K0<|BG (x:=(y.2.1,y.2.2+1)) (by rw[gL,<-wQ]) q j' λf b hk2 j2=>#[f,aV,b,_,_,_,7,hk2,j2]]]
   .rintro O F ⟨Q,H,X,n,rfl,q,j'⟩;rw[wU<|Ab _]at j';show#[_,aV,r _ _ q.free j']
def zee{C:Cc}:bE (KU C) (zdX C) zdU:=by
 rintro _ M R ⟨G,E,M0,A,st,P,rfl,l,ev,j,N,r⟩;let#[M3,u,back]:=l.que;show fI l.os BA<|mI u.ob zcj #[M3,A.Q,_,_,7,u,N,λI n c x y e hQ1=>8];let U:=back I _ hQ1;let#[ru,s]:=j.at_ e;let L:=s.one;let hk:=j.it (c,x) (by rw[e];simp);let ht:∀{F:Mm} {R':K3},SR C E M0 F A {st with q:=n++y}->(∀M,R .non M->R' .non M)->Tk C G E M0 F A st P c x ru R':=λl k=>#[j,#[n,y,e,l],s.ru,λF T a b=>k _<|r F T x a b]
 show fI U.os BB<|BE L<|oZ L 8;rw[nR];show qL (k:=kx x) U.or hk #[c.1,c.2,c.1,c.2,7,7,λz hz=>8];cases hz rfl rfl;let#[S,hr1,hr2]:=jQ (An.mp s.ru).1;rw[s.ru]at hr1;ext hr1;rw[ev.rs]at hr2;let hlp:↥(Sg W.str ru.parts)=↥ru.parts:=Ab _;show fI U.os KN<|so.of hr2<|bN (λZ=>8) λZ=>8
 .let Z:=Xv Z;rw[nR,hlp]at Z;show mI U.os zdL #[G,E,M0,A,st,P,c,x,ru,7,ht U λM h=>#[M,aV,h],Hu 9,ev.rs]
 let Z:=of_decide_eq_false Z;rw[nR,hlp]at Z;obtain⟨t,B⟩:∃t,ru.parts[x.2-1]? = aa t:=#[_,Bh 9];let hat:bP (ru.parts.map W.str) (↥((rep x.2).map W.int)-1)=-.str t:=by
  rw[nR,show((x.2:Int)-1)=((x.2-1:Nat):Int) by lia];show g9 (by rw[Au,B];rfl)
 show(so.of hat<|fI U.os zdH #[_,#[Sum.inr t,7,7],(bN (λf=>8) λf=>8)])
 .show mI U.os zdK<|so.of hat<|oZ L #[G,E,M0,A,st,P,c,x,ru,t,7,ht U λM h=>#[M,aV,h],B,(ev.own t).symm.trans f]
 let f:G.own t=ac:=(ev.own t).symm.trans f;let hval:(aN E.stp<|eK (t,0)).getD (.rl [])=.rl ((G.steps t 0).map λz=>.tup [¬z.1,¬z.2]):=by
  rcases ev.stp t 0 with⟨L,Y⟩|L
  .rw[L,Y];rfl
  .rw[L];rfl
 let ok:eD G st.best t↔G.steps t 0≠[]:=by ext eD;rw[Xs<|by rw[f];decide]
 let jp:=j.part (X:=(G.steps t 0).map λ_=>(x.1,x.2+1)) (b:=st.bg) e s.ru B (Fw _) (by
  rw[ok];rcases j.g.o.st t with h|⟨d,h⟩
  .rw[h];show .inl #[7,λz=>z rfl]
  .rw[h];show .inr #[7,Jo _ _]) λt'=>by rw[Xs λz=>by rw[f]at z;cases z.1]
 let hz:∀z∈G.steps t 0,z.1=0:=λz hz=>by
  rcases j.g.o.st t with h|⟨d,h⟩
  .rw[h]at hz;ext hz
  .rw[h]at hz;rw[Ae.mp hz]
 let hle:=j.g.p ru<|Ah s.ru;show fI U.os zdI #[7,(so.of hat<|oZ L #[_,#[eK (t,0),7,7],zcx hval<|c8 (λi O F=>∃T K m,O=[aa !A.s,-.tup [cW c,kX x],-cW c,aa ¬x.1,-gL (rep x.2),-.tup (ru.parts.map W.str),K,m]/\SR C E M0 F A T/\J G T (P++[x]) (((G.steps t 0).map λ_=>(x.1,x.2+1)).drop i)) #[_,_,_,7,U,jp] 8 8])]
 .rintro i w O F hw ⟨T,K,m,rfl,hk,j'⟩ D H;rw[Au]at hw;let#[z,hi,rfl]:=Ay.mp hw;rw[wR hi]at j';let V:=hz z<|Ah hi;show#[7,7,mI hk.os wN #[BF L,by rw[nR];show small (show x.2+1<=_ by lia),G,E,M0,A,T,_,_,(x.1,x.2+1),(c.1+z.2,c.2),_,by rw[gL,<-wQ,V];rfl,hk,j',λv st2 hk2 j2=>H _ _ #[_,_,_,7,hk2,j2]]]
 .rintro O F ⟨T,K,m,rfl,hk,j'⟩;rw[wU<|Ab _]at j';show#[_,aV,r _ _ _ hk j']
def zef:d9 "begun" (!A.g) (d9 "ends" (!A.e)<|d9 "best" (!A.b)<|d9 "reached" (!A.r)<|d9 "queue" (!A.Q.o) ([("grammar",(a9 E.rs)),("own",(W.dk E.own)),("steps",(W.dt E.stp))]:↑(Av×W)))=sf E A:=by kernel_rfl
theorem BH(f:Av)(w:W):∀fs:↑(Av×W),↥(d9 f w fs)<=↥fs+1
 | []=>Aj _
 | (k,x)::r=>by
  rw[d9];split
  .simp
  .have:=BH f w r;simp only[Bl];lia
structure Bu(C:Cc)(M0 B Mt:Mm)(A:Aq)(s dx:Ao)(fs:↑(Av×W))(ps:↑Ao):Prop where
 sub:L2.Sub M0 B
 at_:B s=-.ins C.s dx fs
 nd:(s::ps).Nodup
 at':∀p∈ps,M0 p=ae/\B p=-.dT []
 q:QR C B Mt A [] 0
 len:↥fs<=04+↥ps
section
variable {C:Cc}{M0 B Mt:Mm}{A:Aq}{s dx p:Ao}{fs:↑(Av×W)}{ps:↑Ao}
def Bu.set(h:Bu C M0 B Mt A s dx fs ps)(T:M0 s=ae)(hl:↥ps<=04)(k:∀p B M,Bu C M0 B M A s dx (d9 f (!p) fs) (ps++[p])->D.nx (aa (!s)::O) M):i4 C.s (cG 0) f kS D (aa (!s)::O) Mt:=λp V=>by
 let U:=h.q.sub _ _ h.at_;let ne:s≠p:=λe=>by rw[<-e,U]at V;ext V
 let Z:=h.q.sub.non V;let nd:=Dc.mp h.nd;let o:put B p (.dT []) s=-.ins C.s dx fs:=by rw[aT ne];show h.at_
 let up:p∉ps:=λz=>by have:=(h.at' p z).2;rw[Z]at this;ext this
 let l:=h.len;show#[s,dx,fs,7,by rw[aT ne];show U,9,k p (put (put B p<|.dT []) s<|.ins C.s dx<|d9 f (!p) fs) _ #[gK (gK h.sub<|h.sub.non Z) T,aI,Dc.mpr #[λz=>(Az.mp z).elim nd.1 λz=>ne<|Ae.mp z,Cf.mpr #[nd.2,6,λa S b Z e=>up<|by rw[<-Ae.mp Z,<-e];show S]],λa S=>8,(h.q.lift<|.inl V).lift<|.inr #[_,o],8]]
 .rcases Az.mp S with S|S
  .rw[aT (λz:a=s=>nd.1<|z▸S),aT (λz:a=p=>up<|z▸S)];show h.at' a S
  .rw[Ae.mp S,aT<|Cs ne,aI];show#[h.sub.non Z,7]
 .rw[Ag];show Am (BH ..)<|Ea h.len
end
def K1(h:L2.Sub M0 M)(n:M0 p=ae):L2.Sub M0 (del M p):=λa u e=>by rw[jZ (λz=>by rw[z,n]at e;ext e)];show h a u e
def K2{g:Av->Option (↑W)}(h:B p=-.dT [])(hg:∀k,g k=ae):dE eT (del B p) B p [] g:=#[λa u e=>by unfold del at e;split at e;ext e;show e,Xu rfl,h,(λ_ _=>rfl),(λk ws e=>by rw[hg]at e;ext e),(λk j p e=>nomatch e)]
def zeg:bE (KW C) (zdR C) zdQ:=by
 rintro _ M R ⟨M0,s,dx,rs,stp,rfl,hl,rfl,Z,r⟩;show#[s,dx,#[_,7,aI,by decide,8]];rw[bV];let J:∀w:W,d9 "own" w (d9 "grammar" (a9 rs) [])=([("grammar",a9 rs),("own",w)]:↑(Av×W)):=λw=>by kernel_rfl
 let Y:∀w:W,d9 "steps" w ([("grammar",a9 rs),("own",.dk<|ownOf rs)]:↑(Av×W))=([("grammar",a9 rs),("own",.dk<|ownOf rs),("steps",w)]:↑(Av×W)):=λw=>by kernel_rfl
 show#[rs,7,Am hl ∅,aO.frz #[namesOf rs,7,8,#[s,dx,#[_,7,aI,(show(1:Nat)<1000 by decide),#[s,dx,#[_,7,aI,8,8]]]]]]
 .have:=sQ (rs.map aD.name) [];rw[Ab]at this;unfold namesOf mE;simp at this;simp;lia
 .rw[J];show(show(2:Nat)<1000 by decide)
 rw[bV,bV,J];change KY C _ _<|put M0 s<|.ins C.s dx<|d9 "steps" (.dt stp) [("grammar",a9 rs),("own",.dk<|ownOf rs)];rw[Y];show λa L S y j=>8;let hsa:s≠a:=λe=>by rw[<-e,aI]at S;ext S
 obtain⟨z,b⟩:∃F:↑(Av×W),F=([("grammar",a9 rs),("own",.dk<|ownOf rs),("steps",.dt stp)]:↑(Av×W)):=#[_,7];rw[<-b]at S y⊢;show#[_,a,L,7,7,S,λI Aq hAq H=>#[7,#[s,dx,z,7,H.sub _ _ aI,by rw[b];show(show(3:Nat)<1000 by decide),8]]];let P:Bu C M0 _ (put I s<|.ins C.s dx<|d9 "queue" (!a) z) Aq s dx (d9 "queue" (!a) z) []:=#[gK (gK (aV) Z) Z,aI,6,(λ_ h=>nomatch h),H.lift (p:=s) (o:=.ins C.s dx<|d9 "queue" (!a) z)<|.inr #[_,aI],by have:=BH "queue" (!a) z;rw[b]at this⊢;show this];show P.set Z (Cu _) λG _ _ U=>U.set Z (show 1<=04 by decide) λp2 _ _ v=>v.set Z (show 2<=04 by decide) λX _ _ x=>x.set Z (show 3<=04 by decide) λN B _ V=>#[_,aV,r _ #[s,dx,Aq,G,p2,X,N] rfl 8]
 let K:=zef (E:=#[rs,ownOf rs,stp]) (A:=#[s,dx,Aq,G,p2,X,N]);rw[hAq,<-b]at K;dsimp only at K;rw[K]at V;let nd : [s,G,p2,X,N].Nodup:=V.nd;simp only[Dc,Bd,not_or,Pg,not_false_eq_true,and_true]at nd;obtain⟨⟨i,c,m,u⟩,⟨O,t,l⟩,⟨d3,T⟩,g,_⟩:=nd;let#[D,n]:=V.at' G 6;let#[f,d]:=V.at' p2 6;let#[z3,k]:=V.at' X 6;let#[z4,Q]:=V.at' N 6;show#[del (del B N) X,del B N,B,[],[],#[K1 (K1 V.sub z4) z3,Z,D,f,i,c,O,by rw[jZ m,jZ u];show V.at_,by rw[jZ t,jZ l];show n,by rw[jZ d3,jZ T];show d],K2 (by rw[jZ g];show k) λ_=>rfl,K2 Q λ_=>rfl,V.q,Aj _,Aj _,Aj _,trivial]
def SK.told{C:Cc}{E:Env}{M0 M:Mm}{A:Ad}{st:SS}{kp:Option (Ao×↑W)}(h:SK C E M0 M A st kp):M0 A.b=ae/\L2.Sub (put M0 A.b<|.dT<|eC fK eN st.best) M:=by
 let#[I,m,s,_]:=h.up;show#[m.nb,λb u e=>8]
 by_cases Z:b=A.b
 .subst Z;rw[aI]at e;ext e;show h.ob
 .rw[aT Z]at e;show s _ _<|m.sub _ _ e
def qP{lo:Int}{n i:Nat}(h:(l6 lo n)[i]? = aa w):i<n/\w=.int (lo+i):=by
 unfold l6 at h;rw[Au]at h;let#[j,F,rfl]:=Ay.mp h;let#[L,Y]:=An.mp F;simp at L Y;subst Y;show#[L,7]
def pA{lo:Int}{n:Nat}:↥(l6 lo n)=n:=by ext l6;simp
def zeh{C:Cc}:bE (BD C) (zd6 C) zd4:=by
 rintro _ M R ⟨G,E,rfl,hrs,hown,g,o,B,r⟩;show(λa dx D hdx T=>#[M,a,dx,E.rs,E.stp,7,hrs,7,D,λI A Z U=>#[7,8]]);rw[<-hown]at U;let U:SR C E M I A A6:=U;subst Z;let Y:↥G.rs<=500:=by rw[g.rs];show hrs
 show#[(↥G.rs:Int),by rw[Ab,g.rs],9,9,8];rw[Cq];show c8 (λi O F=>∃st K H,O=[-a9 E.rs,-.rl [.int 0],-.dt E.stp,-.rl ((Ci ↥G.rs).map λn=>¬G.wt n),aa !A.s,K,H]/\SR C E M F A st/\J G st [] (((Ci ↥G.rs).map λn=>(n,1)).drop i)) #[_,_,_,7,U,J.start #[o,Y,B]] 8 8
 .rintro i w O v hw ⟨st,K,H,rfl,L,j2⟩ D1 hD1;let#[hi,e]:=qP hw;rw[Oe]at e;subst e;let S:=Rh hi;show c8 (λk O F=>∃st H,O=[-a9 E.rs,-.rl [.int 0],-.dt E.stp,-.rl ((Ci ↥G.rs).map λn=>¬G.wt n),aa !A.s,aa ¬i,H]/\SR C E M F A st/\J G st [] (((Ci ↥G.rs).map λn=>(n,1)).drop<|i+k)) #[_,_,7,L,j2] 8 λO u V=>by let#[st,H,e,p,j3]:=V;show hD1 _ _ #[st,_,_,e,p,j3]
  rintro k w O u hw ⟨st,H,rfl,p,j3⟩ D2 hD2;cases k with
  | succ k=>ext hw
  | zero=>
   ext hw;rw[Nat.add_zero,wR S]at j3;show mI p.os wN<|so.of (a:=W.int<|G.wt i) (g9<|by rw[Au,S];rfl)<|BG (x:=(i,1)) (c:=(G.wt i,1)) rfl p j3 λz st4 hs4 j4=>hD2 _ _ #[_,_,7,hs4,j4]
 .rintro O v ⟨st,K,H,rfl,L,j2⟩;rw[pA,wU Hi.symm]at j2;show mH (λm O F=>∃st P K H,O=[-a9 E.rs,-.rl [.int 0],-.dt E.stp,-.rl ((Ci ↥G.rs).map λn=>¬G.wt n),aa !A.s,K,H]/\SR C E M F A st/\J G st P []/\m=450500-↥P) #[_,_,_,_,_,7,L,j2,7] 8;rintro m O u ⟨st,P,K,H,rfl,p,j,rfl⟩ D3 hD3;let#[z,X,back]:=p.que;show fI p.os BA (mI X.ob zck #[z,A.Q,st.q,_,7,X,bN (b:=!(decide<|st.q=[])) (λh=>8) λh=>8])
  .let N:¬(st.q=[]):=of_decide_eq_false (by rw[<-Ge (decide _),h];rfl);let f:=j.few;let l:=Jk.mpr N;unfold al at f;rw[Bv,Ag,Ab]at f;show mI p.os zdJ #[G,E,M,A,st,P,7,p,g,j,N,λM5 t x hs5 j5=>hD3 _ _ _ (by rw[Ag];change 450500-(↥P+1)<450500-↥P;lia) #[_,_,_,_,7,hs5,j5,7]]
  .let N:st.q=[]:=Xv (by rw[<-Ge (decide _),h];rfl);let#[d,y]:=p.told;show fI p.os BC #[_,y,r st.best (j.done N) A.b d]
section
variable {X:Cx}{af:Pn}{Z:St}{H:Hp}{s:Ai}{a:Ao}{u:HO}
def IsDict(u:HO):Prop:=(∃ks,u=.dK ks)\/∃ks,u=.dT ks
def Inv.frzD(I:Inv X af Z H s)(e:H a=-u)(hd:IsDict u):∃o,Inv X af Z (aK H a<|.frz o u) s:=by
 obtain⟨o,f⟩:∃o,s.heap.get? a=-o:=by
  have:=I.hok a u e;rcases hd with⟨ks,rfl⟩|⟨ks,rfl⟩
  .let#[_,_,_,_,o,_,_,e,_]:=this;show#[o,e]
  .let#[_,_,_,_,o,_,_,e,_]:=this;show#[o,e]
 show#[o,8];let ne:∀{b:Ao} {v:HO},H b=-v->v≠u->b≠a:=λ{b v} T h z=>by subst z;rw[e]at T;show h (Cm T).symm
 let g:∀{b:Ao},H b=ae->b≠a:=λ{b} T z=>by subst z;rw[e]at T;ext T
 let kt:∀b xs,H b=-.tup xs->aK H a (.frz o u) b=-.tup xs:=λb xs P=>by
  rw[bB<|ne P (λz=>by rcases hd with⟨ks,rfl⟩|⟨ks,rfl⟩<;>ext z)];show P
 let i:∀b y,H b=-.own y->aK H a (.frz o u) b=-.own y:=λb y P=>by
  rw[bB<|ne P (λz=>by rcases hd with⟨ks,rfl⟩|⟨ks,rfl⟩<;>ext z)];show P
 show I.step (h':=s.heap) (g':=s.gens) (d':=s.drawn) (t':=s.toks) (ch:=[]) (λ_ z=>nomatch z) (λb o _ _ _ T _=>T) (λb o _ _ _ T _=>#[o.slots,T]) (λb o _ _ n=>by rw[bB<|g n];show n) (λb o _ T=>#[o,T]) kt
  (λb ob v P=>8) (λb ps P=>#[#[],8]) (λm J=>J) (λb v P=>8) I.bare
 .rw[bB<|ne P (λz=>by rcases hd with⟨ks,rfl⟩|⟨ks,rfl⟩<;>ext z)];show P
 .rw[bB (ne P (λz=>by rcases hd with⟨ks,rfl⟩|⟨ks,rfl⟩<;>ext z)),P];simp
 .by_cases Y:b=a
  .subst Y;rw[b8]at P;ext P;show#[f,(I.hok b u e).stay (λ_ _ _ q=>q) (λc q=>i c b q) kt]
  .rw[bB Y]at P;show(I.hok b v P).stay (λ_ _ _ q=>q) (λc q=>i c b q) kt
def zei(Q:VK):VK:=λv H=>∃a u,v=!a/\H a=-u/\IsDict u/\∀o,Q v<|aK H a<|.frz o u
def zej(h:PE X e t):PE X e (λZ H Q=>t Z H<|zei Q):=λaf s Z H Q I q=>
 aY (h af s Z H _ I q) λv s1 V=>by
  let#[x,B,g,F,a,u,T,J,W,C]:=V;let#[o,i]:=g.frzD J W;show#[x,_,i,F,C o]
noncomputable def wV(a:Ao)(o:Nh)(u:HO)(xs:↑V):It:=
 #[λi H=>H a=-.frz o u/\i<↥xs,λi H x L=>L=H/\xs[i]? = aa x,λi H=>H a=-.frz o u/\↥xs<=i]
theorem K4{P:Bc}{w:Bq}{K:Ac}{n:Ck}(a it:Ao)(o:Nh)(u:HO)(xs:↑V)(es:Array Ey)(ep:Nat)(hd:o.data=.dict es ep)(A:es.size=↥xs)(S:∀(i:Nat) (e:Ey),es[i]? = aa e->∃x,xs[i]? = aa x/\RelV x e.key):
  jB P w K n (wV a o u xs) [it] it (λi h=>h.IsKeyIter it a i es.size ep) where
 mem:=by simp
 obj:=λi h st b Y=>by
  let e:b=it:=by simpa using Y
  subst e;let#[o,e,c,d]:=st;show#[o,e,λv z=>by rw[d]at z;ext z]
 keep:=λi h h' st k=>st.at λo e=>k it 6 o e
 item:=by
  intro X M hw R hc i af s Z H E I hf st hg;subst M hw R;let#[T,hi]:=hg;let f:s.heap.get? a=-o:=(show b9 X.prog X.w H s.heap a (.frz o u) from I.hok a _ T).1;let j:i<es.size:=9
  let#[x,m,B]:=S i es[i] (by simp[j]);let#[f0,F,y,L,J,O]:=hf it 6;show uP ac st f hd j λh' Q sb=>8;let g:Inv X af Z H (s<&>h'):=I.turned (t':=s.toks) (λb o Y e=>(sb.2 b Y).trans e) f0 F L J O;let#[D,e,c,d]:=id Q;show#[_,7,pG (s:=(s<&>h')) e c d ∅ #[x,H,g,B,#[7,m],Q,λb Y=>(hf b Y).1]]
 done:=by
  intro X M hw R hc i af s Z H E I hf st hg;subst M hw R;let#[T,hi]:=hg;let f:s.heap.get? a=-o:=(show b9 X.prog X.w H s.heap a (.frz o u) from I.hok a _ T).1;show uQ ac (I.ok.hd hc) st f hd 9 λh' hk=>#[7,8]
  show I.turnedT (tk:=s.toks) hf λq o N eq=>hk q o (λz=>N<|by simp[z]) eq
 self:=λ_ _ _ _ _ st h=>Ru st h
end
section
variable {X:Cx}{e:Ck}{te:aR}
abbrev sU(t:aR):aR:=λO M R=>t O M λw F=>∃p,w=!p/\((∃kvs,F p=-.dK kvs/\R (.fk kvs) (del F p))\/∃kvs,F p=-.dT kvs/\R (.ft kvs) (del F p))
def K5{K:Ac}{H:Hp}{M:Mm}{p:Ao}{o:Nh}{u:HO}{x:MO}(U:AM K H M)(e:M p=-x)(hd:IsDict u)(D:H p=-u):Go H M (aK H p<|.frz o u) (del M p)/\AM K (aK H p<|.frz o u) (del M p)/\Kp H M (aK H p<|.frz o u) (del M p):=by
 let g:∀{b:Ao},M b=ae->b≠p:=λ{b} h z=>by subst z;rw[e]at h;ext h
 let go:Go H M (aK H p<|.frz o u) (del M p):=by
  show#[λb xs P=>8,λb ob v P=>8,λb v n P=>8]
  .rw[bB<|g<|U.noTup P];show P
  .rw[bB<|g<|U.noFrz P];show P
  .rw[bB<|g n,jZ<|g n];show#[P,n]
 show#[go,λa V N=>8,λa v n N=>8,λa v N=>8]
 .let ne:a≠p:=λz=>by rw[z,pR]at N;ext N
  rw[jZ ne]at N;show(U a V N).go go<|bB ne
 .rw[bB<|g n,jZ<|g n];show#[N,n]
 .by_cases S:a=p
  .subst S;show#[_,b8]
  .let#[y,q]:=(U a v N).has;show#[y,by rw[bB S];show q]
def zek(h:E3 X e te):E3 X e (sU te):=
 (zej h).weak λZ H Q V=>V.el λO M R m U h k=>#[O,M,_,m,U,h,λv L w F Y N av V=>by
  let#[p,hw,r]:=V;subst hw;obtain rfl:=av.inv;rcases r with⟨kvs,e,r⟩|⟨kvs,e,r⟩
  .let#[ks,f,q]:=N _ _ e;show#[p,.dK ks,7,f,.inl #[_,7],λo=>8];let#[g,P,k2]:=K5 (o:=o) N e (.inl #[_,7]) f;show k _ _ _ _ (Y.trans k2) P (.fk b8 q.keys<|q.vals.go g) r
  .let#[ks,f,q]:=N _ _ e;show#[p,.dT ks,7,f,.inr #[_,7],λo=>8];let#[g,P,k2]:=K5 (o:=o) N e (.inr #[_,7]) f;show k _ _ _ _ (Y.trans k2) P (.ft b8 q.keys<|q.vals.go g) r]
abbrev nS:W->Mm->(↑W->(Mm->Prop)->Mm->Prop)->Prop
 | .fk kvs,I,R=>R (kvs.map λp=>wK p.1) (λ_=>True) I
 | .ft kvs,I,R=>R (kvs.map λp=>.tup<|p.1.map wK) (λ_=>True) I
 | _,_,_=>False
def K6{K:Ac}{j:Hp}{g:Mm}{a:Ao}{o:Nh}{u:HO}{xs:↑V}{ws:↑W}(s:AM K j g)(e:j a=-.frz o u)(G:aJ K j g xs ws):iB K j g (wV a o u xs) ws λ_=>True:=by
 let st:∀H M,Kp j g H M->H a=-.frz o u:=λH M k=>(k.fr _ _ (s.noFrz e) e).1;show#[λi H M k U _ hi=>#[st H M k,by rw[↥G];show hi],λH M k U _=>#[st H M k,by rw[↥G];show Aj _],λi H M x L k U _ hi y=>8];let#[rfl,y]:=y;let#[w,hw,av]:=(G.kp s k).getV y;show#[w,hw,Kp.refl U,U,av]
theorem K7{K:Ac}{H:Hp}{M:Mm}:∀k:aC,AV K H M (kV k) (wK k)
 | .inl i=>¬i
 | .inr x=>.str x
def zel(ok:cZ P w H h)(e:H a=-.frz o (.dK ks)):
  ∃es ep,gH h a es ep/\o.data=.dict es ep/\(a==Gg)=ac/\es.size=↥ks/\∀(i:Nat) (en:Ey),es[i]? = aa en->∃p,ks[i]? = aa p/\RelV (kV p.1) en.key/\RelV p.2 en.val:=by
 let#[f,hz,j,vs,F,Q,es,ep,L,Y,O,W,U,G]:=(show b9 P w H h a (.frz o<|.dK ks) from ok a _ e);rw[f]at L;ext L;let u:=↥F;let X:=↥U;rw[Gk]at X;show#[es,ep,#[o,f,Y,O],O,j,9,λi en D=>8];let hi:=(Kl.mp D).1;obtain⟨⟨k,x⟩,c⟩:∃v,vs[i]? = aa v:=#[_,Bh 9];let#[A,l]:=U.get? (by rw[Ht];show D) c;have:∀{ks:↑(aC×V)} {vs:↑(aC×Value)} {i:Nat},KV ks vs->vs[i]? = aa (k,x)->∃v,ks[i]? = aa (k,v)/\RelV v x:=by
  intro ks vs i r
  induction r generalizing i with
  | nil=>intro h;simp at h
  | @cons p q ps qs N t E=>
   intro h;cases i with
   | zero=>simp at h;subst h;let#[m,p2]:=p;cases N.1;show#[p2,7,N.2]
   | succ i=>rw[Ha]at h⊢;show E h
 let#[v,C,d]:=this F c;show#[(k,v),C,uN A,by rw[l];show d]
def zem(ok:cZ P w H h)(e:H a=-.frz o (.dT ks)):
  ∃es ep,gH h a es ep/\o.data=.dict es ep/\(a==Gg)=ac/\es.size=↥ks/\∃m:↑Ao,↥m=↥ks/\(∀(i:Nat) (p:↑aC×V) (b:Ao),ks[i]? = aa p->m[i]? = aa b->H b=-.tup (p.1.map kV))/\
   ∀(i:Nat) (en:Ey),es[i]? = aa en->∃p b,ks[i]? = aa p/\m[i]? = aa b/\en.key=!b/\RelV p.2 en.val:=by
 let#[f,hz,j,xs,J,Q,es,ep,L,Y,O,W,U]:=(show b9 P w H h a (.frz o<|.dT ks) from ok a _ e);rw[f]at L;ext L;let u:=Mb W;let k:=Cv J;show#[es,ep,#[o,f,Y,O],O,j,9,xs.map λx=>x.2.1,by rw[Ab];lia,λi p b B Z=>8,λi en D=>8]
 .rw[Au]at Z;let#[x,S,rfl]:=Ay.mp Z;have:∀{ks:↑(↑aC×V)} {xs:↑(↑aC×Ao×Value)} {i:Nat},Dz (λ(p:↑aC×V) (q:↑aC×Ao×Value)=>p.1=q.1/\H q.2.1=-.tup (p.1.map kV)/\RelV p.2 q.2.2) ks xs->ks[i]? = aa p->xs[i]? = aa x->H x.2.1=-.tup (p.1.map kV):=by
   intro ks xs i r
   induction r generalizing i with
   | nil=>intro h;simp at h
   | @cons p q ps qs N t E=>
    intro h g;cases i with
    | zero=>simp at h g;subst h;subst g;show N.2.1
    | succ i=>rw[Ha]at h g;show E h g
  show this J B S
 .rw[Vj W i]at D;let#[x,S,rfl]:=Ay.mp D;have:∀{ks:↑(↑aC×V)} {xs:↑(↑aC×Ao×Value)} {i:Nat},Dz (λ(p:↑aC×V) (q:↑aC×Ao×Value)=>p.1=q.1/\H q.2.1=-.tup (p.1.map kV)/\RelV p.2 q.2.2) ks xs->xs[i]? = aa x->∃p,ks[i]? = aa p/\RelV p.2 x.2.2:=by
   intro ks xs i r
   induction r generalizing i with
   | nil=>intro h;simp at h
   | @cons p q ps qs N t E=>
    intro h;cases i with
    | zero=>simp at h;subst h;show#[p,7,N.2.2]
    | succ i=>rw[Ha]at h⊢;show E h
  let#[p,C,d]:=this J S;show#[p,x.2.1,C,by rw[Au,S];rfl,7,d]
def zen{c:Ck}:l5 X c (sH X.K nS):=by
 rintro af s Z H x u Q I F ⟨n,M,R,t,U,h,k⟩;cases t<;>first|exact Br h|skip
 case fk a o ks kvs e ke q=>
  cases (show u=Value.ref a from F);let#[es,ep,G,hd,j,hsz,D]:=zel I.hok e;let fp:∀b∈[⇑s],gP X af H b:=λb T=>by
   let e:b=⇑s:=by simpa using T
   subst e;show I.fpOk (Aj _)<|I.hok.fresh<|Aj _
  show uR j G #[⇑s,[⇑s],_,wV a o (.dK ks)<|ks.map λp=>kV p.1,H,7,I.kept (t':=s.toks) λb o e=>Af _ e,K4 a _ o _ _ es ep hd (by rw[Ab];show hsz) λi en P=>8,#[_,Ax _ rfl,7,7],fp,k _ _ _ _ _ (Kp.refl U) U (K6 U e 8) h]
  .let#[p,L,Y,_]:=D i en P;show#[kV p.1,by rw[Au,L];rfl,Y]
  .let hk:(ks.map λp=>kV p.1)=(ks.map Cg).map kV:=by rw[Bp];rfl
   let hw:(kvs.map λp=>wK p.1)=(kvs.map Cg).map wK:=by rw[Bp];rfl
   rw[hk,hw,ke];generalize kvs.map Cg=l
   induction l with
   | nil=>show .nil
   | cons z l E=>show .cons (K7 z) E
 case ft a o ks kvs e ke q=>
  cases (show u=Value.ref a from F);let#[es,ep,G,hd,j,hsz,m,hl,A,D]:=zem I.hok e;let fp:∀b∈[⇑s],gP X af H b:=λb T=>by
   let e:b=⇑s:=by simpa using T
   subst e;show I.fpOk (Aj _)<|I.hok.fresh<|Aj _
  show uR j G #[⇑s,[⇑s],_,wV a o (.dT ks)<|m.map V.ref,H,7,I.kept (t':=s.toks) λb o e=>Af _ e,K4 a _ o _ _ es ep hd (by rw[Ab];lia) λi en P=>8,#[_,Ax _ rfl,7,7],fp,k _ _ _ _ _ (Kp.refl U) U (K6 U e 8) h]
  .let#[p,b,L,Y,O,_]:=D i en P;show#[!b,by rw[Au,Y];rfl,by rw[O];rfl]
  .let hw:(kvs.map λp=>W.tup<|p.1.map wK)=(ks.map Cg).map λz=>W.tup (z.map wK):=by rw[ke,Bp];rfl
   rw[hw];have:∀(ks:↑(↑aC×V)) (m:↑Ao),↥m=↥ks->(∀(i:Nat) (p:↑aC×V) (b:Ao),ks[i]? = aa p->m[i]? = aa b->H b=-.tup (p.1.map kV))->aJ X.K H M (m.map V.ref) ((ks.map Cg).map λz=>W.tup<|z.map wK):=by
    intro ks
    induction ks with
    | nil=>intro m hl _;cases m with
     | nil=>show .nil
     | cons b r=>simp at hl
    | cons p ks E=>
     intro m hl A;cases m with
     | nil=>simp at hl
     | cons b r=>
      show .cons (.tup (A 0 p b rfl rfl)<|vU p.1)<|E r hl⁻¹ λi p b L Y=>A (i+1) p b L⁻¹ Y⁻¹
   show this ks m hl A
def zeo(hl:E3 X l tl):PI X c l (f9 X.K<|bM nS tl):=vD hl zen
end
end L2
namespace PySem
namespace Zd
open L2 Zt
open PySem.Sem (wp)
def zep:Ky (.type "zip") "__getattr__" = pure ae:=by rw[Gj,Eh];kernel_rfl
def zeq:Ky (.type "zip") "keys" = pure ae:=by rw[Gj,Eh];kernel_rfl
def zer:Vk table "zip.__getattribute__" = aa Hs.«object.__getattribute__»:=
 entryFor_alias (id':="object.__getattribute__") (by kernel_rfl) 5 5 (by kernel_rfl)
def zes(a:Ao)(vs:Array Value)(name:Av)(u:Wq)(c:Ky (.type "zip") name=pure ae)(b:(["__module__","__name__","__qualname__","__doc__","__annotations__"]:↑Av).contains name=ac)(hsz:↥name+100<=Aw):
  Meets (Hs.«object.__getattribute__» #[[!a,.str name u],[]]) (λA R s=>s.heap.get? a=aa {cls:=.type "zip",dict:=ae,data:=.fields vs,slots:=#[]}/\raisesAttr (!a) name A R s):=
 Meets.of_wp λprog w A R s l=>by
  let#[B,g,d,tk,os]:=s;let#[S,l]:=l;let K:(#[B,g,d,tk,os]:Ai).TypeIs (!a) "zip":=#[_,S,7];unfold Hs.«object.__getattribute__»
  repeat (any_goals (first|assumption|wp_step))
  simp only[b,Fv,if_false]
  repeat (any_goals (first|assumption|wp_step))
  show wpAny_raiseAttrError l.1 l.2<|attrMsg_fits 5 hsz
section
variable {prog:Bc}{w:Bq}{A:Cw}{E:Value->Ai->Prop}{s:Ai}
def keys_miss{Q:Option Value->Ai->Prop}(hx:s.heap.get? a=aa {cls:=.type "zip",data:=.fields vs})(hA:A.handled=ae)(h:∀h' tk,(∀b o,s.heap.get? b=-o->h'.get? b=-o)->Q ae {s with heap:=h',toks:=tk}):Bm (Cp prog w) A (Vi (!a)<|Bz "keys") Q E s:=by
 let#[hp,g,d,tk,os]:=s;let hT:∀tk',(#[hp,g,d,tk',os]:Ai).TypeIs (!a) "zip":=λ_=>#[_,hx,7]
 let f1:=sub_AttributeError;let f3:=Px.lookup;let f4:=Px.bind !a;let f5:=zep;unfold Vi getAttrBy? getAttrBy
 repeat (any_goals (first|assumption|exact hT _|((with_reducible change Bm _ _ (call (Value.builtin "zip.__getattribute__") _ _) _ _ _);refine La Px (hT _) zer (F.args_zip_getattribute_2 _ _) (zes a vs (Bz "keys") _ zeq 5<|5) #[hx,hA,λh' tk' e hx'=>8])|wp_step))
 let#[t',u',he]:=hx'.there;let hx2:=hx'.of.keeps;change Bm _ _ (Oz _ _ _ _ _ _ _) _ _ _;unfold Oz
 repeat (any_goals (first|assumption|wp_step))
 show h _ _ hx2
def jR{c n:Nat}(h:c<n):c≠n+04/\c≠n+3/\c≠n/\c≠n+1:=#[fH 04 h,fH 3 h,pQ h,fH 1 h]
def zet{n a b d:Nat}(z:a<n)(M:b<n)(e:d=n+05):Lo d (n+04) (n+2) (n+3) n (n+1) a b:=e▸#[Eb _,Ob ∅ n,Ob ∅ n,Ob (by decide:0<05) n,Ob ∅ n,Nat.lt_add_right 05 z,Nat.lt_add_right 05 M]
def zeu{n a b:Nat}(z:a<n)(M:b<n):Zt.Apart (n+04) (n+2) (n+3) n (n+1) a b:=#[FX _,#[fH 04 z,fH 2 z,fH 3 z,pQ z,fH 1 z],#[fH 04 M,fH 2 M,fH 3 M,pQ M,fH 1 M]]
def sL(i l:Ao)(xs:Array Value)(k:Nat)(h:Cz):Prop:=h.IsListIter i l k/\h.IsList l xs
def call_zip{Q:Value->Ai->Prop}(hh:A.handled=ae)(hu:A.units+2<Fs)(h1:s.heap.IsList l1 xs)(h2:s.heap.IsList l2 ys)(hz:↥ps<=Aw)(hx:∀j:Nat,xs[j]? = (ps[j]?).map λp=>!p.2.1)(hy:∀j:Nat,ys[j]? = (ps[j]?).map λp=>p.2.2)(hkeys:∀p∈ps,(TK prog w).is s.heap p.1 p.2.1)(h:∀h' tk d,⇑s<=d->(∀b o,s.heap.get? b=-o->h'.get? b=-o)->h'.DictOfH (TK prog w) d (allH [] ps)->Q (!d) {s with heap:=h',toks:=tk}):
  Bm (Cp prog w) A (call (.type "zip") [!l1,!l2]) (λv s1=>Bm (Cp prog w) A (call (.type "dict") [v]) Q E s1) E s:=by
 let la:@LT.lt Nat _ l1 ⇑s:=by let#[_,e,_]:=h1;show Ba e
 let lb:@LT.lt Nat _ l2 ⇑s:=by let#[_,e,_]:=h2;show Ba e
 show call_zip_2 h1 h2 λg g1 g2 g3 g4 g5 g6 gk=>8;let D:=zeu la lb;let L:=zet la lb (show g.objs.size=_ from g6);let W1:fZ prog w _ _ _ (sL _ _ _):=FV _ _ (pQ la) xs;let W2:fZ prog w _ _ _ (sL _ _ _):=FV _ _ (fH 1 lb) ys;show Dp.callG (s:=(s<&>g)) (n:=↥ps) (Z:=λt=>∃h' tk,t = {s with heap:=h',toks:=tk}/\(∀b o,s.heap.get? b=-o->h'.get? b=-o)/\Ed prog w g.objs.size ⇑s ps ↥ps h')
  (Dd:=λI i t=>I=.ref (⇑s+04)/\∃h' tk,t = {s with heap:=h',toks:=tk}/\(∀b o,s.heap.get? b=-o->h'.get? b=-o)/\Ed prog w g.objs.size ⇑s ps i h'/\Zs g.objs.size (⇑s+04) (⇑s+2) (⇑s+3) ⇑s (⇑s+1) (sL ⇑s l1 xs) (sL (⇑s+1) l2 ys) i h') g1 rfl ∅ (λhx' k=>keys_miss hx' hh k) (λ{h' tk E Q} hk k=>8) (λ{I i t E Q} hi z0 k=>8) (λ{I t E Q} z0 k=>8) λt z0=>8
 .let up:∀b o,g.get? b=-o->h'.get? b=-o:=λb o e=>hk b o<|Af _ e;show Ud (up _ _ g1)<|k _ _ #[7,h',tk,7,λb o e=>up _ _<|gk _ _ e,(Ed.new g _ ps).fr λb o _ e=>hk b o e,up _ _ g2,#[g4.at<|up _,h1.at λo e=>up _ _<|gk _ _ e],#[g5.at<|up _,h2.at λo e=>up _ _<|gk _ _ e],Ba<|hk _ _<|Ax _ rfl,.inl #[up _ _ g1,_,_,up _ _ g3]]
 .let#[rfl,h',tk,rfl,up,ed,zs]:=z0;obtain⟨p,hp⟩:∃p,ps[i]? = aa p:=#[_,Bh hi];let kx:=hkeys p<|Ah hp;show next L D W1 W2 zs (x:=!p.2.1) (y:=p.2.2) (by rw[hx,hp];rfl) (by rw[hy,hp];rfl) λh2 zs2 pr hm=>k h'.objs.size (!p.2.1) p.2.2 {s with heap:=h2,toks:=tk} #[_,pr,7,_,7] λk2=>8;let u2:∀{b:Nat} {o:Nh},b<⇑s->h'.get? b=-o->h2.get? b=-o:=λl e=>hm _ _ (jR l).1 (jR l).2.1 (jR l).2.2.1 (jR l).2.2.2 e;show Ed.set (ed.fr λb o hb e=>hb.elim (λeb=>hm b o (eb▸Dr L.1) (eb▸Dr L.2.2.1) (eb▸Dr L.2.2.2.1) (eb▸Dr L.2.2.2.2.1) e) λl=>u2 l e) (Gf (A:=A.in1) (show(A.units+1)+1<Fs from hu)) (Am (Hk hi) hz) hp (vV kx λo e=>u2 (Ba e)<|up _ o e) (by let#[o,_,_,e,_]:=kx;show Ba e) λh3 tk3 ed3 sb=>k2 _ #[7,h3,tk3,7,λb o e=>(sb.2 b<|Bw<|Ca (Ba e)<|g6▸Fm ..).trans<|u2 (Ba e)<|up b o e,ed3,zs2.at L W1 W2 sb]
 .let#[rfl,h',tk,rfl,up,ed,zs]:=z0;show done hh D W1 zs (by rw[hx,Hu<|Aj _];rfl) λh2 hm=>k _ #[h2,tk,7,λb o e=>hm b o (jR<|Ba e).1 (jR<|Ba e).2.1 (jR<|Ba e).2.2.1 (jR<|Ba e).2.2.2<|up b o e,ed.fr λb o hb e=>hb.elim (λeb=>hm b o (eb▸Dr L.1) (eb▸Dr L.2.2.1) (eb▸Dr L.2.2.2.1) (eb▸Dr L.2.2.2.2.1) e) λl=>hm _ _ (jR l).1 (jR l).2.1 (jR l).2.2.1 (jR l).2.2.2 e]
 .let#[h',tk,rfl,up,es,d1,d2,_]:=z0;show h h' tk g.objs.size (g6▸Fm ..) up (by rw[Bn]at d1;rw[<-d1];show d2)
end
end Zd
end PySem
namespace PySem
namespace Dt
open L2
open PySem.Zd (TK allH JA vV)
section
variable {prog:Bc}{w:Bq}{A:Cw}{E:Value->Ai->Prop}{s:Ai}
def call_pairs{c:Nat}{Q:Value->Ai->Prop}(hh:A.handled=ae)(D:A.units+2<Fs)(S:s.heap.get? l=aa {cls:=.type "list",data:=.seq items c})(K:↥ps=items.size)(hz:items.size<=Aw)(m:∀p∈ps,(TK prog w).is s.heap p.1 p.2.1)(B:∀(j:Nat) (p:↑aC×Ao×Value),ps[j]? = aa p->∃(a:Ao),items[j]? = aa (!a)/\s.heap.IsTuple a [!p.2.1,p.2.2].toArray)(h:∀h' tk,(∀b o,s.heap.get? b=-o->h'.get? b=-o)->h'.DictOfH (TK prog w) ⇑s (allH [] ps)->Q (!⇑s) {s with heap:=h',toks:=tk}):
  Bm (Cp prog w) A (call (.type "dict") [!l]) Q E s:=by
 let g:∀p∈ps,@LT.lt Nat _ p.2.1 ⇑s:=λp B=>by
  let#[o,items,n,e,_]:=m p B;show Ba e
 show Dp.callL (Dd:=Zd.Ed prog w ⇑s ⇑s ps) hh S (Zd.Ed.new _ _ ps) (λx J=>x.fr λb o Z e=>J b o (Z.elim Hw Hk) e) (λ{i t} hi hd ext=>8) λh' tk e V=>by let#[es,f,y,_]:=V;show h h' tk e (by rw[<-K,Bn]at f;rw[<-f];show y)
 obtain⟨p,q⟩:∃p,ps[i]? = aa p:=#[_,Bh<|K▸hi];let d:p∈ps:=Ah q;let#[a,N,T]:=B i p q;show#[a,_,p.2.2,N,T,λk=>hd.set (Gf (A:=A.in1) (show(A.units+1)+1<Fs from D)) (Am (Hk hi) hz) q (vV (m p d)<|ext _) (g p d) k]
end
end Dt
end PySem
namespace L2
def aJ.cons_{K:Ac}{H:Hp}{M:Mm}{vs:↑V}{w:W}{ws:↑W}(h:aJ K H M vs<|w::ws):∃v us,vs=v::us/\AV K H M v w/\aJ K H M us ws:=by
 cases h with
 | cons x r=>show#[_,_,7,x,r]
def BI(h:a6 (x::xs) us):∃u ts,us=u::ts/\RelV x u/\a6 xs ts:=by
 cases h with
 | cons x r=>show#[_,_,7,x,r]
abbrev QQ:=↑aC×Ao×V×Value
noncomputable abbrev qV(q:QQ):↑aC×V:=(q.1,q.2.2.1)
noncomputable abbrev qR(q:QQ):↑aC×Ao×Value:=(q.1,q.2.1,q.2.2.2)
def i7(K:Ac)(H:Hp)(M:Mm)(qs:↑QQ)(ps:↑(↑aC×W)):Prop:=bT K H M (↑aC) (qs.map qV) ps/\∀q∈qs,H q.2.1=-.tup (q.1.map kV)/\RelV q.2.2.1 q.2.2.2
section
variable {X:Cx}{af:Pn}{Z:L2.St}{K:Ac}{H:Hp}{M:Mm}{s:Ai}{qs:↑QQ}{ps:↑(↑aC×W)}
def i7.cons{k:↑aC}{w:W}{b:Ao}{v:V}{u:Value}(f:i7 K H M qs ps)(e:H b=-.tup (k.map kV))(r:RelV v u)(a:AV K H M v w):i7 K H M ((k,b,v,u)::qs) ((k,w)::ps):=#[.cons #[7,a] f.1,Qh.mpr #[#[e,r],f.2]]
def zev(h:bT K H M (↑aC) A ps):∀{ks:↑(↑aC×V)} {kvs:↑(↑aC×W)},bT K H M (↑aC) ks kvs->bT K H M (↑aC) (mD ks A) (gT kvs ps):=by
 induction h with
 | nil=>show λg=>g
 | @cons q p _ _ r t E=>
  let#[C,O]:=q;let#[G,p2]:=p;let#[rfl,R]:=r;show λg=>E<|u6 g C R
def i7.puts(f:i7 K H M qs ps):bT K H M (↑aC) (mD []<|qs.map qV) (gT [] ps):=zev f.1 .nil
def i7.kt(f:∀q∈qs,H q.2.1=-.tup (q.1.map kV)/\RelV q.2.2.1 q.2.2.2):∀{kvs:↑(↑aC×V)} {es:↑(↑aC×Ao×Value)},KT H kvs es->KT H (mD kvs<|qs.map qV) (Zd.allH es<|qs.map qR):=by
 induction qs with
 | nil=>show λk=>k
 | cons q qs E=>show λk=>E (λz hz=>f z<|Bi _ hz)<|k.put q.1 (f q Bj).1 (f q Bj).2
def i7.laid(f:i7 X.K H M qs ps)(I:L2.Inv X af Z H s){tk:Nat}(hz:↥ps<=Aw)(hd:@LE.le Nat _ ⇑s d)(hk:∀b o,s.heap.get? b=-o->h'.get? b=-o)(x:h'.DictOfH (Zd.TK X.prog X.w) d<|Zd.allH []<|qs.map qR):L2.Inv X af Z (aK H d<|.dT<|mD []<|qs.map qV) {s with heap:=h',toks:=tk}:=by
 let y:=I.hok.fresh hd;let len:=JB (qs.map qV) [];rw[Cv f.1,Iw,Jb]at len;let#[o,en,ep,F,R,p,e,_,a]:=x;show I.laid (o:=.dT<|mD []<|qs.map qV) (t':=tk) hk hd #[Am len hz,beq_eq_false_iff_ne.mpr<|Dr<|Ca I.big hd,_,(i7.kt f.2 .nil).keeps λc Y g=>(bB<|eW g y).trans g,o,en,ep,F,R,p,e,a]
def i7.keys(f:i7 X.K H M qs ps)(I:L2.Inv X af Z H s):∀p∈qs.map qR,(Zd.TK X.prog X.w).is s.heap p.1 p.2.1:=λp B=>by
 let#[q,N,rfl]:=Ap.mp B;show jE I.hok (f.2 q N).1
noncomputable def pB(ps:↑(↑aC×W)):↑W:=ps.map λp=>.tup [.tup<|p.1.map wK,p.2]
def zew(I:L2.Inv X af Z H s):∀{ps:↑(↑aC×W)} {vs:↑V} {its:↑Value},aJ X.K H M vs (pB ps)->a6 vs its->
  ∃qs:↑QQ,i7 X.K H M qs ps/\↥qs=↥its/\∀(j:Nat) (q:QQ),qs[j]? = aa q->∃(a:Ao),its[j]? = aa (!a)/\s.heap.IsTuple a [!q.2.1,q.2.2.2].toArray:=by
 intro ps
 induction ps with
 | nil=>show λh r=>#[[],#[.nil,λq N=>nomatch N],by cases h.nil_;ext r;rfl,λj q h=>nomatch h]
 | cons p ps E=>
  intro vs its h r;let#[v,us,rfl,av,D]:=h.cons_;let#[u,ts,rfl,ru,rs]:=BI r;let#[qs,f,R,G]:=E D rs;let#[a,xs,rfl,e,q]:=av.inv;let#[m,Y,rfl,l,c]:=q.two;let#[b,A,rfl,P,g]:=l.inv;rw[g.keys]at P;let#[i,U,pl,_]:=I.tuple<|bJ.of e;let#[n,d,rfl,x1,x2]:=vals2 U;cases (show n=.ref b from x1);show#[(p.1,b,Y,d)::qs,f.cons P x2 c,congrArg (· + 1) R,λj p F=>8];cases j with
  | zero=>rw[<-Cm F];show#[a,congrArg aa ru,pl]
  | succ j=>show G j p F
def zex:∀{ps:↑(↑aC×W)} {xs Z:↑V} {a i:↑Value},aJ K H M xs (ps.map λp=>.tup<|p.1.map wK)->aJ K H M Z (ps.map λp=>p.2)->a6 xs a->a6 Z i->
  ∃qs:↑QQ,i7 K H M qs ps/\a=(qs.map λq=>!q.2.1)/\i=(qs.map λq=>q.2.2.2):=by
 intro ps
 induction ps with
 | nil=>show λL Y F R=>#[[],#[.nil,λq N=>nomatch N],by cases L.nil_;ext F;rfl,by cases Y.nil_;ext R;rfl]
 | cons p ps E=>
  intro xs Z a i L Y F R;let#[v,us,rfl,av,D]:=L.cons_;let#[y,A,rfl,d,e]:=Y.cons_;let#[u,ts,rfl,ru,rs]:=BI F;let#[z,ss,rfl,h,c]:=BI R;let#[qs,f,rfl,rfl]:=E D e rs c;let#[b,ks,rfl,P,g]:=av.inv;rw[g.keys]at P;cases (show u=.ref b from ru);show#[(p.1,b,y,z)::qs,f.cons P h d,7,7]
end
section
variable {X:Cx}{a b:Ck}{ta:dO}
def zey(hu:X.A.units+2<Fs)(hg:Gl X "dict")(hm:X.mg "dict" = ae)(hg2:Gl X "zip")(hm2:X.mg "zip" = ae)(ha:A3 X [a,b] ta)(hc:X.calm=ab:=by rfl)(hs1:Cr [.Call (.Name "zip" p2) [a,b] [] pos2] X.env=[(ac,Ff (.Call (.Name "zip" p2) [a,b] [] pos2) X.env)]:=by rfl)(hs:Cr [a,b] X.env=[(ac,Ff a X.env),(ac,Ff b X.env)]:=by rfl)(hs2:Cr [b] X.env=[(ac,Ff b X.env)]:=by rfl):
  E3 X (.Call (.Name "dict" p) [.Call (.Name "zip" p2) [a,b] [] pos2] [] pos) (JC ta):=by
 intro af s Z H Q I z0;let#[τ,M,R,as,am,h,k]:=z0;show Ek<|gO I hg hm (by decide +kernel:Cy "dict" = aa (.type "dict"))<|Ce 8 hs1 rfl;rw[hs1];show Lj (Ek<|gO I hg2 hm2 FK<|Ce (aY (ha pos2 af s Z H (λvs H1=>∃ws M1,Kp H M H1 M1/\AM X.K H1 M1/\aJ X.K H1 M1 vs ws/\∃ps:↑(↑aC×W),ws=[.rl<|ps.map λp=>.tup<|p.1.map wK,.rl<|ps.map λp=>p.2]/\R (.dt<|gT [] ps) M1) I #[τ,M,_,as,am,h,λvs H1 ws M1 k1 am1 ax r=>#[ws,M1,k1,am1,ax,r]]) λus s1 z1=>8) (by rw[hs,hs2])<|by rw[hs2];rfl);show Ir 8 (λv s2 hv=>Lz hv) λ_ _ e=>e;let#[vs,H1,I1,r1,ws,M1,k1,am1,ax,ps,rfl,r]:=z1;let#[v,u,rfl,av,au]:=ax.two;let#[l1,xs,rfl,f1,n1,q1]:=av.inv;let#[l2,ys,rfl,f2,n2,q2]:=au.inv;let#[x1,x2,rfl,ru,rv]:=vals2 r1;ext ru;ext rv;let#[i1,rv1,pl,hz]:=I1.list<|bO.of f1;let#[i2,rv2,pl2,_]:=I1.list<|bO.of f2;let#[qs,f,rfl,rfl]:=zex q1 q2 rv1 rv2;rw[↥q1,Ab]at hz;show Zd.call_zip (E:=X.xe) (ps:=qs.map qR) (I1.ok.hd hc) hu pl.isList pl2.isList (by rw[Ab,<-Ab (f:=qV),Cv f.1];show hz) (λj=>8) (λj=>8) (f.keys I1) λh' tk d hd hk dd=>8
 .rw[Gr,Au,Au,Qc];rfl
 .rw[Gr,Au,Au,Qc];rfl
 .let#[am2,k2]:=am1.tup (u:=.dT<|mD []<|qs.map qV)<|I1.hok.fresh hd;show#[!d,_,f.laid I1 hz hd hk dd,7,k _ _ _ _ (k1.trans k2) am2 (.dt b8 (am1.nonM<|I1.hok.fresh hd) f.puts.keys<|f.puts.vals.newT<|I1.hok.fresh hd) r]
end
section
variable {X:Cx}
def BJ:↑W->Mm->K3->Prop
 | [.rl ws],M,R=>∃ps:↑(↑aC×W),ws=pB ps/\↥ws<=Aw/\j0 (gT [] ps) M R
 | _,_,_=>False
def zez(hc:X.calm=ab)(D:X.A.units+2<Fs):cM X (.type "dict") (eS X.K BJ):=by
 rintro af s Z H xs us Q I rs ⟨ws,M,R,U,Y,h,k⟩
 match ws,h with
 | [.rl ws],h=>
  let#[v,rfl,av]:=Y.one;let#[ps,rfl,hz,r]:=h;let#[u,rfl,ru]:=vals1 rs;cases av with
  | rl f n q=>
   ext ru;let#[z,its,c,m,hl,e]:=I.lstM f;let#[qs,f,W,G]:=zew I q m;rw[pB,Ab]at hz;let y:=I.hok.fresh<|Aj _;show Dt.call_pairs (items:=its.toArray) (ps:=qs.map qR) (I.ok.hd hc) D e (by rw[Ab];show W) (by rw[Bg,<-W,<-Ab (f:=qV),Cv f.1];show hz) (f.keys I) (λj p F=>8) λh' tk hk x=>8
   .rw[Au]at F;let#[q,N,rfl]:=Ay.mp F;rw[Gr];show G j q N
   .let#[P,k2]:=U.laid (o:=.dT<|gT [] ps) (u:=.dT<|mD []<|qs.map qV) y #[_,b8,oJ f.puts.keys<|f.puts.vals.newL y];show#[!⇑s,_,f.laid I hz (Aj _) hk x,7,k _ _ _ _ k2 P (!_)<|r _<|U.nonM y]
end
def wW(rs:↑aD)(ws:↑Av):Prop:=∀r∈rs,∀t∈r.parts,ownB rs t=ac->t∈ws
structure GL(rs:↑aD):Prop where
 few:↥rs<=500
 prt:∀r∈rs,↥r.parts<=04
 wds:∃U:↑Av,↥U<64/\wW rs U
def BK(h:acc.Nodup):(dC acc t).Nodup:=by
 ext dC;split
 .show h
 .rename_i K;rw[Cf];show#[h,6,λa S b Z e=>K 8];have:b=t:=by simpa using Z
  rw[<-this,<-e];show S
def K8(rs:↑aD):↥(namesOf rs)<=↥rs:=by
 have:∀(qs:↑aD) (acc:↑Av),↥(mE acc qs)<=↥acc+↥qs:=by
  intro qs
  induction qs with
  | nil=>intro acc;show Aj _
  | cons r qs E=>
   intro acc;let L:=E<|dC acc r.name;let Y:↥(dC acc r.name)<=↥acc+1:=by ext dC;split<;>simp
   change(mE (dC acc r.name) qs).length<=_;rw[Bl];lia
 have:=this rs [];rw[Iw,Jb]at this;show this
def BL{g:Type}{l:↑g}{k:Nat}{x:g}(h:l[k]? = aa x):l.take (k+1)=l.take k++[x]:=by
 rw[List.take_succ,h];rfl
def gA{b i:Type}[DecidableEq b]{t:↑(b×i)}{k:b}:(cB t k).isSome=ab↔k∈t.map (·.1):=by
 rw[<-jO,Gb,Ap];show#[λV=>by let#[x,h,e]:=V;show#[x,h,Xv e],λA=>by let#[x,h,e]:=A;show#[x,h,Xw e]]
theorem BM{P:Av->W->Prop}:∀{fs:↑cI} {ys:↑W},Dz (λw y=>∃f v,w=W.tup ((fK f).map wK)/\y=W.tup [.str f.1,v]/\P f.1 v) (fs.map λf=>W.tup<|(fK f).map wK) ys->∃kvs:↑(aC×W),ys=oS kvs/\kvs.map (·.1)=(fs.map λf=>(Sum.inr f.1:aC))/\∀e∈kvs,∀X,e.1=Sum.inr X->P X e.2
 | [],_,h=>by ext h;show#[[],7,7,λ_ h=>nomatch h]
 | f::fs,_,h=>by
  cases h with
  | cons a b=>
   obtain⟨⟨n,i,j⟩,v,e,rfl,hp⟩:=a;let#[kvs,rfl,h2,h3]:=BM b;ext e;show#[(Sum.inr f.1,v)::kvs,7,by rw[Be,Be,h2],λe he X hX=>(Bd.mp he).elim (λz=>by subst z;ext hX;show hp) λz=>h3 e z X hX]
theorem K9{k:aC}{v:W}:∀{ps acc:↑(aC×W)},aN (j9 acc ps) k=-v->(k,v)∈ps\/aN acc k=-v
 | [],acc,h=>.inr h
 | p::ps,acc,h=>by
  rcases K9 (ps:=ps) (acc:=bU acc p.1 p.2) h with z|z
  .show .inl<|.tail _ z
  .rw[mF]at z
   by_cases e:p.1=k
   .rw[Xu e]at z;ext z;rw[<-e];show .inl<|.head _
   .rw[Xs e]at z;show .inr z
theorem LA:∀{ps acc:↑(aC×W)},(aN (j9 acc ps) k).isSome=((aN acc k).isSome||ps.any λp=>decide<|p.1=k)
 | [],acc=>by simp[j9]
 | p::ps,acc=>by
  change(aN (j9 (bU acc p.1 p.2) ps) k).isSome=_;rw[LA,mF]
  by_cases e:p.1=k
  .rw[Xu e,Fx,Xw e];simp
  .rw[Xs e,Fx,Xx e,Nl]
def LB{w:Bool}(hw:∀r∈rs,∀t∈r.parts,ownB rs t=ac->(t∈ss↔w=ab))(F:mJ (jP rs ss) B)(h:kvs.map (·.1)=(B.map (·.1)).map λf=>(Sum.inr f.1:aC))(X:Av):(aN (j9 [] kvs) (Sum.inr X:aC)).isSome=mK rs w X:=by
 rw[LA,show(aN ([]:↑(aC×W)) (Sum.inr X:aC)).isSome=ac from rfl,Nl,Ef,Gb,nO,<-zcE hw F X];let hm:(∃x∈kvs,decide (x.1=(Sum.inr X:aC))=ab)↔(Sum.inr X:aC)∈kvs.map (·.1):=by simp
 rw[hm,h,Ap];constructor
 .rintro⟨f,h1,h2⟩;let#[r,_,e]:=J3 F h1;ext h2;rw[e]at h1⊢;show h1
 .show λz=>#[_,z,7]
def eE(rs:↑aD)(t:Av):Bool:=mK rs ab t||!(ownB rs t)
def fW(rs:↑aD):↑aD:=rs.filter λr=>r.parts.all<|eE rs
noncomputable def cU(rs:↑aD)(D:↑Av)(t:Av):Bool:=decide (t∈D)||!(ownB rs t)
noncomputable def fN(rs:↑aD)(D:↑Av)(r:aD):↑Av:=if r.parts.any (cU rs D)=ab then dC D r.name else D
def gV(rs:↑aD)(D:↑Av):↑Av:=(fW rs).foldl (fN rs) D
def eO(rs:↑aD):Nat->↑Av
 | 0=>[]
 | n+1=>gV rs<|eO rs n
def LC(rs:↑aD)(D:↑Av)(r:aD):∃q,fN rs D r=D++q:=by
 unfold fN dC;split
 .split
  .show#[[],6]
  .show#[_,7]
 .show#[[],6]
theorem wX(rs:↑aD):∀(qs:↑aD) (D:↑Av),∃q,qs.foldl (fN rs) D=D++q
 | [],D=>#[[],6]
 | r::qs,D=>by
  let#[a,S]:=LC rs D r;let#[b,Z]:=wX rs qs<|fN rs D r;rw[Gw,Z,S,Bs];show#[_,7]
def zeA(h:↥(gV rs D)<=↥D):gV rs D=D:=by
 let#[q,N]:=wX rs (fW rs) D;let e:gV rs D=D++q:=N;rw[e,Ag]at h;have:q=[]:=Gz.mp 9;rw[e,this,Bv]
structure Wd(rs:↑aD)(D:↑Av):Prop where
 nd:D.Nodup
 own:∀X∈D,ownB rs X=ab
 why:∀X∈D,∃r∈rs,r.name=X/\(∀t∈r.parts,eE rs t=ab)/\∃p∈r.parts,p≠X/\(p∈D\/ownB rs p=ac)
def Wd.nil(rs:↑aD):Wd rs []:=#[Gu,(λ_ h=>nomatch h),(λ_ h=>nomatch h)]
def wY:r∈fW rs↔r∈rs/\∀t∈r.parts,eE rs t=ab:=by
 ext fW;rw[Dy,Fl]
def Wd.step(d:Wd rs D)(G:r∈fW rs):Wd rs (fN rs D r):=by
 ext fN;split
 .rename_i h
  by_cases J:r.name∈D
  .unfold dC;rw[Xu J];show d
  .let#[L,Y]:=wY.mp G;let#[p,B,a]:=Gb.mp h;let e:dC D r.name=D++[r.name]:=by ext dC;rw[Xs J]
   show#[BK d.nd,λX Q=>8,λX Q=>8]
   .rcases kU.mp Q with z|z
    .show d.own X z
    .rw[z];show qM L
   .rcases kU.mp Q with z|z
    .let#[q,N,i,f,t,V,W,b]:=d.why X z;show#[q,N,i,f,t,V,W,8];rcases b with y|y
     .show .inl<|kU.mpr<|.inl y
     .show .inr y
    .unfold cU at a;rw[Ts]at a;show#[r,L,z.symm,Y,p,B,8,8]
     .rintro rfl;rcases a with y|y
      .rw[z]at y;show J<|Xv y
      .rw[z,qM L]at y;ext y
     .rcases a with y|y
      .show .inl<|kU.mpr<|.inl<|Xv y
      .right;cases e:ownB rs p with
       | false=>rfl
       | true=>rw[e]at y;ext y
 .show d
theorem Wd.fold:∀{qs:↑aD} {D:↑Av},Wd rs D->(∀r∈qs,r∈fW rs)->Wd rs (qs.foldl (fN rs) D)
 | [],D,d,_=>d
 | r::qs,D,d,h=>Wd.fold (qs:=qs) (d.step<|h r Bj) λq N=>h q<|Bi _ N
theorem Wd.rounds(rs:↑aD):∀n,Wd rs (eO rs n)
 | 0=>Wd.nil rs
 | n+1=>Wd.fold (Wd.rounds rs n) λ_ h=>h
def Wd.len(d:Wd rs D):↥D<=↥(namesOf rs):=len_sub d.nd λx S=>Xv<|d.own x S
def LD(h:gV rs D=D)(G:r∈fW rs)(B:∃p∈r.parts,cU rs D p=ab):r.name∈D:=by
 let mono:∀(qs:↑aD) (E:↑Av),(∀x∈D,x∈E)->r∈qs->r.name∈qs.foldl (fN rs) E:=by
  intro qs
  induction qs with
  | nil=>intro E _ h;ext h
  | cons q qs A=>
   intro E T J;rw[Gw];let a:∀x∈D,x∈fN rs E q:=λx S=>by
    let#[z,e]:=LC rs E q;rw[e];show Bf _<|T x S
   rcases Bd.mp J with rfl|z
   .let#[z,e]:=wX rs qs<|fN rs E r;rw[e];show Bf _ 8;ext fN;rw[Xu]
    .show kU.mpr<|.inr rfl
    .let#[p,L,Y]:=B;show Gb.mpr #[p,L,8];unfold cU at Y⊢;rw[Ts]at Y⊢;rcases Y with y|y
     .show .inl<|Xw<|T p<|Xv y
     .show .inr y
   .show A _ a z
 have:=mono (fW rs) D (λ_ h=>h) G;let e:(fW rs).foldl (fN rs) D=D:=h;rwa [e]at this
abbrev iC:=↑Av×↑W
noncomputable def gW(keep drop:Av->Bool)(E:Av->W)(told:↑iC)(t:Av):↑iC:=
 (if keep t=ab then told.map λx=>(x.1++[t],x.2++[W.int ↥x.1]) else [])++(if drop t=ab then told.map λx=>(x.1,x.2++[W.tup [.str "whole",E t]]) else [])
noncomputable def kY(keep drop:Av->Bool)(E:Av->W)(ps:↑Av):↑iC:=ps.foldl (gW keep drop E) [([],[])]
section
variable {keep drop:Av->Bool}{E:Av->W}
def zeB(told:↑iC)(t:Av):↥(gW keep drop E told t)<=2*↥told:=by
 ext gW;rw[Ag];split<;>split<;>simp<;>lia
theorem LF:∀(ps:↑Av) (told:↑iC),↥(ps.foldl (gW keep drop E) told)<=2 ^ (↥ps)*↥told
 | [],told=>6
 | t::ps,told=>by
  let L:=LF ps<|gW keep drop E told t;let Y:=zeB (keep:=keep) (drop:=drop) (E:=E) told t;rw[Gw,Bl,Vm]
  calc _<=2 ^ (↥ps)*↥(gW keep drop E told t):=L
   _<=2 ^ (↥ps)*(2*↥told):=Gm _ Y
   _=2 ^ (↥ps)*2*↥told:=by rw[Nat.mul_assoc]
end
def zeC(I:gV rs D=D)(h:fM rs ab X):X∈D\/fM rs ac X:=by
 induction h with
 | @mk r G B _ E=>
  by_cases hw:∃p∈r.parts,cU rs D p=ab
  .show .inl<|LD I (wY.mpr #[G,λt ht=>8]) hw;ext eE;cases f:ownB rs t with
   | true=>rw[nO.mpr<|B t ht f];rfl
   | false=>show Od _
  .let no:∀t∈r.parts,ownB rs t=ac->False:=λt ht f=>hw #[t,ht,by ext cU;rw[f];show Od _];show .inr<|.mk G (λt ht f=>(E t ht f).resolve_left λz=>hw #[t,ht,by ext cU;rw[Xw z];rfl]) λt ht f=>(no t ht f).elim
def zeD(I:gV rs D=D)(h:eE rs t=ab):cU rs D t=ab\/fM rs ac t:=by
 unfold eE at h;rw[Ts]at h;rcases h with z|z
 .rcases zeC I (nO.mp z) with y|y
  .left;ext cU;rw[Xw y];rfl
  .show .inr y
 .left;ext cU;rw[z];simp
def LG{P ss:↑Int}{i:Nat}{s d:Int}(h:Drawn P<|ss.take i)(l:ss[i]? = aa s)(hd:Below d s):Drawn (P++[d]) (ss.take<|i+1):=by
 rw[Bx,l];show Ve h hd
def zeE{f:Int->W}{ss:↑Int}{i:Nat}{s:Int}(h:ss[i]? = aa s):bP (ss.map f) (i:Int)=-f s:=g9 (by rw[Au,h];rfl)
def sW{ts:↑Av}{k:Int}(Z:0<=k)(L:k<↥ts):∃t,bP (ts.map W.str) k=-.str t/\t∈ts:=by
 let#[x,e,J,_]:=vM (xs:=ts.map W.str) Z (by rw[Ab];show L);rw[Au]at J;let#[t,ht,rfl]:=Ay.mp J;show#[t,e,Ah ht]
def zeF:bE sR zdb zc5:=by
 rintro _ M R ⟨c,ss,rfl,hl,l,r⟩;let a:pJ 10 18:=#[by decide,by decide,by decide];show(λp B=>#[a,_,7,by rw[Ab];lia,by rw[Ab];lia,8]);rw[Ab,Cq];show c8 (λi O F=>∃P rest o,O=[aa ¬c,-.rl (ss.map W.int),aa !p,aa ¬rest,o]/\F=put M p (.lst<|P.map W.int)/\Drawn P (ss.take i)) #[[],_,_,7,7,by rw[List.take_zero];show .nil] 8 8
 .rintro i w O F hw ⟨P,rest,o,rfl,rfl,hd⟩ X I;let#[hi,rfl]:=qP hw;rw[Oe];obtain⟨s,n⟩:∃s,ss[i]? = aa s:=#[_,Bh hi];let#[f,s1]:=l s<|Ah n;let N:bP (ss.map W.int) (i:Int)=aa (¬s):=zeE n;let k:=Cv hd;rw[Ct]at k;let x:↥(P.map W.int)<Aw:=by rw[Ab];show cS 9
  show#[a,fV (λ_=>8) λ_=>8]
  .show#[.inl #[7,_,aI],so.of N #[f,_,aI,x,so.of N #[#[f,Int.lt_of_le_of_lt s1 ∅],I _ _ #[P++[rest % s],_,_,7,by rw[bV,Ar];rfl,LG hd n #[Ga _ 9,Fb _ f]]]]]
  .show#[.inl #[7,_,aI],c,_,7,9,9,λz Z L=>(so.of N #[f,_,aI,x,I _ _ #[P++[z % s],_,_,7,by rw[bV,Ar];rfl,LG hd n #[Ga _ 9,Fb _ f]]])]
 .rintro O F ⟨P,rest,o,rfl,rfl,hd⟩;rw[pA,Bn]at hd;show#[_,aV,r P hd p B]
def zeG:bE A8 zdg zdc:=by
 rintro _ M R ⟨n,m,g,rfl,Z,O,r⟩;let key:∀L,L=kW g->(aF J9<|aF KA<|aF KC<|aF KD<|aF KG<|aF KH KI) (kT R) [aa ¬n,aa ¬m,-.bl g,-.str L,ae,ae,ae,ae,ae,ae,ae] M:=by
  rintro L rfl;let#[e,ecp,K]:=JL (AZ g) n;let C:↥(kW g)<=16777216:=by rw[<-rO,AZ];decide
  let J:0<=n/26 % 08:=Ga _ ∅;let V:n/26 % 08<08:=Fb _ ∅;let f:0<=n/208 % (1+n/26 % 08):=Ga _ 9;let s:n/208 % (1+n/26 % 08)<1+n/26 % 08:=Fb _ 9;let A:(0:Int)<26:=by decide
  let p8:(0:Int)<08:=by decide
  show#[A,C,so.of ecp #[#[by decide,by decide],p8,#[by decide,by decide],show 0<1+n/26 % 08 by lia,#[by decide,by decide],A,λp B=>#[m,7,9,9,8]]];let y:↥(#[[e].toArray]:Av)=1:=rfl;obtain⟨N,hfi⟩:∃N,N=n/1664 % 26:=#[_,7];obtain⟨j,hsv⟩:∃j,j=n/26 % 08:=#[_,7];rw[<-hsv]at J V f s;obtain⟨av,hav⟩:∃av,av=n/208 % (1+j):=#[_,7];rw[<-hav]at f s;show c8 (λi U F=>∃(ts:↑Av) (b a:Option W),U=[aa ¬n,aa ¬m,-.bl g,-.str (kW g),-.str #[[e].toArray],-.int (1+j),aa ¬av,aa ¬N,aa !p,b,a]/\
   F=put M p (.lst<|ts.map W.str)/\↥ts=i/\∀t∈ts,v3 g t) #[[],ae,ae,by rw[hfi,hav,hsv];rfl,7,7,λt ht=>nomatch ht] 8 8
  .rintro i w U F hw ⟨ts,b,a,rfl,rfl,E,ht⟩ X I;let#[hi,rfl]:=qP hw;rw[Oe];let#[d,hd,hdm]:=JL (AZ g)<|N+3*(i:Int);let Q:(↥(Jm (#[[e].toArray]:Av) av):Int)=av:=JK y f;let Y:(↥(Jm (#[[e].toArray]:Av)<|1+j-av-1):Int)=1+j-av-1:=JK y 9;let k:↥(#[[d].toArray]:Av)=1:=rfl;let l12:↥(Jm (#[[e].toArray]:Av) av++(#[[d].toArray]:Av))=↥(Jm (#[[e].toArray]:Av) av)+1:=by rw[Nx,k]
   let H:↥(Jm (#[[e].toArray]:Av) av++(#[[d].toArray]:Av)++Jm (#[[e].toArray]:Av) (1+j-av-1))=↥(Jm (#[[e].toArray]:Av) av)+1+↥(Jm (#[[e].toArray]:Av)<|1+j-av-1):=by rw[Nx,l12]
   show#[.inl<|.inl #[by decide,by decide],A,C,so.of hd 8];show#[.inl #[7,_,aI],_,_,7,7,by rw[y];decide,9,9,_,_,7,7,small 9,_,_,7,7,by rw[y];decide,9,9,_,_,7,7,small 9,_,aI,cS<|by rw[Ab];lia,8];generalize S:Jm (#[[e].toArray]:Av) av++(#[[d].toArray]:Av)++Jm (#[[e].toArray]:Av) (1+j-av-1)=x at H⊢;let o:↥x<=08:=9
   let G:∀z∈cs x,z∈cs (kW g):=λz hz=>by
    rw[<-S,pP,pP]at hz;rcases Az.mp hz with q|q
    .rcases Az.mp q with q|q
     .have:=JJ q;rw[A1,Ae]at this;rw[this];show K
     .rw[A1,Ae]at q;rw[q];show hdm
    .have:=JJ q;rw[A1,Ae]at this;rw[this];show K
   let u:cs x≠[]:=λz=>by
    have:↥x=0:=by rw[<-rO,z];rfl
    lia
   let T:ts.map W.str++[W.str x]=(ts++[x]).map W.str:=by rw[Ar];rfl
   rw[bV,T];let c:∀o9' v,X.nx [aa ¬n,aa ¬m,-.bl g,-.str (kW g),-.str #[[e].toArray],-.int (1+j),aa ¬av,aa ¬N,aa !p,o9',v] (put M p<|.lst<|(ts++[x]).map W.str):=λo9' v=>by
    show I _ _ #[ts++[x],_,_,7,7,by rw[Ag,E];rfl,λt h=>8];rcases Az.mp h with q|q
    .show ht t q
    .rw[Ae.mp q];show zcb o u G
   show(fV (λhg=>#[#[by decide,by decide],(by decide:(0:Int)<3),fV (λ_=>#[#[by decide,by decide],Lv i,fV (λ_=>8) λ_=>c _ _]) λ_=>c _ _]) λ_=>c _ _);let hk:bP ((ts++[x]).map W.str) (i:Int)=-.str x:=by
    show g9 8;rw[Au,Ii 9,E];simp
   let l:↥("_" : Av)=1:=5
   let D:0<=n/129792 % 10000:=Ga _ ∅;let P:n/129792 % 10000<10000:=Fb _ ∅;let hfl:↥(Bz<|toString<|n/129792 % 10000)<=10:=Qb D 9;let hxu:↥(x++("_" : Av))=↥x+1:=by rw[Nx,l]
   subst hg;show lY aI hk<|#[_,_,7,7,small 9,#[by decide,by decide],(by decide:(0:Int)<10000),JN D P,_,_,7,7,small 9,AJ aI 9 (by rw[Ab,Ag,Cd];lia)<|I _ _ #[ts++[x++("_" : Av)++Bz (toString<|n/129792 % 10000)],_,_,7,8,by rw[Ag,E];rfl,λt h=>8]]
   .rw[bV,Ar,Ar];congr 2;rw[List.set_append_right _ _<|by rw[Ab,E];lia,Ab,E,Cq,Mj];rfl
   .rcases Az.mp h with q|q
    .show ht t q
    .rw[Ae.mp q];show JM _ D P o u G
  .rintro U F ⟨ts,b,a,rfl,rfl,E,ht⟩;rw[pA]at E;show#[_,aV,r ts E ht p B]
 cases g with
 | true=>show#[7,5,key _ rfl]
 | false=>show(key _ rfl)
def zeH(m:Nat):(Cb m [W.int 06]).flatten=(Cb m (06:Int)).map W.int:=by
 induction m with
 | zero=>rfl
 | succ m E=>rw[Hl,Kg,E,Hl];rfl
def zeI{x1 x2 x3 x4:Int}(h:w∈dJ (([x1,x2,x3,x4]++y).map W.int) (aa 04) hi):∃d∈y,w=¬d:=by
 unfold dJ at h;let e:HT.sIx ↥(([x1,x2,x3,x4]++y).map W.int) 0 (aa 04)=04:=by
  have:=HT.sIx_nat ↥(([x1,x2,x3,x4]++y).map W.int) 0 04;simp at this⊢;lia
 rw[e]at h;let h:=Ft h;let#[d,hd,rfl]:=Ap.mp (show w∈y.map W.int from h);show#[d,hd,7]
def zeJ:bE J6 zdn zdh:=by
 rintro _ M R ⟨c,l,wds,f,rfl,hh0,hh1,hw,hm0,Q,r⟩;let pw:pJ 10 59:=#[by decide,by decide,by decide];let z6:∀{n:Nat},n<=20->n<=Aw:=λh=>small<|Am h ∅;show#[pw,9,9,z6<|by change 1*f.toNat<=20;lia,8];rw[zeH];show#[z6<|by change 04+↥(Sg W.int _)<=20;rw[Ab,Ka];lia,c,[(↥l:Int),f+1,3,10 ^ 59]++Cb f.toNat 06,by rw[Ar,Ab];rfl,by rw[Ag,Ka];change 04+_<=100;lia,λs g=>8,λP hd=>aO.frz 8]
 .rcases Az.mp g with q|q
  .simp at q;rcases q with rfl|rfl|rfl|rfl
   .show#[9,Pw (show(↥l:Int)<=12 by lia) ∅]
   .show#[9,Pw (show f+1<=05 by lia) ∅]
   .show#[by decide,by decide]
   .show#[by decide,by decide]
  .rw[(List.mem_replicate.mp q).2];show#[by decide,by decide]
 .let#[K,y,rfl,T,J]:=zcc hd;let#[x1,x2,x3,x4,rfl,U,v,b3,V]:=zcd T;let b6:=JO J (s:=06) λz hz=>(List.mem_replicate.mp hz).2;let b:bP (([x1,x2,x3,x4]++y).map W.int) 0=aa (¬x1):=l9 _ _;let A:bP (([x1,x2,x3,x4]++y).map W.int) 1=aa (¬x2):=g9 (j:=1) rfl;let o:bP (([x1,x2,x3,x4]++y).map W.int) 2=aa (¬x3):=g9 (j:=2) rfl;let a3:bP (([x1,x2,x3,x4]++y).map W.int) 3=aa (¬x4):=g9 (j:=3) rfl;show(λp B=>(so.of A 8));change oO (dJ (([x1,x2,x3,x4]++y).map W.int) (aa 04)<|aa<|04+x2) _ _ _ _ _ _;let L:=vN (S:=([x1,x2,x3,x4]++y).map W.int) (i:=04) (j:=04+x2) ∅ (by have:=v.1;lia);let hcm:∀w∈dJ (([x1,x2,x3,x4]++y).map W.int) (aa 04) (aa<|04+x2),∃d,Below d 06/\w=¬d:=λw N=>by
   let#[d,hd,e]:=zeI N;show#[d,b6 d hd,e]
  generalize dJ (([x1,x2,x3,x4]++y).map W.int) (aa 04) (aa<|04+x2)=cw at *;let#[b10,b11]:=U;let#[b20,b21]:=v;let#[b30,b31]:=b3;let#[b40,b41]:=V;show c8 (λi O F=>∃(ts:↑Av) (H:Option W),O=[aa ¬c,-.rl (l.map W.str),-.rl (wds.map W.str),aa ¬f,-.rl (([x1,x2,x3,x4]++y).map W.int),aa !p,H]/\
   F=put M p (.lst<|ts.map W.str)/\↥ts=i/\∀t∈ts,t∈wds\/t∈l) #[[],ae,7,7,7,λt ht=>nomatch ht] 8 8
  .rintro i w O F N ⟨ts,H,rfl,rfl,E,ht⟩ X I;let hi:=(An.mp N).1;obtain⟨d,⟨hd0,hd1⟩,rfl⟩:=hcm w<|Ah N;let fin:∀t,(t∈wds\/t∈l)->X.nx [aa ¬c,-.rl (l.map W.str),-.rl (wds.map W.str),aa ¬f,-.rl (([x1,x2,x3,x4]++y).map W.int),aa !p,aa ¬d] (put (put M p<|.lst<|ts.map W.str) p<|.lst<|ts.map W.str++[.str t]):=λt ht'=>
    I _ _ #[ts++[t],_,7,by rw[bV,Ar];rfl,by rw[Ag,E];rfl,λu Z=>(Az.mp Z).elim (ht u) λq=>by rw[Ae.mp q];show ht']
   let x:↥(ts.map W.str)<Aw:=by rw[Ab];show cS 9
   show(fV (λD=>8) λ_=>8)
   .let D:d<3:=Xv D;let#[t,e,m]:=sW (ts:=wds) (k:=d) hd0 9;show#[.inl #[7,_,aI],so.of e #[_,aI,x,fin t<|.inl m]]
   .let hpos:(0:Int)<(↥(l.map W.str):Int):=by rw[Ab];lia
    let#[t,e,m]:=sW (ts:=l) (k:=(d-3+x1) % (↥(l.map W.str):Int)) (Ga _ 9) (by have:=Fb (d-3+x1) hpos;rw[Ab]at this⊢;show this);show#[.inl #[7,_,aI],so.of b #[hpos,so.of e #[_,aI,x,fin t<|.inr m]]]
  .rintro O F ⟨ts,H,rfl,rfl,E,ht⟩;let#[nm,en,mn]:=sW (ts:=l) (k:=x1) b10 b11;let#[cb,ecb,_,mcb]:=vM (xs:=[W.int 1,W.int 10,W.int<|10 ^ ((59:Int).toNat)]) (i:=x3) b30 (by change x3<3;lia);let Y:∃q:Int,cb=¬q/\0<q/\q<=10 ^ 59:=by
    rcases Bd.mp mcb with rfl|mcb
    .show#[_,7,by decide,by decide]
    rcases Bd.mp mcb with rfl|mcb
    .show#[_,7,by decide,by decide]
    .rw[Ae.mp mcb];show#[_,7,by decide,by decide]
   let#[q,rfl,G,C]:=Y;let a:=Fb x4 G;show(so.of b<|so.of en #[_,aI,so.of a3 #[pw,so.of o<|so.of ecb #[G,_,Sub.new B,r #[nm,ts,x4 % q] #[mn,ht,by change ↥ts<=04;lia,Ga _ 9,Int.lt_of_lt_of_le a<|Pw C ∅]<|by change(↥ts:Int)<=f;lia]]])
def Paired.rules{f:Int}(h:Dz (λ_ y=>∃r,y=bK r/\oV l wds r/\(↥r.parts:Int)<=f) xs Z):∃rs:↑aD,Z=rs.map bK/\↥rs=↥xs/\∀r∈rs,oV l wds r/\(↥r.parts:Int)<=f:=by
 induction h with
 | nil=>show#[[],7,7,λr G=>nomatch G]
 | cons a b E=>
  let#[r,rfl,L]:=a;let#[rs,rfl,hl,Y]:=E;show#[r::rs,7,by simp[hl],λq N=>8];rcases Bd.mp N with rfl|N
  .show L
  .show Y q N
def zeK:bE J7 zdw zdo:=by
 rintro _ M R ⟨A,j,f,rfl,hi,hl,hm0,hm1,ho0,ho1,r⟩;let pw:pJ 10 09:=#[by decide,by decide,by decide];let V:∀{n:Nat},n<=3->n<=Aw:=λh=>small<|Am h ∅;show#[A,0,.inr rfl,hi,by decide,λc=>#[pw,pw,c,[10 ^ 09,10 ^ 09],7,by decide,λs l=>8,λP hd=>aO.frz 8]]
 .rcases Bd.mp l with rfl|l
  .show#[by decide,by decide]
  .rw[Ae.mp l];show#[by decide,by decide]
 let#[x1,x2,rfl,U,K]:=zce hd;show#[7,7,x1,j,ab,7,9,9,λl hsl hhs=>aO.frz #[x2,3,ac,7,by decide,by decide,λwds S tQ=>aO.frz 8]];let S:↥wds=3:=S;show sJ (ws:=dJ A (aa 1) ae) (rest:=[-.rl (l.map W.str),-.rl (wds.map W.str),aa ¬f]) (λ_ y=>∃r,y=bK r/\oV l wds r/\(↥r.parts:Int)<=f) (small<|by have:=HZ (ws:=A) (lo:=aa 1) (hi:=ae);lia) (λ_ _=>trivial) (λw hw F C sb L=>8) λm x p B=>8
 .let#[i,rfl]:=hi w<|AI hw;show#[i,l,wds,f,7,9,9,S,9,9,λr Y D=>L _ #[r,7,Y,D]]
 let#[rs,rfl,hrl,J]:=Paired.rules x;let X:=HZ (ws:=A) (lo:=aa 1) (hi:=ae);let o:↥(dJ A (aa 1) ae)<=↥A-1:=by
  ext dJ;let T:HT.sIx ↥A 0 (aa ((1:Nat):Int))=min 1 ↥A:=by rw[HT.sIx_nat]
  rw[show(aa 1:Option Int)=aa ((1:Nat):Int) from rfl,T,Ct,Eo];show Am (Kv _ _) 8;cases ↥A
  .show Aj _
  .rw[Nv<|Ln 1 _];show Aj _
 let#[E,ew,mw]:=sW (ts:=wds) (k:=0) ∅ 9;show c8 (λi O F=>∃(qs:↑aD) (g:Option W),O=[-.rl A,aa ¬j,aa ¬f,aa ¬x1,aa ¬x2,-.rl (l.map W.str),-.rl (wds.map W.str),aa !p,g]/\
   F=put M p (.lst<|qs.map bK)/\↥qs<=↥rs+i/\(∀r∈qs,oV l wds r/\(↥r.parts:Int)<=f)/\(∀t∈l.take i,∃r∈qs,r.name=t)/\∀r∈qs.drop ↥rs,↥r.parts<=1) #[rs,_,7,7,9,J,6,6] 8 8
 .rintro i w O F hw ⟨qs,g,rfl,rfl,hql,N,z,hdr⟩ Q I;rw[Au]at hw;let#[t,ht,rfl]:=Ay.mp hw;let hilt:=(An.mp ht).1;let htm:t∈l:=Ah ht;show#[_,aI,8];show l8 (rest:=[]) (λw=>match w with|.tup (n::_)=>n|_=>.non) (small<|by rw[Ab];lia) (λF sb=>sb _ _ aI) (λw hw F C sb L=>8) (aO.frz 8)
  .let#[q,_,rfl]:=Ap.mp hw;show L
  let em:(qs.map bK).map (λw=>match w with|.tup (n::_)=>n|_=>W.non)=(qs.map aD.name).map W.str:=by
   rw[Bp,Bp];rfl
  rw[em];show#[7,wL _,8];change if (!(inW (.str t)<|(qs.map aD.name).map W.str))=ab then _ else _;rw[wJ];let cov:∀qs':↑aD,(∀r∈qs,r∈qs')->(∃r∈qs',r.name=t)->∀u∈l.take (i+1),∃r∈qs',r.name=u:=λqs' hsub hex u Z=>by
   rw[Bx,ht]at Z;rcases Az.mp Z with q|q
   .let#[r,G,e]:=z u q;show#[r,hsub r G,e]
   .simp at q;subst q;show hex
  show fV (λ_=>8) λv=>8
  .show#[.inl #[7,_,aI],so.of ew #[_,aI,cS<|by rw[Ab];lia,I _ _ #[qs++[#[t,[E],0]],_,7,by rw[bV,Ar];rfl,by rw[Ag,Cd];lia,λr G=>8,cov _ (λr G=>Bf _ G) #[#[t,[E],0],6,7],λr G=>by
    rw[List.drop_append]at G;rcases Az.mp G with G|G
    .show hdr r G
    .rw[Ae.mp<|Nm G];show Aj 1]]]
   rcases Az.mp G with G|G
   .show N r G
   .rw[Ae.mp G];show#[#[htm,λu Z=>.inl<|by rw[Ae.mp Z];show mw,by change 1<=04;decide,by change(0:Int)<=0;decide,by change(0:Int)<10 ^ 60;decide],by change(1:Int)<=f;lia]
  .let hin':t∈qs.map aD.name:=Xv (by rw[<-Ge (decide _),v];rfl);let#[H,hr0,d]:=Ap.mp hin';show I _ _ #[qs,_,7,7,9,N,cov _ (λr G=>G) #[H,hr0,d],hdr]
 .rintro O F ⟨qs,g,rfl,rfl,hql,N,z,hdr⟩;rw[Ab]at hql;rw[Ab,Bn]at z;let hsn:↥l=j.toNat:=hsl;show#[_,aV,r qs #[λe=>8,9,l,wds,9,λt ht=>hhs t ht,λt ht=>tQ t ht,λr G=>(N r G).1,z] (λr G=>(N r G).2) #[l,wds,9,S,λt ht=>hhs t ht,λt ht=>tQ t ht,λr G=>(N r G).1,z,9,↥rs,9,hdr] p B];subst e;cases l with
  | nil=>simp at hsn;lia
  | cons a b=>let#[r,G,_]:=z a Bj;ext G
def LH:∀d,d<10->(Uz d).toNat=48+d:=by decide
def zeL{m:Nat}(h:10<=m):Jc 10 m=Jc 10 (m/10)++[Uz<|m % 10]:=Nat.toDigits_of_base_le ∅ h
def zeM:∀m:Nat,PySem.NumText.digitsVal ((Jc 10 m).map Wf)=m:=by
 intro m
 induction m using Nat.strongRecOn with
 | ind m ih=>
  by_cases h:m<10
  .rw[Pj h];change 0*10+((Uz m).toNat-48)=m;rw[LH m h];lia
  .rw[zeL 9,Ar,Be,Oc,PySem.NumText.digitsVal_snoc,ih (m/10) 9,LH _<|Nat.mod_lt _ ∅];lia
noncomputable def jS(m:Nat):Av:=Bz<|toString ((m:Nat):Int)
def LI(m:Nat):cs (jS m)=(Jc 10 m).map Wf:=PySem.W.KIN.signs_num m
def zeN{m:Nat}(h:m<10 ^ 60):↥(jS m)<=60:=by
 rw[<-rO,LI,Ab];show(Nat.length_toDigits_le_iff ∅ ∅).mpr h
def zeO{c:Nat}(h:c∈cs mX):48<=c/\c<=57:=by
 let key:∀c∈cs mX,48<=c/\c<=57:=5
 show key c h
def LJ{m:Nat}(h:m<10 ^ 60):PySem.intText? (jS m)=aa (m:Int):=by
 let#[L,Y]:=FH (m:=m);have:=PySem.intText_digits (x:=jS m) (λc hc=>zeO<|L c hc) Y (by have:=zeN h;lia);rw[this];congr 2;let e:=zeM m;rw[<-LI]at e;show e
noncomputable def jT{O:Type}[DecidableEq O](acc:↑O)(t:O):↑O:=if t∈acc then acc else acc++[t]
section
variable {O:Type}[DecidableEq O]
def zeP{acc:↑O}{t u:O}:u∈jT acc t↔u∈acc\/u=t:=by
 ext jT;split
 .rename_i h;constructor
  .show .inl
  .rintro(q|q)
   .show q
   .rw[q];show h
 .rw[Az,Ae]
def zeQ{acc:↑O}{t:O}:↥(jT acc t)<=↥acc+1:=by
 ext jT;split
 .lia
 .rw[Ag];show Aj _
def zeR{acc:↑O}{t:O}(h:acc.Nodup):(jT acc t).Nodup:=by
 ext jT;split
 .show h
 .rename_i n;rw[Cf];show#[h,6,λx S y U=>8];rw[Ae]at U;subst U;show λe=>n<|e▸S
noncomputable def jU(acc ts:↑O):↑O:=ts.foldl jT acc
theorem LK:∀{ts acc:↑O} {u:O},u∈jU acc ts↔u∈acc\/u∈ts
 | [],acc,u=>by simp[jU]
 | t::r,acc,u=>by
  change u∈jU (jT acc t) r↔_;rw[LK,zeP,Bd,or_assoc]
theorem BN:∀{ts acc:↑O},↥(jU acc ts)<=↥acc+↥ts
 | [],acc=>Aj _
 | t::r,acc=>by
  let L:=BN (ts:=r) (acc:=jT acc t);let Y:=zeQ (acc:=acc) (t:=t);change(jU (jT acc t) r).length<=_;rw[Bl];lia
theorem LL:∀{ts acc:↑O},acc.Nodup->(jU acc ts).Nodup
 | [],_,h=>h
 | t::r,acc,h=>LL (ts:=r)<|zeR h
end
noncomputable def gX(ps:↑Av):↑(↑Av):=(Ci<|↥ps-2).map λk=>ps.drop<|k+1
noncomputable def nU(rs:↑aD):↑(↑Av):=(rs.map λr=>gX r.parts).flatten
noncomputable def b7(rs:↑aD):↑(↑Av):=jU []<|nU rs
def LM:e∈gX ps↔∃k,k+2<↥ps/\e=ps.drop (k+1):=by
 ext gX;rw[Ap];constructor
 .rintro⟨k,hk,rfl⟩;rw[Fj]at hk;show#[k,9,7]
 .rintro⟨k,hk,rfl⟩;show#[k,by rw[Fj];lia,7]
def sX:e∈b7 rs↔∃r∈rs,∃k,k+2<↥r.parts/\e=r.parts.drop (k+1):=by
 unfold b7 nU;rw[LK];simp only[Pg,false_or,List.mem_flatten,Ap];constructor
 .rintro⟨l,⟨r,G,rfl⟩,P⟩;show#[r,G,LM.mp P]
 .rintro⟨r,G,h⟩;show#[_,#[r,G,7],LM.mpr h]
def sY(G:r∈rs)(h:2<↥r.parts):r.parts.drop 1∈b7 rs:=sX.mpr #[r,G,0,9,7]
def qQ(P:e∈b7 rs)(h:2<↥e):e.drop 1∈b7 rs:=by
 let#[r,G,k,hk,rfl]:=sX.mp P;rw[Eo]at h;show sX.mpr #[r,G,k+1,9,by rw[Uc]]
theorem LN:∀{rs:↑aD},(∀r∈rs,↥r.parts<=04)->↥(nU rs)<=2*↥rs
 | [],_=>Aj _
 | r::rs,h=>by
  let L:=LN (rs:=rs) λq N=>h q<|Bi _ N;let Y:=h r Bj;unfold nU at L⊢;rw[Be,Kg,Ag,Bl];ext gX;rw[Ab,Hi];unfold gX at L;lia
def LO(h:∀r∈rs,↥r.parts<=04):↥(b7 rs)<=2*↥rs:=by
 let L:=BN (ts:=nU rs) (acc:=[]);let Y:=LN h;ext b7;simp at L;lia
def LP:(b7 rs).Nodup:=LL Gu
noncomputable def eZ(i:Nat):Av:="M"++"_"++jS i
def LQ(i:Nat):cs (eZ i)=77::95::cs (jS i):=by
 ext eZ;rw[pP,pP,FE];rfl
def zeS{i j:Nat}(hi:i<10 ^ 60)(F:j<10 ^ 60)(h:cs (jS i)=cs (jS j)):i=j:=by
 let e:jS i=jS j:=by
  generalize jS i=a at h⊢;generalize jS j=b at h⊢;obtain⟨⟨a⟩⟩:=a;obtain⟨⟨b⟩⟩:=b;simp[cs]at h;rw[h]
 let L:=LJ hi;rw[e,LJ F]at L;injection L with h2;lia
def LR{i j:Nat}(hi:i<10 ^ 60)(F:j<10 ^ 60)(h:eZ i=eZ j):i=j:=by
 let e:=congrArg cs h;rw[LQ,LQ]at e;simp only[Fh,true_and]at e;show zeS hi F e
noncomputable def gN(old:↑Av)(t:Nat):↑Av:=((Ci t).map eZ).filter λn=>!(decide<|n∈old)
def LS(old:↑Av)(t:Nat):gN old (t+1)=if eZ t∈old then gN old t else gN old t++[eZ t]:=by
 ext gN;rw[List.range_succ,Ar,Jt]
 by_cases h:eZ t∈old
 .simp[h]
 .simp[h]
def LU(old:↑Av)(t:Nat)(ht:t<10 ^ 60):t<=↥(gN old t)+↥old:=by
 let key:↥(((Ci t).map eZ).filter λn=>decide<|n∈old)<=↥old:=by
  show List.Nodup.length_le_of_subset 8 λn K=>by simpa using (Dy.mp K).2
  show List.Nodup.sublist Jl 8;rw[Hh,Kf];show List.Pairwise.imp_of_mem 8<|Sx (n:=t);intro a b S Z d e;rw[Fj]at S Z;show d<|LR 9 9 e
 let e:=List.length_eq_countP_add_countP (λn=>decide<|n∈old) (l:=(Ci t).map eZ);rw[Nq,Nq]at e;rw[Ab,Hi]at e;ext gN;let J:(((Ci t).map eZ).filter λn=>!(decide<|n∈old))=(((Ci t).map eZ).filter λa=>decide ¬(decide (a∈old)=ab)):=by
  congr 1;funext a;simp
 rw[J];lia
noncomputable def kZ(old:↑Av)(n:Nat):↑Av:=(gN old<|n+↥old).take n
def zeT(old:↑Av){t u:Nat}(h:t<=u):∃r,gN old u=gN old t++r:=by
 induction u with
 | zero=>
  cases Nat.le_zero.mp h;show#[[],6]
 | succ u E=>
  by_cases e:t=u+1
  .subst e;show#[[],6]
  .let#[r,G]:=E 9;rw[LS];split
   .show#[r,G]
   .show#[r++[eZ u],by rw[G,Bs]]
def zeU{n t:Nat}(K:↥(gN old t)=n)(ht:t<=n+↥old):gN old t=kZ old n:=by
 let#[r,G]:=zeT old ht;ext kZ;rw[G,<-K,Tj];rfl
def LV{n:Nat}(h:n+↥old<10 ^ 60):↥(kZ old n)=n:=by
 have:=LU old (n+↥old) h;ext kZ;rw[Ct];lia
def LW{n:Nat}(h:t∈kZ old n):t∉old/\∃i,i<n+↥old/\t=eZ i:=by
 unfold kZ at h;let h:=Ft h;unfold gN at h;let#[L,Y]:=Dy.mp h;let#[i,hi,rfl]:=Ap.mp L;rw[Fj]at hi;show#[by simpa using Y,i,hi,7]
noncomputable def fE(e:↑Av):↑aC:=e.map Sum.inr
theorem BO:∀{a b:↑Av},a.map (Sum.inr:Av->aC)=b.map Sum.inr->a=b
 | [],[],_=>rfl
 | [],_::_,h=>by ext h
 | _::_,[],h=>by ext h
 | x::a,y::b,h=>by
  simp only[Be,Fh,Qg]at h;rw[h.1,BO h.2]
def BP(h:fE a=fE b):a=b:=BO h
noncomputable def i8(rs:↑aD):↑Av:=kZ (namesOf rs) ↥(b7 rs)
noncomputable def pC(rs:↑aD):↑(↑Av×Av):=(b7 rs).zip<|i8 rs
noncomputable def iD(rs:↑aD):↑(↑aC×W):=(pC rs).map λp=>(fE p.1,.str p.2)
noncomputable def dU(rs:↑aD)(e:↑Av):Av:=((pC rs).lookup e).getD ""
theorem wZ:∀{es:↑(↑Av)} {ns:↑Av} {e:↑Av},↥es=↥ns->e∈es->∃n∈ns,(es.zip ns).lookup e=-n
 | [],_,e,_,h=>by ext h
 | x::es,[],e,h,_=>by ext h
 | x::es,n::ns,e,h,P=>by
  rw[Ih,Em]
  by_cases S:e=x
  .subst S;rw[beq_self_eq_true];show#[n,Bj,7]
  .rw[beq_eq_false_iff_ne.mpr S];rcases Bd.mp P with L|L
   .show absurd L S
   .let#[m,J,T]:=wZ (es:=es) (ns:=ns) h⁻¹ L;show#[m,Bi _ J,T]
theorem LX:∀(l:↑(↑Av×Av)) (e:↑Av),aN (l.map λp=>((fE p.1,W.str p.2):↑aC×W)) (fE e)=(l.lookup e).map W.str
 | [],e=>rfl
 | (x,n)::l,e=>by
  ext aN;rw[Be,De,Em]
  by_cases S:e=x
  .subst S;simp
  .rw[beq_eq_false_iff_ne.mpr S,Xx λh=>S (BP h).symm];show LX l e
structure iQ(rs:↑aD):Prop where
 few:↥rs<=20000
 prt:∀r∈rs,↥r.parts<=04
 sum:↥(b7 rs)+↥(namesOf rs)<=9000
def w4(rs:↑aD):↥(namesOf rs)<=↥rs:=by
 have:=sQ (rs.map aD.name) [];unfold namesOf mE;simpa using this
def iQ.len(f:iQ rs):↥(i8 rs)=↥(b7 rs):=LV<|Er f.sum ∅
def BQ(f:iQ rs)(P:e∈b7 rs):aN (iD rs) (fE e)=-.str (dU rs e)/\dU rs e∈i8 rs:=by
 let#[n,K,T]:=wZ (ns:=i8 rs) f.len.symm P;let J:dU rs e=n:=by unfold dU pC;rw[T];rfl
 rw[J];show#[8,K];ext iD;rw[LX];ext pC;rw[T];rfl
noncomputable def cX(rs:↑aD)(ps:↑Av):↑Av:=if ↥ps<=2 then ps else [ps.headD "",dU rs<|ps.drop 1]
def BR(rs:↑aD)(ps:↑Av):↥(cX rs ps)<=2:=by
 ext cX;split
 .assumption
 .simp
abbrev NP:=Av×↑Av
noncomputable def sZ(ps:↑Av):W:=.tup<|(Ci ↥ps).map λ(i:Nat)=>W.int i
noncomputable def addT(acc:↑(NP×W))(it:NP×W):↑(NP×W):=if it.1∈acc.map Cg then acc else acc++[it]
noncomputable def k9(x:NP):bQ:=(Sum.inr x.1,x.2.map Sum.inr)
def zeV(h:k9 x=k9 y):x=y:=by
 let#[a,b]:=x;let#[c,d]:=y;unfold k9 at h;rw[Prod.mk.injEq]at h;let L:=h.1;injection L with L;show Pe L<|BO h.2
noncomputable def kvsOf(l:↑(NP×W)):↑(bQ×W):=l.map λp=>(k9 p.1,p.2)
def LY(l:↑(NP×W))(x:NP):(aN (kvsOf l) (k9 x)=ae/\x∉l.map Cg)\/(∃w,aN (kvsOf l) (k9 x)=-w)/\x∈l.map Cg:=by
 induction l with
 | nil=>show .inl #[7,6]
 | cons p l E=>
  unfold kvsOf aN at E⊢;rw[Be,De,Be,Bd]
  by_cases h:p.1=x
  .rw[Xw<|by rw[h]];show .inr #[#[_,7],.inl h.symm]
  .rw[Xx λe=>h<|zeV e];rcases E with⟨L,Y⟩|⟨L,Y⟩
   .show .inl #[L,λe=>by rcases e with e|e;show h e.symm;show Y e]
   .show .inr #[L,.inr Y]
noncomputable def lB(x:NP):aD:=#[x.1,x.2,0]
def LZ(x:NP):gJ [0] (k9 x)=bK (lB x):=by
 unfold gJ k9 bK lB;simp[wK,Mr]
structure Sh(t:Av):Prop where
 len:↥t<=60
 ne:cs t≠[]
 asc:vY t
def fD.sh(h:fD t):Sh t:=#[by have:=h.len;lia,h.ne,h.asc]
def c7.sh(h:c7 t):Sh t:=#[by have:=h.len;lia,by let#[c,r,e,_]:=h.hd;rw[e];simp,h.asc]
structure zeW(rs:↑aD):Prop where
 ne:rs≠[]
 few:↥rs<=400
 ok:∀r∈rs,0<=r.cost/\∀t∈r.parts,↥t<=1000/\(isNameB t=ab->t∈namesOf rs)
def zeX{b:Type}[DecidableEq b]{kvs:↑(b×W)}{k:b}{v:W}(h:k∉kvs.map Cg):bU kvs k v=kvs++[(k,v)]:=by
 ext bU;rw[Xs];rw[Gb];rintro⟨p,B,e⟩;show h<|Ap.mpr #[p,B,by simpa using e]
theorem L0:∀{ps acc:↑(↑aC×W)},((acc++ps).map Cg).Nodup->gT acc ps=acc++ps
 | [],acc,_=>by simp[gT]
 | p::ps,acc,h=>by
  let K:p.1∉acc.map Cg:=by
   rw[Ar,Be,Cf]at h;intro J;show h.2.2 _ J _ Bj rfl
  change gT (bU acc p.1 p.2) ps=_;rw[zeX K];let e:acc++[(p.1,p.2)]++ps=acc++p::ps:=by simp
  rw[L0<|by rw[e];show h,e]
def L3(f:iQ rs):(iD rs).map Cg=(b7 rs).map fE:=by
 unfold iD pC;rw[Bp];have:∀{es:↑(↑Av)} {ns:↑Av},↥es=↥ns->(es.zip ns).map (Cg ∘ λ(p:↑Av×Av)=>((fE p.1,W.str p.2):↑aC×W))=es.map fE:=by
  intro es
  induction es with
  | nil=>intro ns _;rfl
  | cons e es E=>
   intro ns h;cases ns with
   | nil=>ext h
   | cons n ns=>rw[Ih,Be,Be,E h⁻¹];rfl
 show this f.len.symm
def zeY(f:iQ rs):gT [] (iD rs)=iD rs:=by
 rw[L0]
 .simp
 .rw[Iv,L3 f,Hh,Kf];show(Hh.mp LP).imp λh e=>h<|BP e
def zeZ(f:iQ rs):((iD rs).map λp=>p.2)=(i8 rs).map W.str:=by
 unfold iD pC;rw[Bp];have:∀{es:↑(↑Av)} {ns:↑Av},↥es=↥ns->(es.zip ns).map ((λ(p:↑aC×W)=>p.2) ∘ λ(p:↑Av×Av)=>((fE p.1,W.str p.2):↑aC×W))=ns.map W.str:=by
  intro es
  induction es with
  | nil=>intro ns h;cases ns with|nil=>rfl|cons _ _=>ext h
  | cons e es E=>
   intro ns h;cases ns with
   | nil=>ext h
   | cons n ns=>rw[Ih,Be,Be,E h⁻¹];rfl
 show this f.len.symm
def tB(l:↑Av):(fE l).map wK=l.map W.str:=by
 ext fE;rw[Bp];rfl
def ze0(f:iQ rs):((iD rs).map λp=>W.tup<|p.1.map wK)=(b7 rs).map λe=>W.tup (e.map W.str):=by
 let e:((iD rs).map λp=>W.tup<|p.1.map wK)=((iD rs).map Cg).map λk=>W.tup (k.map wK):=by rw[Bp];rfl
 rw[e,L3 f,Bp];show Ei λl _=>by change W.tup ((fE l).map wK)=_;rw[tB]
noncomputable def f0(rs:↑aD):Av:=(rs.headD #["",[],0]).name
noncomputable abbrev aZ(l:↑(NP×W)):↑aD:=l.map λz=>lB z.1
def Ex(Q:NP×W->Prop)(l:↑(NP×W))(k:Nat)(S:NP->Prop)(U:↑(NP×W)):Prop:=∃q,U=l++q/\↥q<=k/\(∀z∈q,Q z)/\∀x,S x->x∈U.map Cg
def L4{i:Nat}(h:i<10000):c7 (eZ i):=JM (t:="M") (i:Int) (Lv i) 9 5 5<|5
section
variable {l l1 l2:↑(NP×W)}{k j m:Nat}{S T U:NP->Prop}{Q Q':NP×W->Prop}
def Ex.len(h:Ex Q l k S l1):↥l1<=↥l+k:=by
 let#[q,rfl,h,_]:=h;rw[Ag];show Hn h _
def Ex.all{P:NP×W->Prop}(h:Ex Q l k S l1)(L:∀z∈l,P z)(Y:∀z,Q z->P z):∀z∈l1,P z:=by
 let#[q,rfl,_,h,_]:=h;show λz hz=>(Az.mp hz).elim (L z) λw=>Y z<|h z w
def Ex.had(h:Ex Q l k S l1)(U:x∈l.map Cg\/S x):x∈l1.map Cg:=by
 let#[q,rfl,_,_,h]:=h;show U.elim (λz=>by rw[Ar];show Bf _ z)<|h x
def Ex.no(h:∀x,¬(S x)):Ex Q l k S l:=#[[],(Bv l).symm,Cu _,(λ_ h=>nomatch h),λx z=>(h x z).elim]
def Ex.cg(h:Ex Q l k S l1)(f:∀z,Q z->Q' z)(e:∀x,T x->S x):Ex Q' l k T l1:=by
 let#[q,L,Y,O,W]:=h;show#[q,L,Y,λz hz=>f _<|O z hz,λx U=>W x<|e x U]
def Ex.le(h:Ex Q l k S l1)(e:k<=j):Ex Q l j S l1:=by
 let#[q,L,Y,O]:=h;show#[q,L,Am Y e,O]
def Ex.step{O:Type}{Z:↑O}{T:O->NP->Prop}{i:Nat}{y:O}(g:Ex Q l (k*i) (λx=>∃y∈Z.take i,T y x) l1)(h:Z[i]? = aa y)(b:Ex Q l1 k (T y) l2):Ex Q l (k*(i+1)) (λx=>∃y∈Z.take (i+1),T y x) l2:=by
 let#[q,rfl,Y,X,W]:=g;let#[p,rfl,k2,A,d]:=b;show#[q++p,Bs ..,by rw[Ag];show Ul Y k2,λz hz=>(Az.mp hz).elim (X z)<|A z,λx V=>8];let#[a,U,S]:=V;rw[Bx,h]at U;rcases Az.mp U with U|U
 .rw[Ar];show Bf _<|W x #[a,U,S]
 .rw[Ae.mp U]at S;show d x S
def Ex.start{O:Type}{Z:↑O}{T:O->NP->Prop}:Ex Q l (k*0) (λx=>∃y∈Z.take 0,T y x) l:=.no λ_ V=>by let#[_,h,_]:=V;show nomatch h
def Ex.addT(x:NP)(v:W):Ex (λz=>z=(x,v)) l 1 (λy=>y=x) (addT l (x,v)):=by
 unfold L2.addT;split
 .rename_i h;show#[[],(Bv l).symm,Cu _,(λ_ h=>nomatch h),λy e=>by rw[e];show h]
 .show#[_,7,Aj _,λz hz=>Ae.mp hz,λy e=>by rw[e,Ar];show Bo _<|.head _]
def Ex.one{x:NP}{v:W}(h:Ex (λz=>z=(x,v)) l 1 (λy=>y=x) l1)(n:x∉l.map Cg):l1=l++[(x,v)]:=by
 let#[q,rfl,L,Y,O]:=h
 match q,L,Y with
 | [],_,_=>show absurd (O x rfl)⁻¹ n
 | [z],_,Y=>rw[Y z<|.head _]
 | _::_::_,L,_=>show absurd (Mp L) 6
def L5(h:rs≠[]):(namesOf rs)[0]? = aa (f0 rs):=by
 let#[r,rs,rfl]:=Ep h;have:∀(ts acc:↑Av),(r.name::acc) <+: ts.foldl dC (r.name::acc):=by
  intro ts
  induction ts with
  | nil=>show λ_=>List.prefix_rfl
  | cons t ts E=>
   intro acc;rw[Gw];ext dC;split
   .show E acc
   .show List.IsPrefix.trans (List.prefix_append _ _)<|E<|acc++[t]
 let#[q,N]:=this (rs.map aD.name) [];unfold namesOf mE;rw[Be,Gw,show dC [] r.name=[r.name] from rfl,<-N];rfl
def Hd(F:Av)(p:Prop)(l:↑(NP×W)):Prop:=p->∃z t,l=z::t/\z.1.1=F
def Hd.ex{p:Prop}(h:Hd F p l)(e:Ex Q l k S l1):Hd F p l1:=λB=>by
 let#[z,t,rfl,L]:=h B;let#[q,rfl,_]:=e;show#[z,_,7,L]
def Hd.f0(h:Hd F True l):f0 (aZ l)=F:=by
 let#[z,t,rfl,L]:=h trivial;show L
def Hd.of{p:Prop}(h:Ex Q [] k S l1)(H:∀z,Q z->z.1.1=F)(B:p->∃x,S x):Hd F p l1:=λh'=>by
 let#[x,U]:=B h';let#[q,e,_,O,W]:=h;rw[Iv]at e;cases l1 with
 | nil=>cases W x U
 | cons z t=>show#[z,t,7,H _<|O z<|e▸.head _]
end
noncomputable abbrev gB(n:Nat)(us:↑W):W:=.tup [¬n,.tup us]
noncomputable abbrev w5(T:W):W:=.tup [.str "whole",T]
inductive RT(nm:Av->Bool)(rs:↑aD):Nat->↑Av->↑W->↑Av->Prop
 | nil {h:Nat}:RT nm rs h [] [] []
 | word {h:Nat} {t:Av} {ps row:↑Av} {ws:↑W}:nm t=ac->RT nm rs h ps ws row->RT nm rs h (t::ps) (.str t::ws) (t::row)
 | knot {h k n:Nat} {r:aD} {us ws:↑W} {ps a b:↑Av}:nm r.name=ab->rs[n]? = aa r->h+1<=k->RT nm rs h r.parts us a->RT nm rs k ps ws b->RT nm rs k (r.name::ps) (gB n us::ws) (a++b)
section
variable {nm:Av->Bool}{rs:↑aD}{sem:Av->↑Av}
def RT.app{h:Nat}(x:RT nm rs h ps ws a)(k:RT nm rs h qs us b):RT nm rs h (ps++qs) (ws++us) (a++b):=by
 induction x with
 | nil=>show k
 | word h _ E=>show .word h (E k)
 | knot L Y Z O _ _ E=>rw[Bs];show .knot L Y Z O<|E k
def RT.mono{h k:Nat}(x:RT nm rs h ps ws a)(hk:h<=k):RT nm rs k ps ws a:=by
 induction x with
 | nil=>show .nil
 | word h _ E=>show .word h (E hk)
 | knot L Y Z O _ _ E=>show .knot L Y (Am Z hk) O<|E hk
def RT.len{h:Nat}(x:RT nm rs h ps ws a):↥ws=↥ps:=by
 induction x with
 | nil=>rfl
 | word _ _ E=>show congrArg (· + 1) E
 | knot _ _ _ _ _ _ E=>show congrArg (· + 1) E
end
inductive Pt(rows:↑(↑W)):Nat->↑W->↑W->Prop
 | nil {d:Nat}:Pt rows d [] []
 | slot {d k:Nat} {r ps out:↑W}:rows[k]? = aa r->Pt rows d ps out->Pt rows d (.int k::ps) (r++out)
 | whole {d:Nat} {T:W} {ps out:↑W}:Pt rows d ps out->Pt rows d (w5 T::ps) (T::out)
 | knot {d n:Nat} {us ps a b:↑W}:↥a<=100->Pt rows d us a->Pt rows (d+1) ps b->Pt rows (d+1) (gB n us::ps) (gB n a::b)
def Pt.mono{d e:Nat}(h:Pt rows d ps out):d<=e->Pt rows e ps out:=by
 induction h generalizing e with
 | nil=>show λ_=>.nil
 | slot h _ E=>show λl=>.slot h (E l)
 | whole _ E=>show λl=>.whole (E l)
 | knot h _ _ Q A=>
  intro l;cases e with
  | zero=>ext l
  | succ e=>show .knot h (Q<|Mp l)<|A l
inductive Pf(nm:Av->Bool)(rs:↑aD)(sem:Av->↑Av)(H:Nat):Nat->Nat->↑W->↑Av->↑Av->Prop
 | nil {d k:Nat}:Pf nm rs sem H d k [] [] []
 | slot {d k:Nat} {pcs:↑W} {p:Av} {parts ps:↑Av}:Pf nm rs sem H d (k+1) pcs parts ps->Pf nm rs sem H d k (.int k::pcs) (p::parts) (sem p++ps)
 | whole {d k:Nat} {T:W} {pcs:↑W} {X:Av} {parts ps:↑Av}:RT nm rs H [X] [T] []->Pf nm rs sem H d k pcs parts ps->Pf nm rs sem H d k (w5 T::pcs) parts (X::ps)
 | knot {d k n:Nat} {r:aD} {us pcs:↑W} {pa pb ps:↑Av}:nm r.name=ab->rs[n]? = aa r->↥r.parts<=100->Pf nm rs sem H d k us pa r.parts->Pf nm rs sem H (d+1) (k+↥pa) pcs pb ps->Pf nm rs sem H (d+1) k (gB n us::pcs) (pa++pb) (r.name::ps)
inductive Vs(nm:Av->Bool)(rs:↑aD)(sem:Av->↑Av)(h:Nat):↑Av->↑(↑W)->↑Av->Prop
 | nil:Vs nm rs sem h [] [] []
 | cons {p:Av} {ps a b:↑Av} {r:↑W} {rows:↑(↑W)}:RT nm rs h (sem p) r a->Vs nm rs sem h ps rows b->Vs nm rs sem h (p::ps) (r::rows) (a++b)
section
variable {nm:Av->Bool}{rs:↑aD}{sem:Av->↑Av}{H h:Nat}
def Vs.split:∀{rows:↑(↑W)} {w:↑Av},Vs nm rs sem h (G++o) rows w->∃f rb g m,rows=f++rb/\w=g++m/\↥f=↥G/\Vs nm rs sem h G f g/\Vs nm rs sem h o rb m:=by
 induction G with
 | nil=>show λh=>#[[],_,[],_,7,7,7,.nil,h]
 | cons p G E=>
  intro rows w h;cases h with
  | cons x h=>
   let#[f,rb,g,m,rfl,rfl,e,L,Y]:=E h;show#[_::f,rb,_++g,m,7,by rw[Bs],congrArg (· + 1) e,.cons x L,Y]
def Pf.run{d k:Nat}(x:Pf nm rs sem H d k j parts ps)(S:H<=h):∀{pre rows post:↑(↑W)} {w:↑Av},↥pre=k->Vs nm rs sem h parts rows w->∃out,Pt (pre++rows++post) d j out/\RT nm rs (h+d) ps out w:=by
 induction x with
 | nil=>
  intro pre rows post w _ v;ext v;show#[[],.nil,.nil]
 | @slot d k j p parts ps _ E=>
  intro pre rows post w e v;cases v with
  | @cons _ _ a b r rows x v=>
   let#[out,L,Y]:=E (pre:=pre++[r]) (rows:=rows) (post:=post) (by rw[Ag,e];rfl) v;let P:pre++[r]++rows++post=pre++r::rows++post:=by simp
   rw[P]at L;show#[r++out,.slot (by subst e;simp) L,(x.mono<|Fm _ _).app Y]
 | @whole d k T j X parts ps t _ E=>
  intro pre rows post w e v;let#[out,L,Y]:=E (post:=post) e v;show#[_::out,.whole L,(t.mono<|Am S<|Fm _ _).app Y]
 | @knot d k n r us j z o ps K G hl _ _ Q A=>
  intro pre rows post w e v;let#[f,rb,g,m,rfl,rfl,el,y,l]:=v.split;let#[s,i,c]:=Q (post:=rb++post) e y;let#[V,U,N]:=A (pre:=pre++f) (post:=post) (by rw[Ag,e,el]) l;rw[show pre++f++(rb++post)=pre++(f++rb)++post by simp]at i;rw[show pre++f++rb++post=pre++(f++rb)++post by simp]at U;show#[_,.knot (by rw[c.len];show hl) i U,.knot K G (Aj _) c N]
end
inductive Bk(backs:↑(↑W))(d:Nat):↑W->↑(↑W)->Prop
 | nil:Bk backs d [] []
 | word {t:Av} {ws:↑W} {rows:↑(↑W)}:Bk backs d ws rows->Bk backs d (.str t::ws) ([.str t]::rows)
 | knot {n:Nat} {pcs us out ws:↑W} {r1 rows:↑(↑W)}:backs[n]? = aa pcs->Bk backs d us r1->Pt r1 d pcs out->↥out<=100->Bk backs d ws rows->Bk backs d (gB n us::ws) (out::rows)
def RT.back{H h d:Nat}{nm:Av->Bool}{sem:Av->↑Av}(hw:∀t,nm t=ac->sem t=[t])(hl:∀t,↥(sem t)<=100)(hf:∀(n:Nat) (r:aD),ts[n]? = aa r->∃j,backs[n]? = aa j/\Pf nm rs sem H d 0 j r.parts (sem r.name))(x:RT nm ts h ps ws row):∃rows,Bk backs d ws rows/\Vs nm rs sem (H+d*h) ps rows row:=by
 induction x with
 | nil=>show#[[],.nil,.nil]
 | @word h t ps row ws ht _ E=>
  let#[rows,L,Y]:=E;show#[_,.word L,.cons (a:=[t]) (by rw[hw t ht];show .word ht .nil) Y]
 | @knot h k n r us ws ps a b _ G hk _ _ Q A=>
  let#[F,i,c]:=Q;let#[rows,U,v]:=A;let#[j,e,f]:=hf _ _ G;let#[out,L,Y]:=f.run (h:=H+d*h) (Fm _ _) (pre:=[]) (post:=[]) rfl c;rw[Iv,Bv]at L;have:=Gm d hk;rw[Nat.mul_add,Nat.mul_one]at this;show#[_,.knot e i L (by rw[Y.len];show hl _) U,.cons (Y.mono 9) v]
section
variable {nm:Av->Bool}{rs:↑aD}{sem:Av->↑Av}{H:Nat}
def Pf.app{d k:Nat}(h:Pf nm rs sem H d k a G c):Pf nm rs sem H d (k+↥G) b o m->Pf nm rs sem H d k (a++b) (G++o) (c++m):=by
 induction h with
 | nil=>show id
 | @slot d k j p parts ps _ E=>
  intro g;rw[Bs];show .slot (E<|by rw[Bl,Mq ↥parts 1,<-Ig]at g;show g)
 | whole t _ E=>show λg=>.whole t (E g)
 | @knot d k n r us j G o ps L Y Z O _ _ E=>
  intro g;rw[Bs];show .knot L Y Z O (E<|by rw[Ag,<-Ig]at g;show g)
theorem Pf.slots{d:Nat}:∀(parts:↑Av) (k:Nat),Pf nm rs sem H d k ((List.range' k ↥parts).map λi=>.int (i:Nat)) parts (parts.flatMap sem)
 | [],_=>.nil
 | p::parts,k=>.slot<|Pf.slots parts<|k+1
def L6{ps:↑Av}(h:∀p∈ps,sem p=[p]):ps.flatMap sem=ps:=by
 induction ps with
 | nil=>rfl
 | cons p ps E=>rw[Mh,h p<|Bj ..,E λq N=>h q<|Bi _ N];rfl
def Pf.one{d k n:Nat}(L:nm r.name=ab)(Y:rs[n]? = aa r)(Z:↥r.parts<=100)(O:Pf nm rs sem H d k us G r.parts):Pf nm rs sem H (d+1) k [gB n us] G [r.name]:=by
 have:=Pf.knot L Y Z O<|.nil (k:=k+↥G);rwa [Bv]at this
def Pf.mono{d e k:Nat}(h:Pf nm rs sem H d k j G ps):d<=e->Pf nm rs sem H e k j G ps:=by
 induction h generalizing e with
 | nil=>show λ_=>.nil
 | slot _ E=>show λl=>.slot (E l)
 | whole t _ E=>show λl=>.whole t (E l)
 | knot L Y Z _ _ Q A=>
  intro l;cases e with
  | zero=>ext l
  | succ e=>show .knot L Y Z (Q<|Mp l)<|A l
end
def Hg:Nat->W->Prop
 | 0,_=>False
 | h+1,w=>(∃t,w=.str t)\/∃n us,w=gB n us/\↥us<=04/\∀u∈us,Hg h u
theorem Hg.mono:∀{h k:Nat} {w:W},Hg h w->h<=k->Hg k w
 | 0,_,_,x,_=>x.elim
 | _+1,0,_,_,l=>nomatch l
 | _+1,_+1,_,.inl x,_=>.inl x
 | _+1,_+1,_,.inr #[n,us,e,l,f],z=>.inr #[n,us,e,l,λu D=>(f u D).mono<|Mp z]
def RT.hg{nm:Av->Bool}{h:Nat}(x:RT nm rs h ps ws a)(B:∀r∈rs,↥r.parts<=04):∀w∈ws,Hg (h+1) w:=by
 induction x with
 | nil=>show λ_ h=>nomatch h
 | word _ _ E=>show λw hw=>(Bd.mp hw).elim (λz=>.inl #[_,z]) (E w)
 | @knot h k n r us ws ps a b _ G hk D _ Q A=>
  show λw hw=>(Bd.mp hw).elim (λz=>8)<|A w;let#[j,rfl]:=Nat.exists_eq_add_of_le hk;show .inr #[n,us,z,by rw[D.len];show B r<|Ah G,λu D=>(Q u D).mono 9]
inductive Fn(d:Nat)(backs:↑(↑W))(out:↑W):Nat->↑(W×Bool)->↑(↑W)->Prop
 | done:Fn d backs out 0 [] [out]
 | word {m:Nat} {S:↑(W×Bool)} {T:↑(↑W)} {t:Av}:↥T<=5000000->Fn d backs out m S (T++[[.str t]])->Fn d backs out (m+1) (S++[(.str t,ac)]) T
 | down {m n:Nat} {S:↑(W×Bool)} {T:↑(↑W)} {us:↑W}:↥S+↥us<=5000000->Fn d backs out m (S++[(gB n us,ab)]++us.reverse.map λu=>(u,ac)) T->Fn d backs out (m+1) (S++[(gB n us,ac)]) T
 | up {m n:Nat} {S:↑(W×Bool)} {T rows:↑(↑W)} {us pcs o:↑W}:↥T<=5000000->↥rows=↥us->↥us<=100->backs[n]? = aa pcs->Pt rows d pcs o->↥o<=100->Fn d backs out m S (T++[o])->Fn d backs out (m+1) (S++[(gB n us,ab)]) (T++rows)
def Bk.len{d:Nat}(h:Bk backs d ws rows):↥rows=↥ws:=by
 induction h with
 | nil=>rfl
 | word _ E=>show congrArg (· + 1) E
 | knot _ _ _ _ _ _ E=>show congrArg (· + 1) E
def Bk.fn{d:Nat}(x:Bk backs d ws rows):∀{h m:Nat} {S:↑(W×Bool)} {T:↑(↑W)},(∀w∈ws,Hg h w)->↥S+↥ws+05*h<=5000000->↥T+↥ws+05*h<=5000000->Fn d backs out m S (T++rows)->∃q,Fn d backs out q (S++ws.reverse.map λu=>(u,ac)) T:=by
 induction x with
 | nil=>
  intro h m S T _ _ _ f;rw[Bv]at f;show#[m,by rw[List.reverse_nil,Oc,Bv];show f]
 | @word t ws rows _ E=>
  intro h m S T hg y K f;rw[Bl]at y K;let#[q,g]:=E (S:=S) (T:=T++[[.str t]]) (λw hw=>hg w<|Bi _ hw) 9 (by rw[Ag,Cd];lia) (by rw[Bs];show f);show#[q+1,8];rw[Ke,Ar,<-Bs];show .word 9 g
 | @knot n j us o ws F rows Z L B D _ Q A=>
  intro h m S T hg y K f;rw[Bl]at y K;let#[q,g]:=A (S:=S) (T:=T++[o]) (λw hw=>hg w<|Bi _ hw) 9 (by rw[Ag,Cd];lia) (by rw[Bs];show f);cases h with
  | zero=>show(hg _<|Bj ..).elim
  | succ h=>
   rcases hg _ (Bj ..) with⟨_,z⟩|⟨l,p,z,hl,C⟩
   .ext z
   .ext z;let a:↥(S++ws.reverse.map λu=>(u,ac))=↥S+↥ws:=by rw[Ag,Ab,Ec]
    let#[m2,i]:=Q C (by rw[Ag,a,Cd];lia) 9 (Fn.up 9 L.len (Am hl ∅) Z B D g);show#[m2+1,8];rw[Ke,Ar,<-Bs];show .down (by rw[a];lia) i
def Bk.start{d:Nat}{h:Nat}(x:Bk backs d [w] [o])(hg:Hg h w)(hh:h<=900000):∃m,Fn d backs o m [(w,ac)] []:=x.fn (S:=[]) (T:=[]) (λu D=>by rw[Ae.mp D];show hg) (by change 0+1+05*h<=_;lia) (by change 0+1+05*h<=_;lia) .done
inductive Th(keep drop:Av->Bool):↑Av->↑Av->Prop
 | nil:Th keep drop [] []
 | kp {t:Av} {ps l:↑Av}:keep t=ab->Th keep drop ps l->Th keep drop (t::ps) (t::l)
 | dr {t:Av} {ps l:↑Av}:drop t=ab->Th keep drop ps l->Th keep drop (t::ps) l
section
variable {keep drop:Av->Bool}{E:Av->W}{ps l:↑Av}
theorem L7:∀{ps l:↑Av} {told:↑iC},(∃x∈ps.foldl (gW keep drop E) told,x.1=l)↔∃y∈told,∃q,l=y.1++q/\Th keep drop ps q
 | [],l,told=>#[λV=>by let#[x,h,e]:=V;show#[x,h,[],by rw[Bv,e],.nil],λA=>by let#[y,h,q,e,k]:=A;show#[y,h,by ext k;rw[e,Bv]]]
 | t::ps,l,told=>by
  rw[Gw,L7];ext gW;constructor
  .rintro⟨y,U,q,rfl,k⟩;rcases Az.mp U with U|U<;>split at U
   .rename_i h;let#[z,hz,rfl]:=Ap.mp U;show#[z,hz,t::q,Bs ..,.kp h k]
   .ext U
   .rename_i h;let#[z,hz,rfl]:=Ap.mp U;show#[z,hz,q,7,.dr h k]
   .ext U
  .rintro⟨y,U,q,rfl,k⟩;cases k with
   | kp h k=>show#[_,Bf _<|by rw[Xu h];show Ap.mpr #[y,U,7],_,6,k]
   | dr h k=>show#[(y.1,y.2++[W.tup [.str "whole",E t]]),Bo _<|by rw[Xu h];show Ap.mpr #[y,U,7],_,7,k]
def BS:(∃x∈kY keep drop E ps,x.1=l)↔Th keep drop ps l:=by
 ext kY;rw[L7];show#[λV=>by let#[y,h,q,e,k]:=V;rw[Ae.mp h]at e;rw[e];show k,λk=>#[_,Ae.mpr rfl,_,7,k]]
def Th.len(h:Th keep drop ps l):↥l<=↥ps:=by
 induction h with
 | nil=>show Aj _
 | kp _ _ E=>show Ea E
 | dr _ _ E=>show Ow E
def Th.sub(h:Th keep drop ps l):∀t∈l,t∈ps/\keep t=ab:=by
 induction h with
 | nil=>show λ_ h=>nomatch h
 | kp k _ E=>
  intro t ht;rcases Bd.mp ht with rfl|ht
  .show#[.head _,k]
  .show#[.tail _ (E t ht).1,(E t ht).2]
 | dr _ _ E=>show λt ht=>#[.tail _ (E t ht).1,(E t ht).2]
theorem Th.all:∀{ps:↑Av},(∀t∈ps,keep t=ab\/drop t=ab)->∃l,Th keep drop ps l/\∀t∈ps,keep t=ab->t∈l
 | [],_=>#[[],.nil,λ_ h=>nomatch h]
 | t::ps,h=>by
  let#[l,k,m]:=Th.all λt ht=>h t<|.tail _ ht;cases e:keep t with
  | true=>show#[_,.kp e k,λp B hk=>(Bd.mp B).elim (λz=>z▸.head _) λz=>.tail _<|m p z hk]
  | false=>show#[_,.dr ((h t<|.head _).resolve_left λz=>by rw[e]at z;ext z) k,λp B hk=>(Bd.mp B).elim (λz=>by rw[z,e]at hk;ext hk) λz=>m p z hk]
end
section
variable {rs:↑aD}{D:↑Av}{drop:Av->Bool}
def w6{rs:↑aD}(h:rs≠[]):∃r∈rs,r.name=f0 rs:=by
 cases rs with
 | nil=>show absurd rfl h
 | cons r rs=>show#[r,.head _,7]
theorem L8{nm:Av->Bool}{rs:↑aD}{sem:Av->↑Av}{H d:Nat}{keep drop:Av->Bool}{E:Av->W}(T:∀t,drop t=ab->RT nm rs H [t] [E t] []):∀{ps qs:↑Av} {told:↑iC} {y:iC},(∀t∈ps,sem t=[t])->(∀x∈told,Pf nm rs sem H d 0 x.2 x.1 qs)->y∈ps.foldl (gW keep drop E) told->Pf nm rs sem H d 0 y.2 y.1 (qs++ps)
 | [],qs,told,y,_,h,U=>by rw[Bv];show h y U
 | t::ps,qs,told,y,l,h,U=>by
  rw[Ta];show L8 T (λu D=>l u<|.tail _ D) (λx S=>8) U;unfold gW at S;rcases Az.mp S with S|S<;>split at S
  .let#[z,hz,rfl]:=Ap.mp S;have:=Pf.app (h z hz) (b:=[.int ((0+↥z.1:Nat):Int)])<|.slot (p:=t) .nil;rw[Bv,l t<|.head _,Jb]at this;show this
  .ext S
  .rename_i hd;let#[z,hz,rfl]:=Ap.mp S;have:=Pf.app (h z hz)<|.whole (T t hd) .nil;rw[Bv]at this;show this
  .ext S
def iE(rs:↑aD)(D:↑Av)(drop:Av->Bool)(X:Av)(l:↑Av):Prop:=∃r∈rs,r.name=X/\Th (cU rs D) drop r.parts l/\l≠[]/\l≠[X]
def L9(d:Wd rs D)(I:gV rs D=D)(hd:∀t,drop t=ab↔fM rs ac t){X:Av}(Q:X∈D):∃l,iE rs D drop X l:=by
 let#[r,G,en,hf,p,B,j,hw]:=d.why X Q;let#[l,L,Y]:=Th.all (keep:=cU rs D) (drop:=drop) λt ht=>(zeD I<|hf t ht).imp_right (hd t).mpr;let y:=Y p B (by ext cU;rcases hw with z|z;rw[Xw z];rfl;rw[z];show Od _);show#[l,r,G,en,L,(λe=>by rw[e]at y;ext y),λe=>by rw[e]at y;show j<|Ae.mp y]
end
def BU:aW:=λws M R=>∃rs:↑aD,ws=[a9 rs]/\↥rs<=20000/\aO (rs.map λ_=>W.int 0) M R
noncomputable abbrev ze1:↑Av:=["grammar"]
abbrev ze2:aE:=
   (bH<|cV (bM cF aH) (aQ 0) d7 a8 [ae])
def ze3:bE BU ze2 ze1:=by
 rintro _ M R ⟨rs,rfl,hl,r⟩;show(l8 (rest:=[]) (λ_=>.int 0) (small<|by rw[Ab];lia) (λ_ _=>trivial) (λw hw F C sb L=>L) 8)
 .intro p B;show#[_,aV,8];let e:(rs.map bK).map (λ_=>W.int 0)=rs.map λ_=>W.int 0:=by rw[Bp];rfl
  rw[e];show r p B
def MA:aW:=λws M R=>∃(rs:↑aD) (U:↑Av),ws=[a9 rs]/\↥rs<=500/\↥U<64/\wW rs U/\∀ss:↑Av,wW rs ss->ss.Nodup->(∀t∈ss,t∈U)->R (.rl<|ss.map W.str) M
def BV:aW:=λws M R=>∃rs:↑aD,ws=[a9 rs]/\GL rs/\∀kvs:↑(aC×W),(∀X:Av,(aN kvs (Sum.inr X:aC)).isSome=mK rs ab X)->h9 kvs M R
noncomputable abbrev ze4:↑Av:=["grammar","own","found","rule","part"]
abbrev ze5:aE:=
   (aL 1<|aP mL<|bD (aP i6<|aH^aB)^aB)
abbrev ze6:aE:=
   (aL 2 sE)
abbrev ze7:aE:=
   (cE (bM cF<|vX a7 aX) (aQ 04)
    (bY (bL<|aG (bZ ab) bC aM)
    (eU (vC<|.bl ab)<|gI aS bC)
    cR))
abbrev ze8:aE:=
   (cE (bM cF aH) (aQ 3) ze7)
abbrev ze9:aE:=
   (bH<|bG ID<|bD aS^aB)
abbrev zfa:aE:=(aF ze5<|aF ze6<|aF ze8 ze9)
noncomputable abbrev zfb:↑Av:=["grammar","steps","best"]
abbrev zfc(C:Cc):aE:=
   (aL 1<|bD<|bG BJ<|bD (cV (bM cF<|aP MA<|aH^aB) (aQ 0) d7 (bA<|bA (aH^a8^aB)^d8 (bA (a8^aX^aB)^aB)^aB) [ae])^aB)
abbrev zfd(C:Cc):aE:=
   (bH<|bG AR<|bD (cV (bM nS aS) (aQ 0) d7 (bA<|vX aH a8^vX (vX (vX aM aH) a8) a8^aB) [ae,aa 2])^aB)
abbrev zfe(C:Cc):aE:=(aF (zfc C)<|aF (aL 2<|sU<|aP (BD C)<|aH^d8 (a8^aB)^aM^bD (aP BU<|aH^aB)^aB)<|zfd C)
def tD(ts:↑Av)(n:Av):(aN (ts.map cL) (Sum.inr n:aC)).isSome=decide (n∈ts):=by
 induction ts with
 | nil=>rfl
 | cons t ts ih=>
  unfold aN at ih⊢;rw[Be,De]
  by_cases h:t=n
  .subst h;simp[cL]
  .rw[show decide ((cL t).1=(Sum.inr n:aC))=ac by simp[cL,h]];rw[ih];let h2:¬(n=t):=λe=>h e.symm;simp[h2]
def mM(rs:↑aD)(t:Av):(aN (ownOf rs) (Sum.inr t:aC)).isSome=ownB rs t:=by
 unfold ownOf ownB;rw[tD,Ef];simp only[decide_eq_true_eq];rw[vZ];simp
def zff:bE MA zfa ze4:=by
 rintro _ M R ⟨rs,U,rfl,hl,hU,aU,r⟩;show#[rs,7,Am hl ∅,aO.frz 8];show#[namesOf rs,7,by have:=K8 rs;lia,8];obtain⟨ow,how⟩:∃ow,ow=(((namesOf rs).foldl dC []).map cL):=#[_,7];let lo:∀t,(aN ow (Sum.inr t:aC)).isSome=ownB rs t:=λt=>by rw[how];show mM rs t
 rw[<-how];show λp hp=>8;show mG (λi τ M'=>∃(ss:↑Av) (o3 o4:Option W),τ=[-.rl (rs.map bK),-.dk ow,aa !p,o3,o4]/\M'=put M p (.dK<|ss.map cL)/\ss.Nodup/\(∀t∈ss,t∈U)/\∀q∈rs.take i,∀t∈q.parts,ownB rs t=ac->t∈ss) #[[],_,_,7,7,Gu,6,6] 8 8
 .rintro i w τ M' hw ⟨ss,o3,o4,rfl,rfl,nd,hsU,hin⟩;rw[Au]at hw;let#[q,hq,rfl]:=Ay.mp hw;show 8;show mG (ws:=q.parts.map W.str) (λj τ M'=>∃(s2:↑Av) (o4:Option W),τ=[-.rl (rs.map bK),-.dk ow,aa !p,-bK q,o4]/\M'=put M p (.dK<|s2.map cL)/\s2.Nodup/\(∀t∈s2,t∈U)/\(∀t∈ss,t∈s2)/\∀t∈q.parts.take j,ownB rs t=ac->t∈s2) #[ss,_,7,7,nd,hsU,λ_ h=>h,6] 8 8
  .rintro j w τ M' hw ⟨s2,o4,rfl,rfl,nd2,hsU2,hs2,hin2⟩;rw[Au]at hw;let#[t,ht,rfl]:=Ay.mp hw;show#[_,#[Sum.inr t,7,7],8];change if (!((aN ow (Sum.inr t:aC)).isSome))=ab then _ else _;rw[lo t];cases ho:ownB rs t with
   | true=>
    show#[_,aV,s2,_,7,7,nd2,hsU2,hs2,λx hx hox=>8];rw[BL ht]at hx;rcases Az.mp hx with z|z
    .show hin2 x z hox
    .rw[Ae.mp z,ho]at hox;ext hox
   | false=>
    let hl2:↥s2<=↥U:=len_sub nd2 hsU2;show(sM aI (by rw[Ab];show cS 9) #[_,aV,dC s2 t,_,7,by rw[bV,wI],BK nd2,λx hx=>8,λx hx=>kU.mpr<|.inl<|hs2 x hx,λx hx hox=>8])
    .rcases kU.mp hx with z|z
     .show hsU2 x z
     .rw[z];show aU q (Ah hq) t (Ah ht) ho
    .rw[BL ht]at hx;rcases Az.mp hx with z|z
     .show kU.mpr<|.inl<|hin2 x z hox
     .show kU.mpr<|.inr z⁻¹
  .rintro τ M' ⟨s2,o4,rfl,rfl,nd2,hsU2,hs2,hin2⟩;rw[Ab,Bn]at hin2;show#[_,aV,s2,_,_,7,7,nd2,hsU2,λx hx t ht ho=>8];rw[BL hq]at hx;rcases Az.mp hx with z|z
   .show hs2 t<|hin x z t ht ho
   .rw[Ae.mp z]at ht;show hin2 t ht ho
 .rintro τ M' ⟨ss,o3,o4,rfl,rfl,nd,hsU,hin⟩;rw[Ab,Bn]at hin;show(F9 hp 8);let hl2:↥ss<=↥U:=len_sub nd hsU;show#[ss,by rw[Bp];rfl,9,λs3 hperm=>#[_,aV,r s3 (λq hq t ht ho=>hperm.mem_iff.mpr<|hin q hq t ht ho) (hperm.nodup_iff.mpr nd) λt ht=>hsU t<|hperm.mem_iff.mp ht]]
noncomputable def mN(ss:↑Av):↑(↑aC×W):=ss.map λt=>([Sum.inr t,Sum.inl 0],.rl [.tup [.int 0,.int 1]])
theorem MB:∀{ps acc:↑(↑aC×W)},((acc++ps).map (·.1)).Nodup->gT acc ps=acc++ps
 | [],acc,_=>by simp[gT]
 | p::ps,acc,h=>by
  let K:aN acc p.1=ae:=by
   rw[Ar,Cf]at h;show JR λe P z=>h.2.2 _ (Ap.mpr #[e,P,7]) p.1 6 z
  let e:bU acc p.1 p.2=acc++[p]:=by
   ext bU;rw[Xs<|by rw[show(acc.any λg=>decide<|g.1=p.1)=(aN acc p.1).isSome from jO acc p.1,K];decide]
  change gT (bU acc p.1 p.2) ps=_;rw[e,MB<|by rw[Bs];show h,Bs];rfl
def zfg{ss:↑Av}(h:ss.Nodup):((mN ss).map (·.1)).Nodup:=by
 ext mN;rw[Bp]
 induction ss with
 | nil=>simp
 | cons t ss E=>
  rw[Dc]at h;rw[Be,Dc];show#[λJ=>8,E h.2];let#[x,S,e]:=Ap.mp J;have:x=t:=by simpa using e
  show h.1 (by rw[<-this];show S)
def zfh(ss:↑Av)(t:Av)(p:Int):aN (mN ss) (eK (t,p))=if p=0/\t∈ss then aa (.rl [.tup [.int 0,.int 1]]) else ae:=by
 unfold mN eK
 induction ss with
 | nil=>simp[aN]
 | cons x ss E=>
  rw[Be,qI,E]
  by_cases L:p=0
  .subst L
   by_cases Y:x=t
   .subst Y;rw[Xu rfl,Xu #[7,6]]
   .rw[Xs λz=>Y z⁻¹]
    by_cases O:t∈ss
    .rw[Xu #[7,O],Xu #[7,Bi _ O]]
    .rw[Xs λz=>O z.2,Xs (λz=>by rcases Bd.mp z.2 with q|q;show Y q.symm;show O q)]
  .rw[Xs λz=>L<|by simp at z;show z.2.symm,Xs λz=>L z.1,Xs λz=>L z.1]
def MC{B:dD}:((eC fK eN B).map λp=>W.tup<|p.1.map wK)=(B.map (·.1)).map λf=>W.tup ((fK f).map wK):=by rw[Bp,Bp];rfl
def MD(n:Nat)(rs:↑aD)(h:n=↥rs):((Ci n).map λ_=>W.int 0)=rs.map λ_=>W.int 0:=by
 rw[To,To,Hi,h]
def zfi{C:Cc}:bE BV (zfe C) zfb:=by
 rintro _ M R ⟨rs,rfl,g,r⟩;let hf:=g.few;let#[U,s,A]:=g.wds;show#[rs,U,7,9,s,A,λss o nd i=>8];let d:↥ss<=↥U:=len_sub nd i;show l8 (rest:=[]) (λw=>.tup [.tup [w,.int 0],.rl [.tup [.int 0,.int 1]]]) (small<|by rw[Ab];lia) (λ_ _=>trivial) (λw hw I C sb L=>L)<|aO.frz 8;show#[mN ss,8,small<|by rw[Ab,Ab];lia,8]
 .unfold pB mN;rw[Bp,Bp];rfl
 rw[MB (zfg nd)⁻¹,Iv];show j0.frz #[rs,7,9,aO.frz #[jP rs ss,#[rs,ownOf rs,mN ss],by rw[<-MD ↥rs rs rfl];rfl,by change ↥rs<=500;lia,7,#[7,λt=>mM rs t,λt p=>8],J2 rs ss,λq N=>Am (g.prt q N) ∅,λB F e m=>#[e,7,.inr #[_,aI,8]]]]
 .change(aN (mN ss) (eK (t,p))=ae/\(if p=0/\t∈ss then [((0:Int),(1:Int))] else [])=[])\/aN (mN ss) (eK (t,p))=-.rl ((if p=0/\t∈ss then [((0:Int),(1:Int))] else []).map λz=>.tup [¬z.1,¬z.2]);rw[zfh]
  by_cases h:p=0/\t∈ss
  .right;rw[Xu h,Xu h];rfl
  .left;rw[Xs h,Xs h];show#[7,7]
 .rw[iW m];let a:=Am (J4 F)<|K8 _;let a:↥B<=↥rs:=a;change fU ((eC fK eN B).map λp=>W.tup<|p.1.map wK) _ _ _ _ _ _ _;rw[MC];show sJ (rest:=[-.ft (eC fK eN B)]) (λw y=>∃f v,w=W.tup ((fK f).map wK)/\y=W.tup [.str f.1,v]/\True) (small<|by rw[Ab,Ab];lia) (λ_ _=>trivial) (λw hw I C sb L=>8) λZ x=>aO.frz 8
  .let#[f,hf,rfl]:=Ap.mp hw;let#[v,c]:=El.mp<|gA.mpr hf;show#[eN v,#[fK f,7,by rw[nQ nP,c];rfl],L _ #[f,_,7,7,trivial]]
  .let#[kvs,rfl,hk,_]:=BM (P:=λ_ _=>True) x;let b:=Cv x;rw[Ab,Ab]at b;show#[kvs,7,small 9,λp V=>#[_,aV,r _ (LB (λq N t ht D=>#[λ_=>rfl,λ_=>o q N t ht D]) F hk) p V]]
noncomputable def qS(l:↑(NP×W)):W:=.tup [.rl<|(aZ l).map bK,.rl<|l.map λz=>z.2]
def w9(rs:↑aD)(z:NP×W):Prop:=(∃n r,rs[n]? = aa r/\z=((r.name,cX rs r.parts),.tup [.tup [.int (n:Nat),sZ<|cX rs r.parts]]))\/∃e∈b7 rs,z=((dU rs e,cX rs e),sZ<|cX rs e)
def ME:aW:=λws M R=>∃rs:↑aD,ws=[.rl<|rs.map bK]/\zeW rs/\aO (rs.map bK) M R
def BW:aW:=λws M R=>∃(old:↑Av) (n:Nat),ws=[.rl<|old.map W.str,¬n]/\n+↥old<=9000/\aO ((kZ old n).map W.str) M R
def xA:aW:=λws M R=>∃ps:↑Av,ws=[.tup<|ps.map W.str]/\↥ps<=1000/\R (sZ ps) M
structure kA(P:Bc)(w:Bq)(C:Ao)(M:Mm)(a d dx:Ao)(l:↑(NP×W)):Prop where
 ob:M a=-.ins C dx [("backs",!d)]
 di:M d=-.dn P w [0] (kvsOf l)
def qT(P:Bc)(w:Bq)(C:Ao):aW:=λws M R=>∃a s,ws=[!a]/\M a=-.ins C s []/\∀d,M d=ae->R .non (put (put M d<|.dn P w [0] []) a<|.ins C s [("backs",!d)])
def nV(P:Bc)(w:Bq)(C:Ao):aW:=λws M R=>∃a d s l,∃(x:NP) (v:W),ws=[!a,.str x.1,.tup<|x.2.map W.str,v]/\kA P w C M a d s l/\↥l<=5000000/\∀U,Ex (λz=>z=(x,v)) l 1 (λy=>y=x) U->R .non (put M d<|.dn P w [0]<|kvsOf U)
def qU(P:Bc)(w:Bq)(C:Ao):aW:=λws M R=>∃a d s l,ws=[!a]/\kA P w C M a d s l/\R (qS l) M
def MF:aW:=λws M R=>∃rs:↑aD,ws=[.rl<|rs.map bK]/\iQ rs/\aO ((b7 rs).map λe=>W.tup<|e.map W.str) M R
def BX:aW:=λws M R=>∃(rs:↑aD) (ps:↑Av),ws=[.tup<|ps.map W.str,.dt<|iD rs]/\iQ rs/\(2<↥ps->ps.drop 1∈b7 rs)/\R (.tup<|(cX rs ps).map W.str) M
def MG:aW:=λws M R=>∃rs:↑aD,ws=[.rl<|rs.map bK]/\iQ rs/\rs≠[]/\∀l,(∀z∈l,w9 rs z)->(∀r∈rs,(r.name,cX rs r.parts)∈l.map Cg)->(∀e∈b7 rs,(dU rs e,cX rs e)∈l.map Cg)->↥l<=↥rs+↥(b7 rs)->Hd (f0 rs) True l->R (qS l) M
noncomputable abbrev zfj:↑Av:=["rules","known","rule"]
abbrev zfk:aE:=
   (bY (bL<|aG (dH ac) (bG cD<|aH^aB) a8)
    vG
    cR)
abbrev zfl:aE:=
   (aL 1<|bD<|aP i6<|aH^aB)
abbrev zfm:aE:=
   (bX<|aP J5<|aS^aM^aB)
abbrev zfn:aE:=
   (cE (bM cF aH) (aQ 2) zfm)
abbrev zfo:aE:=
   (bH<|bG vB<|aH^aB)
abbrev zfp:aE:=(aF zfk<|aF zfl<|aF zfn zfo)
noncomputable abbrev zfq:↑Av:=["old","count","taken","made","tried","name"]
abbrev zfr:aE:=
   (aL 2<|aP mL<|aH^aB)
abbrev zfs:aE:=
   (aL 3<|fB aB)
abbrev zft:aE:=
   (aL 04 a8)
abbrev zfu:aE:=
   (aF (aL 05<|aG oY (aG oY (aG wB (vC<|.str "M")<|aG cH aX<|aG jJ bC<|vI 10000)<|vC<|.str "_")<|bG zV<|aG gS bC (vI 10000)^aB)
   (aF (aL 04<|aG cH bC aX)
   (bY (bL<|aG (bZ ab) cA aS)
    (bX<|cJ "list" dZ a7<|cA^aB)
    cR)))
abbrev zfv:aE:=
   (jL (bL<|aG lX (bG cD<|a7^aB) aM) zfu)
abbrev zfw:aE:=
   (bH a7)
abbrev zfx:aE:=(aF zfr<|aF zfs<|aF zft<|aF zfv zfw)
noncomputable abbrev zfy:↑Av:=["parts"]
abbrev zfz:aE:=
   (bH<|IX<|bG cD<|aH^aB)
noncomputable abbrev zfA:↑Av:=["self"]
abbrev zfB(P:Bc)(w:Bq)(C:Ao):aE:=
   (i4 C aH "backs"<|IT P w [0])
noncomputable abbrev zfC:↑Av:=["self","name","parts","pieces"]
abbrev zfD(P:Bc)(w:Bq)(C:Ao):aE:=
   (bX<|IV P w [0] (dB C aH "backs") (bA<|aM^aS^a8^aB) a7)
noncomputable abbrev zfE:↑Av:=["self"]
abbrev zfF(P:Bc)(w:Bq)(C:Ao):aE:=
   (bH<|bA<|bD (bG (AX P w [0])<|dB C aH "backs"^aB)^bD (bG (AX P w [0])<|IW P w [0] (dB C aH "backs")^aB)^aB)
noncomputable abbrev zfG:↑Av:=["grammar","found","rule","k"]
abbrev zfH:aE:=
   (aL 1 kS)
abbrev zfI:aE:=
   (cE (HF<|aX^aG kR (bG cD<|vX aS aX^aB) aX^aB) (aQ 3)
    (eU (vC<|.bl ab)<|gI aM<|l7 (vX aS aX) (iO a7) vA))
abbrev zfJ:aE:=
   (cE (bM cF aH) (aQ 2) zfI)
abbrev zfK:aE:=
   (bH<|bG IY<|aM^aB)
abbrev zfL:aE:=(aF zfH<|aF zfJ zfK)
noncomputable abbrev zfM:↑Av:=["parts","made"]
abbrev zfN:aE:=
   (bH<|zG (bL<|aG zL (bG cD<|aH^aB) lU) aH<|bA<|vX aH a8^vX aM (l7 aH (iO aX) vA)^aB)
noncomputable abbrev zfO:↑Av:=["grammar","ends","made","plain","number","rule","parts","end"]
abbrev zfP(P:Bc)(w:Bq)(C:Ao):aE:=
   (aF (aL 06<|aP BX<|vX cA aX^aS^aB)
   (bX<|eA C "put_rule" (nV P w C) a7<|vX cA a8^cQ^bA (bA (bC^aP xA (cQ^aB)^aB)^aB)^aB))
abbrev zfQ(P:Bc)(w:Bq)(C:Ao):aE:=
   (aF (aL 06<|aP BX<|cC^aS^aB)
   (bX<|eA C "put_rule" (nV P w C) a7<|vX aS cC^cQ^aP xA (cQ^aB)^aB))
abbrev zfR(P:Bc)(w:Bq)(C:Ao):aE:=(aF (aL 1<|bD<|aP MF<|aH^aB)<|aF (aL 2<|JC<|aM^bD (aP BW<|bD (aP i6<|aH^aB)^bG cD (aM^aB)^aB)^aB)<|aF (aL 3<|mB C (qT P w C) aB)<|aF (cE (qD<|aH^aB) (eL 2<|bW (aQ 04)<|bW (aQ 05) eJ)<|zfP P w C)<|aF (cE (bM cF aM) (aQ 07)<|zfQ P w C)<|bH<|eA C "grammar_and_backs" (qU P w C) a7 aB)
def zfS:bE ME zfp zfj:=by
 rintro _ M R ⟨rs,rfl,g,r⟩;show fV (λZ=>8) λ_=>#[rs,7,Am g.few ∅,aO.frz 8]
 .let h:=Xv Z;rw[Ab]at h;show g.ne<|Gz.mp<|Int.ofNat.inj h
 show c8 (λi O F=>∃o,O=[-.rl (rs.map bK),-.rl ((namesOf rs).map W.str),o]/\F=M) #[_,7,7] 8 8
 .rintro i w O F hw ⟨o,rfl,rfl⟩ X I;let#[t,ht,rfl]:=Ap.mp<|Ah hw;let#[L,Y]:=g.ok t ht;show#[t,_,7,L,Y,I _ _ #[_,7,7]]
 .rintro O F ⟨o,rfl,rfl⟩;show λq N=>#[_,aV,r q N]
def BY{d:Ao}:Cj ("backs" : Av) [(("backs" : Av),W.ref d)]=aa (!d):=by rw[Em,beq_self_eq_true]
def MH:Jm ("M" : Av) 1 = "M":=5
def zfT:bE BW zfx zfq:=by
 rintro _ M R ⟨old,n,rfl,hl,r⟩;show#[old,7,9,λp B=>8];show#[λm O F=>∃t o,m=n+↥old-t/\t<=n+↥old/\↥(gN old t)<=n/\O=[-.rl (old.map W.str),aa ¬n,-.dk ((old.foldl dC []).map cL),aa !p,-.int (t:Nat),o]/\F=put M p (.lst<|(gN old t).map W.str),#[_,0,ae,7,Cu _,Cu _,7,7],8];rintro m O F ⟨t,o,rfl,ht,Z,rfl,rfl⟩;let tl:=LU old t<|Er ht<|Er hl ∅;show .inl #[_,aI,fV (λhc=>8) λhc=>8]
 .let hc:↥(gN old t)<n:=by have:=Xv hc;rw[Ab]at this;lia
  let T:(t:Int)/10000=0:=Int.ediv_eq_zero_of_lt 9 9;let G:(t:Int) % 10000=t:=Int.emod_eq_of_lt 9 9;let en:(Jm ("M" : Av) (1+(t:Int)/10000)++"_"++Bz (toString<|(t:Int) % 10000))=eZ t:=by
   rw[T,G,show((1:Int)+0)=1 from rfl,MH];rfl
  let u:↥("M" : Av)=1:=5
  let k:↥("_" : Av)=1:=5
  let a:↥(Bz<|toString<|(t:Int) % 10000)<=10:=by rw[G];show Qb 9 9
  let c:↥(Jm ("M" : Av)<|1+(t:Int)/10000)=1:=by rw[T,show((1:Int)+0)=1 from rfl,MH];show u
  show#[#[by decide,by decide],("M" : Av),1+(t:Int)/10000,7,7,9,9,9,_,_,7,7,small 9,(by decide:(0:Int)<10000),JN (Ga _ ∅)<|Fb _ ∅,_,_,7,7,small<|by rw[Nx];lia,8];rw[en];let b:decide (eZ t∈old.foldl dC [])=decide (eZ t∈old):=by
   rw[Ef,decide_eq_true_eq,decide_eq_true_eq,vZ];simp
  let ts:=LS old t;show#[_,#[Sum.inr<|eZ t,7,7],8];change if (!((aN ((old.foldl dC []).map cL) (Sum.inr (eZ t):aC)).isSome))=ab then _ else _;rw[tD,b];show fV (λJ=>8) λJ=>8
  .let J:eZ t∉old:=λz=>by rw[Xw z]at J;ext J
   rw[Xs J]at ts;show#[.inl #[7,_,aI],_,aI,cS<|by rw[Ab];lia,_,_,8,aV,t+1,_,7,9,by rw[ts,Ag,Cd];lia,7,8]
   .lia
   .rw[bV,ts,Ar];rfl
  .let J:eZ t∈old:=Xv (by rw[<-Ge (decide _),J];rfl);rw[Xu J]at ts;show#[_,_,9,aV,t+1,_,7,9,by rw[ts];show Z,7,by rw[ts]]
 .let hc:¬(↥(gN old t)<n):=λz=>by have:=of_decide_eq_false hc;rw[Ab]at this;lia
  let e:=zeU (old:=old) (n:=n) (t:=t) 9 ht;rw[e];show#[_,aV,r p B]
def zfU:bE xA zfz zfy:=by
 rintro _ M R ⟨ps,rfl,hl,r⟩;show#[↥ps,by rw[Ab],hl,_,aV,r]
def zfV{P:Bc}{w:Bq}{C:Ao}:bE (qT P w C) (zfB P w C) zfA:=by
 rintro _ M R ⟨a,s,rfl,S,r⟩;show λd hd=>8;let j:a≠d:=λe=>by subst e;rw[S]at hd;ext hd
 show#[a,s,[],7,by rw[aT j];show S,by decide,_,aV,r d hd]
def zfW{P:Bc}{w:Bq}{C:Ao}:bE (nV P w C) (zfD P w C) zfC:=by
 rintro _ M R ⟨a,d,s,l,x,v,rfl,i,hl,r⟩;let r:=r (addT l (x,v))<|Ex.addT x v;show#[a,s,_,!d,7,i.ob,BY,#[d,_,7,i.di],d,_,k9 x,7,i.di,8,by ext kvsOf;rw[Ab];show cS 9,8,8]
 .unfold gJ k9;simp[wK,Mr]
 .intro E e;rcases LY l x with⟨L,_⟩|⟨_,Y⟩
  .rw[L]at e;ext e
  .unfold addT at r;rw[Xu Y,zC i.di]at r;show#[_,aV,r]
 .intro e;rcases LY l x with⟨_,Y⟩|⟨⟨E,L⟩,_⟩
  .unfold addT at r;rw[Xs Y]at r;unfold kvsOf at r;rw[Ar]at r;show#[_,aV,r]
  .rw[L]at e;ext e
def zfX(l:↑(NP×W)):((kvsOf l).map λz=>gJ [0] z.1)=(aZ l).map bK:=by
 ext kvsOf;rw[Bp,Bp];show Ei λz _=>LZ z.1
def zfY(l:↑(NP×W)):((kvsOf l).map λz=>z.2)=l.map λz=>z.2:=by ext kvsOf;rw[Bp];rfl
def zfZ{P:Bc}{w:Bq}{C:Ao}:bE (qU P w C) (zfF P w C) zfE:=by
 rintro _ M R ⟨a,d,s,l,rfl,i,r⟩;show#[a,s,_,!d,7,i.ob,BY,.inl #[_,i.di,aO.frz #[a,s,_,!d,7,i.ob,BY,d,_,7,i.di,λv c=>.inr #[d,_,aI,by rw[aT λe=>by rw[<-e,i.di]at c;ext c];show i.di,aO.frz #[_,Sub.new c,8]]]]];rw[zfX,zfY];show r
noncomputable def jV(e:↑Av):↑aC×W:=(fE e,.bl ab)
def zf0(acc:↑(↑Av))(e:↑Av):bU (acc.map jV) (fE e) (.bl ab)=(jT acc e).map jV:=by
 unfold bU jT;let h:((acc.map jV).any λg=>decide<|g.1=fE e)=decide (e∈acc):=by
  rw[Kq,Ef,Gb,decide_eq_true_eq];constructor
  .rintro⟨x,S,h⟩;have:=BP<|Xv h;rw[<-this];show S
  .intro h;show#[e,h,by simp[jV]]
 rw[h]
 by_cases h:e∈acc
 .rw[Xu<|Xw h,Xu h,Bp];show Ei λu D=>8;change(if (jV u).1=fE e then((jV u).1,W.bl ab) else jV u)=jV u
  by_cases hh:(jV u).1=fE e
  .rw[Xu hh];rfl
  .rw[Xs hh]
 .rw[Xs h⁻¹,Xs h,Ar];rfl
def zf1{rs:↑aD}{i:Nat}{r:aD}(h:rs[i]? = aa r):nU (rs.take<|i+1)=nU (rs.take i)++gX r.parts:=by
 ext nU;rw[Bx,h,Ar,List.flatten_append];simp
def MI{g:Type}[DecidableEq g](acc a b:↑g):jU acc (a++b)=jU (jU acc a) b:=Mg
def zf2{rs:↑aD}{i:Nat}{r:aD}(h:rs[i]? = aa r):b7 (rs.take<|i+1)=jU (b7<|rs.take i) (gX r.parts):=by
 ext b7;rw[zf1 h,MI]
def zf3{ps:↑Av}{j:Nat}(h:j<↥ps-2):(gX ps).take (j+1)=(gX ps).take j++[ps.drop<|j+1]:=by
 have:(gX ps)[j]? = aa (ps.drop<|j+1):=by
  ext gX;rw[Au,Rh h];rfl
 rw[Bx,this];rfl
def MJ{ws:↑W}{k:Nat}(h:k<=↥ws):dJ ws (aa (k:Int)) ae=ws.drop k:=by
 ext dJ;let T:HT.sIx ↥ws 0 (aa (k:Int))=k:=by
  rw[HT.sIx_nat];lia
 let J:HT.sIx ↥ws ↥ws ae=↥ws:=rfl;rw[T,J,Pm<|by rw[Eo];show Aj _]
def zf4:bE BX zfN zfM:=by
 rintro _ M R ⟨rs,ps,rfl,f,P,r⟩;unfold cX at r;let el:(↥(ps.map W.str):Int)<=2↔↥ps<=2:=by rw[Ab];lia
 show fV (λh=>8) λh=>8
 .rw[Xu<|el.mp<|Xv h]at r;show#[_,aV,r]
 .let hl:¬(↥ps<=2):=λz=>of_decide_eq_false h<|el.mpr z;rw[Xs hl]at r;cases ps with
  | nil=>simp at hl
  | cons x ps=>
   let J:=P 9;let g:(1:Int)=((1:Nat):Int):=rfl;show so.of (l9 _ _) #[λS=>8,_,#[fE ps,8,(BQ f J).1.symm],_,aV,r]
   .let L:=S.1;rw[g,HT.sIx_nat]at L;simp at L
   .rw[g,MJ 6,tB];rfl
def zf5:bE MF zfL zfG:=by
 rintro _ M R ⟨rs,rfl,f,r⟩;show λp B=>c8 (λi O F=>∃s V,O=[-.rl (rs.map bK),aa !p,s,V]/\F=put M p (.dT<|(b7<|rs.take i).map jV)) #[_,_,7,7] 8 8
 .rintro i w O F hw ⟨s,V,rfl,rfl⟩ X I;rw[Au]at hw;let#[q,N,rfl]:=Ay.mp hw;let J:q∈rs:=Ah N;let A:=f.prt q J;let hi:i<↥rs:=(An.mp N).1;let D:=f.few;let d:=LO (rs:=rs.take i) λr G=>f.prt r<|Ft G;rw[Ct]at d;let a:↥(q.parts.map W.str)=↥q.parts:=Ab ..;show#[1,_,7,#[by decide,by decide,9,9],8];let c:((↥(q.parts.map W.str):Int)-1-1).toNat=↥q.parts-2:=9
  rw[c];show c8 (λj O F=>∃V,O=[-.rl (rs.map bK),aa !p,-bK q,V]/\F=put M p (.dT<|(jU (b7<|rs.take i)<|(gX q.parts).take j).map jV)) #[_,7,7] 8 8
  .rintro j w O F hw ⟨V,rfl,rfl⟩ X I;unfold l6 at hw;rw[Au]at hw;let#[U,Z,rfl]:=Ay.mp hw;let b:j<↥q.parts-2:=by have:=(An.mp Z).1;simpa using this
   obtain rfl:U=j:=by rw[Rh b]at Z;show(Cm Z).symm
   let g:((1:Int)+(U:Int))=((U+1:Nat):Int):=9
   rw[g];show#[λS=>8,8]
   .rw[HT.sIx_nat]at S;have:=S.1;lia
   .rw[MJ 9,<-Rn,<-tB];let u:=BN (ts:=(gX q.parts).take U) (acc:=b7<|rs.take i);let k:=List.length_take_le U<|gX q.parts;show oP aI (by rw[Ab];show cS 9)<|I _ _ #[_,7,8];rw[bV,zf0,zf3 b,MI];rfl
  .rintro O F ⟨V,rfl,rfl⟩;show I _ _ #[_,_,7,8];have:↥(l6 1<|↥q.parts-2)=↥(gX q.parts):=by unfold l6 gX;simp
   rw[this,Bn,zf2 N]
 .rintro O F ⟨s,V,rfl,rfl⟩;rw[Ab,Bn];show#[_,aI,λq N=>8];let t:q≠p:=λe=>by subst e;rw[aI]at N;ext N
  rw[aT t]at N;show#[_,8,r q N];rw[Bp];let e:(b7 rs).map ((λ(p:↑aC×W)=>W.tup<|p.1.map wK) ∘ jV)=(b7 rs).map λe=>W.tup (e.map W.str):=Ei λl _=>by change W.tup ((fE l).map wK)=_;rw[tB]
  rw[e];show Sub.put<|Sub.new B
noncomputable def Bt(P:Bc)(w:Bq)(C:Ao)(M:Mm)(a d s:Ao)(l:↑(NP×W)):Mm:=put (put M a<|.ins C s [("backs",!d)]) d<|.dn P w [0]<|kvsOf l
def Bt.pl{P:Bc}{w:Bq}{C:Ao}{M:Mm}{a d s:Ao}{l:↑(NP×W)}(h:a≠d):kA P w C (Bt P w C M a d s l) a d s l:=#[by ext Bt;rw[aT h,aI],aI]
def Bt.sub{P:Bc}{w:Bq}{C:Ao}{M:Mm}{a d s:Ao}{l:↑(NP×W)}(S:M a=ae)(hd:M d=ae)(h:a≠d):Sub M (Bt P w C M a d s l):=(Sub.new S).trans (Sub.new<|by rw[aT<|Cs h];show hd)
def Bt.put{P:Bc}{w:Bq}{C:Ao}{M:Mm}{a d s:Ao}{l U:↑(NP×W)}:L2.put (Bt P w C M a d s l) d (.dn P w [0]<|kvsOf U)=Bt P w C M a d s U:=bV
def Bt.first{P:Bc}{w:Bq}{C:Ao}{M:Mm}{a d s:Ao}{o:MO}(h:a≠d):L2.put (L2.put (L2.put M a o) d<|.dn P w [0] []) a (.ins C s [("backs",!d)])=Bt P w C M a d s []:=by
 unfold Bt kvsOf;rw[lQ<|Cs h,bV];rfl
def nX{d:Ao}:Cj ("put_rule" : Av) [(("backs" : Av),W.ref d)]=ae:=by
 rw[Em,show(("put_rule" : Av)==("backs" : Av))=ac by decide +kernel];rfl
def tE{d:Ao}:Cj ("grammar_and_backs" : Av) [(("backs" : Av),W.ref d)]=ae:=by
 rw[Em,show(("grammar_and_backs" : Av)==("backs" : Av))=ac by decide +kernel];rfl
def zf6{P:Bc}{w:Bq}{C:Ao}:bE MG (zfR P w C) zfO:=by
 rintro _ M R ⟨rs,rfl,f,j,r⟩;let hf:=f.few;let x:=f.sum;let L:=LO f.prt;show#[rs,7,f,aO.frz #[rs,7,9,aO.frz #[namesOf rs,↥(b7 rs),by rw[Ab],9,aO.frz #[iD rs,by rw[ze0 f,zeZ f];rfl,8]]]];rw[zeY f];show λa s S k _=>#[a,s,7,aI,λd hd=>#[7,8]]
 let had:a≠d:=λe=>by rw[<-e,aI]at hd;ext hd
 rw[aT<|Cs had]at hd;rw[Bt.first had];generalize T:(b7 rs).map (λe=>W.tup<|e.map W.str)=E;show c8 (λi O F=>∃l y K H,O=[-.rl (rs.map bK),-.rl E,-.dt (iD rs),aa !a,y,K,H,ae]/\F=Bt P w C M a d s l/\(∀z∈l,w9 rs z)/\(∀r∈rs.take i,(r.name,cX rs r.parts)∈l.map Cg)/\↥l<=i/\(0<i->Hd (f0 rs) True l)) #[[],_,_,_,7,7,(λ_ h=>nomatch h),(λ_ h=>nomatch h),Aj _,λh=>absurd h ∅] 8 8
 .rintro i v O F hw ⟨l,y,K,H,rfl,rfl,hl,hc,p,hd⟩ X I;rw[AK,Au,Qc]at hw;let#[q,N,rfl]:=Ay.mp hw;let Y:=BR rs q.parts;let hi:i<↥rs:=(An.mp N).1;show#[7,7,rs,q.parts,7,f,sY<|Ah N,mI (Bt.pl had).ob nX #[cX rs q.parts,7,9,a,d,s,l,(q.name,cX rs q.parts),_,7,Bt.pl had,9,λU g=>I _ _ #[U,_,_,_,7,Bt.put,g.all hl λz e=>.inl #[i,q,N,by rw[e,Jb]],(λr G=>g.had<|by rw[Bx,N]at G;show(Az.mp G).imp (hc r) λz=>by rw[Ae.mp z]),Am g.len<|Ea p,λ_=>8]]];cases i with
  | zero=>
   cases l with
   | nil=>
    show Hd.of g (λz e=>8) λ_=>#[_,7]
    cases rs with
    | nil=>ext N
    | cons n rs=>ext N;rw[e];rfl
   | cons z l=>ext p
  | succ i=>show(hd<|Sn i).ex g
 .rintro O F ⟨B,y,K,H,rfl,rfl,A,o,t,b⟩;rw[oQ,Ab]at t b o;rw[Bn]at o;let b:=b<|Jk.mpr j;show c8 (λi O F=>∃l y K H Q,O=[-.rl (rs.map bK),-.rl E,-.dt (iD rs),aa !a,y,K,H,Q]/\F=Bt P w C M a d s l/\(∀z∈l,w9 rs z)/\(∀r∈rs,(r.name,cX rs r.parts)∈l.map Cg)/\(∀e∈(b7 rs).take i,(dU rs e,cX rs e)∈l.map Cg)/\↥l<=↥rs+i/\Hd (f0 rs) True l) #[B,_,_,_,_,7,7,A,o,(λ_ h=>nomatch h),t,b] 8 8
  .rintro i v O F hw ⟨l,y,K,H,Q,rfl,rfl,hl,hc,c,p,hd⟩ X I;rw[<-T,Au]at hw;let#[e,m,rfl]:=Ay.mp hw;let J:e∈b7 rs:=Ah m;let Y:=BR rs e;let hi:i<↥(b7 rs):=(An.mp m).1;show#[rs,e,7,f,qQ J,mI (Bt.pl had).ob nX #[.str<|dU rs e,#[fE e,by rw[tB],(BQ f J).1.symm],cX rs e,7,9,a,d,s,l,(dU rs e,cX rs e),_,7,Bt.pl had,9,λU g=>I _ _ #[U,_,_,_,_,7,Bt.put,g.all hl λz q=>.inr #[e,J,q],(λr G=>g.had<|.inl<|hc r G),(λu D=>g.had<|by rw[Bx,m]at D;show(Az.mp D).imp (c u) λz=>by rw[Ae.mp z]),Am g.len<|Ea p,hd.ex g]]]
  .rintro O F ⟨l,y,K,H,Q,rfl,rfl,hl,hc,c,p,Z⟩;rw[<-T,Ab]at p c;rw[Bn]at c;show mI (Bt.pl had).ob tE #[a,d,s,l,7,Bt.pl had,_,Bt.sub S hd had,r l hl hc c p Z]
def nY{ps:↑Av}{M:Mm}(h:∀t∈ps,Sh t):Pl 2 (c9 M<|.tup<|ps.map W.str):=λw hw=>by
 let#[t,ht,rfl]:=Ap.mp hw;show oW (h t ht).asc
section
variable {X:Cx}{pos:Ja}
def zf7{i:Nat}{x:Av}(hi:X.N[i]? = aa x:=by rfl)(hl:oM X x=ab:=by show pV)(a:X.N.Nodup:=by show Xv<|by kernel_rfl):PG X (.Name x pos) (iP X.K<|aQ i):=HA a hi hl
end
def pD{N ps:↑Av}{sc:Lm}(a:sc.kind=.function:=by rfl)(b:sc.isCoroutine=ac:=by rfl)(c:sc.isGenerator=ac:=by rfl)(d:N.Nodup:=by decide +kernel)(e:N.take ↥ps=ps:=by rfl)(f:∀x∈ps,sc.names.lookup x=-.local\/sc.names.lookup x=-.cell:=by decide +kernel)(g:∀y∈sc.names,y.2≠.free:=by decide +kernel):mT N ps sc:=#[a,b,c,d,e,f,g]
def MK{C:↑Value->Prop}(h:C [])(us:↑Value)(e:↥us=0):C us:=by rw[Gz.mp e];show h
theorem tF{C:↑Value->Prop}{n:Nat}(k:∀a us,↥us=n->C (a::us)):∀us:↑Value,↥us=n+1->C us
 | a::l,e=>k a l<|Ua e
def xB{C:↑Value->Prop}(h:∀a,C [a]):∀us:↑Value,↥us=1->C us:=tF λa=>MK<|h a
def xD{C:↑Value->Prop}(h:∀a b,C [a,b]):∀us:↑Value,↥us=2->C us:=tF λa=>xB<|h a
def xE{C:↑Value->Prop}(h:∀a b c,C [a,b,c]):∀us:↑Value,↥us=3->C us:=tF λa=>xD<|h a
def xF{C:↑Value->Prop}(h:∀a b c d,C [a,b,c,d]):∀us:↑Value,↥us=04->C us:=tF λa=>xE<|h a
def BZ{C:↑Value->Prop}(h:∀a b c d e,C [a,b,c,d,e]):∀us:↑Value,↥us=05->C us:=tF λa=>xF<|h a
def B0(x q:Av)(st:Kt)(ps:↑Av):Prop:=∀(kV doc pm:Value) (an:Option Ao) (cdv ct:Value) (us:↑Value),↥us=↥ps->bindArgs (Gq x q (jA st) (gD st) (dS st) .none kV doc pm an cdv ct) #[us,[]]=pure (ps.zip us)
section
variable {K:Ac}{mg:Av->Option Value}{h:Cz}{x q:Av}{st:Kt}{C f:Ao}{ps:↑Av}{an:Option Ao}{kV doc pm cdv ct:Value}
def dF(X:K.In h)(G:h.Ns Es mg)(Z:B0 x x st ps:=by first|exact λ_ _ _ _ _ _=>xB λ_=>rfl|exact λ_ _ _ _ _ _=>xD λ_ _=>rfl|exact λ_ _ _ _ _ _=>xE λ_ _ _=>rfl|exact λ_ _ _ _ _ _=>xF λ_ _ _ _=>rfl|exact λ_ _ _ _ _ _=>BZ λ_ _ _ _ _=>rfl|exact λ_ _ _ _ _ _=>ar6 λ_ _ _ _ _ _=>rfl|exact λ_ _ _ _ _ _=>ar7 λ_ _ _ _ _ _ _=>rfl|exact λ_ _ _ _ _ _=>MK rfl)(n:Uj K Es x=aa (aa !f):=by kernel_rfl)(l:K.lookup f=-#[.type "function",ae,.func<|Gq x x (jA st) (gD st) (dS st) .none kV doc pm an cdv ct,#[]]:=by kernel_rfl)(c:Ls K cdv x=ab:=by kernel_rfl)(k:He K (!f)=ab:=by kernel_rfl):Df K mg x st ps f (Gq x x (jA st) (gD st) (dS st) .none kV doc pm an cdv ct):=#[pO l c k,Ku X G n,(pO l c k).binds Z]
def dM(Z:B0 x q st ps:=by first|exact λ_ _ _ _ _ _=>xB λ_=>rfl|exact λ_ _ _ _ _ _=>xD λ_ _=>rfl|exact λ_ _ _ _ _ _=>xE λ_ _ _=>rfl|exact λ_ _ _ _ _ _=>xF λ_ _ _ _=>rfl|exact λ_ _ _ _ _ _=>BZ λ_ _ _ _ _=>rfl)(a:Fq K (!C) x=aa (aa !f):=by kernel_rfl)(n:Pa K (!f)=ab:=by kernel_rfl)(l:K.lookup f=-#[.type "function",ae,.func<|Gq x q (jA st) (gD st) (dS st) .none kV doc pm an cdv ct,#[]]:=by kernel_rfl)(c:Ls K cdv q=ab:=by kernel_rfl)(k:He K (!f)=ab:=by kernel_rfl):Dm K C x q st ps f (Gq x q (jA st) (gD st) (dS st) .none kV doc pm an cdv ct):=#[pO l c k,#[a,n,k],(pO l c k).binds Z]
def dI(Z:B0 x q st ps:=by first|exact λ_ _ _ _ _ _=>xB λ_=>rfl|exact λ_ _ _ _ _ _=>xD λ_ _=>rfl|exact λ_ _ _ _ _ _=>xE λ_ _ _=>rfl|exact λ_ _ _ _ _ _=>xF λ_ _ _ _=>rfl|exact λ_ _ _ _ _ _=>BZ λ_ _ _ _ _=>rfl)(m:Sk K C=ab:=by kernel_rfl)(a:Fq K (!C) "__init__" = aa (aa !f):=by kernel_rfl)(n:Pa K (!f)=ab:=by kernel_rfl)(d:He K (!C)=ab:=by kernel_rfl)(l:K.lookup f=-#[.type "function",ae,.func<|Gq x q (jA st) (gD st) (dS st) .none kV doc pm an cdv ct,#[]]:=by kernel_rfl)(c:Ls K cdv q=ab:=by kernel_rfl)(k:He K (!f)=ab:=by kernel_rfl):Di K C x q st ps f (Gq x q (jA st) (gD st) (dS st) .none kV doc pm an cdv ct):=#[pO l c k,#[m,a,n,d],(pO l c k).binds Z]
variable {P:Bc}{w:Bq}{base:Cz}{fd:Fi}{N:↑Av}{k:Nat}{sp:aW}{rd:aE}
def ML(P:Bc)(w:Bq)(mg:Av->Option Value)(base:Cz)(k:Nat)(F:jF K x q st f fd)(_:Binds K fd ps [])(S:mT N ps<|dS st)(len:∀ws M R,sp ws M R->↥ws=↥ps)(a:bE sp rd N)(d:∀{cdv:Value} {A:Cw} {outer:↑Ws} {s:Ai} {H:Hp} {E:XK},cT k (A.deeper<|Nd q (dS st) ⇑s f cdv)->(A.deeper<|Nd q (dS st) ⇑s f cdv).units+1<Fs->N.Nodup->jK (kI eR P w K mg base N q (dS st) f cdv A outer s H E).nox (gD st) rd):iV P w K mg base eR (k+1) f fd ps (fJ K sp):=
 vF F S len λ_ _ _ _ _ _ _ _ _ G h=>#[rd,d G (EZ G) S.nd,a _ _ _ h]
def B1(P:Bc)(w:Bq)(mg:Av->Option Value)(base:Cz)(k:Nat)(F:jF K x q st f fd)(_:Binds K fd ps [])(S:mT N ps<|dS st)(a:bE sp rd N)(d:∀{cdv:Value} {A:Cw} {outer:↑Ws} {s:Ai} {H:Hp} {E:XK},cT k (A.deeper<|Nd q (dS st) ⇑s f cdv)->(A.deeper<|Nd q (dS st) ⇑s f cdv).units+1<Fs->N.Nodup->jK (kI eR P w K mg base N q (dS st) f cdv A outer s H E).nox (gD st) rd)(len:∀ws M R,sp ws M R->↥ws=↥ps:=by intro _ _ _ h;repeat (first|(let#[rfl,_]:=h;exact rfl)|let#[_,h]:=h)):iV P w K mg base eR (k+1) f fd ps (fJ K sp):=
 vF F S len λ_ _ _ _ _ _ _ _ _ G h=>#[rd,d G (EZ G) S.nd,a _ _ _ h]
end
section
variable {X:Cx}{pos p:Ja}{x:Av}{st:Kt}{e:Ck}{es:↑Ck}{t:dO}{k j:Nat}{f:Ao}{fd:Fi}{ps:↑Av}{sp:aW}
def bR(F:X.f eR k f fd ps<|fJ X.K sp)(D:Df X.K X.mg x st ps f fd)(G:cT j X.A)(S:A3 X (e::es) t)(Z:k<=j:=by decide)(hg:Gl X x:=by rfl)(o:Db x:=by decide)(P:Se X e es:=by rfl)(y:Sb X pos es:=by rfl):
  E3 X (.Call (.Name x p) (e::es) [] pos) (aP sp t):=sA F (G.mono Z) hg D.at_ D.fn.kp D.bi S o P y
end
section
variable {X:Cx}
def zf8(tk L:TE):TE:=λG H Q=>∀p,H p=ae->uG [(tk,L)] G (aK H p<|.dT []) λps z=>∃(b:Ao) (y:V) (k:↑aC),ps=[(!b,y)]/\z p=-.dT []/\z b=-.tup (k.map kV)/\Q (!p) (aK z p<|.dT [(k,y)])
def zf9{k v:Ck}{tk tv:TE}{pos:Ja}(hu:X.A.units+1<Fs)(hk:PE X k tk)(hv:PE X v tv):PE X (.Dict [-k] [v] pos) (zf8 tk tv):=by
 intro af s Z H Q I q;let hn:=I.hok.fresh<|Aj ⇑s;let I1:=I.laid (a:=⇑s) (o:=.dT []) (h':=s.heap.push {cls:=.type "dict",data:=.dict #[]}) (t':=s.toks) (λ_ _ q=>Af _ q) (Aj _)<|ES s.heap I.big;show wpAny_Dict_any rfl rfl (λh=>nomatch h) (by decide:1<=15)<|aY (EU hk hv ET af _ Z _ _ I1<|q _ hn) λws s2 z0=>8;let#[ps,H2,I2,rel,b,y,k,ep,e,eb,q2]:=z0;subst ep;cases rel with
 | @cons a1 b1 _ _ r1 r2=>
  ext r2;let#[u1,u2]:=b1;let#[ru,rv]:=r1;cases (show u1=Value.ref b from ru);let#[z,hd,xs,rel,dd]:=rM I2.hok e;ext rel;unfold storeAll;rw[Li];show Aa<|Aa<|wpAny_dictSet_heap (hsz:=Cu _) (Mo hu) (jE I2.hok eb) dd λh' dd' hs=>Ak 8;change Bm _ _ (pure PUnit.unit) _ _ _;show Ak #[!_,_,8,7,q2];let#[q,es,ep,hq,h2,h3,h4,_,h5]:=dd';show oF I2 (by rw[e];show True.intro) hs #[q,hq] #[show 1<=Aw by decide,hd,_,((show KT H2 [] [] from .nil).put k eb rv).keeps λc ys ec=>8,q,es,ep,hq,h2,h3,h4,h5];rw[bB<|tT ec e λz=>nomatch z];show ec
end
section
variable {X:Cx}{a b:Ck}{ta tb:aR}{pos p:Ja}
abbrev MM(ta tb:aR):aR:=λO M R=>∀p,M p=ae->ta O (put M p<|.dT []) λx I=>tb O I λy v=>v p=-.dT []/\∃k:↑aC,x=.tup (k.map wK)/\R (!p) (put v p<|.dT [(k,y)])
def zga(D:X.A.units+1<Fs)(S:E3 X a ta)(Z:E3 X b tb):E3 X (.Dict [-a] [b] pos) (MM ta tb):=
 (zf9 D S Z).weak λG H Q V=>V.el λO M R m U h k=>λp B=>by
  let#[s,l]:=U.laid (o:=.dT []) (u:=.dT []) B #[[],b8,.nil];show#[O,_,_,m.kp U l,s,h p<|U.nonM B,λx g n I k1 j t L=>#[O,I,_,(m.kp U l).kp s k1,j,L,λy z J v k2 P E V=>8]];let#[e,kk,ex,r]:=V;subst ex;let#[ks,f,q]:=P _ _ e;ext q;let d:=t.kp j k2;show d.tupE λc xs C w K=>by
   let#[F,i]:=P.write (o:=.dT [(kk,J)]) (u:=.dT [(kk,y)]) e #[_,b8,.cons #[7,E.wr P e] .nil];show#[c,y,kk,by rw[C],f,by rw[<-K.keys];show w,k _ _ _ _ (((l.trans k1).trans k2).trans i) F (!_) r]
variable {x:Av}{e:Ck}{es:↑Ck}{t:dO}{k j i:Nat}{f:Ao}{fd:Fi}{ps:↑Av}{sp:aW}
abbrev B2(i:Nat)(f:Ao)(sp:aW)(t:dO):aR:=λO M R=>O[i]? = aa (aa !f)/\aP sp t O M R
def MN{g:Ao}(ef:g=f)(F:X.f eR k f fd ps<|fJ X.K sp)(G:cT j X.A)(hk:He X.K (!f)=ab)(Z:Binds X.K fd ps [])(S:A3 X (e::es) t)(D:k<=j:=by decide)(a:X.N[i]? = aa x:=by rfl)(c:tV X.env.scope x:=by first|exact Or.inl rfl|exact Or.inr (Or.inl rfl)|exact Or.inr (Or.inr rfl))(hd:Db x:=by decide)(o:(x==("__classdict__" : Av))=ac:=by decide)(P:Se X e es:=by rfl)(y:Sb X pos es:=by rfl):
  E3 X (.Call (.Name x p) (e::es) [] pos) (B2 i g sp t):=by
 subst ef;intro C s d H Q I #[O,M,R,m,U,#[L,h],J];let gc:=GI (K:=X.K) #[O,M,R,m,U,h,J];let#[v,T,av]:=m.get L;show Ek<|aY (DJ (pos:=p) a c hd o C s d H (λw Y=>w=!g/\Y=H) I #[v,T,av.inv,7]) λu s1 V=>8;let#[w,B,n,E,ew,eH]:=V;subst ew eH;ext E;show Nt (h₀:=X.base) n.ok.mod.kin hk (aY (S pos C s1 d B _ n gc) λus l b=>by let#[vs,z,W,r,q]:=b;show#[W.kIn,uA F (G.mono D) Z .nil pN W r q]) P y
def MP{g f:Ao}{fd:Fi}{ps:↑Av}{x:Av}{pos:Ja}{st:Kt}(a:g=f)(D:Df X.K X.mg x st ps f fd)(hg:Gl X x:=by rfl)(hd:Db x:=by decide):E3 X (.Name x pos) (vC !g):=by
 subst a;show rY (y:=!g) hg D.at_ rfl (λ_ _=>!_) hd
end
section
variable {X:Cx}
def xG{P:Bc}{w:Bq}{H:Hp}{h:Cz}{a:Ao}{ks:↑(aC×V)}{o:Nh}(ok:cZ P w H h)(e:H a=-.frz o (.dK ks)):∃vs es ep,KV ks vs/\o.data=.dict es ep/\h.DictAt (bS P w) a vs ep/\(a==Gg)=ac:=by
 let#[f,hz,j,vs,F,Q,es,ep,L,r]:=(show b9 P w H h a (.frz o<|.dK ks) from ok a _ e);rw[f]at L;ext L;show#[vs,es,ep,F,r.2.1,#[o,es,f,r],j]
noncomputable def xH(a:Ao)(o:Nh)(ks:↑(aC×V)):It:=
 #[λi H=>H a=-.frz o (.dK ks)/\i<↥ks,
   λi H x L=>∃p z,ks[i]? = aa z/\H p=ae/\x=!p/\L=aK H p (.tup [kV z.1,z.2]),
   λi H=>H a=-.frz o (.dK ks)/\i=↥ks]
def zgb{ks:↑(aC×V)}{vs:↑(aC×Value)}(r:KV ks vs){i:Nat}{z:aC×V}(h:ks[i]? = aa z):∃x,vs[i]? = aa (z.1,x)/\RelV z.2 x:=by
 induction r generalizing i with
 | nil=>ext h
 | @cons p q ps qs N t E=>
  cases i with
  | zero=>ext h;let#[C,O]:=q;cases N.1;show#[O,7,N.2]
  | succ i=>rw[Ha]at h⊢;show E h
theorem zgc{P:Bc}{w:Bq}{K:Ac}{es:↑Ck}{kx:Nat}{r:Ja}(a it:Ao)(o:Nh)(ks:↑(aC×V))(en:Array Ey)(ep:Nat)(hd:o.data=.dict en ep)(t:a≠it):
  jB P w K (.Tuple es kx r) (xH a o ks) [it] it (λi h=>∃ok p,IsItemIter h it a i ↥ks ep ok p) where
 mem:=by simp
 obj:=λi h st b Z=>by
  cases (by simpa using Z:b=it);let#[ok,p,e]:=st;show#[_,e,λv z=>by ext z]
 keep:=λi h h' st k=>by
  let#[ok,p,e]:=st;show#[ok,p,k it 6 _ e]
 item:=by
  intro X M hw R hc i C s G H E I hf st hg;subst M hw R;let#[ok,p,L]:=st;let#[T,hi]:=hg;let#[vs,d,Y,F,u,A,_]:=xG I.hok T;cases hd.symm.trans u;obtain⟨z,hz⟩:∃z,ks[i]? = aa z:=#[_,Bh hi];let#[x,S,B]:=zgb F hz;rw[↥F]at L;show wpAny_pyNext_items_item L A S λkey h' m f j hsz hk=>8;show#[_,7,wpAny_letOwnedTupleGo_items f λQ O sb=>8];let y:H ⇑s=ae:=I.hok.fresh<|Aj _;let n:it<⇑s:=Ba L;let c:∀q o,q∉[it]->s.heap.get? q=-o->Q.get? q=-o:=λq o N eq=>by
   let N:q≠it:=by simpa using N
   show(sb.2 q N).trans<|hk q o N eq
  let l:Q.get? ⇑s=aa {cls:=.type "tuple",data:=.seq [key,x].toArray}:=(sb.2 _<|Dr n).trans j;let g:Inv X C G (aK H ⇑s<|.tup [kV z.1,z.2]) {s with heap:=Q,toks:=s.toks}:=I.laidT (its:=[key,x]) hf c (by change 2<=Aw;decide) (.cons (uN m)<|.cons B .nil) l;show#[!⇑s,_,g,7,#[⇑s,z,hz,y,7,7],#[key,x,by rw[↥F];show O],λq N=>8];rw[bB]
  .show(hf q N).1
  .cases (by simpa using N:q=it);show Bw n
 done:=by
  intro X M hw R hc i C s G H E I hf st hg;subst M hw R;let#[ok,p,L]:=st;let#[T,rfl]:=hg;let#[vs,d,Y,F,u,A,_]:=xG I.hok T;cases hd.symm.trans u;rw[↥F]at L;show wpAny_pyNext_items_end (I.ok.hd hc) L A 6 λh' hk=>#[7,8]
  show I.turnedT (tk:=s.toks) hf λq o N eq=>hk q o (λz=>N<|by simp[z]) eq
 self:=λ_ _ _ _ _ st h=>by
  let#[ok,p,e]:=st;show PySem.W.kcp_self e h
abbrev rItems:V->↑V->Hp->VK->Prop:=λx vs H Q=>∃a o ks,x=!a/\vs=[]/\H a=-.frz o (.dK ks)/\∀p,H p=ae->Q (!p) (aK H p<|.ext λh=>h.IsItemsView p a)
def zgd:e9 X "dict.items" rItems:=by
 rintro C s G H x vs v us Q I B rs ⟨a,o,ks,rfl,rfl,e,q⟩;cases (show v=Value.ref a from B);ext rs;let#[vs,es,ep,m,hd,A,j]:=xG I.hok e;show Kd PySem.F.slot_dict_items A.dictOf.typeIs PySem.F.entry_dict_items (PySem.F.args_dict_items_1 _) (meets_dict_items (bS X.prog X.w) a j) #[#[vs,A.dictOf],8];let hf:=I.hok.fresh<|Aj ⇑s;show#[!⇑s,_,I.laid (a:=⇑s) (o:=.ext λh=>h.IsItemsView ⇑s a) (t':=s.toks) (λ_ _ z=>Af _ z) (Aj _) #[#[_,Ax _ rfl,7,7],#[_,Ax _ rfl],λL Y #[o,f,r] kk=>#[o,kk o f,r]],7,q _ hf]
end
section
variable {X:Cx}
abbrev MQ(to:aR):iA:=λO M R=>to O M λd I=>∃kvs,d=.fk kvs/\R (kvs.map λp=>.tup [wK p.1,p.2]) (λ_=>True) I
def zge{K:Ac}{j:Hp}{g:Mm}{a:Ao}{o:Nh}{ks:↑(aC×V)}{kvs:↑(aC×W)}(s:AM K j g)(e:j a=-.frz o (.dK ks))(G:bT K j g aC ks kvs):iB K j g (xH a o ks) (kvs.map λp=>.tup [wK p.1,p.2]) λ_=>True:=by
 let st:∀H M,Kp j g H M->H a=-.frz o (.dK ks):=λH M k=>(k.fr _ _ (s.noFrz e) e).1;let hl:=Cv G;show#[λi H M k U _ hi=>#[st H M k,by rw[Ab]at hi;lia],λH M k U _=>#[st H M k,by rw[Ab];lia],λi H M x L k U _ hi y=>8];let#[f,z,hz,d,rfl,rfl]:=y;obtain⟨y,R,T,av⟩:∃y,kvs[i]? = aa y/\z.1=y.1/\AV K j g z.2 y.2:=by
  have:∀{ks:↑(aC×V)} {kvs:↑(aC×W)} {i:Nat},bT K j g aC ks kvs->ks[i]? = aa z->∃y,kvs[i]? = aa y/\z.1=y.1/\AV K j g z.2 y.2:=by
   intro ks kvs i r
   induction r generalizing i with
   | nil=>intro h;ext h
   | @cons p q ps qs N t E=>
    intro h;cases i with
    | zero=>ext h;show#[q,7,N]
    | succ i=>rw[Ha]at h⊢;show E h
  show this G hz
 let#[P,k2]:=U.tup (u:=.tup [kV z.1,z.2]) d;show#[.tup [wK y.1,y.2],by rw[Au,R];rfl,k2,P,.tup b8<|.cons (by rw[T];show K7 _)<|.cons ((av.kp s k).go<|go_same d) .nil]
def zgf{kx:Nat}(f:E3 X o to)(y:Hr o "items" X.env (Ff o X.env)=Ff o X.env:=by rfl)(E:(apos.endLine==cpos.line)=ab:=by rfl):
  PI X (.Tuple es kx Y) (.Call (.Attribute o "items" apos) [] [] cpos) (f9 X.K<|MQ to):=by
 intro C s G H Q I #[O,M,R,m,U,h,k];show aY (EH Ou PySem.F.slot_dict_items PySem.F.type_dict_items zgd f y E C s G H (λx z=>∃p a o ks,x=!p/\z p=aa (.ext λh=>h.IsItemsView p a)/\z a=-.frz o (.dK ks)/\Q (xH a o ks) z) I #[O,M,_,m,U,h,λd g wd S k1 j ad #[kvs,T,r]=>8]) λv n #[x,z,i,D,p,a,o,ks,ex,ep,N,q]=>8
 .subst T;cases ad with
  | @fk a V ks _ e W q=>
   show#[.inr<|.inr<|.inl #[7,.inl #[_,.inr #[_,e]]],a,V,ks,7,7,e,λp B=>8];let#[P,k2]:=j.tup (u:=.ext λh=>h.IsItemsView p a) B;let J:aK g p (.ext λh=>h.IsItemsView p a) a=-.frz V (.dK ks):=(bB<|eW e B).trans e;show#[p,a,V,ks,7,b8,J,k _ _ _ _ _ (k1.trans k2) P (zge P J<|oJ W<|q.newT B) r]
 .subst ex;cases (show v=Value.ref p from D);let c:n.heap.IsItemsView p a:=(show b9 X.prog X.w z n.heap p (.ext λh=>h.IsItemsView p a) from i.hok p _ ep).1;let#[vs,l,L,t,hd,A,_]:=xG i.hok N;let hge:⇑n<=⇑n:=Aj _;show wpAny_pyIter_items c A #[⇑n,[⇑n],_,xH a o ks,z,7,i.kept (t':=n.toks) λb o e=>Af _ e,zgc a _ o ks l L hd<|Bw A.lt_size,#[.none,.none,by rw[↥t];show Ax _ rfl],λb Z=>8,q];cases (by simpa using Z:b=⇑n);show i.fpOk hge<|i.hok.fresh hge
end
section
variable {X:Cx}
def zgg:bF X (Ez .Add) (λx y H Q=>∃a b xs,x=!a/\y=!b/\bJ X.K H a []/\bJ X.K H b xs/\Q (!b) H):=by
 rintro C s G H x y v u Q I B T ⟨a,b,xs,rfl,rfl,S,Z,q⟩;cases (show v=Value.ref a from B);cases (show u=Value.ref b from T);obtain⟨its,m,⟨⟨cls,t,data,sl⟩,f,hc,n,hd⟩,_⟩:=I.tuple S;obtain⟨i,h,⟨⟨p,j,k,g⟩,d,o,D,l⟩,_⟩:=I.tuple Z;ext m;simp only at hc hd o l;subst hc hd o l;show Wl #[_,f,7] #[_,d,7] Uh Vu Pb Ov (Oi _ _) (tuple_addW0 a b _ i.toArray n D t j sl g rfl) #[f,d,!b,H,I,7,q]
def zgh:rL X "list.pop" (λx vs H Q=>∃l y Z,x=!l/\vs=[.int 0]/\H l=-.lst (y::Z)/\Q y (aK H l<|.lst Z)):=by
 intro C s G H x vs v us Q I B m h;let#[l,y,Z,rfl,rfl,S,q]:=h;ext B;let#[a,rfl,f,d]:=vals1 m;subst d;let#[z,its,n,r,hl,e]:=I.lstM S;cases r with
 | @cons _ u _ p ru r=>
  show La Ql #[_,e,7] F.entry_list_pop (F.args_list_pop_2 _ _) (MeetsSeq.list_pop_at l _ n 0 f 0 u ∅ (by simp[Xm]) rfl<|by rw[Bg];lia) #[e,8];show#[y,_,I.lset (its':=p) S e 8 r 8,ru,q]
  .rw[List.eraseIdxIfInBounds_toArray];rfl
  .show Am (Fw _) z
noncomputable def MR(K:Ac)(a:Ao)(xs:↑V):It:=
 #[λi H=>bJ K H a xs/\i<↥xs,λi H x L=>L=H/\xs.reverse[i]? = aa x,λi H=>bJ K H a xs/\i=↥xs]
theorem zgi{P:Bc}{w:Bq}{K:Ac}{c:Ck}(a it:Ao)(xs:↑V)(t:a≠it):jB P w K c (MR K a xs) [it] it (λi h=>Rv.IsRv h it a<|(↥xs:Int)-1-(i:Int)) where
 mem:=by simp
 obj:=λi h st b Z=>by
  cases (by simpa using Z:b=it);show#[_,st,λv z=>by ext z]
 keep:=λi h h' st k=>k it 6 _ st
 item:=by
  intro X M hw R hc i C s G H E I hf st hg;subst M hw R;let#[N,hi]:=hg;let#[its,m,p,hz]:=I.tuple N;let hl:=↥m;let S:xs.reverse[i]? = aa xs[↥xs-1-i]:=by rw[Mu hi];show Bh 9
  let#[u,D,ru]:=m.get<|Bh (l:=xs) (i:=↥xs-1-i) 9;let#[f0,F,y,L,J,O]:=hf it 6;rw[show(↥xs:Int)-1-(i:Int)=((↥xs-1-i:Nat):Int) by lia]at st;show Rv.next_item st p (x:=u) D⁻¹ (by have:=jC;lia) λh' tk Q sb=>8;let g:Inv X C G H {s with heap:=h',toks:=tk}:=I.turned (t':=tk) (λb o Z e=>(sb.2 b Z).trans e) f0 F L J O;show#[u,7,pG (s:={s with heap:=h',toks:=tk}) Q rfl rfl ∅ #[_,H,g,ru,#[7,S],8,λb Z=>(hf b Z).1]];rw[show(↥xs:Int)-1-((i+1:Nat):Int)=((↥xs-1-i:Nat):Int)-1 by lia];show Q
 done:=by
  intro X M hw R hc i C s G H E I hf st hg;subst M hw R;let#[N,rfl]:=hg;rw[show(↥xs:Int)-1-(↥xs:Int) = -1 by lia]at st;show Rv.next_end (I.ok.hd hc) st λh' hk=>#[7,8]
  show I.turnedT (tk:=s.toks) hf λq o N eq=>hk q o (λz=>N<|by simp[z]) eq
 self:=λ_ _ _ _ _ st h=>Rv.iter_self st h
def zgj(hg:Gl X "reversed")(J:X.mg "reversed" = ae)(S:PA X [a] ta)(l:Cr [a] X.env=[(ac,Ff a X.env)]:=by rfl):
  PI X c (.Call (.Name "reversed" p) [a] [] pos) (λG H R=>ta G H λvs B=>∃a xs,vs=[!a]/\bJ X.K B a xs/\R (MR X.K a xs) B):=by
 intro C s G H R I h;show Call_<|gO I hg J FU<|Ce (aY (S pos C s G H _ I h) λus s1 V=>8) l rfl;let#[vs,B,g,F,W]:=V;let#[a,xs,rfl,t,q]:=W;let#[u,rfl,ru]:=vals1 F;ext ru;let#[its,m,pl,hz]:=g.tuple t;let hl:=↥m;let z:a<⇑s1:=by let#[o,e,_]:=pl;show Ba e
 show Rv.call_rev pl (by rw[Bg,<-hl];show hz) λtk=>8;let st:Rv.IsRv (s1.heap.push<|Rv.rvObj a<|(its.toArray.size:Int)-1) ⇑s1 a ((its.toArray.size:Int)-1):=Ax _ rfl;show Rv.iter_self st #[⇑s1,[⇑s1],_,_,B,7,g.kept (t':=tk) λb o e=>Af _ e,zgi a _ xs<|Bw z,8,λb Z=>8,q]
 .rw[Bg,<-hl]at st;change Rv.IsRv _ _ _<|(↥xs:Int)-1-((0:Nat):Int);rw[show(↥xs:Int)-1-((0:Nat):Int)=(↥xs:Int)-1 by lia,show(its.toArray.size:Int)=(↥xs:Int) by rw[Bg,hl]];show st
 .cases (by simpa using Z:b=⇑s1);show g.fpOk (Aj _)<|g.hok.fresh<|Aj _
end
section
variable {X:Cx}{a b:Ck}{ta tb:aR}{pos:Ja}
abbrev nZ:R3:=λx y M R=>∃xs Z,x=.tup xs/\y=.tup Z/\↥xs+↥Z<=Aw/\R (.tup<|xs++Z) M
def zgk:bF X (Ez .Add) (cP X.K nZ):=by
 rintro C s G H x y v u Q I B d ⟨n,N,M,R,U,t,E,⟨xs,Z,rfl,rfl,hl,r⟩,k⟩
 by_cases S:xs=[]
 .subst S;show t.tupE λi g T F W=>E.tupE λc l J V O=>8;cases W.nil_;show zgg C s G H x y v u Q I B d #[i,c,l,T,J,bJ.of F,bJ.of V,by rw[<-J];show k.at U E r]
 .show HP C s G H x y v u Q I B d #[.tup xs,.tup Z,M,R,U,t,E,#[S,hl,r],k]
def MS:W->↑W->Mm->K3->Prop:=λx vs M R=>∃l y Z,x=!l/\vs=[.int 0]/\M l=-.lst (y::Z)/\R y (put M l<|.lst Z)
def zgl:e9 X "list.pop" (jI X.K MS):=by
 rintro C s G H x xs v us Q I B rs ⟨n,ws,M,R,U,t,N,⟨l,y,Z,rfl,rfl,e,r⟩,k⟩;let#[vs,f,q]:=U.lst e;cases q with
 | @cons a j _ _ av q=>
  let#[z,T,S]:=N.one;let#[P,k2]:=U.write (o:=.lst Z) (u:=.lst j) e #[_,b8,q.wr U e];show zgh C s G H x xs v us Q I B rs #[l,a,j,t.inv,by rw[T,S.inv],f,k _ _ _ _ k2 P (av.wr U e) r]
abbrev B3(ta:dO):iA:=λO M R=>ta O M λws I=>∃A,ws=[.tup A]/\R A.reverse (λ_=>True) I
def zgm(hg:Gl X "reversed")(J:X.mg "reversed" = ae)(S:A3 X [a] f)(l:Cr [a] X.env=[(ac,Ff a X.env)]:=by rfl):PI X c (.Call (.Name "reversed" p) [a] [] pos) (f9 X.K<|B3 f):=
 (zgj hg J S l).weak λG H Q V=>V.el λO M R m U h k=>#[O,M,_,m,U,h,λvs B ws I k1 j t V=>by
  let#[A,n,r]:=V;subst n;let#[v,rfl,av]:=t.one;show av.tupE λb xs P z g=>#[b,xs,by rw[P],bJ.of z,k _ _ _ _ _ k1 j (by
   let st:∀H M,Kp B I H M->bJ X.K H b xs:=λH M k=>bJ.of (k.fr _ _ (j.noTup z) z).1;show#[λi H M k U kp hi=>#[st H M k,by rw[Ec]at hi;rw[↥g];show hi],λH M k U kp=>#[st H M k,by rw[Ec,↥g]],λi H M x L k U kp hi y=>8];let#[rfl,y]:=y;let#[w,hw,av]:=((g.kp j k).reverse).getV y;show#[w,hw,Kp.refl U,U,av]) r]]
abbrev MT(ta tb:aR):aR:=λO M R=>∀p,M p=ae->ta O (put M p<|.dK []) λx I=>tb O I λy v=>v p=-.dK []/\∃k:aC,x=wK k/\R (!p) (put v p<|.dK [(k,y)])
def zgn(S:E3 X a ta)(Z:E3 X b tb):E3 X (.Dict [-a] [b] pos) (MT ta tb):=
 (V9 (EU S Z ET) rfl rfl 6<|6).weak λG H Q V=>V.el λO M R m U h k=>λp B=>by
  let#[s,l]:=U.laid (o:=.dK []) (u:=.dK []) B #[[],b8,.nil];show#[O,_,_,m.kp U l,s,h p<|U.nonM B,λx g n I k1 j t L=>#[O,I,_,(m.kp U l).kp s k1,j,L,λy z J v k2 P E V=>8]];let#[e,kk,ex,r]:=V;subst ex;let#[ks,f,q]:=P _ _ e;ext q;let#[F,i]:=P.write (o:=.dK [(kk,J)]) (u:=.dK [(kk,y)]) e #[_,b8,.cons #[7,E.wr P e] .nil];show#[f,[(kk,y)],by rw[(t.kp j k2).key];rfl,6,k _ _ _ _ (((l.trans k1).trans k2).trans i) F (!_) r]
end
abbrev CT:=↑(Av×↑Nat)
structure fP(rs:↑aD):Prop where
 ne:rs≠[]
 few:↥rs<=500
 nam:↥(namesOf rs)<=20
 prt:∀r∈rs,↥r.parts<=04
 wds:∃U:↑Av,↥U<64/\wW rs U
 hd:∀r∈rs,c7 r.name
 pt:∀r∈rs,∀t∈r.parts,c7 t\/fD t
 own:∀r∈rs,∀t∈r.parts,isNameB t=ownB rs t
def lC(h:c7 p\/fD p):Sh p:=h.elim c7.sh fD.sh
def fP.shn(g:fP rs):∀r∈rs,Sh r.name:=λr G=>(g.hd r G).sh
def fP.sh(g:fP rs):∀r∈rs,∀t∈r.parts,Sh t:=λr G t ht=>lC<|g.pt r G t ht
noncomputable def cY(rs:↑aD)(f:Av->↑Av)(t:Av):↑Av:=if t∈namesOf rs\/isNameB t=ac then [t] else f t
def kB{f:Av->↑Av}(h:t∈namesOf rs\/isNameB t=ac):cY rs f t=[t]:=Xu h
def fP.sem{f:Av->↑Av}(g:fP rs)(G:r∈rs):∀t∈r.parts,cY rs f t=[t]:=λt ht=>kB (by
 rw[g.own r G t ht];cases e:ownB rs t with
 | true=>show .inl (Xv e)
 | false=>show .inr rfl)
def Qz(rs:↑aD)(f:Av->↑Av)(H d:Nat)(z:NP×W):Prop:=∃j,z.2=.tup j/\Pf isNameB rs (cY rs f) H d 0 j z.1.2 (cY rs f z.1.1)
def Pz(rs:↑aD)(z:NP×W):Prop:=(∀t∈z.1.2,c7 t\/fD t)/\↥z.1.2<=04
def fP.gl(g:fP rs):GL rs:=#[Am g.few ∅,g.prt,g.wds]
def fP.few100(g:fP rs):↥rs<=20000:=Am g.few ∅
def i9(c:↑Nat):↑W:=c.map λn=>W.int (n:Nat)
noncomputable def fX(c:CT):↑(aC×W):=c.map λe=>(Sum.inr e.1,W.tup<|i9 e.2)
inductive Cn(rs:↑aD)(X:Av):↑Nat->Av->Prop
 | nil:Cn rs X [] X
 | snoc {c:↑Nat} {n:Nat} {r:aD} {Z:Av}:Cn rs X c r.name->rs[n]? = aa r->r.parts=[Z]->Cn rs X (c++[n]) Z
noncomputable def xI(c:↑Nat)(us:↑W):↑W:=c.foldr (λn acc=>[gB n acc]) us
def Cn.pf{sem:Av->↑Av}(h:Cn rs X c Z)(g:∀r∈rs,c7 r.name){H d:Nat}(B:Pf isNameB rs sem H d 0 us ps [Z]):Pf isNameB rs sem H (d+↥c) 0 (xI c us) ps [X]:=by
 induction h generalizing us d with
 | nil=>show B
 | @snoc c n r Z _ G e E=>
  have:=E (Pf.one (g r<|Ah G).nm G (by rw[e];show(by decide:1<=100))<|by rw[e];show B);ext xI;rw[List.foldr_append,Ag,<-Ig,Rx];show this
noncomputable def sglB(rs:↑aD)(r:aD):Bool:=match r.parts with
 | [t]=>ownB rs t
 | _=>ac
noncomputable def numsOf(rs:↑aD)(X:Av):↑Nat:=(rs.zipIdx.filter λx=>decide<|x.1.name=X).map (·.2)
def qW{n:Nat}:n∈numsOf rs X↔∃r,rs[n]? = aa r/\r.name=X:=by
 ext numsOf;rw[Ap];constructor
 .rintro⟨⟨r,k⟩,h,rfl⟩;rw[Dy,decide_eq_true_eq]at h;show#[r,(Hz.mp h.1),h.2]
 .rintro⟨r,h,e⟩;show#[(r,n),by rw[Dy,decide_eq_true_eq];show#[Hz.mpr h,e],7]
inductive Rc(rs:↑aD):Av->Av->Prop
 | rf {X:Av}:Rc rs X X
 | st {r:aD} {Y Z:Av}:r∈rs->r.parts=[Y]->ownB rs Y=ab->Rc rs Y Z->Rc rs r.name Z
def Rc.snoc{rs:↑aD}{X Y:Av}{r:aD}(h:Rc rs X r.name)(G:r∈rs)(e:r.parts=[Y])(o:ownB rs Y=ab):Rc rs X Y:=by
 generalize hz:r.name=Z at h
 induction h with
 | rf=>rw[<-hz];show .st G e o .rf
 | st a b c _ E=>show .st a b c<|E hz
def iF(rs:↑aD)(X:Av)(l:↑Av):Prop:=∃r∈rs,Rc rs X r.name/\r.parts=l/\sglB rs r=ac/\∀t∈l,eE rs t=ab
def Cn.rc(h:Cn rs X c Z):ownB rs Z=ab->Rc rs X Z:=by
 induction h with
 | nil=>show λ_=>.rf
 | snoc _ G e E=>show λo=>(E<|qM<|Ah G).snoc (Ah G) e o
def xJ:aW:=λws M R=>∃(rs:↑aD) (X:Av),ws=[a9 rs,.str X]/\↥rs<=500/\aO ((numsOf rs X).map λ(n:Nat)=>W.int n) M R
def B4:aW:=λws M R=>∃(rs:↑aD) (r:aD),ws=[.dk<|ownOf rs,bK r]/\R (.bl<|sglB rs r) M
def MU:aW:=λws M R=>∃(rs:↑aD) (X:Av),ws=[a9 rs,.dk<|ownOf rs,.str X]/\fP rs/\X∈namesOf rs/\∀c:CT,(∀Z,Rc rs X Z->Z∈c.map (·.1))->↥c<=↥(namesOf rs)->(∀e∈c,↥e.2<=19/\Cn rs X e.2 e.1)->h9 (fX c) M R
def MV:aW:=λws M R=>∃(c:↑Nat) (n:Nat) (ps:↑Av),ws=[.tup<|i9 c,¬n,.tup<|ps.map W.str]/\↥ps<=1000/\R (.tup<|xI c [.tup [.int (n:Nat),sZ ps]]) M
def MW(P:Bc)(w:Bq)(C:Cc):aW:=λws M R=>∃(a d dx:Ao) (l:↑(NP×W)) (rs:↑aD) (X:Av) (kvs:↑(aC×W)) (f:Av->↑Av),ws=[!a,a9 rs,.str X,.dk kvs]/\kA P w C.p M a d dx l/\↥l<=200000/\fP rs/\X∈namesOf rs/\(∀t,(aN kvs (Sum.inr t:aC)).isSome=mK rs ab t)/\∀l',Ex (λz=>z.1.1=X/\(Qz rs f 0 20 z/\Pz rs z)/\iF rs X z.1.2) l (↥rs*↥(namesOf rs)) (λx=>x.1=X/\iF rs X x.2) l'->R .non (put M d<|.dn P w [0]<|kvsOf l')
noncomputable abbrev noL(F:Av):↑(NP×W):=[((F,[F,F]),.tup [.tup [.int 0,.tup [.int 0,.int 1]]])]
def B5:aW:=λws M R=>∃rs:↑aD,ws=[a9 rs]/\rs≠[]/\R (qS<|noL<|f0 rs) M
noncomputable abbrev zgo:↑Av:=["grammar","name"]
abbrev zgp:aE:=
   (bH<|cV (qD<|aH^aB) (eL 2<|bW (aQ 0)<|bW (aQ 1) eJ) (bL<|aG (dH ac) (vX aM a8) aS) aH [ae,ae,aa 1])
noncomputable abbrev zgq:↑Av:=["grammar","name","plain"]
abbrev zgr(P:Bc)(w:Bq)(C:Cc):aE:=
   (bX<|eA C.p "put_rule" (nV P w C.p) aS<|aM^bA (aM^aM^aB)^bA (bA (a8^bA (a8^aX^aB)^aB)^aB)^aB)
abbrev zgs(P:Bc)(w:Bq)(C:Cc):aE:=(aF (aL 1<|aP qN<|aH^aB)<|aF (aL 2<|mB C.p (qT P w C.p) aB)<|aF (zgr P w C)<|bH<|eA C.p "grammar_and_backs" (qU P w C.p) aS aB)
noncomputable abbrev zgt:↑Av:=["own","rule"]
abbrev zgu:aE:=
   (bH<|pW (aG (dH ac) (bG cD<|vX aM aX^aB) aX)<|aG (bZ ac) (vX (vX aM aX) a8) aH)
noncomputable abbrev zgv:↑Av:=["grammar","own","name","chains","waiting","here","number","part"]
abbrev zgw:aE:=
   (aL 3<|MT aS<|bA aB)
abbrev zgx:aE:=
   (aL 04<|fB<|aS^aB)
abbrev zgy:aE:=
   (aF (aL 05<|cJ "list" MS bC<|a8^aB)
   (cE (bM cF<|bD<|aP xJ<|aH^cA^aB) (aQ 06)
    (aF (aL 07<|zG (dG<|aP B4<|aM^vX aH cQ^aB) (vX (vX (vX aH cQ) aX) a8) cA)
   (bY (bL<|aG (bZ ab) cC a7)
    (aF (eU (aG nZ (vX a7 cA)<|bA<|cQ^aB)<|gI a7 cC)
   (bX<|cJ "list" dZ bC<|cC^aB))
    cR))))
abbrev zgz:aE:=
   (jL (dG bC) zgy)
abbrev zgA:aE:=
   (bH a7)
abbrev zgB:aE:=(aF zgw<|aF zgx<|aF zgz zgA)
noncomputable abbrev zgC:↑Av:=["chain","number","parts","pieces","single"]
abbrev zgD:aE:=
   (aL 3<|bA<|bA (aM^aP xA (aS^aB)^aB)^aB)
abbrev zgE:aE:=
   (aL 3<|bA<|bA (bC^a7^aB)^aB)
abbrev zgF:aE:=
   (cE (B3<|aH^aB) (aQ 04) zgE)
abbrev zgG:aE:=
   (bH a7)
abbrev zgH:aE:=(aF zgD<|aF zgF zgG)
noncomputable abbrev zgI:↑Av:=["plain","grammar","name","fruitful","own","here","chain","number","parts","is_fruitful"]
abbrev zgJ(P:Bc)(w:Bq)(C:Cc):aE:=
   (cE (bM cF<|bD<|aP xJ<|aM^cA^aB) (aQ 07)
    (aF (aL 08<|vX (vX aM cC) aX)
   (aF (aL 09<|bG sC<|bD (cV (bM cF fA) (aQ 0) d7 (nB (aG (bZ ac) aH aM)<|aG (bZ ab) aH aS) [ae,aa 3,aa 04])^aB)
   (bY (iX (dG iN)<|j6<|dG<|aP B4<|bC^vX aM cC^aB)
    (bX<|eA C.p "put_rule" (nV P w C.p) aH<|aS^fA^aP MV (cQ^cC^fA^aB)^aB)
    cR))))
abbrev zgK(P:Bc)(w:Bq)(C:Cc):aE:=(aF (aL 04<|aP mL<|bD (aP i6<|aM^aB)^aB)<|cE (MQ<|sU<|aP MU<|aM^bC^aS^aB) (eL 2<|bW (aQ 05)<|bW (aQ 06) eJ)<|zgJ P w C)
noncomputable def xK(X:Av):W->Option W
 | .tup [¬i,.tup<|.str n::_]=>if n=X then aa (¬i) else ae
 | _=>ae
def zgL{F:W->Option W}{ws:↑W}{os:↑(Option W)}(h:Dz (λw o=>o=F w) ws os):os.filterMap id=ws.filterMap F:=by
 induction h with
 | nil=>rfl
 | cons a _ E=>rw[a,Ej,Ej,E];rfl
def zgM(rs:↑aD)(X:Av):(i0 0<|rs.map bK).filterMap (xK X)=(numsOf rs X).map λ(n:Nat)=>W.int n:=by
 ext numsOf;rw[vQ,Lq,Bp];generalize rs.zipIdx=l
 induction l with
 | nil=>rfl
 | cons x l E=>
  rw[Ej,Ds,E];let e:(xK X ∘ λx:aD×Nat=>W.tup [.int (x.2:Int),bK x.1]) x=if x.1.name=X then aa (¬x.2) else ae:=rfl;rw[e]
  by_cases h:x.1.name=X
  .rw[Xu h,Xu<|Xw h];rfl
  .rw[Xs h,Xs<|by rw[Xx h];decide]
def zgN:bE xJ zgp zgo:=by
 rintro _ M R ⟨rs,X,rfl,hl,r⟩;show vK (rest:=[-.str X]) (λw o=>o=xK X w) (λw hw=>8) (small<|by rw[oQ,Ab];lia) (λ_ _=>trivial) (λa b J F C D sb L Y=>8) λos po=>8
 .rw[vQ]at hw;let#[x,_,rfl]:=Ap.mp hw;show#[_,_,7]
 .rw[vQ]at J;obtain⟨⟨q,k⟩,S,e⟩:=Ap.mp J;ext e;let ep:xK X (.tup [.int (k:Int),bK q])=if q.name=X then aa (¬k) else ae:=rfl;show bN (b:=decide<|q.name=X) (λz=>L _<|by rw[ep,Xu<|Xv z]) λz=>Y (by rw[ep,Xs<|of_decide_eq_false z])
 .rw[zgL po,zgM];show λp B=>#[_,aV,r p B]
def zgO:bE B4 zgu zgt:=by
 rintro _ M R ⟨rs,⟨nm,ps,c⟩,rfl,r⟩
 match ps,r with
 | [],r=>show#[_,aV,r]
 | [t],r=>
  let e:sglB rs #[nm,[t],c]=(aN (ownOf rs) (Sum.inr t:aC)).isSome:=(mM rs t).symm;rw[e]at r;show#[_,#[Sum.inr t,7,7],_,aV,r]
 | a::b::l,r=>show#[_,aV,r]
def zgP:bE MV zgH zgC:=by
 rintro _ M R ⟨c,n,ps,rfl,hl,r⟩;show#[ps,7,hl,_,7,8];show c8 (λi O F=>∃o,O=[-.tup (i9 c),aa ¬n,-.tup (ps.map W.str),-.tup (xI (c.drop<|↥c-i) [.tup [¬n,sZ ps]]),o]/\F=M) #[_,by rw[Sq,Sz];rfl,7] 8 8
 .rintro i w O F hw ⟨o,rfl,rfl⟩ X I;let hi:=(An.mp hw).1;rw[Ec]at hi;unfold i9 at hi hw;rw[Ab]at hi;rw[Mu<|by rw[Ab];show hi,Ab,Au]at hw;let#[k,hk,rfl]:=Ay.mp hw;let#[L,rfl]:=An.mp hk;let e:c.drop (↥c-(i+1))=c[↥c-1-i]::c.drop (↥c-i):=by
   rw[show ↥c-(i+1)=↥c-1-i by lia,Eu L,show ↥c-1-i+1=↥c-i by lia]
  show I _ _ #[_,by rw[e];rfl,7]
 .rintro O F ⟨o,rfl,rfl⟩;let e:(i9 c).reverse.length=↥c:=by ext i9;rw[Ec,Ab]
  rw[e,Mj];show#[_,aV,r]
def B6(c:CT)(Z:Av):aN (fX c) (Sum.inr Z:aC)=(cB c Z).map λv=>W.tup (i9 v):=by
 unfold fX aN cB
 induction c with
 | nil=>rfl
 | cons e c ih=>
  rw[Be,De,De]
  by_cases h:e.1=Z
  .rw[Xw h,Xw (show(Sum.inr e.1:aC)=Sum.inr Z by rw[h])];rfl
  .rw[Xx h,Xx (λz:(Sum.inr e.1:aC)=Sum.inr Z=>h<|Sa z)];show ih
def zgQ{c:CT}{Z:Av}(h:cB c Z=ae)(v:↑Nat):bU (fX c) (Sum.inr Z:aC) (.tup<|i9 v)=fX (c++[(Z,v)]):=by
 ext bU;rw[Xs<|by rw[show((fX c).any λkv=>decide<|kv.1=(Sum.inr Z:aC))=(aN (fX c) (Sum.inr Z:aC)).isSome from jO _ _,B6,h];decide];ext fX;rw[Ar];rfl
abbrev zgR:aE:=bY (bL<|aG (L2.bZ ab) cC a7) (aF (eU (aG nZ (aG L2.p6 a7 cA)<|bA<|cQ^aB)<|gI a7 cC)<|bX<|cJ "list" L2.dZ bC<|cC^aB) cR
structure gY(rs:↑aD)(X:Av)(m:Nat)(E:aD->Prop)(ch:CT)(wt:↑Av):Prop where
 nd:(ch.map (·.1)).Nodup
 own:∀k∈ch.map (·.1),k∈namesOf rs
 wk:∀k∈wt,k∈ch.map (·.1)
 top:X∈ch.map (·.1)
 cl:∀r∈rs,∀Y,r.parts=[Y]->ownB rs Y=ab->r.name∈ch.map (·.1)->r.name∈wt\/E r\/Y∈ch.map (·.1)
 len:∀e∈ch,↥e.2<↥ch/\Cn rs X e.2 e.1
 ms:↥wt+↥(namesOf rs)=↥ch+m
 mn:m<=↥(namesOf rs)
def gY.few{m:Nat}{E:aD->Prop}(I:gY rs X m E ch wt):↥ch<=↥(namesOf rs):=by
 have:=len_sub I.nd I.own;rwa [Ab]at this
def gY.to{m:Nat}{E k:aD->Prop}(I:gY rs X m E ch wt)(h:∀r∈rs,∀Y,r.parts=[Y]->ownB rs Y=ab->E r->k r\/Y∈ch.map (·.1)):gY rs X m k ch wt:=
 #[I.nd,I.own,I.wk,I.top,λr G Y e o hk=>(I.cl r G Y e o hk).imp_right λz=>z.elim (h r G Y e o) .inr,I.len,I.ms,I.mn]
def gY.add{rs:↑aD}{X y:Av}{m:Nat}{E:aD->Prop}{ch:CT}{wt:↑Av}{v:↑Nat}(I:gY rs X m E ch wt)(U:y∈namesOf rs)(K:cB ch y=ae)(c:↥v<=↥ch/\Cn rs X v y):gY rs X m E (ch++[(y,v)]) (wt++[y]):=by
 let K:y∉ch.map (·.1):=λz=>by rw[<-gA,K]at z;ext z
 let e:↥(ch++[(y,v)])=↥ch+1:=Ag;let i:(ch++[(y,v)]).map (·.1)=ch.map (·.1)++[y]:=Ar;let all:∀{p:Av->Prop},(∀k∈ch.map (·.1),p k)->p y->∀k∈(ch++[(y,v)]).map (·.1),p k:=λL Z k hk=>by
  rw[i]at hk;rcases Az.mp hk with h|h
  .show L k h
  .rw[Ae.mp h];show Z
 show#[8,all I.own U,λk hk=>8,by rw[i];show Bf _ I.top,λr J Y e o hk=>8,λx S=>8,8,I.mn]
 .rw[i,Cf];show#[I.nd,6,λa D b G z=>K<|by rw[<-Ae.mp G,<-z];show D]
 .rw[i];rcases Az.mp hk with h|h
  .show Bf _<|I.wk k h
  .show Bo _ h
 .rw[i]at hk⊢;rcases Az.mp hk with h|h
  .show(I.cl r J Y e o h).imp (Bf _) λz=>z.imp_right<|Bf _
  .show .inl<|Bo _ h
 .rw[e];rcases Az.mp S with h|h
  .show#[Je (I.len x h).1,(I.len x h).2]
  .rw[Ae.mp h];show#[Kh c.1,c.2]
 .have:=I.ms;rw[e,Ag,Cd];lia
def gY.done{m:Nat}(I:gY rs X m (λ_=>False) ch [])(Z:Av)(h:Rc rs X Z):Z∈ch.map (·.1):=by
 have:∀{A B},Rc rs A B->A∈ch.map (·.1)->B∈ch.map (·.1):=λh=>by
  induction h with
  | rf=>show id
  | st a b c _ E=>show λk=>E (((I.cl _ a _ b c k).resolve_left λz=>nomatch z).resolve_left id)
 show this h I.top
def zgS:bE MU zgB zgv:=by
 rintro _ M R ⟨rs,X,rfl,g,hX,r⟩;let hf:=g.few;let hnm:=g.nam;show λp hp=>#[aI,Sum.inr X,7,8]
 rw[bV];show λq hq=>8;let hpq:q≠p:=λe=>by rw[e,aI]at hq;ext hq
 let hq0:M q=ae:=by rw[aT hpq]at hq;show hq
 let atp:∀{A B:MO},put (put M p A) q B p=-A:=λ{A B}=>by rw[aT<|Cs hpq,aI]
 let setp:∀{A A' B:MO},put (put (put M p A) q B) p A'=put (put M p A') q B:=λ{A A' B}=>by rw[lQ hpq,bV]
 show mH (λm τ M'=>∃ch wt o5 o6 o7,τ=[-a9 rs,-.dk (ownOf rs),-.str X,aa !p,aa !q,o5,o6,o7]/\M'=put (put M p<|.dK<|fX ch) q (.lst<|wt.map W.str)/\gY rs X m (λ_=>False) ch wt)
  #[_,[(X,[])],[X],_,_,_,7,7,#[6,λk hk=>by rw[Ae.mp hk];show hX,λ_ h=>h,Ae.mpr rfl,λr _ Y _ _ hk=>.inl hk,λe he=>by rw[Ae.mp he];show#[Nat.one_pos,.nil],7,Aj _]] 8
 rintro m τ M' ⟨ch,wt,o5,o6,o7,rfl,rfl,I⟩ Dw hDw;show .inl #[_,aI,bN (λh=>8) λh=>8]
 .cases wt with
  | nil=>ext h
  | cons hr wt=>
  let hms:(↥wt+1)+↥(namesOf rs)=↥ch+m:=I.ms;let hcl:=I.few;obtain⟨m,rfl⟩:∃m',m=m'+1:=#[m-1,9];let Ip:gY rs X m (λr=>r.name=hr) ch wt:=#[I.nd,I.own,λk h=>I.wk k<|Bi _ h,I.top,λr h Y e o hk=>(I.cl r h Y e o hk).elim (λz=>(Bd.mp z).elim (λz=>.inr<|.inl z) .inl) λz=>.inr<|.inr<|z.resolve_left id,I.len,9,by have:=I.mn;lia];let hh:hr∈ch.map (·.1):=I.wk hr Bj;show#[dP aI,_,_,_,7,7,aI,8];rw[bV];show#[rs,hr,7,9,aO.frz 8];show c8 (λj τ M'=>∃ch2 wt2 o6 o7,τ=[-a9 rs,-.dk (ownOf rs),-.str X,aa !p,aa !q,-.str hr,o6,o7]/\M'=put (put M p<|.dK<|fX ch2) q (.lst<|wt2.map W.str)/\gY rs X m (λr=>r.name=hr/\∀n∈(numsOf rs hr).take j,rs[n]?≠aa r) ch2 wt2/\hr∈ch2.map (·.1)) #[ch,wt,_,_,7,7,Ip.to λ_ _ _ _ _ z=>.inl #[z,λ_ h=>nomatch h],hh] 8 8
  .rintro j x τ M' hx ⟨ch2,wt2,o6,o7,rfl,rfl,I2,hh2⟩ Dx hD;rw[Au]at hx;let#[n,hn,rfl]:=Ay.mp hx;let hc2:=I2.few;let hms2:=I2.ms;let hmn2:=I2.mn;let#[ru,hru,en]:=qW.mp<|Ah hn;let#[ru',h1,h2]:=jQ (rs:=rs) (n:=n) (An.mp hru).1;cases (show aa ru'=aa ru from h1.symm.trans hru);let#[v,hv]:=El.mp<|gA.mpr hh2;let hvl:↥v<↥ch2/\Cn rs X v hr:=by
    let#[a,b,e3]:=qH hv;show I2.len (hr,v) (by rw[e3];simp)
   let fin:∀{D:D3} {y:Av},y∈namesOf rs->(y∉ch2.map (·.1)->Cn rs X (v++[n]) y)->(∀Y,ru.parts=[Y]->ownB rs Y=ab->Y=y)->(∀ch3 wt3,gY rs X m (λr=>r.name=hr/\∀n∈(numsOf rs hr).take (j+1),rs[n]?≠aa r) ch3 wt3->hr∈ch3.map (·.1)->D.nx [-a9 rs,-.dk (ownOf rs),-.str X,aa !p,aa !q,-.str hr,aa ¬n,-.str y] (put (put M p<|.dK<|fX ch3) q<|.lst<|wt3.map W.str))->zgR D [-a9 rs,-.dk (ownOf rs),-.str X,aa !p,aa !q,-.str hr,aa ¬n,-.str y] (put (put M p<|.dK<|fX ch2) q<|.lst<|wt2.map W.str):=λ{D y} hy hyc hyY k=>by
    let nx:∀{ch3 wt3},gY rs X m (λr=>r.name=hr/\∀n∈(numsOf rs hr).take j,rs[n]?≠aa r) ch3 wt3->y∈ch3.map (·.1)->gY rs X m (λr=>r.name=hr/\∀n∈(numsOf rs hr).take (j+1),rs[n]?≠aa r) ch3 wt3:=λI3 h3=>I3.to λr h Y e o z=>by
     by_cases er:rs[n]? = aa r
     .rw[hru]at er;ext er;show .inr<|hyY Y e o▸h3
     .show .inl #[z.1,λn' hn'=>8];rw[Bx,hn]at hn';rcases Az.mp hn' with q|q
      .show z.2 n' q
      .rw[Ae.mp q];show er
    show .inr #[_,.inl #[fX ch2,Sum.inr y,atp,7,7],8];change if (!((aN (fX ch2) (Sum.inr y:aC)).isSome))=ab then _ else _;rw[B6,Lw];show bN (λhn=>8) λhn=>k ch2 wt2 (nx I2<|gA.mp<|by rw[<-Ge (cB ch2 y).isSome,hn];rfl) hh2;let hn:cB ch2 y=ae:=by
     cases e:cB ch2 y with
     | none=>rfl
     | some z=>rw[e]at hn;ext hn
    show GZ (.inl #[fX ch2,Sum.inr hr,atp,7,(by rw[B6,hv];rfl)]) #[_,_,7,7,8,sM atp (by ext fX;rw[Ab];show cS 9) 8]
    .show small (by ext i9;rw[Ab];change ↥v+1<=10000000;lia)
    .rw[show W.tup (i9 v++[W.int n])=.tup (i9<|v++[n]) by ext i9;rw[Ar];rfl,zgQ hn,setp];show#[dP aI,_,aI,cS<|by rw[Ab];lia,8];rw[bV,show(Sg W.str wt2++[W.str y])=Sg W.str (wt2++[y]) by rw[Ar];rfl];show k _ _ (nx (I2.add hy hn #[by rw[Ag];show hvl.1,hyc λz=>by rw[<-gA,hn]at z;ext z])<|by rw[Ar];show Bo _<|.head _) (by rw[Ar];show Bf _ hh2)
   show so.of h2 #[rs,ru,7,bN (b:=sglB rs ru) (λhs1=>8) λhs1=>8]
   .obtain⟨t,et,ot⟩:∃t,ru.parts=[t]/\ownB rs t=ab:=by
     unfold sglB at hs1;split at hs1
     .rename_i t e;show#[t,e,hs1]
     .ext hs1
    show so.of h2<|so.of (o:=bP (ru.parts.map W.str) 0) (a:=.str t) (by rw[et];rfl)<|fin (Xv ot) (λ_=>.snoc (en▸hvl.2) hru et) (λY e _=>by rw[et]at e;ext e;rfl) λch3 wt3 I3 hh3=>8;show hD _ _ #[ch3,wt3,_,_,7,7,I3,hh3]
   .show fin (I2.own _ hh2) (λz=>absurd hh2 z) (λY e o=>by unfold sglB at hs1;rw[e]at hs1;show absurd o<|by rw[show ownB rs Y=ac from hs1];decide) λch3 wt3 I3 hh3=>8;show hD _ _ #[ch3,wt3,_,_,7,7,I3,hh3]
  .rintro τ M' ⟨ch2,wt2,o6,o7,rfl,rfl,I2,_⟩;rw[Ab,Bn]at I2;show hDw m _ _ (Eb m) #[ch2,wt2,_,_,_,7,7,I2.to λr h Y _ _ z=>8];let#[n,hn]:=Fu h;show absurd hn<|z.2 n<|qW.mpr #[r,hn,z.1]
 .let hcl:=I.few;cases wt with
  | cons _ _=>ext h
  | nil=>
  show#[_,8,r ch I.done 9 (λe he=>#[by have:=(I.len e he).1;lia,(I.len e he).2]) p hp];show Sub.new (by rw[aT hpq];show hq0)
def MX(h:M d=-o):put M d o=M:=by
 funext b
 by_cases e:b=d
 .subst e;rw[aI,h]
 .rw[aT e]
def B7{ts:↑Av}{rest:S3}{j:aR}{o:Option W}{keep:Mm->Prop}{M:Mm}{R:K3}(f:Av->Bool)(hl:↥ts<=1000)(hk:∀M,keep M)(l:∀t∈ts,∀F (C:K3),L2.Sub M F->C (.bl<|f t) F->j (-.str t::rest) F C)(r:R (.rl<|bools<|ts.map f) M):
  fU (ts.map W.str) keep (aQ 0) d7 j (o::rest) M λw F=>frz w F R:=by
 show sJ (rest:=rest) (λw y=>∃t,w=.str t/\y=.bl (f t)) (small<|by rw[Ab];lia) (λ_ _=>hk _) (λw hw F C sb L=>8) λZ po=>aO.frz 8
 .let#[t,ht,rfl]:=Ap.mp hw;show l t ht F C sb<|L _ #[t,7,7]
 .let e:Z=bools (ts.map f):=by
   clear l r hl
   induction ts generalizing Z with
   | nil=>ext po;rfl
   | cons t ts E=>
    cases po with
    | cons a b=>
     let#[t',T,rfl]:=a;ext T;rw[E _ b];rfl
  rw[e];show r
def xM(rs:↑aD)(X:Av):↥(numsOf rs X)<=↥rs:=by
 ext numsOf;rw[Ab];show Am (Fc _ _)<|Hw<|Rr
section
variable {P:Bc}{w:Bq}{C:Cc}
def kA.putD(pl:kA P w c M a d s l)(U:↑(NP×W)):kA P w c (put M d<|.dn P w [0]<|kvsOf U) a d s U:=#[by
 have:a≠d:=λe=>by let L:=pl.ob;rw[e,pl.di]at L;ext L
 rw[aT this];show pl.ob,aI]
def Pf.slot0{nm:Av->Bool}{sem:Av->↑Av}{H d:Nat}(h:ps.flatMap sem=qs):Pf nm rs sem H d 0 ((Ci ↥ps).map λ(i:Nat)=>W.int i) ps qs:=by
 have:=Pf.slots (nm:=nm) (rs:=rs) (sem:=sem) (H:=H) (d:=d) ps 0;rwa [<-List.range_eq_range',h]at this
def B8(rs:↑aD)(X:Av)(n:Nat)(x:NP):Prop:=x.1=X/\∃r,rs[n]? = aa r/\r.parts=x.2/\sglB rs r=ac/\∀t∈r.parts,eE rs t=ab
def zgT:bE (MW P w C) (zgK P w C) zgI:=by
 rintro _ M R ⟨a,d,dx,l,rs,X,kvs,f,rfl,pl,hl,g,hX,hkv,r⟩;let hf:=g.few;let hnl:=g.nam;show#[rs,7,9,aO.frz #[namesOf rs,7,9,rs,X,7,g,hX,λc hcX hc3 hcn p0 hp0=>#[p0,7,.inl #[_,aI,8]]]];rw[iW hp0];show#[_,7,8];show c8 (λi τ M'=>∃l1 o5 o6 o7 o8 o9,τ=[aa !a,-a9 rs,-.str X,-.dk kvs,-.dk (ownOf rs),o5,o6,o7,o8,o9]/\M'=put M d (.dn P w [0]<|kvsOf l1)/\Ex (λz=>z.1.1=X/\(Qz rs f 0 20 z/\Pz rs z)/\iF rs X z.1.2) l (↥rs*i) (λx=>∃e∈c.take i,∃n∈numsOf rs e.1,B8 rs X n x) l1) #[l,_,_,_,_,_,7,(MX pl.di).symm,Ex.start] 8 8
 .rintro i v τ M' hv ⟨l1,o5,o6,o7,o8,o9,rfl,rfl,g1⟩ Dx hD;rw[Au]at hv;let#[e',he',rfl]:=Ay.mp hv;unfold fX at he';rw[Au]at he';obtain⟨⟨Z,ci⟩,he,rfl⟩:=Ay.mp he';let hi:=(An.mp he).1;let hpi:↥rs*i<=500*20:=Fg hf 9;let#[hc2,hcn]:=hcn _<|Ah he;let g1l:=g1.len;change _/\_;show#[7,7,rs,Z,7,9,aO.frz 8];show c8 (λj τ M'=>∃l2 o7 o8 o9,τ=[aa !a,-a9 rs,-.str X,-.dk kvs,-.dk (ownOf rs),-.str Z,-.tup (i9 ci),o7,o8,o9]/\M'=put M d (.dn P w [0]<|kvsOf l2)/\Ex (λz=>z.1.1=X/\(Qz rs f 0 20 z/\Pz rs z)/\iF rs X z.1.2) l1 (1*j) (λx=>∃n∈(numsOf rs Z).take j,B8 rs X n x) l2) #[l1,_,_,_,7,7,Ex.start] 8 8
  .rintro j y τ M' hy ⟨l2,o7,o8,o9,rfl,rfl,g2⟩ Dx hD;rw[Au]at hy;let#[n,hn,rfl]:=Ay.mp hy;let#[ru,hru,en]:=qW.mp<|Ah hn;let#[ru',h1,h2]:=jQ (rs:=rs) (n:=n) (An.mp hru).1;cases (show aa ru'=aa ru from h1.symm.trans hru);let hpr:=g.prt ru<|Ah hru;let hjl:=Ca (An.mp hn).1<|xM rs Z;let g2l:=g2.len;let no:(ru.parts.all (eE rs)=ab->sglB rs ru=ab)->Ex (λz=>z.1.1=X/\(Qz rs f 0 20 z/\Pz rs z)/\iF rs X z.1.2) l1 (1*(j+1)) (λx=>∃n∈(numsOf rs Z).take (j+1),B8 rs X n x) l2:=λhno=>g2.step hn (.no λx z0=>by
    let#[_,q,hq,_,h3,h4]:=z0;rw[hru]at hq;ext hq;rw[hno<|Fl.mpr h4]at h3;ext h3)
   show so.of h2 8;show B7 (rest:=[-.dk kvs,-.dk (ownOf rs)]) (eE rs) 9 (λ_=>trivial) (λt ht M' C sb h1=>8) 8
   .unfold eE at h1;rw[<-hkv]at h1;show#[_,#[Sum.inr t,7,7],bN (b:=(aN kvs (Sum.inr t:aC)).isSome) (λz=>by rw[z]at h1;show h1) λz=>#[_,#[Sum.inr t,7,7],8]];rw[z,Nl,<-mM]at h1;show h1
   show#[_,7,8];let e2:(ru.parts.map<|eE rs).all id=ru.parts.all (eE rs):=by rw[Mi];rfl
   rw[e2];show bN (b:=ru.parts.all<|eE rs) (λha=>8) λha=>hD _ _ #[l2,_,_,_,7,7,no λz=>by rw[ha]at z;ext z];show so.of h2 #[rs,ru,7,bN (b:=!(sglB rs ru)) (λhs=>8) λhs=>8]
   .show mI (pl.putD l2).ob nX #[ci,n,ru.parts,7,9,a,d,dx,l2,(X,ru.parts),_,7,pl.putD l2,9,λl' g'=>hD _ _ #[l',_,_,_,7,bV,g2.step hn<|g'.cg (λz ez=>8) λx=>8]]
    .let hm:=Ah hru;rw[ez];show#[7,#[#[_,7,8],g.pt ru hm,hpr],ru,hm,en▸hcn.rc (by rw[<-en];show qM hm),7,by rw[<-Ge (sglB rs ru),hs];rfl,Fl.mp ha];change Pf _ _ _ _ _ _ _ _<|cY rs f X;rw[kB<|.inl hX];show(hcn.pf g.hd (d:=1) (by
      rw[show Z=ru.name from en.symm];show Pf.one (g.hd ru hm).nm hru 9 (Pf.slot0<|L6<|g.sem hm))).mono (show 1+↥ci<=20 by have:↥ci<=19:=hc2;lia)
    .rintro⟨rfl,q,hq,h3,_⟩;rw[hru]at hq;ext hq;rw[h3]
   .show hD _ _ #[l2,_,_,_,7,7,no λ_=>by cases q:sglB rs ru;rw[q]at hs;ext hs;rfl]
  .rintro τ M' ⟨l2,o7,o8,o9,rfl,rfl,g2⟩;rw[Ab,Bn]at g2;have:=xM rs Z;show hD _ _ #[l2,_,_,_,_,_,7,7,g1.step he<|g2.le 9]
 .rintro τ M' ⟨l1,o5,o6,o7,o8,o9,rfl,rfl,g1⟩;let e:↥((fX c).map λp=>W.tup [wK p.1,p.2])=↥c:=by ext fX;rw[Ab,Ab]
  rw[e,Bn]at g1;show#[_,aV,r l1<|(g1.le<|Gm _ hc3).cg (λ_ h=>h) λx=>8];rintro⟨h1,q,hq,hc,h2,h3,h4⟩;let#[e,he,en]:=Ap.mp<|hcX _ hc;let#[n,hn]:=Fu hq;show#[e,he,n,qW.mpr #[q,hn,en.symm],h1,q,hn,h2,h3,h2▸h4]
def zgU:bE B5 (zgs P w C) zgq:=by
 rintro _ M R ⟨rs,rfl,K,r⟩;obtain⟨G,l,rfl⟩:∃q l,rs=q::l:=by
  cases rs with
  | nil=>show absurd rfl K
  | cons q l=>show#[q,l,7]
 show#[G,l,7,λa s S k j=>#[a,s,7,aI,λd hd=>#[7,8]]];let had:a≠d:=λe=>by rw[<-e,aI]at hd;ext hd
 rw[aT<|Cs had]at hd;rw[Bt.first had];show mI (Bt.pl had).ob nX #[a,d,s,[],(G.name,[G.name,G.name]),_,7,Bt.pl had,Cu _,λU g=>8];rw[Bt.put];obtain rfl:=g.one λh=>nomatch h;show mI (Bt.pl had).ob tE #[a,d,s,_,7,Bt.pl had,_,Bt.sub S hd had,r]
end
section
variable {X:Cx}{a:Ck}{ta:TA}{p p2 pos pos2:Ja}
def zgV(ta:TA):TE:=λG H Q=>ta G H λvs B=>∃n:Nat,vs=[¬n]/\n<=1000/\∀q,B q=ae->Q (!q) (aK B q<|.lst<|(Ci n).map λ(i:Nat)=>V.int i)
def zgW(hc:X.calm=ab)(hg:Gl X "list")(hm:X.mg "list" = ae)(hg2:Gl X "range")(hm2:X.mg "range" = ae)(ha:PA X [a] ta)(hs1:Cr [.Call (.Name "range" p2) [a] [] pos2] X.env=[(ac,Ff (.Call (.Name "range" p2) [a] [] pos2) X.env)]:=by rfl)(hs2:Cr [a] X.env=[(ac,Ff a X.env)]:=by rfl):
  PE X (.Call (.Name "list" p) [.Call (.Name "range" p2) [a] [] pos2] [] pos) (zgV ta):=by
 intro af s Z H Q I h;show Ek<|gO I hg hm (by decide +kernel:Cy "list" = aa (.type "list"))<|Ce 8 hs1 rfl;rw[hs1];show Lj<|Ek<|gO I hg2 hm2 (by decide +kernel:Cy "range" = aa (.type "range"))<|Ce (aY (ha pos2 af s Z H _ I h) λus s1 z0=>8) hs2 rfl;let#[vs,H1,I1,r1,q1]:=z0;let#[n,rfl,hn,q]:=q1;let#[u,rfl,ru]:=vals1 r1;let#[t,rfl]:=ru;show Wm<|Lz 8;let sz:Il 0 (n:Int) 1=(n:Nat):=by rw[Vv];split<;>lia
 show call_list_range (n:=n) (b:=(n:Int)) (I1.ok.hd hc) (Vb _ _ _ _ _ _ _) (PySem.small_one ∅ ∅ 9 9) sz 9 λh' tk acc c hk hS hacc=>8;let up:∀b o,s1.heap.get? b=-o->h'.get? b=-o:=λb o e=>hk b o<|Af _ e;let ez:(s1.heap.push {cls:=.type "range",data:=.fields [.int 0 0,.int (n:Int) t,.int 1 0].toArray}).objs.size=⇑s1+1:=Ew _ _;show#[!_,_,I1.laid (o:=.lst<|(Ci n).map λ(i:Nat)=>V.int i) (t':=tk) up 8 #[by simp[Kz];lia,acc.toList,c,8,by rw[Iy];show hS],7,q _<|I1.hok.fresh 8]
 .first|exact Hk (Nat.lt_of_lt_of_eq (Eb _) (Ew _ _).symm)|(rw[Ew];exact Fw _)
 .show rQ (by simp[hacc.1]) λj v hv=>8;let hv':acc[j]? = aa v:=by simpa using hv
  let#[t',rfl]:=hacc.2 j v hv';let hj:j<n:=by have:=(Kl.mp hv').1;rw[hacc.1]at this;show this
  show#[¬j,8,t',6];simp[hj]
 .first|exact Hk (Nat.lt_of_lt_of_eq (Eb _) (Ew _ _).symm)|(rw[Ew];exact Fw _)
end
section
variable {X:Cx}{a:Ck}{ta:aR}
def MY(ta:aR):aR:=λO M R=>ta O M λw I=>∃n:Nat,w=¬n/\n<=1000/\aO ((Ci n).map λ(i:Nat)=>W.int i) I R
def zgX(hg:Gl X "list")(J:X.mg "list" = ae)(x:Gl X "range")(Y:X.mg "range" = ae)(S:E3 X a ta)(hc:X.calm=ab:=by rfl)(f:Cr [.Call (.Name "range" p2) [a] [] pos2] X.env=[(ac,Ff (.Call (.Name "range" p2) [a] [] pos2) X.env)]:=by rfl)(L:Cr [a] X.env=[(ac,Ff a X.env)]:=by rfl):
  E3 X (.Call (.Name "list" p) [.Call (.Name "range" p2) [a] [] pos2] [] pos) (MY ta):=
 (zgW hc hg J x Y (pX S r6<|L.trans rfl) f L).weak λG H Q m=>m.el λO M R C U h k=>#[O,M,λws I=>∃n:Nat,ws=[¬n]/\n<=1000/\aO ((Ci n).map λ(i:Nat)=>W.int i) I R,C,U,(show aA ta aB O M _ from(show ta O M _ from by
  show(id h:ta O M _) |> λz=>8
  show Eq.mp (congrArg (ta O M)<|funext λw=>funext λI=>propext #[λm=>by let#[n,e,r]:=m;show#[n,by rw[e],r],λA=>by let#[n,e,r]:=A;show#[n,(Tg e).1,r]]) z)),λvs B ws I k1 j t u=>by
  let#[n,e,d,r]:=u;subst e;let#[v,rfl,av]:=t.one;obtain rfl:=av.inv;show#[n,7,d,λq N=>gR j (k.kp k1) N 8 r];have:∀l:↑Nat,aJ X.K B I (l.map λ(i:Nat)=>V.int i) (l.map λ(i:Nat)=>W.int i):=by
   intro l
   induction l with
   | nil=>show .nil
   | cons i r E=>show .cons (¬_) E
  show this _]
end
abbrev En:=cI×dA×Nat×↑Int
structure B9(G:Sr)(pre:dD)(e:En)(r:aD):Prop where
 no:cB pre e.1=ae
 ru:G.rs[e.2.2.1]? = aa r
 fa:e.1=(r.name,e.2.2.2.headD 0,e.2.2.2.getLastD 0)
 ln:↥r.parts+1<=↥e.2.2.2
 pn:∀k t,r.parts[k]? = aa t->G.own t=ab/\(cB pre (t,e.2.2.2.getD k 0,e.2.2.2.getD (k+1) 0)).isSome=ab
def xN(G:Sr)(B:dD):Prop:=∀pre e post,B=pre++e::post->∃r,B9 G pre e r
def zgY(F:mJ (jP rs []) B):xN (jP rs []) B:=λpre e post Z=>by
 let#[r,L,Y,O,W,U]:=F.bs pre e post Z;let z:∀k,e.2.2.2.getD k 0=0:=λk=>by
  rw[O,List.getD_eq_getElem?_getD,List.getElem?_replicate];split<;>rfl
 show#[r,Option.not_isSome_iff_eq_none.mp λh=>U 8,L,8,by rw[O,Ka];show Aj _,λk t ht=>8]
 .rw[Y]at h;show gA.mp h
 .rw[Y,O,show(rep<|↥r.parts+1).getLastD 0=0 by rw[List.getLastD_eq_getLast?,List.getLast?_replicate];rfl];rfl
 .let#[G,H]:=wA.mp<|W t<|Ah ht;let f:ownB rs t=ab:=by
   cases e:ownB rs t with
   | true=>rfl
   | false=>cases H e
  rw[z,z,gA];show#[f,G f]
noncomputable def qX(G:Sr)(n:Nat):↑Av:=((G.rs[n]?).map aD.parts).getD []
section
variable {X:Cx}{tg a b c:Ck}
def MZ:↑W->Mm->K3->Prop
 | [.bl b],M,R=>R (.int (if b then 1 else 0)) M
 | _,_,_=>False
def zgZ:cM X (.type "int") (eS X.K MZ):=by
 rintro af s Z H xs us Q I rs ⟨ws,M,R,U,N,h,k⟩
 match ws,h with
 | [.bl b],h=>
  let#[v,rfl,av]:=N.one;obtain rfl:=av.inv;cases rs with
  | cons r d=>
   ext d;ext r;show call_int_bool #[¬_,H,I.kept λ_ _ e=>e,#[_,7],k.at U (¬_) h]
end
noncomputable abbrev CA(row:↑Av):W:=.rl<|row.map W.str
noncomputable def iR(fs:↑cI):↑(↑aC×W):=fs.map λf=>(fK f,.bl ab)
noncomputable def pE(row:↑Av):↑(↑aC×W):=(row.zipIdx).map λx=>([Sum.inr x.1,Sum.inl (x.2:Int)],.rl [.tup [.int<|(x.2:Int)+1,.int 0]])
def M8:aW:=λws M R=>∃row:↑Av,ws=[CA row]/\↥row<=60/\aO ((Ci<|↥row+1).map λ(i:Nat)=>W.int i) M R
def M9:aW:=λws M R=>∃row:↑Av,ws=[CA row]/\↥row<=60/\j0 (pE row) M R
noncomputable abbrev zg0:↑Av:=["row"]
abbrev zg1:aE:=
   (bH<|MY<|aG cH (bG cD<|aH^aB) aX)
noncomputable abbrev zg2:↑Av:=["row"]
abbrev zg3:aE:=
   (bH<|bG BJ<|bD (cV (qD<|aH^aB) (eL 2<|bW (aQ 0)<|bW (aQ 1) eJ) d7 (bA<|bA (aM^aH^aB)^d8 (bA (aG cH aH aX^a8^aB)^aB)^aB) [ae,ae])^aB)
def NA(r:aO ws M R):aO ws M λw F=>∃a,L2.Sub a F/\R w a:=λp B=>#[_,aV,r p B]
def NB(r:j0 ws M R):j0 ws M λw F=>∃a,L2.Sub a F/\R w a:=λp B=>#[_,aV,r p B]
def zg4:bE M8 zg1 zg0:=by
 rintro _ M R ⟨row,rfl,hl,r⟩;show#[↥row+1,by rw[Ab];rfl,9,NA r]
def enum_zip(ws:↑Av)(n:Nat):i0 n (ws.map W.str)=(ws.zipIdx n).map λx=>W.tup [.int (x.2:Int),.str x.1]:=vQ W.str ws n
theorem NC:∀{ps acc:↑(↑aC×W)},((acc++ps).map (·.1)).Nodup->gT acc ps=acc++ps
 | [],acc,_=>by simp[gT]
 | p::ps,acc,h=>by
  let K:aN acc p.1=ae:=by
   rw[Ar,Cf]at h;show JR λe P z=>h.2.2 _ (Ap.mpr #[e,P,7]) p.1 6 z
  let e:bU acc p.1 p.2=acc++[p]:=by
   ext bU;rw[Xs<|by rw[show(acc.any λg=>decide<|g.1=p.1)=(aN acc p.1).isSome from jO acc p.1,K];decide]
  change gT (bU acc p.1 p.2) ps=_;rw[e,NC<|by rw[Bs];show h,Bs];rfl
def zg5(row:↑Av):((pE row).map (·.1)).Nodup:=by
 ext pE;rw[Bp];have:∀(row:↑Av) (n:Nat),((row.zipIdx n).map ((λx:↑aC×W=>x.1) ∘ λx:Av×Nat=>(([Sum.inr x.1,Sum.inl (x.2:Int)]:↑aC),W.rl [.tup [.int<|(x.2:Int)+1,.int 0]]))).Nodup:=by
  intro row
  induction row with
  | nil=>intro n;show Gu
  | cons t row E=>
   intro n;rw[Sw,Be,Dc];show#[λJ=>8,E _];let#[x,S,e]:=Ap.mp J;let L:=List.mem_zipIdx S;simp only[Mr,Fh,Qg,Oh,and_true]at e;lia
 show this row 0
def zg6:bE M9 zg3 zg2:=by
 rintro _ M R ⟨row,rfl,hl,r⟩;show 8;show HW (ws:=i0 0<|row.map W.str) (rest:=[]) (λw y=>∃x:Av×Nat,w=W.tup [.int (x.2:Int),.str x.1]/\y=.tup [.tup<|([Sum.inr x.1,Sum.inl (x.2:Int)]:↑aC).map wK,.rl [.tup [.int<|(x.2:Int)+1,.int 0]]]) (λw hw=>8) (small<|by rw[oQ,Ab];lia) (λ_ _=>trivial) (λa b J F C sb L=>8) λZ po=>8
 .rw[enum_zip]at hw;let#[x,_,rfl]:=Ap.mp hw;show#[_,_,7]
 .rw[enum_zip]at J;let#[x,_,e]:=Ap.mp J;simp only[W.tup.injEq,Fh,and_true]at e;let#[rfl,rfl]:=e;show(L _ #[x,7,7])
 .let U:Z=pB (pE row):=by
   rw[enum_zip]at po;unfold pB pE;rw[Bp]
   revert po
   generalize row.zipIdx=l;intro po
   induction l generalizing Z with
   | nil=>ext po;rfl
   | cons x l E=>
    cases po with
    | cons h t=>
     let#[c,T,rfl]:=h;simp only[W.tup.injEq,Fh,W.int.injEq,W.str.injEq,and_true]at T;have:x=c:=Pe T.2 9;subst this;rw[E _ t];rfl
  subst U;show aO.frz #[pE row,7,small<|by unfold pB pE;rw[Ab,Ab,Rr];lia,8];rw[NC (zg5 row)⁻¹,Iv];show NB r
def CB(fs:↑cI)(f:cI):(aN (iR fs)<|fK f).isSome=decide (f∈fs):=by
 ext iR
 induction fs with
 | nil=>rfl
 | cons g fs E=>
  rw[Be,qI]
  by_cases h:g=f
  .subst h;rw[Xu rfl];simp
  .rw[Xs λz=>h<|nP _ _ z,E];have:¬(f=g):=λz=>h z.symm;simp[this]
def zg7{fs:↑cI}{f:cI}(h:f∉fs):bU (iR fs) (fK f) (.bl ab)=iR (fs++[f]):=by
 ext bU;rw[Xs<|by rw[show((iR fs).any λg=>decide<|g.1=fK f)=(aN (iR fs)<|fK f).isSome from jO _ _,CB,decide_eq_true_eq];show h];ext iR;rw[Ar];rfl
noncomputable def eQ(f:cI):W:=.tup<|(fK f).map wK
noncomputable def n4(own:Av->Bool)(ps:↑Av)(cut:↑Int):↑cI:=ps.zipIdx.filterMap λx=>if own x.1=ab then aa (x.1,cut.getD x.2 0,cut.getD (x.2+1) 0) else ae
structure Wb(G:Sr)(B:dD):Prop where
 own:∀t,G.own t=ownB G.rs t
 few:↥G.rs<=500
 ord:xN G B
 bl:↥B<=2000
 pl:∀r∈G.rs,↥r.parts<=100
 hd:∀r∈G.rs,isNameB r.name=ab
noncomputable abbrev n5(B:dD):W:=.ft<|eC fK eN B
def ND:aW:=λws M R=>∃(rs:↑aD) (ps:↑Av) (cut:↑Int),ws=[.dk<|ownOf rs,.tup<|ps.map W.str,gL cut]/\↥ps+1<=↥cut/\↥ps<=100/\aO ((n4 (ownB rs) ps cut).map eQ) M R
def xO(G:Sr)(B:dD)(p:cI->Bool):Prop:=∀e∈B,p e.1=ab->∀f∈n4 G.own (qX G e.2.2.1) e.2.2.2,p f=ab
def NF:aW:=λws M R=>∃(G:Sr) (B:dD) (top:cI),ws=[a9 G.rs,n5 B,eQ top]/\Wb G B/\top∈B.map (·.1)/\∀p:cI->Bool,p top=ab->xO G B p->(∀q:cI->Bool,q top=ab->xO G B q->∀f,p f=ab->q f=ab)->aO (((B.map (·.1)).filter p).map eQ) M R
def NG:aW:=λws M R=>∃(t:Av) (b e:Int),ws=[.str t,¬b,¬e]/\R (.str t) M
def NH:aW:=λws M R=>∃(n:Nat) (p:Ao) (vs:↑W),ws=[¬n,!p]/\M p=-.lst vs/\R (gB n vs) M
def NI(C:Cc):aW:=λws M R=>∃(G:Sr) (B:dD) (top:cI),ws=[a9 G.rs,n5 B,eQ top,!C.f,!C.g]/\Wb G B/\top∈B.map (·.1)/\∀v,RT isNameB G.rs ↥B [top.1] [v] []->R v M
def NJ(C:Cc):aW:=λws M R=>∃(G:Sr) (B:dD) (top:cI),ws=[a9 G.rs,n5 B,eQ top]/\Wb G B/\top∈B.map (·.1)/\∀v,RT isNameB G.rs ↥B [top.1] [v] []->R v M
noncomputable abbrev zg8:↑Av:=["own","parts","cut"]
abbrev zg9:aE:=
   (bH<|cV (qD<|aM^aB) (eL 2<|bW (aQ 0)<|bW (aQ 1) eJ) (bL<|aG (bZ ac) aM aS) (bA<|aM^vX a7 aH^vX a7 (aG cH aH aX)^aB) [ae,ae,aa 0,aa 2])
noncomputable abbrev zha:↑Av:=["grammar","best","top","own","found","waiting","told","fact"]
abbrev zhb:aE:=
   (aL 3<|aP mL<|bD (aP i6<|aH^aB)^aB)
abbrev zhc:aE:=
   (aL 04<|MM aS<|vC<|.bl ab)
abbrev zhd:aE:=
   (aL 05<|fB<|aS^aB)
abbrev zhe:aE:=
   (aF (aL 06<|vX aM<|kQ "list" lZ cA)
   (cE (bM cF<|bD<|aP ND<|a7^vX (vX aH<|vX cQ aX) aX^vX cQ lU^aB) (aQ 07)
    (bY (bL<|aG (bZ ab) cC bC)
    (aF (eU (vC<|.bl ab)<|gI bC cC)
   (bX<|cJ "list" dZ cA<|cC^aB))
    cR)))
abbrev zhf:aE:=
   (jL (dG cA) zhe)
abbrev zhg:aE:=
   (bH<|cV (bM nS aM) (aQ 0) (bL<|aG (bZ ac) aH aM) aH [ae,aa 04])
abbrev zhh:aE:=(aF zhb<|aF zhc<|aF zhd<|aF zhf zhg)
noncomputable abbrev zhi:↑Av:=["grammar","best","top","of_word","of_rule","own","made","fact","number","cut","values","k","part"]
abbrev zhj(C:Cc):aE:=
   (aF (aL 08<|vX (vX aM cC) aX)
   (aF (aL 09<|vX (vX aM cC) lU)
   (aF (aL 10<|fB aB)
   (aF (cE (qD<|vX (vX aH fA) aX^aB) (eL 2<|bW (aQ 11)<|bW (aQ 12) eJ)
    (bY (bL<|aG (bZ ac) zE cA)
    (bX<|cJ "list" dZ uV<|vX cQ (bA<|zE^vX iN rZ^vX iN (aG cH rZ aX)^aB)^aB)
    (bX<|cJ "list" dZ uV<|B2 3 C.f NG (zE^vX iN rZ^vX iN (aG cH rZ aX)^aB)^aB)))
   (eU (B2 04 C.g NH<|fA^uV^aB)<|gI cQ cC)))))
abbrev zhk(C:Cc):aE:=(aF (aL 05<|aP mL<|bD (aP i6<|aH^aB)^aB)<|aF (aL 06 kS)<|aF (cE (bM cF<|bD<|aP NF<|aH^aM^aS^aB) (aQ 07)<|zhj C)<|bH<|vX cQ aS)
noncomputable abbrev zhl:↑Av:=["word","begin","end"]
abbrev zhm:aE:=
   (bH aH)
noncomputable abbrev zhn:↑Av:=["number","children"]
abbrev zho:aE:=
   (bH<|bA<|aH^bG qA (aM^aB)^aB)
noncomputable abbrev zhp:↑Av:=["grammar","best","top"]
abbrev zhq(C:Cc):aE:=
   (bH<|aP (NI C)<|aH^aM^aS^(vC !C.f)^(vC !C.g)^aB)
def xQ(h:↥rs<=500):↥(namesOf rs)<=20000:=by
 let L:=sQ (rs.map aD.name) [];rw[Ab,Iw,Jb]at L;show Am L<|Am h ∅
def xR{cut:↑Int}{k:Nat}(h:k<↥cut):bP (cut.map W.int) (k:Int)=aa (¬cut.getD k 0):=g9 (by rw[Au,List.getD_eq_getElem?_getD,Bh h];rfl)
def zhr:bE NG zhm zhl:=by
 rintro _ M R ⟨t,b,e,rfl,r⟩;show#[_,aV,r]
def zhs:bE NH zho zhn:=by
 rintro _ M R ⟨n,p,vs,rfl,e,r⟩;show#[_,e,_,aV,r]
def zht:bE (NJ C) (zhq C) zhp:=by
 rintro _ M R ⟨G,B,top,rfl,w,ht,r⟩;show#[G,B,top,7,w,ht,λv h=>#[_,aV,r v h]]
noncomputable def CC(rs:↑aD)(cut:↑Int):W->Option W
 | .tup [¬i,.str t]=>if ownB rs t=ab then aa (eQ (t,cut.getD i.toNat 0,cut.getD (i.toNat+1) 0)) else ae
 | _=>ae
def zhu{F:W->Option W}{ws:↑W}{os:↑(Option W)}(h:Dz (λw o=>o=F w) ws os):os.filterMap id=ws.filterMap F:=by
 induction h with
 | nil=>rfl
 | cons a _ E=>rw[a,Ej,Ej,E];rfl
def zhv(rs:↑aD)(cut:↑Int)(ps:↑Av):(i0 0<|ps.map W.str).filterMap (CC rs cut)=(n4 (ownB rs) ps cut).map eQ:=by
 ext n4;rw[enum_zip,Lq,List.map_filterMap];show congrArg (λf=>List.filterMap f ps.zipIdx)<|funext λx=>8;change(if ownB rs x.1=ab then _ else ae)=_;rw[Cq]
 by_cases h:ownB rs x.1=ab
 .rw[Xu h,Xu h];rfl
 .rw[Xs h,Xs h];rfl
def zhw:bE ND zg9 zg8:=by
 rintro _ M R ⟨rs,ps,cut,rfl,hc,hp,r⟩;show vK (rest:=[-.dk (ownOf rs),-gL cut]) (λw o=>o=CC rs cut w) (λw hw=>8) (small<|by rw[oQ,Ab];lia) (λ_ _=>trivial) (λa b hm M' C D sb h1 h2=>8) λos po=>8
 .rw[enum_zip]at hw;let#[x,_,rfl]:=Ap.mp hw;show#[_,_,7]
 .rw[enum_zip]at hm;obtain⟨⟨t,k⟩,hx,e⟩:=Ap.mp hm;ext e;let hk:=(An.mp<|Hz.mp hx).1;let ep:CC rs cut (.tup [.int (k:Int),.str t])=if ownB rs t=ab then aa (eQ (t,cut.getD k 0,cut.getD (k+1) 0)) else ae:=rfl;let ho:(aN (ownOf rs) (Sum.inr t:aC)).isSome=ownB rs t:=mM rs t;show#[_,#[Sum.inr t,7,7],bN (λz=>(so.of (xR 9)<|so.of (xR (k:=k+1) 9)<|h1 _<|by rw[ep,Xu<|ho.symm.trans z];rfl)) λz=>h2<|by rw[ep,Xs<|ne_true_of_eq_false<|ho.symm.trans z]]
 .rw[zhu po,zhv];show NA r
structure FW(G:Sr)(B:dD)(top:cI)(ex:cI->Prop)(fs wt:↑cI):Prop where
 tp:top∈fs
 nd:fs.Nodup
 sub:∀f∈fs,f∈B.map (·.1)
 wq:∀f∈wt,f∈fs
 wl:↥wt<=↥fs
 cl:∀e∈B,e.1∈fs->e.1∈wt\/ex e.1\/∀f∈n4 G.own (qX G e.2.2.1) e.2.2.2,f∈fs
 mn:∀q:cI->Bool,q top=ab->xO G B q->∀f∈fs,q f=ab
def FW.len{G:Sr}{B:dD}{top:cI}{fs wt:↑cI}{ex:cI->Prop}(h:FW G B top ex fs wt):↥fs<=↥B:=by
 have:=len_sub h.nd h.sub;rw[Ab]at this;show this
def FW.add{G:Sr}{B:dD}{top g:cI}{fs wt:↑cI}{ex:cI->Prop}(h:FW G B top ex fs wt)(hg:g∉fs)(Z:g∈B.map (·.1))(J:∀q:cI->Bool,q top=ab->xO G B q->q g=ab):FW G B top ex (fs++[g]) (wt++[g]):=by
 show#[Bf _ h.tp,8,λf hf=>8,λf hf=>8,(by rw[Ag,Ag];show Hb h.wl _),λe P hf=>8,λq L Y f hf=>(Az.mp hf).elim (h.mn q L Y f) λz=>by rw[Ae.mp z];show J q L Y]
 .rw[Cf];show#[h.nd,6,λa S b Z e=>hg<|by cases Ae.mp Z;rw[<-e];show S]
 .rcases Az.mp hf with z|z
  .show h.sub f z
  .cases Ae.mp z;show Z
 .rcases Az.mp hf with z|z
  .show Bf _<|h.wq f z
  .show Bo _ z
 .rcases Az.mp hf with z|z
  .rcases h.cl e P z with y|y|y
   .show .inl<|Bf _ y
   .show .inr<|.inl y
   .show .inr<|.inr λf hf=>Bf _<|y f hf
  .show .inl<|Bo _ z
noncomputable def qY(fs:↑cI):W->Option W
 | .tup [.str n,¬b,¬e]=>if (n,b,e)∈fs then aa (.tup [.str n,¬b,¬e]) else ae
 | _=>ae
def zhx(fs gs:↑cI):(gs.map eQ).filterMap (qY fs)=(gs.filter λf=>decide<|f∈fs).map eQ:=by
 induction gs with
 | nil=>rfl
 | cons f gs E=>
  let e:qY fs (eQ f)=if f∈fs then aa (eQ f) else ae:=rfl;rw[Be,Ej,Ds,e,E]
  by_cases h:f∈fs
  .rw[Xu h,Xu<|Xw h,Be]
  .rw[Xs h,Xs<|by rw[Xx h];show Bb]
def NK(h:f∈B.map (·.1)):∃v,cB B f=-v/\aN (eC fK eN B) (fK f)=-eN v:=by
 let#[v,c]:=El.mp<|gA.mpr h;show#[v,c,by rw[nQ nP,c];rfl]
def zhy{G:Sr}{B:dD}(o:xN G B){e:En}(P:e∈B):cB B e.1=-e.2:=by
 let#[a,b,sp]:=Rt P;let#[r,E]:=o a e b sp;rw[sp,JQ,E.no,nN,Xu rfl];rfl
def NL(E:B9 G pre e r)(hg:g∈n4 G.own r.parts e.2.2.2):g∈pre.map (·.1):=by
 obtain⟨⟨t,k⟩,S,T⟩:=Lp.mp hg;let S:=Hz.mp S
 by_cases f:G.own t=ab
 .rw[Xu f]at T;ext T;show gA.mp (E.pn k t S).2
 .rw[Xs f]at T;ext T
def CD(E:B9 G pre e r):qX G e.2.2.1=r.parts:=by ext qX;rw[E.ru];rfl
def zhz:bE NF zhh zha:=by
 rintro _ M R ⟨G,B,top,rfl,w,ht,r⟩;let hown:G.own=ownB G.rs:=funext w.own;show#[G.rs,7,(Am w.few ∅),aO.frz #[namesOf G.rs,7,xQ w.few,λp V=>#[aI,fK top,7,(λq N=>8)]]];rw[bV]at N⊢;let t:q≠p:=λe=>by rw[e,aI]at N;ext N
 let hq0:M q=ae:=by rw[aT t]at N;show N
 let atp:∀{X Y:MO},put (put M p X) q Y p=-X:=λ{X Y}=>by rw[aT<|Cs t,aI]
 let setp:∀{X X' Y:MO},put (put (put M p X) q Y) p X'=put (put M p X') q Y:=λ{X X' Y}=>by rw[lQ t,bV]
 show mH (λm O I=>∃fs wt H Q,O=[-a9 G.rs,-n5 B,-eQ top,-.dk (ownOf G.rs),aa !p,aa !q,H,Q]/\I=put (put M p<|.dT<|iR fs) q (.lst<|wt.map eQ)/\FW G B top (λ_=>False) fs wt/\m=2*(↥B-↥fs)+↥wt)
  #[_,[top],[top],_,_,7,7,#[List.mem_singleton_self _,6,λf hf=>by cases Ae.mp hf;show ht,λf hf=>hf,Aj _,λe _ hf=>.inl hf,λq L _ f hf=>by rw[Ae.mp hf];show L],7] 8
 rintro m O I ⟨fs,wt,H,Q,rfl,rfl,F,rfl⟩ Dw hDw;show(.inl #[_,aI,bN (λh=>8) λh=>8])
 .rcases Mv wt with e|⟨wt',f,e⟩
  .rw[e]at h;ext h
  rw[Mw]at e;subst e;let#[v,c,lv]:=NK (F.sub f<|F.wq f<|6);let#[pre,post,sp]:=qH c;let#[ru,E]:=w.ord pre _ post sp;let#[ru',L,Z]:=jQ (rs:=G.rs) (n:=v.2.1) (An.mp E.ru).1;cases (show aa ru'=aa ru from L.symm.trans E.ru);show#[dP aI,_,_,by rw[Ar];show aI,_,#[fK f,7,lv.symm],(so.of Z #[G.rs,ru.parts,v.2.2,7,E.ln,w.pl ru<|Ah L,aO.frz 8])];rw[bV,<-hown];obtain⟨pf,hpf⟩:∃pf,pf=n4 G.own ru.parts v.2.2:=#[_,7];rw[<-hpf];let hpB:∀g∈pf,g∈B.map (·.1):=λg hg=>by
   rw[hpf]at hg;rw[sp,Ar];show Bf _<|NL E hg
  let T:=F.len;show c8 (λj O I=>∃fs2 i Q,O=[-a9 G.rs,-n5 B,-eQ top,-.dk (ownOf G.rs),aa !p,aa !q,-eN v,Q]/\I=put (put M p<|.dT<|iR fs2) q (.lst<|i.map eQ)/\(∀g∈pf.take j,g∈fs2)/\FW G B top (λx=>x=f) fs2 i/\2*(↥B-↥fs2)+↥i+1<=2*(↥B-↥fs)+↥(wt'++[f])) 8 8 8
  .show#[fs,wt',#[_,7,7,(λg hg=>nomatch hg),#[F.tp,F.nd,F.sub,λx S=>F.wq x<|Bf _ S,Am (by rw[Ag];show Fm _ _) F.wl,λe P hf=>8,F.mn],by rw[Ag];show Aj _]];rcases F.cl e P hf with y|y|y
   .rcases Az.mp y with y|y
    .show .inl y
    .show .inr<|.inl<|Ae.mp y
   .show y.elim
   .show .inr<|.inr y
  .rintro j x O I S ⟨fs2,i,Q,rfl,rfl,hin,F2,J⟩ D1 hD1;rw[Au]at S;let#[g,hg,rfl]:=Ay.mp S;let hgm:=Ah hg;let hl2:=F2.len;let hbl:=w.bl;show(.inr #[_,.inr #[iR fs2,fK g,atp,7,7],8]);change if (!((aN (iR fs2)<|fK g).isSome))=ab then _ else _;rw[CB];show bN (λK=>8) λK=>8
   .let K:g∉fs2:=of_decide_eq_false (by rw[<-Ge (decide _),K];rfl);let F3:=F2.add K (hpB g hgm) λq L Z=>Z (f,v) (by rw[sp];simp) (F.mn q L Z f<|F.wq f<|6) g (by rw[show qX G v.2.1=ru.parts from CD E,<-hpf];show hgm);let hl3:=F3.len;rw[Ag,Cd]at hl3;let lw:=F2.wl;show(oP (k:=fK g) atp (by ext iR;rw[Ab];show cS 9) 8);rw[zg7 K,setp];show#[dP aI,#[_,aI,cS<|by rw[Ab];lia,hD1 _ _ #[fs2++[g],i++[g],#[_,7,8,λy U=>8,F3,8]]]]
    .rw[bV,Ar];rfl
    .rw[Bx,hg]at U;rcases Az.mp U with z|z
     .show Bf _<|hin y z
     .show Bo _ z
    .rw[Ag,Ag,Cd];lia
   .let K:g∈fs2:=Xv (by rw[<-Ge (decide _),K];rfl);show hD1 _ _ #[fs2,i,#[_,7,7,λy U=>8,F2,J]];rw[Bx,hg]at U;rcases Az.mp U with z|z
    .show hin y z
    .cases Ae.mp z;show K
  .rintro O I ⟨fs2,i,Q,rfl,rfl,hin,F2,J⟩;rw[Ab,Bn]at hin;show hDw _ _ _ J #[fs2,i,_,#[_,7,7,#[F2.tp,F2.nd,F2.sub,F2.wq,F2.wl,λe P hf=>8,F2.mn],7]];rcases F2.cl e P hf with y|y|y
   .show .inl y
   .have:=zhy w.ord P;rw[y,c]at this;show .inr<|.inr λg hg=>hin g 8;rw[<-Cm this,show qX G v.2.1=ru.parts from CD E]at hg;rw[hpf];show hg
   .show .inr<|.inr y
 .let e:wt=[]:=by
   cases wt with
   | nil=>rfl
   | cons a b=>ext h
  subst e;let hbl:=w.bl;show(vJ (rest:=[aa !p]) (qY fs) (small<|by rw[Ab,Ab];lia) (λ_ _=>trivial) (λx S u C D sb d1 A=>8) 8)
  .rw[Bp]at S;let#[e,P,rfl]:=Ap.mp S;let ei:qY fs (eQ e.1)=if e.1∈fs then aa (eQ e.1) else ae:=rfl;show(.inr #[_,.inr #[iR fs,fK e.1,sb _ _ atp,7,7],8]);change if (aN (iR fs)<|fK e.1).isSome=ab then _ else _;rw[CB];show bN (λz=>(d1 _<|by change qY fs (eQ e.1)=_;rw[ei,Xu<|Xv z];rfl)) λz=>A (by change qY fs (eQ e.1)=_;rw[ei,Xs<|of_decide_eq_false z])
  .let e:((eC fK eN B).map λp=>W.tup<|p.1.map wK)=(B.map (·.1)).map eQ:=by rw[Bp,Bp];rfl
   rw[e,zhx];let z:=r (λf=>decide<|f∈fs) (Xw F.tp) λe P hf f J=>by
    rcases F.cl e P (Xv hf) with y|y|y
    .ext y
    .show y.elim
    .show Xw<|y f J
   let z:=z λq L Z f hf=>F.mn q L Z f<|Xv hf;intro s l;let d:s≠q:=λe=>by rw[e,aI]at l;ext l
   let o:s≠p:=λe=>by rw[e,atp]at l;ext l
   rw[aT d,aT o]at l;show#[_,Sub.put<|gK (gK (aV) V) hq0,z s l]
def zhA(o:xN G B):(B.map (·.1)).Nodup:=by
 rw[Hh,Kf];show List.pairwise_iff_getElem.mpr λi j hi F a e=>8;let#[r,E]:=o (B.take j) B[j] (B.drop<|j+1) (by rw[<-Eu F,Jz]);let J:B[j].1∈(B.take j).map (·.1):=by
  rw[<-e];show Nw<|List.mem_iff_getElem.mpr #[i,by rw[Ct];lia,by rw[List.getElem_take]]
 rw[<-gA,E.no]at J;ext J
def zhB(nd:l.Nodup)(e:l=a++f::b){j:Nat}(h:l[j]? = aa f):l.take j=a:=by
 have:j=↥a:=(List.getElem?_inj (An.mp h).1 nd).mp (h.trans<|by rw[e,Ii<|Aj _,Mj];rfl);rw[this,e,List.take_left]
noncomputable abbrev qZ(T:↑(cI×W)):↑(↑aC×W):=eC fK (λw=>w) T
def zhC{T:↑(cI×W)}{g:cI}{v:W}(h:g∉T.map (·.1)):bU (qZ T) (fK g) v=qZ (T++[(g,v)]):=by
 show(A9 (f:=λw=>w) nP _ g v).trans 8;rw[v5<|Option.not_isSome_iff_eq_none.mp λz=>h<|gA.mp z]
def zhD{C:Cc}:bE (NI C) (zhk C) zhi:=by
 rintro _ M R ⟨G,B,top,rfl,w,ht,r⟩;let hown:G.own=ownB G.rs:=funext w.own;let nd:=zhA w.ord;show#[G.rs,7,(Am w.few ∅),aO.frz #[namesOf G.rs,7,xQ w.few,λp hp=>#[G,B,top,7,w,ht,λP hP hcl _=>aO.frz 8]]];obtain⟨F,hF⟩:∃F,F=(B.map (·.1)).filter P:=#[_,7];rw[<-hF];let ndF:F.Nodup:=by rw[hF];show nd.filter _
 let lF:↥F<=2000:=Am (by rw[hF];show Fc _ _) (by rw[Ab];show w.bl);show mG (λj τ M'=>∃T o7 o8 o9 o10 o11 o12,τ=[-a9 G.rs,-n5 B,-eQ top,aa !C.f,aa !C.g,-.dk (ownOf G.rs),aa !p,o7,o8,o9,o10,o11,o12]/\M'=put M p (.dT<|qZ T)/\T.map (·.1)=F.take j/\∀e∈T,RT isNameB G.rs j [e.1.1] [e.2] []) #[[],_,_,_,_,_,_,7,7,7,λ_ h=>nomatch h] 8 8
 .rintro j x τ M' hx ⟨T,o7,o8,o9,o10,o11,o12,rfl,rfl,hT,hR⟩;rw[Au]at hx;let#[f,hf,rfl]:=Ay.mp hx;let hfm:f∈F:=Ah hf;let hfm2:=hfm;rw[hF]at hfm2;let#[hfB,hfP]:=Dy.mp hfm2;let#[v,hv,lv]:=NK hfB;let#[pre,post,sp]:=qH hv;let#[ru,E]:=w.ord pre _ post sp;let#[ru',h1,h2]:=jQ (rs:=G.rs) (n:=v.2.1) (An.mp E.ru).1;cases (show aa ru'=aa ru from h1.symm.trans E.ru);let hpl:=w.pl ru<|Ah h1;let hcutl:↥ru.parts+1<=↥v.2.2:=E.ln;let htk:F.take j=(pre.map (·.1)).filter P:=zhB ndF (by rw[hF,sp,Ar,Be,Jt,Ds,Xu hfP]) hf;let hpf:∀k t,ru.parts[k]? = aa t->(t,v.2.2.getD k 0,v.2.2.getD (k+1) 0)∈F.take j:=λk t hk=>by
   let ho:=(E.pn k t hk).1;let hg:(t,v.2.2.getD k 0,v.2.2.getD (k+1) 0)∈n4 G.own ru.parts v.2.2:=Lp.mpr #[(t,k),Hz.mpr hk,by rw[Xu ho]];rw[htk];show Dy.mpr #[NL E hg,hcl (f,v) (by rw[sp];simp) hfP _ 8];rw[CD E];show hg
  let hnf:f∉F.take j:=λz=>by
   rw[htk]at z;have:=(Dy.mp z).1;rw[<-gA,E.no]at this;ext this
  show#[_,#[fK f,7,lv.symm],_,#[fK f,7,lv.symm],λq hq=>8];let hpq:q≠p:=λe=>by rw[e,aI]at hq;ext hq
  let atp:∀{X Y:MO},put (put M p X) q Y p=-X:=λ{X Y}=>by rw[aT<|Cs hpq,aI]
  show(so.of h2 8);show c8 (λk τ M'=>∃vs o11 o12,τ=[-a9 G.rs,-n5 B,-eQ top,aa !C.f,aa !C.g,-.dk (ownOf G.rs),aa !p,-eQ f,aa ¬v.2.1,-gL v.2.2,aa !q,o11,o12]/\M'=put (put M p<|.dT<|qZ T) q (.lst vs)/\RT isNameB G.rs j (ru.parts.take k) vs []) #[[],_,_,7,7,.nil] 8 8
  .rintro k x τ M' hx ⟨vs,o11,o12,rfl,rfl,hvs⟩ Dx hD;rw[AK,Au]at hx;cases hs:ru.parts[k]? with
   | none=>rw[hs]at hx;ext hx
   | some t=>
    rw[hs]at hx;ext hx;let hk1:=(An.mp hs).1;let ho:(aN (ownOf G.rs) (Sum.inr t:aC)).isSome=G.own t:=by rw[hown];show mM G.rs t
    let lk:↥vs<Aw:=cS (by rw[hvs.len,Ct];lia);let c1:bP (v.2.2.map W.int) ((0+k:Nat):Int)=aa (¬v.2.2.getD k 0):=by rw[Jb];show xR 9
    let c2:bP (v.2.2.map W.int) (((0+k:Nat):Int)+1)=aa (¬v.2.2.getD (k+1) 0):=by rw[Jb];show xR (k:=k+1) 9
    let fin:∀y,put (put (put M p<|.dT<|qZ T) q<|.lst vs) q (.lst<|vs++[y])=put (put M p<|.dT<|qZ T) q (.lst<|vs++[y]):=λy=>bV;show#[7,7,_,#[Sum.inr t,7,7],bN (λz=>8) λz=>8]
    .let#[y,hy]:=El.mp (gA.mpr (by rw[hT];show hpf k t hs:(t,v.2.2.getD k 0,v.2.2.getD (k+1) 0)∈T.map (·.1)));let hy2:RT isNameB G.rs j [t] [y] []:=by
      let#[a,b,e]:=qH hy;show hR ((t,v.2.2.getD k 0,v.2.2.getD (k+1) 0),y) (by rw[e];simp)
     show#[dP aI,so.of c1<|so.of c2<|qL (k:=fK (t,v.2.2.getD k 0,v.2.2.getD (k+1) 0)) (w:=y) atp (by rw[nQ nP,hy];rfl) #[_,aI,lk,hD _ _ #[_,_,_,7,fin _,by rw[Bx,hs];show hvs.app hy2]]]
    .rw[ho,(E.pn k t hs).1]at z;ext z
  .rintro τ M' ⟨vs,o11,o12,rfl,rfl,hvs⟩;let hTl:↥T=j:=by
    have:=congrArg Js hT;rw[Ab,Ct]at this;have:=(An.mp hf).1;lia
   have:=(An.mp hf).1;rw[oQ,Ab,Bn]at hvs;show#[7,v.2.1,q,vs,7,aI,oP (k:=fK f) atp (cS<|by rw[Ab];lia) 8];rw[zhC<|by rw[hT];show hnf,lQ hpq,bV];show#[_,Sub.new 8,T++[(f,gB v.2.1 vs)],_,_,_,_,_,_,7,7,8,λe he=>8]
   .rw[aT hpq];rw[aT hpq]at hq;show hq
   .rw[Ar,hT,Bx,hf];rfl
   .rcases Az.mp he with he|he
    .show(hR e he).mono<|Fw _
    .rw[Ae.mp he];have:f.1=ru.name:=(congrArg Cg E.fa);rw[this];show .knot (w.hd ru<|Ah h1) h1 (Aj _) hvs .nil
 .rintro τ M' ⟨T,o7,o8,o9,o10,o11,o12,rfl,rfl,hT,hR⟩;rw[Ab]at hR;rw[Ab,Bn]at hT;let#[y,hy]:=El.mp (gA.mpr (by rw[hT,hF];show Dy.mpr #[ht,hP]:top∈T.map (·.1)));let hy2:RT isNameB G.rs ↥B [top.1] [y] []:=by
   let#[a,b,e]:=qH hy;show(hR (top,y)<|by rw[e];simp).mono (by rw[hF];show Am (Fc _ _)<|by rw[Ab];show Aj _)
  show qL (k:=fK top) (w:=y) aI (by rw[nQ nP,hy];rfl) #[_,Sub.new hp,r y hy2]
section
variable {X:Cx}{af:Pn}{Z:St}{H:Hp}{s:Ai}{a:Ao}
def Inv.swap{F G:Cz->Prop}(I:Inv X af Z H s)(e:H a=-.ext F)(hg:∀L,b9 X.prog X.w L s.heap a<|.ext G):Inv X af Z (aK H a<|.ext G) s:=by
 let ne:∀{b:Ao} {v:HO},H b=-v->v≠.ext F->b≠a:=λ{b v} T h z=>by subst z;rw[e]at T;show h (Cm T).symm
 let g:∀{b:Ao},H b=ae->b≠a:=λ{b} T z=>by subst z;rw[e]at T;ext T
 let kt:∀b xs,H b=-.tup xs->aK H a (.ext G) b=-.tup xs:=λb xs P=>by
  rw[bB<|ne P λz=>by ext z];show P
 let i:∀b y,H b=-.own y->aK H a (.ext G) b=-.own y:=λb y P=>by
  rw[bB<|ne P λz=>by ext z];show P
 show I.step (h':=s.heap) (g':=s.gens) (d':=s.drawn) (t':=s.toks) (ch:=[]) (λ_ z=>nomatch z) (λb o _ _ _ T _=>T) (λb o _ _ _ T _=>#[o.slots,T]) (λb o _ _ n=>by rw[bB<|g n];show n) (λb o _ T=>#[o,T]) kt
  (λb ob v P=>8) (λb ps P=>#[#[],8]) (λm J=>J) (λb v P=>8) I.bare
 .rw[bB<|ne P λz=>by ext z];show P
 .rw[bB (ne P λz=>by ext z),P];simp
 .by_cases Y:b=a
  .subst Y;rw[b8]at P;ext P;show hg _
  .rw[bB Y]at P;show(I.hok b v P).stay (λ_ _ _ q=>q) (λc q=>i c b q) kt
noncomputable def CF(P:Bc)(w:Bq)(tl:↑Int)(a:Ao)(o:Nh)(n:Nat):It:=
 #[λi H=>(∃es,H a=-.ext (hW P w tl a es o))/\i<n,λi H x L=>L=H/\∃b en B ep,o.data=.dict B ep/\B[i]? = aa en/\en.key=!b/\x=!b,λi H=>(∃es,H a=-.ext (hW P w tl a es o))/\n<=i]
theorem zhE{P:Bc}{w:Bq}{K:Ac}{tg:Ck}{tl:↑Int}(a it:Ao)(o:Nh)(B:Array Ey)(ep:Nat)(hd:o.data=.dict B ep)(hk:∀(i:Nat) (en:Ey),B[i]? = aa en->∃b,en.key=!b):
  jB P w K tg (CF P w tl a o B.size) [it] it (λi h=>h.IsKeyIter it a i B.size ep) where
 mem:=by simp
 obj:=λi h st b Y=>by
  let e:b=it:=by simpa using Y
  subst e;let#[o,e,c,d]:=st;show#[o,e,λv z=>by rw[d]at z;ext z]
 keep:=λi h h' st k=>st.at λo e=>k it 6 o e
 item:=by
  intro X M hw R hc i af s Z H E I hf st hg;subst M hw R;obtain⟨⟨es,T⟩,hi⟩:=hg;let f:s.heap.get? a=-o:=(show b9 X.prog X.w H s.heap a (.ext<|hW X.prog X.w tl a es o) from I.hok a _ T).1.1;let#[b,Y]:=hk i B[i] (by simp[hi]);let#[f0,F,y,L,J,O]:=hf it 6;show uP ac st f hd hi λh' Q sb=>8;let g:Inv X af Z H (s<&>h'):=I.turned (t':=s.toks) (λb o Y e=>(sb.2 b Y).trans e) f0 F L J O;let#[D,e,c,d]:=id Q;show#[_,7,pG (s:=(s<&>h')) e c d ∅ #[!b,H,g,Y,#[7,b,_,_,_,hd,by simp[hi],Y,7],Q,λb Y=>(hf b Y).1]]
 done:=by
  intro X M hw R hc i af s Z H E I hf st hg;subst M hw R;obtain⟨⟨es,T⟩,hi⟩:=hg;let f:s.heap.get? a=-o:=(show b9 X.prog X.w H s.heap a (.ext<|hW X.prog X.w tl a es o) from I.hok a _ T).1.1;show uQ ac (I.ok.hd hc) st f hd 9 λh' hk=>#[7,8]
  show I.turnedT (tk:=s.toks) hf λq o N eq=>hk q o (λz=>N<|by simp[z]) eq
 self:=λ_ _ _ _ _ st h=>Ru st h
end
section
variable {X:Cx}
abbrev CG(P:Bc)(w:Bq)(tl:↑Int):W->Mm->(↑W->(Mm->Prop)->Mm->Prop)->Prop:=λx I R=>∃a kvs o,x=!a/\I a=-.dh P w tl kvs o/\R (kvs.map λp=>gJ tl p.1) (λM=>M a=-.dh P w tl kvs o) I
def zhF{K:Ac}{j:Hp}{g:Mm}{P:Bc}{w:Bq}{tl:↑Int}{a:Ao}{o:Nh}{kvs:↑(bQ×W)}{B:Array Ey}{ep:Nat}(hd:o.data=.dict B ep)(d:B.size=↥kvs):iB K j g (CF P w tl a o B.size) (kvs.map λp=>gJ tl p.1) λM=>M a=-.dh P w tl kvs o:=by
 show#[λi H M k U e hi=>8,λH M k U e=>8,λi H M x L k U e hi y=>8]
 .let#[es,T,_]:=U _ _ e;rw[Ab]at hi;show#[#[es,T],9]
 .let#[es,T,_]:=U _ _ e;show#[#[es,T],by rw[Ab];lia]
 .let#[rfl,b,en,c,Y,u,m,Z,rfl]:=y;cases hd.symm.trans u;obtain⟨es,T,⟨n,s,l,hsz,hz⟩,q⟩:=U _ _ e;cases hd.symm.trans l;let#[z,A,f]:=hz i en m;rw[Z]at f;ext f;have:∀{es:↑(bQ×Ao×V)} {kvs:↑(bQ×W)} {i:Nat},PN K L M tl es kvs->es[i]? = aa z->∃p,kvs[i]? = aa p/\z.1=p.1/\hZ L tl z.1 z.2.1:=by
   intro es kvs i r
   induction r generalizing i with
   | nil=>intro h;ext h
   | @cons p q ps qs N t E=>
    intro h;cases i with
    | zero=>ext h;show#[q,7,N.1,N.2.1]
    | succ i=>rw[Ha]at h⊢;show E h
  let#[p,G,p2,X]:=this q A;show#[gJ tl p.1,by rw[Au,G];rfl,Kp.refl U,U,by rw[<-p2];show hZ.av X]
def zhG{tg:Ck}{tl:↑Int}:l5 X tg (sH X.K<|CG X.prog X.w tl):=by
 rintro af s Z H x u Q I F ⟨n,M,R,t,U,⟨a,kvs,o,rfl,e,h⟩,k⟩;obtain rfl:=t.inv;cases (show u=Value.ref a from F);obtain⟨es,T,⟨B,ep,hd,hsz,hz⟩,q⟩:=U _ _ e;let hl:=Cv q;let hh:=(show b9 X.prog X.w H s.heap a (.ext<|hW X.prog X.w tl a es o) from I.hok a _ T).1;let#[c,Y,G,_,_,j,_]:=sO hh.2;let fp:∀b∈[⇑s],gP X af H b:=λb W=>by
  let e:b=⇑s:=by simpa using W
  subst e;show I.fpOk (Aj _)<|I.hok.fresh<|Aj _
 let G:gH s.heap a B ep:=by
  let#[D,N,d,f]:=G;rw[hh.1]at N;ext N;show#[o,hh.1,d,hd]
 show uR j G #[⇑s,[⇑s],_,CF X.prog X.w tl a o B.size,H,7,I.kept (t':=s.toks) λb o e=>Af _ e,zhE a _ o B ep hd λi en P=>(hz i en P).elim λz y=>#[_,y.2],#[_,Ax _ rfl,7,7],fp,k _ _ _ _ _ (Kp.refl U) U (zhF hd 9) h]
def zhH(hl:E3 X l tl):PI X tg l (f9 X.K<|bM (CG X.prog X.w n) tl):=vD hl zhG
def CH{K:Ac}{H:Hp}{M:Mm}{a:Ao}{s o:MO}{u:HO}(U:AM K H M)(e:M a=-s):Go H M (aK H a u) (put M a o):=by
 let g:∀{b:Ao},M b=ae->b≠a:=λ{b} h z=>by subst z;rw[e]at h;ext h
 show#[λb xs P=>8,λb ob v P=>8,λb v n P=>8]
 .rw[bB<|g<|U.noTup P];show P
 .rw[bB<|g<|U.noFrz P];show P
 .rw[bB<|g n,aT<|g n];show#[P,n]
def NM{K:Ac}{H:Hp}{M:Mm}{a:Ao}{s o:MO}{u:HO}(U:AM K H M)(e:M a=-s)(J:AO K (aK H a u) (put M a o) a o):AM K (aK H a u) (put M a o)/\Kp H M (aK H a u) (put M a o):=by
 let go:Go H M (aK H a u) (put M a o):=CH U e;show#[λb V P=>8,λb v n P=>go.hl b v n P,λb v P=>8]
 .by_cases Z:b=a
  .subst Z;rw[aI]at P;ext P;show J
  .rw[aT Z]at P;show(U b V P).go go<|bB Z
 .by_cases Z:b=a
  .subst Z;show#[_,b8]
  .let#[y,q]:=(U b v P).has;show#[y,by rw[bB Z];show q]
abbrev CI(P:Bc)(w:Bq)(tl:↑Int)(j:aR):aR:=λO M R=>∃a kvs,M a=-.dn P w tl kvs/\∀o,j O (put M a<|.dh P w tl kvs o) λx F=>F a=-.dh P w tl kvs o/\R x (put F a<|.dn P w tl kvs)
def zhI(h:E3 X e n):E3 X e (CI X.prog X.w tl n):=by
 rintro af s σ H Q I ⟨O,M,R,m,U,⟨a,kvs,C,h'⟩,k⟩;let#[es,T,q]:=U _ _ C;let S:=qF I T;let#[B,ep,J,hsz,_,_,hz]:=sO S;let#[o,f,hc,hd]:=J;let held:hW X.prog X.w tl a es o s.heap:=#[f,S];let i:=I.swap T (G:=hW X.prog X.w tl a es o) λ_=>held.ok;let go:Go H M (aK H a<|.ext<|hW X.prog X.w tl a es o) (put M a<|.dh X.prog X.w tl kvs o):=CH U C;let#[N,k2]:=NM (o:=.dh X.prog X.w tl kvs o) (u:=.ext<|hW X.prog X.w tl a es o) U C #[es,b8,#[B,ep,hd,hsz,λj en P=>(hz j en P).elim λz y=>#[z,y.1,y.2.1]],Paired.mapP q λp r z=>#[z.1,let #[pa,n1,n2]:=z.2.1;#[pa,go.ht _ _ n1,go.ht _ _ n2],z.2.2.go go]];show aY (h af s σ _ (λx t=>∃d,t a=-.ext (hW X.prog X.w tl a d o)/\Q x (aK t a<|.ext<|dQ X.prog X.w tl a d)) i #[O,_,_,m.kp U k2,N,h' o,λv L w F Y A av #[eM,r]=>8]) λv s1 #[x,t,l,c,d,W,E]=>8
 .let#[d,g,_,K]:=A _ _ eM;let V:Go L F (aK L a<|.ext<|dQ X.prog X.w tl a d) (put F a<|.dn X.prog X.w tl kvs):=CH A eM;let#[b,Z]:=NM (o:=.dn X.prog X.w tl kvs) (u:=.ext<|dQ X.prog X.w tl a d) A eM #[d,b8,Paired.mapP K λp r z=>#[z.1,let #[pa,n1,n2]:=z.2.1;#[pa,V.ht _ _ n1,V.ht _ _ n2],z.2.2.go V]];show#[d,g,k _ _ _ _ ((k2.trans Y).trans Z) b (av.go V) r]
 .let D:=(show b9 X.prog X.w t s1.heap a (.ext<|hW X.prog X.w tl a d o) from l.hok a _ W).1;show#[x,_,l.swap W λ_=>dQ.ok D.2,c,E]
end
def NN(P:Bc)(w:Bq)(C:Ao):aW:=λws M R=>∃a d s l,∃x:Av,ws=[!a,.str x]/\kA P w C M a d s l/\↥l<=5000000/\∀b,(b=ab↔∃z∈l,x∈z.1.2)->R (.bl b) M
noncomputable abbrev zhJ:↑Av:=["self","name"]
abbrev zhK(P:Bc)(w:Bq)(C:Ao):aE:=
   (bH<|bG vP<|bD (CI P w [0]<|cV (bM (CG P w [0])<|dB C aH "backs") (aQ 0) d7 (aG (bZ ac) aM<|vX aH aX) [ae,aa 1])^aB)
def zhL:bE (NN P w C) (zhK P w C) zhJ:=by
 rintro _ M R ⟨a,d,s,l,x,rfl,pl,hl,r⟩;let had:a≠d:=λe=>by let L:=pl.ob;rw[e,pl.di]at L;ext L
 show#[d,kvsOf l,pl.di,λo=>8];let S:put M d (.dh P w [0] (kvsOf l) o) a=-.ins C s [("backs",!d)]:=by rw[aT had];show pl.ob
 let g:Cj ("backs" : Av) [(("backs" : Av),W.ref d)]=aa (!d):=by rw[Em,show(("backs" : Av)==("backs" : Av))=ab by decide +kernel]
 show#[a,s,_,_,7,S,g,d,kvsOf l,o,7,aI,8];let f:((kvsOf l).map λp=>gJ [0] p.1)=(l.map λz=>lB z.1).map bK:=by
  ext kvsOf;rw[Bp,Bp];show Ei λz _=>LZ z.1
 rw[f];show l8 (rest:=[-.str x]) (λw=>match w with|.tup [_,.tup ps,_]=>.bl (inW (.str x) ps)|_=>.non) (small<|by rw[Ab,Ab];lia) (λF sb=>sb _ _ aI) (λw hw F C sb L=>8) λp B=>8
 .let#[q,N,rfl]:=Ap.mp hw;show#[7,wL _,L]
 .let b:p≠d:=λe=>by rw[e,aI]at B;ext B
  let m:M p=ae:=by rw[aT b]at B;show B
  show#[by rw[aT<|Cs b,aI],8];rw[lQ b,bV,show put M d (.dn P w [0]<|kvsOf l)=M from zC pl.di];show F8 m 8;let T:(((l.map λz=>lB z.1).map bK).map λw=>match w with|.tup [_,.tup ps,_]=>W.bl (inW (.str x) ps)|_=>.non)=bools (l.map λz=>inW (.str x)<|z.1.2.map W.str):=by
   ext bools;rw[Bp,Bp,Bp];rfl
  rw[T];show#[_,7,_,aV,r _ 8];rw[Kq,Gb];show exists_congr λz=>and_congr Ri 8;change inW (.str x) (z.1.2.map W.str)=ab↔_;rw[wJ,decide_eq_true_eq]
def zhM(rs:↑aD)(D:↑Av):Prop:=∃n,D=eO rs n/\gV rs D=D
noncomputable def drK(kvs:↑(aC×W))(t:Av):Bool:=(aN kvs (Sum.inr t:aC)).isSome
noncomputable def iS(kvs:↑(aC×W))(t:Av):W:=(aN kvs (Sum.inr t:aC)).getD .non
noncomputable abbrev xS(rs:↑aD)(D:↑Av)(kvs:↑(aC×W))(ps:↑Av):↑iC:=kY (cU rs D) (drK kvs) (iS kvs) ps
noncomputable def lE(x:iC):W:=.tup [.tup<|x.1.map W.str,.tup x.2]
def NO(rs:↑aD)(kvs:↑(aC×W)):Prop:=∀X,drK kvs X=ab->RT isNameB rs 320 [X] [iS kvs X] []
def NQ(C:Cc):aW:=λws M R=>∃rs:↑aD,ws=[a9 rs,.rl [],.rl<|rs.map λ_=>W.int 0]/\fP rs/\∀B,mJ (jP rs []) B->j0 (eC fK eN B) M R
def NR(C:Cc):aW:=λws M R=>∃rs:↑aD,ws=[a9 rs]/\fP rs/\∀kvs,(∀X,drK kvs X=mK rs ac X)->NO rs kvs->h9 kvs M R
def NS:aW:=λws M R=>∃rs:↑aD,ws=[a9 rs]/\fP rs/\∀D,zhM rs D->h9 (D.map cL) M R
def NT:aW:=λws M R=>∃(rs:↑aD) (D:↑Av) (kvs:↑(aC×W)) (ps:↑Av),ws=[.tup<|ps.map W.str,.dk<|ownOf rs,.dk<|D.map cL,.dk kvs]/\↥ps<=04/\R (.rl<|(xS rs D kvs ps).map lE) M
def NU(P:Bc)(w:Bq)(C:Cc):aW:=λws M R=>∃(a d s:Ao) (l:↑(NP×W)) (rs:↑aD) (X:Av) (D:↑Av) (kvs:↑(aC×W)) (f:Av->↑Av),ws=[!a,a9 rs,.str X,.dk<|D.map cL,.dk kvs]/\kA P w C.p M a d s l/\↥l<=200000/\fP rs/\X∈namesOf rs/\NO rs kvs/\∀U,Ex (λz=>z.1.1=X/\(Qz rs f 320 1 z/\Pz rs z)/\iE rs D (drK kvs) X z.1.2) l (16*↥rs) (λx=>x.1=X/\iE rs D (drK kvs) X x.2) U->R .non (put M d<|.dn P w [0]<|kvsOf U)
structure Tl(rs:↑aD)(m:Av)(f:Av->↑Av)(H d n:Nat)(l:↑(NP×W)):Prop where
 hd:c7 m
 len:↥l<=n
 f0:l≠[]/\cY rs f (f0<|aZ l)=[f0 rs]
 al:∀z∈l,(z.1.1=m\/z.1.1∈namesOf rs)/\Qz rs f H d z/\Pz rs z
 sl:∀t,↥(f t)<=100
structure CJ(rs:↑aD)(D:↑Av)(drop:Av->Bool)(l:↑(NP×W)):Prop where
 wd:Wd rs D
 fx:gV rs D=D
 dr:∀t,drop t=ab↔fM rs ac t
 is:(l=noL (f0 rs)/\f0 rs∉D/\drop (f0 rs)=ac)\/∃m f lb T,l=lb++T/\Tl rs m f 320 1 (16*(↥rs*↥(namesOf rs))+2) l/\(∀X ps,X∈namesOf rs->iE rs D drop X ps->(X,ps)∈T.map Cg)/\(∀z∈T,iE rs D drop z.1.1 z.1.2)/\
  ((drop (f0 rs)=ac/\lb=[]/\f0 (aZ l)=f0 rs)\/drop (f0 rs)=ab/\((lb.map Cg=[(f0 rs,[])]/\∀z∈T,f0 rs∉z.1.2)\/m∉namesOf rs/\lb.map Cg=[(m,[f0 rs]),(m,[])]/\∃z∈T,f0 rs∈z.1.2))
def NV:aW:=λws M R=>∃rs:↑aD,ws=[a9 rs]/\fP rs/\∀D drop l,CJ rs D drop l->R (qS l) M
noncomputable abbrev zhN:↑Av:=["grammar","row","weights"]
abbrev zhO(C:Cc):aE:=
   (bH<|aP (BD C)<|aH^bD (aP M8<|aM^aB)^bD (aP M9<|aM^aB)^aS^aB)
noncomputable abbrev zhP:↑Av:=["grammar","best"]
abbrev zhQ(C:Cc):aE:=
   (aF (aL 1<|sU<|aP (NQ C)<|aH^d8 aB^bD (aP BU<|aH^aB)^aB)
   (bH<|bG AR<|bD (cV (bM nS aM) (aQ 0) d7 (bA<|vX aH a8^aP (NJ C) (aM^aS^aH^aB)^aB) [ae,aa 0,aa 1])^aB))
noncomputable abbrev zhR:↑Av:=["grammar","own","fruitful","rules","wordy","size","rule"]
abbrev zhS:aE:=
   (aL 1<|aP mL<|bD (aP i6<|aH^aB)^aB)
abbrev zhT:aE:=
   (aL 2<|bD<|aP BV<|aH^aB)
abbrev zhU:aE:=
   (aL 3<|bD<|cV (bM cF aH) (aQ 0) (dG<|bG sC<|bD (cV (bM cF<|vX aH aX) (aQ 0) d7 (nB (aG (bZ ac) aH aM)<|aG (bZ ab) aH aS) [ae,aa 1,aa 2])^aB) aH [ae,aa 2,aa 1])
abbrev NW:aE:=
   (aL 04 sE)
abbrev zhV:aE:=
   (aL 05<|j1 j8 aX)
abbrev zhW:aE:=
   (aF (aL 05<|bG cD<|bC^aB)
   (cE (bM cF a7) (aQ 06)
    (bY (dG<|bG vP<|bD (cV (bM cF<|vX cQ aX) (aQ 0) d7 (nB (aG (bZ ac) aH aM)<|aG (bZ ab) aH aS) [ae,aa 04,aa 1])^aB)
    (eU (vC<|.bl ab)<|gI bC<|vX cQ a8)
    cR)))
abbrev zhX:aE:=
   (jL (bL<|aG lX cA<|bG cD<|bC^aB) zhW)
abbrev zhY:aE:=
   (bH bC)
abbrev zhZ:aE:=(aF zhS<|aF zhT<|aF zhU<|aF NW<|aF zhV<|aF zhX zhY)
noncomputable abbrev zh0:↑Av:=["parts","own","wordy","empties","told","part","kept","left"]
abbrev zh6:aE:=
   (aL 04<|d8<|bA (bA aB^bA aB^aB)^aB)
abbrev zh7:aE:=
   (aF (aL 06<|bD<|cV (bM jM bC) (eL 2<|bW (aQ 0)<|bW (aQ 1) eJ) (oN (bL<|aG (bZ ac) aS a7)<|bL<|aG (bZ ab) aS bC) (bA<|aG nZ aH (bA<|aS^aB)^aG nZ aM (bA<|bG cD (aH^aB)^aB)^aB) [ae,ae,aa 05,aa 2,aa 1])
   (aF (aL 07<|bD<|cV (bM jM bC) (eL 2<|bW (aQ 0)<|bW (aQ 1) eJ) (bL<|aG (bZ ac) aS a7) (bA<|aH^aG nZ aM (bA<|bA (vC (.str "whole")^vX a7 aS^aB)^aB)^aB) [ae,ae,aa 05,aa 3])
   (aL 04<|aG cH cQ cC)))
abbrev zh8:aE:=
   (cE (bM cF aH) (aQ 05) zh7)
abbrev zh9:aE:=
   (bH bC)
abbrev zia:aE:=(aF zh6<|aF zh8 zh9)
noncomputable abbrev zib:↑Av:=["plain","grammar","name","wordy","empties","own","number","parts","pieces"]
abbrev zic(P:Bc)(w:Bq)(C:Cc):aE:=
   (aF (aL 05<|aP mL<|bD (aP i6<|aM^aB)^aB)
   (cE (bM cF<|bD<|aP xJ<|aM^aS^aB) (aQ 06)
    (cE (bM jM<|bD<|aP NT<|vX (vX aM cQ) aX^cA^a7^bC^aB) (eL 2<|bW (aQ 07)<|bW (aQ 08) eJ)
    (bY (iX (bL<|aG (dH ab) cC<|bA aB)<|bL<|aG (dH ab) cC<|bA<|aS^aB)
    (bX<|eA C.p "put_rule" (nV P w C.p) aH<|aS^cC^bA (bA (cQ^fA^aB)^aB)^aB)
    cR))))
noncomputable abbrev zid:↑Av:=["grammar","first","wordy","empties","plain","name","ahead","begin","told","begun"]
abbrev NY(P:Bc)(w:Bq)(C:Cc):aE:=
   (aL 04<|mB C.p (qT P w C.p) aB)
abbrev NZ(P:Bc)(w:Bq)(C:Cc):aE:=
   (cE (bM cF<|bD<|aP i6<|aH^aB) (aQ 05)<|bX<|aP (NU P w C)<|bC^aH^cA^aS^a7^aB)
abbrev CK(P:Bc)(w:Bq)(C:Cc):aE:=
   (aL 06<|mB C.p (qT P w C.p) aB)
abbrev N0(P:Bc)(w:Bq)(C:Cc):aE:=
   (bY (bL<|aG (bZ ac) aM a7)
    (aF (aL 07 aM)
   (aF (bY (dG<|eA C.p "is_part" (NN P w C.p) bC<|aM^aB)
    (aF (aL 07<|vX (bD<|aP BW<|bD (aP i6<|aH^aB)^aX^aB) a8)
   (bX<|eA C.p "put_rule" (nV P w C.p) cQ<|cC^bA (aM^aB)^bA (a8^aB)^aB))
    cR)
   (bX<|eA C.p "put_rule" (nV P w C.p) cQ<|cC^bA aB^bA (bA (vC (.str "whole")^vX a7 aM^aB)^aB)^aB)))
    cR)
abbrev CL(P:Bc)(w:Bq)(C:Cc):aE:=
   (aL 08<|eA C.p "grammar_and_backs" (qU P w C.p) bC aB)
abbrev CM(P:Bc)(w:Bq)(C:Cc):aE:=
   (aL 09<|eA C.p "grammar_and_backs" (qU P w C.p) cQ aB)
abbrev CN(P:Bc)(w:Bq)(C:Cc):aE:=
   (bH<|bA<|aG cH (vX iN a8) (vX fA a8)^aG cH (vX iN aX) (vX fA aX)^aB)
abbrev zie(P:Bc)(w:Bq)(C:Cc):aE:=(aF (aL 1<|aP qN<|aH^aB)<|aF (aL 2<|bD<|aP NS<|aH^aB)<|aF (aL 3<|bD<|aP (NR C)<|aH^aB)<|aF (bY (iX (bL<|aG (bZ ab) aM aS)<|bL<|aG (bZ ab) aM a7) (bH<|aP B5<|aH^aB) cR)<|aF (NY P w C)<|aF (NZ P w C)<|aF (CK P w C)<|aF (N0 P w C)<|aF (CL P w C)<|aF (CM P w C)<|CN P w C)
def zif{rs:↑aD}{keep:Mm->Prop}{k:dR}{j:aR}{o:Option W}{rest:S3}{I:Mm}{R:K3}(f:aD->Option W)(hl:↥rs<=1000)(hk:∀M,L2.Sub I M->keep M)(l:∀q∈rs,∀M (C:K3) (D:Mm->Prop),L2.Sub I M->(∀y,f q=-y->C y M)->(f q=ae->D M)->k (-bK q::rest) M λb S=>if b=ab then j (-bK q::rest) S C else D S)(r:aO (rs.filterMap f) I R):fU (rs.map bK) keep (aQ 0) k j (o::rest) I R:=by
 ext fU;intro p B;show#[λi O acc M=>(∃o,O=o::rest)/\acc=(rs.take i).filterMap f/\M=I,#[#[_,7],7,7],8,8,8]
 .rintro vs i O acc M _ d ⟨_,_,rfl⟩;show hk _<|Sub.new B
 .rintro vs i w O acc M hw d ⟨⟨o,rfl⟩,rfl,rfl⟩;rw[Au]at hw;let#[q,N,rfl]:=Ay.mp hw;let tk:rs.take (i+1)=rs.take i++[q]:=by rw[Bx,N];rfl
  let Z:↥((rs.take i).filterMap f)<Aw:=cS (by let L:=List.length_filterMap_le f<|rs.take i;rw[Ct]at L;lia);show l q (Ah N) _ _ _ (Sub.new B) (λy U=>#[aI,Z,M,by rw[iW B];show aV,#[_,7],8,7]) λK=>#[aI,M,by rw[iW B];show aV,#[_,7],8,7]
  .rw[tk,List.filterMap_append];simp[U]
  .rw[tk,List.filterMap_append];simp[K]
 .rintro O acc M d ⟨_,rfl,rfl⟩;rw[Ab,Bn];show r p B
def zig(rs:↑aD)(p:aD->Bool):rs.filterMap (λq=>if p q=ab then aa (bK q) else ae)=(rs.filter p).map bK:=by
 induction rs with
 | nil=>rfl
 | cons q rs E=>
  rw[Ej,Ds,E];cases p q<;>rfl
def zih:bE (NQ C) (zhO C) zhN:=by
 rintro _ M R ⟨rs,rfl,g,r⟩;show#[[],7,by decide,aO.frz #[[],7,by decide,j0.frz #[jP rs [],#[rs,ownOf rs,[]],by rw[<-MD ↥rs rs rfl];rfl,g.few,7,#[7,mM rs,λt p=>.inl #[7,Xs λz=>nomatch z.2]],J2 rs [],λq N=>Am (g.prt q N) ∅,λB F=>NB<|r B F]]]
def zii:bE (NR C) (zhQ C) zhP:=by
 rintro _ M R ⟨rs,rfl,g,r⟩;show#[rs,7,g.few100,aO.frz #[rs,7,g,λB F p V=>#[p,7,.inr #[_,aI,8]]]];rw[iW V];let a:↥B<=20:=Am (J4 F) g.nam;let d:=g.few;let m:Wb (jP rs []) B:=#[λ_=>rfl,d,zgY F,9,λq N=>Am (g.prt q N) ∅,λq N=>(g.hd q N).nm];change fU ((eC fK eN B).map λp=>W.tup<|p.1.map wK) _ _ _ _ _ _ _;rw[MC];show sJ (rest:=[-a9 rs,-n5 B]) (λw y=>∃f v,w=W.tup ((fK f).map wK)/\y=W.tup [.str f.1,v]/\RT isNameB rs 320 [f.1] [v] []) (small<|by rw[Ab,Ab];lia) (λ_ _=>trivial) (λw hw I C sb L=>8) λZ po=>aO.frz 8
 .let#[f,hf,rfl]:=Ap.mp hw;show#[jP rs [],B,f,7,m,hf,λv c=>L _ #[f,v,7,7,c.mono<|Am a ∅]]
 .let#[kvs,rfl,hk,c]:=BM (P:=λX v=>RT isNameB rs 320 [X] [v] []) po;let b:=Cv po;rw[Ab,Ab]at b;show#[kvs,7,small 9,λq N=>#[_,aV,r _ (LB (ss:=[]) (w:=ac) (λq N t ht D=>#[(λz=>nomatch z),λz=>(Bb z).elim]) F hk) (λX Q=>8) q N]];let#[v,e]:=El.mp Q;ext iS;rw[e];rcases K9 e with z|z
  .show c _ z X rfl
  .ext z
def zij{ts:↑Av}{f:Av->Bool}:(ts.map f).all id=ts.all f:=by rw[Mi];rfl
def zik{ts:↑Av}{f:Av->Bool}:(ts.map f).any id=ts.any f:=by rw[Kq];rfl
def N1{b:Bool}(h0:τ[0]? = aa (-.str t))(hx:τ[1]? = aa (-x))(hd:∀R:K3,R (.bl b) M->bZ ac (.str t) x M R)(h2:τ[2]? = aa (-.dk (ownOf rs)))(r:R (.bl (b||!(ownB rs t))) M):
  nB (aG (bZ ac) (cG 0)<|cG 1) (aG (bZ ab) (cG 0)<|cG 2) τ M R:=by
 simp only[nB,aG,cG,h0,hx,h2];show hd _<|bN (λz=>8) λz=>#[_,#[Sum.inr t,7,7],8]
 .rw[z]at r;show r
 .change R (.bl<|!((aN (ownOf rs) (Sum.inr t:aC)).isSome)) M;rw[z,Nl]at r;rw[mM];show r
def zil:bE NS zhZ zhR:=by
 rintro _ M R ⟨rs,rfl,g,r⟩;let h17:=g.few;let h100:=g.few100;show#[rs,7,Am h100 ∅,aO.frz #[namesOf rs,7,xQ g.few,rs,7,g.gl,λkvs hk=>h9.frz 8]];let hfr:∀t:Av,(aN kvs (Sum.inr t:aC)).isSome=mK rs ab t:=hk;show(zif (rest:=[-.dk kvs,-.dk (ownOf rs)]) (λq=>if q.parts.all (eE rs)=ab then aa (bK q) else ae) 9 (λ_ _=>trivial) (λq hq M' C D sb h1 h2=>8)<|aO.frz 8)
 .let hp:=g.prt q hq;show(B7 (rest:=[-.dk kvs,-.dk (ownOf rs)]) (eE rs) 9 (λ_=>trivial) (λt ht M2 C2 sb2 h3=>N1 (b:=mK rs ab t) rfl rfl (λR h=>#[_,#[Sum.inr t,7,7],by change R (.bl (aN kvs (Sum.inr t:aC)).isSome) _;rw[hfr];show h]) rfl h3) #[_,7,8]);change uX (.bl<|(q.parts.map<|eE rs).all id) _ _;rw[zij];show bN (λz=>(h1 _<|by rw[Xu z])) λz=>h2 (by rw[Xs<|by rw[z];show Bb])
 rw[zig];change(aF NW _) _ [-a9 rs,-.dk (ownOf rs),-.dk kvs,-.rl ((fW rs).map bK),ae,ae,ae] _;show λp hp=>8;let lW:=λn=>Am (Wd.rounds rs n).len g.nam;let lF:↥(fW rs)<=500:=Am (Fc _ _) h17;show mH (λm τ M'=>∃(n:Nat) (s:Int) (o6:Option W),τ=[-a9 rs,-.dk (ownOf rs),-.dk kvs,-.rl ((fW rs).map bK),aa !p,aa ¬s,o6]/\M'=put M p (.dK<|(eO rs n).map cL)/\(s<↥(eO rs n)\/∃k,n=k+1/\s=↥(eO rs k))/\m=2*(30-↥(eO rs n))+(if s<↥(eO rs n) then 1 else 0)) #[_,0,_,_,7,7,.inl<|by change(-1:Int)<0;decide,7] 8;rintro m τ M' ⟨n,s,o6,rfl,rfl,hs,rfl⟩ Dw hDw;show(.inr #[_,aI,bN (λz=>8) λz=>8])
 .let z:=Xv z;rw[Ab]at z;rw[Xu z]at hDw;show(.inr #[_,aI,(c8 (λj τ M'=>∃o6,τ=[-a9 rs,-.dk (ownOf rs),-.dk kvs,-.rl ((fW rs).map bK),aa !p,-.int ↥((eO rs n).map cL),o6]/\M'=put M p (.dK<|(((fW rs).take j).foldl (fN rs)<|eO rs n).map cL)) #[_,7,7] 8 8)])
  .rintro j x τ M' hx ⟨o6,rfl,rfl⟩ Dx hN;rw[Au]at hx;let#[q,hq,rfl]:=Ay.mp hx;let hqm:=Ah hq;let hp4:=g.prt q (wY.mp hqm).1;obtain⟨D,hD⟩:∃D,D=((fW rs).take j).foldl (fN rs) (eO rs n):=#[_,7];let wD:Wd rs D:=by rw[hD];show(Wd.rounds rs n).fold λr hr=>Ft hr
   let lD:=Am wD.len g.nam;let hnx:((fW rs).take<|j+1).foldl (fN rs) (eO rs n)=fN rs D q:=by rw[Bx,hq,Mg,<-hD];rfl
   rw[<-hD];show(B7 (rest:=[aa !p,-.dk (ownOf rs)]) (cU rs D) 9 (λ_=>trivial) (λt ht M2 C2 sb2 h3=>N1 (b:=decide<|t∈D) rfl rfl (λR h=>.inr #[_,.inl #[_,Sum.inr t,sb2 _ _ aI,7,7],by change R (.bl (aN (D.map cL) (Sum.inr t:aC)).isSome) _;rw[tD];show h]) rfl h3) #[_,7,8]);change uX (.bl<|(q.parts.map<|cU rs D).any id) _ _;rw[zik];show bN (λz=>(sM aI (cS<|by rw[Ab];lia)<|hN _ _ #[_,7,8])) λz=>hN _ _ #[_,7,8]
   .rw[hnx,bV,wI];ext fN;rw[Xu z]
   .rw[hnx];ext fN;rw[Xs<|by rw[z];show Bb]
  .rintro τ M' ⟨o6,rfl,rfl⟩;let ek:((fW rs).take ↥((fW rs).map bK)).foldl (fN rs) (eO rs n)=eO rs (n+1):=by rw[Ab,Bn];rfl
   rw[ek];show hDw _ _ _ 8 #[n+1,_,_,7,7,.inr #[n,7,by rw[Ab]],7];let#[q,hq]:=wX rs (fW rs)<|eO rs n;let e:↥(eO rs<|n+1)=↥(eO rs n)+↥q:=by change(gV rs<|eO rs n).length=_;ext gV;rw[hq,Ag]
   have:=lW<|n+1;rw[Ab];split<;>lia
 .let z:=of_decide_eq_false z;rw[Ab]at z;rcases hs with hs|⟨k,rfl,rfl⟩
  .show absurd hs z
  .let e:gV rs (eO rs k)=eO rs k:=zeA (by have:↥(eO rs<|k+1)=↥(gV rs<|eO rs k):=rfl;lia);let e1:eO rs (k+1)=eO rs k:=e;show#[_,aV,r _ #[k+1,7,by rw[e1];show e] p hp]
def N2{l:↑iC}{keep:Mm->Prop}{k:dR}{j:aR}{s V:Option W}{rest:S3}{I:Mm}{R:K3}(b:Bool)(f:iC->W)(hl:↥l<=1000)(hk:∀M,keep M)(U:∀x∈l,∀M (C:K3) (D:Mm->Prop),L2.Sub I M->(b=ab->C (f x) M)->(b=ac->D M)->k (-.tup (x.1.map W.str)::-.tup x.2::rest) M λb X=>if b=ab then j (-.tup (x.1.map W.str)::-.tup x.2::rest) X C else D X)(r:R (.rl (if b=ab then l.map f else [])) I):fU (l.map lE) keep AG k j (s::V::rest) I λw F=>frz w F R:=by
 ext fU;intro p B;show#[λi O acc M=>(∃s V,O=s::V::rest)/\acc=(if b=ab then(l.take i).map f else [])/\M=I,#[#[_,_,7],by split<;>rfl,7],λ_ _ _ _ _ _ _ _=>hk _,8,8]
 .rintro vs i w O acc M hw d ⟨⟨s,V,rfl⟩,rfl,rfl⟩;rw[Au]at hw;let#[x,S,rfl]:=Ay.mp hw;let hi:=(An.mp S).1;let T:↥(if b=ab then(l.take i).map f else [])<Aw:=cS (by split<;>simp<;>lia);show#[7,7,U x (Ah S) _ _ _ (Sub.new B) (λZ=>#[aI,T,M,by rw[iW B];show aV,#[_,_,7],8,7]) λZ=>#[aI,M,by rw[iW B];show aV,#[_,_,7],8,7]]
  .rw[Xu Z,Xu Z,Bx,S,Ar];rfl
  .rw[Z];rfl
 .rintro O acc M d ⟨_,rfl,rfl⟩;rw[Ab,Bn];show aO.frz r p B
def zim{keep drop:Av->Bool}{E:Av->W}(h:x∈kY keep drop E ps):↥x.1<=↥ps/\↥x.2<=↥ps:=by
 have:∀(ps:↑Av) (told:↑iC) (n:Nat),(∀y∈told,↥y.1<=n/\↥y.2<=n)->∀x∈ps.foldl (gW keep drop E) told,↥x.1<=n+↥ps/\↥x.2<=n+↥ps:=by
  intro ps
  induction ps with
  | nil=>intro told n h x S;show h x S
  | cons t ps A=>
   intro told n h x S;have:=A (gW keep drop E told t) (n+1) (λy U=>8) x S
   .rw[Bl];lia
   .unfold gW at U;rcases Az.mp U with U|U
    .split at U
     .let#[z,hz,rfl]:=Ap.mp U;have:=h z hz;simp only[Ag,Cd];lia
     .ext U
    .split at U
     .let#[z,hz,rfl]:=Ap.mp U;have:=h z hz;simp only[Ag,Cd];lia
     .ext U
 have:=this ps [([],[])] 0 (λy U=>by rw[Ae.mp U];show#[Aj _,Aj _]) x h;lia
def zin(h:R (.rl ws) M):frz (.rl ws) M R:=h
def N3{keep drop:Av->Bool}{E:Av->W}(h:↥ps<=04):↥(kY keep drop E ps)<=16:=by
 have:=LF (keep:=keep) (drop:=drop) (E:=E) ps [([],[])];rw[Cd,Nat.mul_one]at this;show Am this<|Jd (n:=2) ∅ h
def zio:bE NT zia zh0:=by
 rintro _ M R ⟨rs,D,kvs,ps,rfl,hp4,r⟩;show(mG (ws:=ps.map W.str) (λi τ M'=>∃o5 o6 o7,τ=[-.tup (ps.map W.str),-.dk (ownOf rs),-.dk (D.map cL),-.dk kvs,-.rl ((kY (cU rs D) (drK kvs) (iS kvs)<|ps.take i).map lE),o5,o6,o7]/\M'=M) #[_,_,_,7,7] 8 8)
 .rintro i x τ M' hx ⟨o5,o6,o7,rfl,rfl⟩;rw[Au]at hx;let#[t,ht,rfl]:=Ay.mp hx;obtain⟨l,hl⟩:∃l,l=kY (cU rs D) (drK kvs) (iS kvs) (ps.take i):=#[_,7];let l16:↥l<=16:=by rw[hl];show N3 (by rw[Ct];lia)
  let lx:∀x∈l,↥x.1<=04/\↥x.2<=04:=λx hx=>by
   rw[hl]at hx;let#[h1,h2]:=zim hx;rw[Ct]at h1 h2;show#[9,9]
  let hnx:kY (cU rs D) (drK kvs) (iS kvs) (ps.take<|i+1)=gW (cU rs D) (drK kvs) (iS kvs) l t:=by
   rw[Bx,ht,hl];ext kY;rw[Mg];rfl
  rw[hnx,<-hl];show(N2 (rest:=[-.str t,-.dk (D.map cL),-.dk (ownOf rs)]) (cU rs D t) (λx=>lE (x.1++[t],x.2++[W.int ↥x.1])) 9 (λ_=>trivial) (λx hx M C E sb h1 h2=>8) 8)
  .let#[x1,x2]:=lx x hx;let go:cU rs D t=ab->bA (aG nZ (cG 0) (bA<|cG 2^aB)^aG nZ (cG 1) (bA<|bG cD (cG 0^aB)^aB)^aB) (-.tup (x.1.map W.str)::-.tup x.2::[-.str t,-.dk (D.map cL),-.dk (ownOf rs)]) M C:=λz=>by
    show#[_,_,7,7,small<|by rw[Ab];change _+1<=_;lia,_,_,7,7,small<|by change _+1<=_;lia,8];have:=h1 z;unfold lE at this;rw[Ar]at this;rw[Ab];show this
   show#[_,#[Sum.inr t,7,7],8];change if (aN (D.map cL) (Sum.inr t:aC)).isSome=ab then _ else _;rw[tD];show bN (λz=>go<|by ext cU;rw[z];rfl) λz=>#[_,#[Sum.inr t,7,7],8]
   change if (!((aN (ownOf rs) (Sum.inr t:aC)).isSome))=ab then _ else _;rw[mM];show bN (λy=>go<|by ext cU;rw[y,Od]) λy=>h2 (by ext cU;rw[z,y];rfl)
  .show(N2 (rest:=[-.str t,-.dk kvs]) (drK kvs t) (λx=>lE (x.1,x.2++[W.tup [.str "whole",iS kvs t]])) 9 (λ_=>trivial) (λx hx M C E sb h1 h2=>8) 8)
   .let#[x1,x2]:=lx x hx;show#[_,#[Sum.inr t,7,7],8];change if (aN kvs (Sum.inr t:aC)).isSome=ab then _ else _;show bN (λz=>8) λz=>h2 z;let lk:-iS kvs t=aN kvs (Sum.inr t:aC):=by
     let#[v,hv]:=El.mp z;ext iS;rw[hv];rfl
    show#[_,#[Sum.inr t,7,lk],_,_,7,7,small<|by change _+1<=_;lia,h1 z]
   .show#[small 8,8]
    .split<;>split<;>simp<;>lia
    .let e:(if cU rs D t=ab then l.map λx=>lE (x.1++[t],x.2++[W.int ↥x.1]) else [])++(if drK kvs t=ab then l.map λx=>lE (x.1,x.2++[W.tup [.str "whole",iS kvs t]]) else [])=(gW (cU rs D) (drK kvs) (iS kvs) l t).map lE:=by
      ext gW;rw[Ar];congr 1
      .split
       .rw[Bp];rfl
       .rfl
      .split
       .rw[Bp];rfl
       .rfl
     rw[<-e];show#[_,aV,_,_,_,7,7]
 .rintro τ M' ⟨o5,o6,o7,rfl,rfl⟩;rw[Ab,Bn];show#[_,aV,r]
theorem tG:∀{a b:↑Av},a.map W.str=b.map W.str->a=b
 | [],[],_=>rfl
 | [],_::_,h=>nomatch h
 | _::_,[],h=>nomatch h
 | x::a,y::b,h=>by
  rw[Be,Be,Fh,W.str.injEq]at h;rw[h.1,tG h.2]
section
variable {P:Bc}{w:Bq}{C:Cc}
def CO(X:Av)(y:iC)(x:NP):Prop:=x=(X,y.1)/\y.1≠[]/\y.1≠[X]
def ziq:bE (NU P w C) (zic P w C) zib:=by
 rintro _ M R ⟨a,d,s,l,rs,X,D,kvs,f,rfl,pl,hl,g,G,hem,r⟩;let h100:=g.few100;let h17:=g.few;show#[rs,7,h100,aO.frz #[namesOf rs,7,xQ g.few,rs,X,7,h17,aO.frz 8]];show c8 (λi O F=>∃u H o p,O=[aa !a,-a9 rs,-.str X,-.dk (D.map cL),-.dk kvs,-.dk (ownOf rs),H,o,p]/\F=put M d (.dn P w [0]<|kvsOf u)/\Ex (λz=>z.1.1=X/\(Qz rs f 320 1 z/\Pz rs z)/\iE rs D (drK kvs) X z.1.2) l (16*i) (λx=>∃n∈(numsOf rs X).take i,∃r,rs[n]? = aa r/\∃y∈xS rs D kvs r.parts,CO X y x) u) #[l,_,_,_,7,(MX pl.di).symm,Ex.start] 8 8
 .rintro i y O F U ⟨u,H,o,p,rfl,rfl,E⟩ Dx I;rw[Au]at U;let#[n,K,rfl]:=Ay.mp U;let#[ru,c,en]:=qW.mp<|Ah K;let#[ru',L,Y]:=jQ (rs:=rs) (n:=n) (An.mp c).1;cases (show aa ru'=aa ru from L.symm.trans c);let J:=Ah c;let hp4:=g.prt ru J;let hi:=Ca (An.mp K).1<|xM rs X;let g1l:=E.len;show so.of Y #[rs,D,kvs,ru.parts,7,hp4,8];obtain⟨m,hys⟩:∃m,m=xS rs D kvs ru.parts:=#[_,7];rw[<-hys];let y16:↥m<=16:=by rw[hys];show N3 hp4
  show zin<|c8 (ws:=m.map lE) (λj O F=>∃k o p,O=[aa !a,-a9 rs,-.str X,-.dk (D.map cL),-.dk kvs,-.dk (ownOf rs),aa ¬n,o,p]/\F=put M d (.dn P w [0]<|kvsOf k)/\Ex (λz=>z.1.1=X/\(Qz rs f 320 1 z/\Pz rs z)/\iE rs D (drK kvs) X z.1.2) u (1*j) (λx=>∃y∈m.take j,CO X y x) k) #[u,_,_,7,7,Ex.start] 8 8
  .rintro j y O F U ⟨k,o,p,rfl,rfl,T⟩ Dx I;rw[Au]at U;let#[y,hyj,rfl]:=Ay.mp U;let Z:=(An.mp hyj).1;let g2l:=T.len;let ym:y∈xS rs D kvs ru.parts:=hys▸Ah hyj;let yth:Th _ _ _ _:=BS.mp #[y,ym,7];let ysh:∀t∈y.1,Sh t:=λt ht=>g.sh ru J t (yth.sub t ht).1;let Xsh:∀t∈[X],Sh t:=λt ht=>by rw[Ae.mp ht,<-en];show g.shn ru J
   let no:(y.1≠[]->y.1=[X])->Ex (λz=>z.1.1=X/\(Qz rs f 320 1 z/\Pz rs z)/\iE rs D (drK kvs) X z.1.2) u (1*(j+1)) (λx=>∃y∈m.take (j+1),CO X y x) k:=λz=>T.step hyj<|.no λx h=>h.2.2<|z h.2.1;show#[7,7,nL 2 ∅ (nY ysh) (nY (ps:=[]) λt ht=>nomatch ht) λb1 hb1=>bN (λv=>8) λv=>I _ _ #[k,_,_,7,7,no λz=>8]]
   .show nL 2 ∅ (nY ysh) (nY (ps:=[X]) Xsh) λb2 hb2=>bN (λB=>8) λB=>I _ _ #[k,_,_,7,7,no λ_=>8]
    .show mI (pl.putD k).ob nX #[a,d,s,k,(X,y.1),_,7,pl.putD k,9,λl' g'=>I _ _ #[l',_,_,7,bV,T.step hyj<|g'.cg (λz ez=>8) λx h=>h.1]];rw[ez];show#[7,#[#[_,7,8],λt ht=>g.pt ru J t (yth.sub t ht).1,Am yth.len hp4],ru,J,en,yth,λe=>8,λe=>8]
     rotate_left
     .rw[hb1.mpr<|by change W.tup (y.1.map W.str)=_;rw[show y.1=[] from e];rfl]at v;ext v
     .rw[hb2.mpr<|by change W.tup (y.1.map W.str)=_;rw[show y.1=[X] from e];rfl]at B;ext B
     change Pf _ _ _ _ _ _ _ _<|cY rs f X;rw[kB<|.inl G,<-en];show Pf.one (g.hd ru J).nm c 9 (L8 hem (qs:=[]) (g.sem J) (λx S=>by rw[Ae.mp S];show .nil) ym)
    .let B:b2=ab:=by ext b2;ext B;rfl
     show tG (by have:=hb2.mp B;injection this)
   .let v:b1=ab:=by ext b1;ext v;rfl
    show absurd (tG (b:=[])<|by have:=hb1.mp v;injection this) z
  .rintro O F ⟨k,o,p,rfl,rfl,T⟩;rw[Ab,Bn,hys]at T;show I _ _ #[k,_,_,_,7,7,E.step K<|(T.le<|by rw[<-hys];lia).cg (λ_ h=>h) λx V=>8];let#[q,N,h]:=V;rw[c]at N;ext N;show h
 .rintro O F ⟨u,H,o,p,rfl,rfl,E⟩;rw[Ab,Bn]at E;have:=xM rs X;show#[_,aV,r u<|(E.le 9).cg (λ_ h=>h) λx=>8];rintro⟨L,q,N,en,Y,A,Q⟩;let#[n,K]:=Fu N;let#[y,U,e]:=BS.mpr Y;show#[n,qW.mpr #[q,K,en],q,K,y,U,by rw[e,<-L],e▸A,e▸Q]
end
section
variable {P:Bc}{w:Bq}{C:Cc}
def zir:Cj ("is_part" : Av) [(("backs" : Av),W.ref d)]=ae:=by
 rw[Em,show(("is_part" : Av)==("backs" : Av))=ac by decide +kernel];rfl
def zis:bE NV (zie P w C) zid:=by
 rintro _ M R ⟨rs,rfl,g,r⟩;let h100:=g.few100;let hnm:=g.nam;let#[q0,l,e0]:=Ep g.ne;show#[q0,l,by rw[e0];rfl,rs,7,g,λD hD=>h9.frz #[rs,7,g,λkvs he hem=>h9.frz 8]];obtain⟨F,hF⟩:∃F,F=q0.name:=#[_,7];rw[<-hF];let hF0:f0 rs=F:=by rw[hF,e0];rfl
 let hFn:F∈namesOf rs:=gU.mpr #[q0,by rw[e0];show .head _,hF.symm];let hFh:c7 F:=by rw[hF];show g.hd q0 (by rw[e0];show .head _)
 let hdr:∀t,drK kvs t=ab↔fM rs ac t:=λt=>by rw[he,nO]
 let hfew:=g.few;obtain⟨wd,fx⟩:Wd rs D/\gV rs D=D:=by
  let#[n,e1,e2]:=hD;show#[by rw[e1];show Wd.rounds rs n,e2]
 obtain⟨f,hf⟩:∃f:Av->↑Av,f=λ_=>[F]:=#[_,7];let sF:cY rs f F=[F]:=kB<|.inl hFn;let go:F∈D\/drK kvs F=ab->(aF (NY P w C)<|aF (NZ P w C)<|aF (CK P w C)<|aF (N0 P w C)<|aF (CL P w C)<|aF (CM P w C)<|CN P w C) (kT R) [-a9 rs,-.str F,-.dk (D.map cL),-.dk kvs,ae,ae,ae,ae,ae,ae] M:=λhc=>by
  let has:drK kvs F=ac->∃l,iE rs D (drK kvs) F l:=λz=>by
   let hFD:=hc.resolve_right (by rw[z];show Bb);show L9 wd fx hdr hFD
  show λa dx ha hdx hne=>#[a,dx,7,aI,λd hd=>#[7,8]]
  let had:a≠d:=λe=>by rw[<-e,aI]at hd;ext hd
  rw[aT<|Cs had]at hd;rw[Bt.first had];show#[rs,7,h100,aO.frz 8];show c8 (λi τ M'=>∃T o5,τ=[-a9 rs,-.str F,-.dk (D.map cL),-.dk kvs,aa !a,o5,ae,ae,ae,ae]/\M'=Bt P w C.p M a d dx T/\(∀z∈T,z.1.1∈namesOf rs/\(Qz rs f 320 1 z/\Pz rs z)/\iE rs D (drK kvs) z.1.1 z.1.2)/\(∀X ps,X∈(namesOf rs).take i->iE rs D (drK kvs) X ps->(X,ps)∈T.map Cg)/\↥T<=16*↥rs*i/\(0<i->Hd F (∃l,iE rs D (drK kvs) F l) T)) #[[],_,7,7,(λ_ h=>nomatch h),(λ_ _ h=>nomatch h),Aj _,λh=>absurd h ∅] 8 8
  .rintro i v τ M' hv ⟨T,o5,rfl,rfl,g1,g1c,g1l,h1⟩ Dx hD;rw[Au]at hv;let#[X,hX,rfl]:=Ay.mp hv;let hi:=(An.mp hX).1;let hXm:=Ah hX;let hpi:16*↥rs*i<=16*500*20:=Fg (Gm 16 hfew) 9;show#[a,d,dx,T,rs,X,D,kvs,f,7,Bt.pl had,9,g,hXm,hem,λl' g'=>hD _ _ #[l',-.str X,7,Bt.put,g'.all g1 λz hz=>#[hz.1▸hXm,hz.2.1,hz.1▸hz.2.2],λY ps hY hp=>g'.had 8,Am g'.len<|by rw[Vn];show Hb g1l _,λ_=>8]]
   .rw[Bx,hX]at hY;show(Az.mp hY).imp (λz=>g1c Y ps z hp) λz=>by rw[Ae.mp z]at hp⊢;show#[7,hp]
   cases i with
   | zero=>
    cases T with
    | nil=>
     have:F=X:=by rw[L5 g.ne,hF0]at hX;ext hX;rfl
     show Hd.of g' (λx h=>h.1.trans this.symm) λz0=>by let#[l,hl]:=z0;show#[(X,l),7,this▸hl]
    | cons z l=>rw[Nat.mul_zero]at g1l;ext g1l
   | succ i=>show(h1<|Sn i).ex g'
  .rintro τ M' ⟨T,o5,rfl,rfl,g1,g1c,g1l,h1⟩;rw[Ab]at h1 g1l g1c;rw[Bn]at g1c;let hT:=h1 (Jk.mpr λz=>by rw[z]at hFn;ext hFn);let lT:↥T<=160000:=Am g1l<|Fg (Gm 16 hfew) hnm;change(aF (CK P w C) _) _ _<|Bt P w C.p M a d dx T;let sb1:L2.Sub M (Bt P w C.p M a d dx T):=Bt.sub ha hd had;let pl1:kA P w C.p (Bt P w C.p M a d dx T) a d dx T:=Bt.pl had;generalize hM1:Bt P w C.p M a d dx T=M1 at sb1 pl1;show λa2 dx2 ha2 hdx2 hne2=>#[a2,dx2,7,aI,λd2 hd2=>#[7,8]]
   let had2:a2≠d2:=λe=>by rw[<-e,aI]at hd2;ext hd2
   rw[aT<|Cs had2]at hd2;rw[Bt.first had2];let sb2:∀l,L2.Sub M (Bt P w C.p M1 a2 d2 dx2 l):=λl=>sb1.trans<|Bt.sub ha2 hd2 had2;let pl2:∀l,kA P w C.p (Bt P w C.p M1 a2 d2 dx2 l) a d dx T:=λl=>#[Bt.sub ha2 hd2 had2 _ _ pl1.ob,Bt.sub ha2 hd2 had2 _ _ pl1.di]
   let fin:∀(lb:↑(NP×W)) (o7:Option W) (m:Av),↥lb<=2->c7 m->(lb++T≠[]/\cY rs f (f0<|aZ<|lb++T)=[F])->(∀z∈lb,z.1.1=m/\Qz rs f 320 1 z/\Pz rs z)->((drK kvs F=ac/\lb=[]/\f0 (aZ<|lb++T)=F)\/drK kvs F=ab/\((lb.map Cg=[(F,[])]/\∀z∈T,F∉z.1.2)\/m∉namesOf rs/\lb.map Cg=[(m,[F]),(m,[])]/\∃z∈T,F∈z.1.2))->(aF (CL P w C)<|aF (CM P w C)<|CN P w C) (kT R) [-a9 rs,-.str F,-.dk (D.map cL),-.dk kvs,aa !a,o5,aa !a2,o7,ae,ae] (Bt P w C.p M1 a2 d2 dx2 lb):=λlb o7 m C9 hm h0 hal his=>by
    show mI (pl2 lb).ob tE #[a,d,dx,_,7,pl2 lb,mI (Bt.pl had2).ob tE #[a2,d2,dx2,_,7,Bt.pl had2,8]];have:=r D (drK kvs) (lb++T) #[wd,fx,hdr,.inr #[m,f,lb,T,7,#[hm,by rw[Ag,<-Nat.mul_assoc];lia,by rw[hF0];show h0,λz hz=>(Az.mp hz).elim (λy=>#[.inl (hal z y).1,(hal z y).2]) λy=>#[.inr (g1 z y).1,(g1 z y).2.1],λt=>by rw[hf];show(by decide:1<=100)],g1c,λz hz=>(g1 z hz).2.2,by rw[hF0];show his]];unfold qS aZ at this;rw[Ar,Ar,Ar]at this;show#[small<|by simp only[Ab];lia,small<|by simp only[Ab];lia,_,sb2 lb,this]
   let f0l:∀{x:NP×W} {t:↑(NP×W)},f0 (aZ<|x::t)=x.1.1:=λ{x t}=>rfl;show#[_,#[Sum.inr F,7,7],bN (b:=drK kvs F) (λy1=>8) λy1=>fin [] _ F (Cu _) hFh 8 (λ_ h=>nomatch h)<|.inl #[y1,7,8]]
   .let#[v,hv]:=El.mp y1;let ev:iS kvs F=v:=by ext iS;rw[hv];rfl
    let hw:∀X,cY rs f X=[F]->Qz rs f 320 1 ((X,[]),.tup [w5 v])/\Pz rs ((X,[]),.tup [w5 v]):=λX e=>#[#[_,7,by
     change Pf _ _ _ _ _ _ _ _<|cY rs f X;rw[e];show .whole (ev▸hem F y1) .nil],(λ_ h=>nomatch h),Cu _]
    show mI (pl2 []).ob zir #[a,d,dx,T,F,7,pl2 [],9,λb hb=>bN (b:=b) (λy2=>8) λy2=>8]
    .show#[rs,7,h100,aO.frz #[namesOf rs,1,7,9,aO.frz 8]];let#[x,hx]:=Mf.mp<|LV (old:=namesOf rs) (n:=1)<|Er (show 1+↥(namesOf rs)<=21 by lia) ∅;rw[hx];show mI (Bt.pl had2).ob nX #[a2,d2,dx2,[],(x,[F]),_,7,Bt.pl had2,Cu _,λl1 g2=>8];rw[Bt.put];obtain rfl:=g2.one λh=>nomatch h;show mI (Bt.pl had2).ob nX #[_,#[Sum.inr F,7,hv.symm],a2,d2,dx2,_,(x,[]),_,7,Bt.pl had2,by change 1<=_;lia,λl2 g3=>8];rw[Bt.put];obtain rfl:=g3.one λh=>nomatch (Of<|Ae.mp h).2;let#[x1,i,xi,x2]:=LW (by rw[hx];show .head _:x∈kZ (namesOf rs) 1);let hxh:c7 x:=x2▸L4 9;let sx:cY rs f x=[F]:=by
      ext cY;rw[Xs (λz=>z.elim x1 λz=>by rw[hxh.nm]at z;ext z),hf]
     show fin _ _ x (Aj _) hxh #[Jo _ _,sx] (λz hz=>8)<|.inr #[y1,.inr #[x1,7,hb.mp y2]];rcases Bd.mp hz with rfl|hz
     .show#[7,#[_,7,8],λt ht=>.inl<|by rw[Ae.mp ht];show hFh,by change 1<=04;decide];change Pf _ _ _ _ _ _ _ _<|cY rs f x;rw[sx];have:=Pf.slot (nm:=isNameB) (rs:=rs) (sem:=cY rs f) (H:=320) (d:=1) (k:=0) (p:=F) .nil;rw[sF]at this;show this
     .rw[Ae.mp hz];show#[7,hw x sx]
    .show mI (Bt.pl had2).ob nX #[_,#[Sum.inr F,7,hv.symm],a2,d2,dx2,[],(F,[]),_,7,Bt.pl had2,Cu _,λl2 g3=>8];rw[Bt.put];obtain rfl:=g3.one λh=>nomatch h;show fin _ _ F (by change 1<=2;lia) hFh #[Jo _ _,sF] (λz hz=>by rw[Ae.mp hz];show#[7,hw F sF])<|.inr #[y1,.inl #[7,λz hz h=>by rw[hb.mpr #[z,hz,h]]at y2;ext y2]]
   .let#[z,t,e,e2]:=hT<|has y1;rw[e,Iv,f0l,e2];show#[Jo _ _,sF]
   .let#[z,t,e,e2]:=hT<|has y1;rw[e,Iv,f0l,e2]
 show#[_,#[Sum.inr F,7,7],8];change if (!((aN (D.map cL) (Sum.inr F:aC)).isSome))=ab then _ else _;rw[tD];show bN (λy1=>#[_,#[Sum.inr F,7,7],bN (b:=!(drK kvs F)) (λy2=>8) λy2=>go<|.inr 8]) λy1=>go<|.inl 8
 .show#[rs,7,g.ne,_,aV,r D (drK kvs) _ #[wd,fx,hdr,.inl #[7,by rw[hF0];show of_decide_eq_false<|by rw[<-Ge (decide<|F∈D),y1];rfl,by rw[hF0,<-Ge (drK kvs F),y2];rfl]]]
 .rw[<-Ge (drK kvs F),y2];rfl
 .show Xv (by rw[<-Ge (decide<|F∈D),y1];rfl)
end
def N4(h:sglB rs r=ab):∃Y,r.parts=[Y]/\ownB rs Y=ab:=by
 unfold sglB at h;split at h
 .rename_i t e;show#[t,e,h]
 .ext h
def CP(h:eE rs t=ab)(o:ownB rs t=ab):fM rs ab t:=by
 unfold eE at h;rw[o,Ox,Rp]at h;show nO.mp h
def N5(h:fM rs ab t):eE rs t=ab:=by ext eE;rw[nO.mpr h];rfl
def N6(h:ownB rs t=ac):eE rs t=ab:=by ext eE;rw[h];show Od _
def N7(h:fM rs ab X):∃l,iF rs X l:=by
 induction h with
 | @mk r G B _ E=>
  cases U:sglB rs r with
  | false=>show#[_,r,G,.rf,7,U,λt ht=>by
    cases f:ownB rs t with
    | true=>show N5 (B t ht f)
    | false=>show N6 f]
  | true=>
   let#[Y,e,o]:=N4 U;let#[l,q,L,Z,O]:=E Y (by rw[e];show .head _) o;show#[l,q,L,.st G e o Z,O]
def mO(rs:↑aD):Prop:=∀r∈rs,r.parts=[]->r.name=f0 rs/\∀q∈rs,f0 rs∉q.parts
def CQ(rs:↑aD)(l:↑(NP×W)):Prop:=(l=noL (f0 rs)/\¬(fM rs ab<|f0 rs))\/(∃f,Tl rs (f0 rs) f 0 20 (↥rs*↥(namesOf rs)*↥(namesOf rs)) l)/\f0 (aZ l)=f0 rs/\(∀X ps,X∈namesOf rs->iF rs X ps->(X,ps)∈l.map Cg)/\∀z∈l,iF rs z.1.1 z.1.2
def N8:aW:=λws M R=>∃rs:↑aD,ws=[a9 rs]/\fP rs/\mO rs/\R .non M
def N9:aW:=λws M R=>∃rs:↑aD,ws=[a9 rs]/\fP rs/\mO rs/\∀l,CQ rs l->R (qS l) M
noncomputable abbrev zit:↑Av:=["grammar","first","is_part","rule"]
abbrev ziu:aE:=
   (bY (iX (bL<|aG (dH ac) (vX a7 aX)<|bA aB)<|oN (bL<|aG (dH ab) (vX a7 a8) aM)<|dG aS)
    vG
    cR)
abbrev ziv:aE:=(aF (aL 1<|aP qN<|aH^aB) (aF (aL 2<|bG vP<|bD (cV (bM cF aH) (aQ 0) d7 (aG (bZ ac) aM<|vX aH aX) [ae,aa 1])^aB)
   (cE (bM cF aH) (aQ 3) ziu)))
noncomputable abbrev ziw:↑Av:=["grammar","fruitful","plain","name"]
abbrev zix(P:Bc)(w:Bq)(C:Cc):aE:=(aF (bX<|aP N8<|aH^aB) (aF (aL 1<|bD<|aP BV<|aH^aB)
   (aF (bY (bL<|aG (bZ ab) (aP qN<|aH^aB) aM) (bH<|aP B5<|aH^aB) cR)
   (aF (aL 2<|mB C.p (qT P w C.p) aB)
   (aF (cE (bM cF<|bD<|aP i6<|aH^aB) (aQ 3)<|bX<|aP (MW P w C)<|aS^aH^a7^aM^aB)
   (bH<|eA C.p "grammar_and_backs" (qU P w C.p) aS aB))))))
def ziy:bE N8 ziv zit:=by
 rintro _ M R ⟨rs,rfl,g,u,r⟩;let hf:=g.few;let#[G,l,d]:=Ep g.ne;let E:f0 rs=G.name:=by rw[d];rfl
 show#[G,l,by rw[d];rfl,8];show l8 (rest:=[-.str G.name]) (λw=>match w with|.tup [_,.tup ps,_]=>.bl (inW (.str G.name) ps)|_=>.non) (small<|by rw[Ab];lia) (λ_ _=>trivial) (λw hw F C sb L=>8)<|aO.frz 8
 .let#[q,N,rfl]:=Ap.mp hw;show#[7,wL _,L]
 let T:((rs.map bK).map λw=>match w with|.tup [_,.tup ps,_]=>W.bl (inW (.str G.name) ps)|_=>.non)=bools (rs.map λq=>decide<|G.name∈q.parts):=by
  ext bools;rw[Bp,Bp];show Ei λz _=>8;change W.bl (inW (.str G.name)<|z.parts.map W.str)=.bl (decide<|G.name∈z.parts);rw[wJ]
 rw[T];show#[_,7,8];generalize Z:(rs.map λq=>decide<|G.name∈q.parts).any id=b;show c8 (λi O F=>∃o,O=[-.rl (rs.map bK),-.str G.name,-.bl b,o]/\F=M) #[_,7,7] 8 8
 .rintro i w O F hw ⟨o,rfl,rfl⟩ X I;rw[Au]at hw;let#[q,N,rfl]:=Ay.mp hw;let J:=Ah N;show nL 2 ∅ (nY<|g.sh q J) (nY (ps:=[]) λt ht=>nomatch ht) λc hc=>8;let go:=I _ _ #[-bK q,7,7];show bN (b:=c) (λn=>8) λn=>go;let#[f,D]:=u q J<|tG (b:=[])<|W.tup.inj<|hc.mp n;show bN (b:=!(decide<|q.name=G.name)) (λv=>8) λv=>bN (b:=b) (λk=>8) λk=>go
  .rw[Xw<|f.trans E]at v;ext v
  .rw[<-Z,Kq,Gb]at k;let#[z,hz,h]:=k;show absurd (Xv h)<|E▸D z hz
 .rintro O F ⟨o,rfl,rfl⟩;show#[_,aV,r]
section
variable {P:Bc}{w:Bq}{C:Cc}
def ziz:bE N9 (zix P w C) ziw:=by
 rintro _ M R ⟨rs,rfl,g,fu,r⟩;let hfew:=g.few;let hnm:=g.nam;let#[q0,l,e0]:=Ep g.ne;let hF:f0 rs=q0.name:=by rw[e0];rfl
 show#[rs,7,g,fu,rs,7,g.gl,λkvs hk=>h9.frz #[q0,l,by rw[e0];rfl,_,#[Sum.inr q0.name,7,7],bN (b:=!((aN kvs (Sum.inr q0.name:aC)).isSome)) (λhn=>8) λhn=>8]]
 .show#[rs,7,g.ne,_,aV,r _<|.inl #[7,λz=>8]];rw[hk,nO.mpr<|hF▸z]at hn;ext hn
 let hn:fM rs ab (f0 rs):=nO.mp (by rw[hF,<-hk,<-Ge (aN kvs _).isSome,hn];rfl);show λa dx ha hdx hne=>#[a,dx,7,aI,λd hd=>#[7,8]]
 let had:a≠d:=λe=>by rw[<-e,aI]at hd;ext hd
 rw[aT<|Cs had]at hd;rw[Bt.first had];show#[rs,7,9,aO.frz 8];obtain⟨f,hf⟩:∃f:Av->↑Av,f=λ_=>[]:=#[_,7];show c8 (λi τ M'=>∃T o3,τ=[-a9 rs,-.dk kvs,aa !a,o3]/\M'=Bt P w C.p M a d dx T/\(∀z∈T,z.1.1∈namesOf rs/\(Qz rs f 0 20 z/\Pz rs z)/\iF rs z.1.1 z.1.2)/\(∀X ps,X∈(namesOf rs).take i->iF rs X ps->(X,ps)∈T.map Cg)/\↥T<=↥rs*↥(namesOf rs)*i/\(0<i->Hd (f0 rs) True T)) #[[],_,7,7,(λ_ h=>nomatch h),(λ_ _ h=>nomatch h),Aj _,λh=>absurd h ∅] 8 8
 .rintro i v τ M' hv ⟨T,o3,rfl,rfl,g1,g1c,g1l,h1⟩ Dx hD;rw[Au]at hv;let#[X,hX,rfl]:=Ay.mp hv;let hi:=(An.mp hX).1;let hXm:=Ah hX;let hpi:↥rs*↥(namesOf rs)*i<=500*20*20:=Fg (Fg hfew hnm) 9;show#[a,d,dx,T,rs,X,kvs,f,7,Bt.pl had,9,g,hXm,hk,λl' g'=>hD _ _ #[l',-.str X,7,Bt.put,g'.all g1 λz hz=>#[hz.1▸hXm,hz.2.1,hz.1▸hz.2.2],λY ps hY hp=>g'.had 8,Am g'.len<|by rw[Vn];show Hb g1l _,λ_=>8]]
  .rw[Bx,hX]at hY;show(Az.mp hY).imp (λz=>g1c Y ps z hp) λz=>by rw[Ae.mp z]at hp⊢;show#[7,hp]
  cases i with
  | zero=>
   cases T with
   | nil=>
    have:f0 rs=X:=by rw[L5 g.ne]at hX;ext hX;rfl
    show Hd.of g' (λx h=>h.1.trans this.symm) λ_=>(N7 hn).elim λl hl=>#[(X,l),7,this▸hl]
   | cons z l=>rw[Nat.mul_zero]at g1l;ext g1l
  | succ i=>show(h1<|Sn i).ex g'
 .rintro τ M' ⟨T,o3,rfl,rfl,g1,g1c,g1l,h1⟩;rw[Ab]at h1 g1l g1c;rw[Bn]at g1c;let n0:f0 rs∈namesOf rs:=(w6 g.ne).elim λr h=>gU.mpr #[r,h.1,h.2];let#[z,t,e,e2]:=h1 (Jk.mpr λz=>by rw[z]at n0;ext n0) trivial;show mI (Bt.pl had).ob tE #[a,d,dx,_,7,Bt.pl had,_,Bt.sub ha hd had,r T<|.inr #[#[f,(w6 g.ne).elim λr h=>h.2▸g.hd r h.1,g1l,#[by rw[e];show Jo _ _,8],λz hz=>#[.inr (g1 z hz).1,(g1 z hz).2.1],λt=>by rw[hf];show Cu _],by rw[e];show e2,g1c,λz hz=>(g1 z hz).2.2]];rw[e];change cY rs f z.1.1=_;rw[e2];show kB<|.inl n0
end
inductive Dv(nm:Av->Bool)(rs:↑aD):↑Av->↑Av->Prop
 | nil:Dv nm rs [] []
 | wd {t:Av} {ps row:↑Av}:nm t=ac->Dv nm rs ps row->Dv nm rs (t::ps) (t::row)
 | nd {r:aD} {ps a b:↑Av}:r∈rs->nm r.name=ab->Dv nm rs r.parts a->Dv nm rs ps b->Dv nm rs (r.name::ps) (a++b)
section
variable {nm:Av->Bool}{rs rs':↑aD}{ps qs a b row:↑Av}{t:Av}
def Dv.app(h:Dv nm rs ps a)(k:Dv nm rs qs b):Dv nm rs (ps++qs) (a++b):=by
 induction h with
 | nil=>show k
 | wd n _ E=>show .wd n E
 | nd r n p _ _ E=>rw[Bs];show .nd r n p E
def Dv.one(h:r∈rs)(n:nm r.name=ab)(k:Dv nm rs r.parts a):Dv nm rs [r.name] a:=by
 have:=Dv.nd h n k .nil;rwa [Bv]at this
def Dv.cut(h:Dv nm rs (t::ps) row):∃a b,row=a++b/\Dv nm rs [t] a/\Dv nm rs ps b:=by
 cases h with
 | wd n h=>show#[[t],_,7,.wd n .nil,h]
 | nd r n p h=>show#[_,_,7,.one r n p,h]
def Dv.none(h:Dv nm rs [] row):row=[]:=by ext h;rfl
def Dv.inv(h:Dv nm rs [t] row)(n:nm t=ab):∃r∈rs,r.name=t/\Dv nm rs r.parts row:=by
 generalize e : [t]=l at h;cases h with
 | nil=>ext e
 | wd m _=>ext e;rw[n]at m;ext m
 | nd r _ p q=>ext e;rw[q.none,Bv];show#[_,r,7,p]
def Dv.sim(k:∀r∈rs,nm r.name=ab->∀a,Dv nm rs' r.parts a->Dv nm rs' [r.name] a)(h:Dv nm rs ps row):Dv nm rs' ps row:=by
 induction h with
 | nil=>show .nil
 | wd n _ E=>show .wd n E
 | nd r n _ _ Q A=>show(k _ r n _ Q).app A
def RT.dv{h:Nat}(x:RT nm rs h ps ws row):Dv nm rs ps row:=by
 induction x with
 | nil=>show .nil
 | word n _ E=>show .wd n E
 | knot n r _ _ _ Q A=>show .nd (Ah r) n Q A
end
abbrev Dn:=Dv isNameB
section
variable {rs pl:↑aD}{D:↑Av}{drop:Av->Bool}
def CS(g:∀r∈rs,∀t∈r.parts,isNameB t=ownB rs t)(h:Dn rs ps row):(∀t∈ps,isNameB t=ownB rs t)->∀t∈ps,eE rs t=ab:=by
 induction h with
 | nil=>show λ_ _ h=>nomatch h
 | wd n _ E=>show λK u D=>(Bd.mp D).elim (λz=>z▸N6 ((K _<|.head _)▸n)) (E (λt ht=>K t<|.tail _ ht) u)
 | nd G n _ _ Q A=>show λK u D=>(Bd.mp D).elim (λz=>z▸N5 (.mk G (λt ht o=>CP (Q (g _ G) t ht) o) λ_ _ _=>rfl))<|A (λt ht=>K t<|.tail _ ht) u
def ziA(g:∀r∈rs,∀t∈r.parts,isNameB t=ownB rs t)(I:gV rs D=D)(hd:∀t,drop t=ab↔fM rs ac t)(B:∀X l,iE rs D drop X l->∃q∈pl,q.name=X/\q.parts=l)(h:Dn rs ps row):
  (∀t∈ps,isNameB t=ownB rs t)->(row=[]->∀t∈ps,fM rs ac t)/\(row≠[]->∃p∈ps,cU rs D p=ab)/\∃l,Th (cU rs D) drop ps l/\Dn pl l row:=by
 induction h with
 | nil=>show λ_=>#[(λ_ _ h=>nomatch h),λh=>absurd rfl h,[],.nil,.nil]
 | @wd t ps row n _ E=>
  intro K;let#[_,_,l,W,U]:=E λt ht=>K t<|.tail _ ht;let hw:cU rs D t=ab:=by ext cU;rw[show ownB rs t=ac from(K t<|.head _)▸n];show Od _
  show#[(λz=>nomatch z),λ_=>#[t,.head _,hw],_,.kp hw W,.wd n U]
 | @nd r ps a b G n S _ Q A=>
  intro K;let#[c,d,O,o,j]:=Q<|g r G;let#[v,x,k,V,m]:=A λt ht=>K t<|.tail _ ht;let i:=CS g S<|g r G
  by_cases S:a=[]
  .let fr:fM rs ac r.name:=.mk G (λt ht _=>c S t ht) λt ht f=>by
    cases c S t ht with
    | mk h _ _=>rw[qM h]at f;ext f
   subst S;show#[λe u Z=>(Bd.mp Z).elim (λz=>z▸fr)<|v e u,λe=>(x e).elim λp h=>#[p,.tail _ h.1,h.2],k,.dr ((hd _).mpr fr) V,m]
  .let hw:cU rs D r.name=ab:=by
    ext cU;rw[Xw<|LD I (wY.mpr #[G,i])<|d S];rfl
   show#[λe=>absurd (List.append_eq_nil_iff.mp e).1 S,λ_=>#[_,.head _,hw],_,.kp hw V,Dv.app (ps:=[r.name]) 8 m]
   by_cases hl:O=[r.name]
   .rw[<-hl];show j
   .let#[q,N,T,J]:=B r.name O #[r,G,7,o,(λz=>S<|by rw[z]at j;show j.none),hl];rw[<-T];show .one N (by rw[T];show n) (by rw[J];show j)
def ziB(g:∀r∈rs,∀t∈r.parts,isNameB t=ownB rs t)(B:∀X l,X∈namesOf rs->iF rs X l->∃q∈pl,q.name=X/\q.parts=l)(N:∀q∈pl,iF rs q.name q.parts)(h:Dn rs ps row):
  (∀t∈ps,isNameB t=ownB rs t)->Dn pl ps row:=by
 induction h with
 | nil=>show λ_=>.nil
 | wd n _ E=>show λK=>.wd n (E λt ht=>K t<|.tail _ ht)
 | @nd r ps a b G n S _ Q A=>
  intro K;let i:=CS g S<|g r G;let c:=Q<|g r G;let put:∀l,iF rs r.name l->Dn pl l a->Dn pl [r.name] a:=λl hc k=>by
   let#[q,N,T,J]:=B r.name l (gU.mpr #[r,G,7]) hc;rw[<-T];show .one N (by rw[T];show n) (by rw[J];show k)
  show Dv.app (ps:=[r.name]) 8<|A λt ht=>K t<|.tail _ ht;cases U:sglB rs r with
  | false=>show put _ #[r,G,.rf,7,U,i] c
  | true=>
   let#[Y,e,o]:=N4 U;rw[e]at c;let#[q,C,O,P]:=c.inv (by rw[g r G Y<|by rw[e];show .head _];show o);let#[s,s1,V,j]:=N q C;rw[O]at V;show put _ #[s,s1,.st G e o V,j] P
def rA(h:(X,ps)∈l.map Cg):∃q∈aZ l,q.name=X/\q.parts=ps:=by
 let#[z,hz,e]:=Ap.mp h;show#[_,Ap.mpr #[z,hz,7],by rw[e];rfl,by rw[e];rfl]
def tH(h:∀r∈rs,isNameB r.name=ab)(k:isNameB t=ab->∃q∈rs,q.name=t):isNameB t=ownB rs t:=by
 cases e:isNameB t with
 | true=>
  let#[q,N,rfl]:=k e;show(qM N).symm
 | false=>
  show(Xx λz=>8).symm;let#[q,N,rfl]:=gU.mp z;rw[h q N]at e;ext e
end
structure Gn(U:↑Av)(rs:↑aD):Prop where
 ne:rs≠[]
 prt:∀r∈rs,↥r.parts<=04
 hd:∀r∈rs,c7 r.name
 pt:∀r∈rs,∀t∈r.parts,c7 t\/(fD t/\t∈U)
 own:∀r∈rs,∀t∈r.parts,isNameB t=ownB rs t
section
variable {rs:↑aD}{U D:↑Av}{drop:Av->Bool}{l:↑(NP×W)}
def Gn.g60(g:Gn U rs)(L:↥rs<=500)(Y:↥(namesOf rs)<=20)(s:↥U<64):fP rs:=
 #[g.ne,L,Y,g.prt,#[U,s,λr G t ht f=>(g.pt r G t ht).elim (λz=>by rw[<-g.own r G t ht,z.nm]at f;ext f) λz=>z.2],g.hd,λr G t ht=>(g.pt r G t ht).imp_right λz=>z.1,g.own]
def Gn.f0(g:Gn U rs):c7 (f0 rs)/\f0 rs∈namesOf rs:=(w6 g.ne).elim λr h=>h.2▸#[g.hd r h.1,gU.mpr #[r,h.1,7]]
def Gn.top(g:Gn U rs):∀t∈[L2.f0 rs],isNameB t=ownB rs t:=λt ht=>by rw[Ae.mp ht,g.f0.1.nm];show(Xw g.f0.2).symm
def Gn.noL(g:Gn U rs):Gn U (aZ<|noL<|L2.f0 rs):=by
 let h:=g.f0.1;let J:∀r∈aZ (L2.noL<|L2.f0 rs),r=#[L2.f0 rs,[L2.f0 rs,L2.f0 rs],0]:=λr G=>Ae.mp G;let B:∀r∈aZ (L2.noL<|L2.f0 rs),∀t∈r.parts,t=L2.f0 rs:=λr G t ht=>by
  rw[J r G]at ht;rcases Bd.mp ht with z|z
  .show z
  .show Ae.mp z
 show#[Jo _ _,λr G=>by rw[J r G];change 2<=04;decide,λr G=>by rw[J r G];show h,λr G t ht=>.inl<|B r G t ht▸h,λr G t ht=>tH (λq N=>by rw[J q N];show h.nm) λ_=>#[_,.head _,(B r G t ht).symm]]
def ziC(hf:isNameB f=ab)(h:Dn (aZ<|noL f) ps row):f∉ps:=by
 induction h with
 | nil=>show λh=>nomatch h
 | wd n _ E=>show λh=>(Bd.mp h).elim (λe=>by rw[<-e,hf]at n;ext n) E
 | nd r _ _ _ E _=>
  let r:_=_:=Ae.mp r;rw[r]at E;show absurd (.head _) E
end
noncomputable abbrev kC(l:↑(NP×W)):W:=.rl<|l.map λz=>z.2
noncomputable def OA:W->↑W
 | .tup us=>us
 | _=>[]
structure tI(U:↑Av)(k:Nat)(rs:↑aD)(l:↑(NP×W)):Prop where
 gn:Gn U (aZ l)
 up:∀row,Dn rs [f0 rs] row->Dn (aZ l) [f0<|aZ l] row
 bk:∀h w row,RT isNameB (aZ l) h [f0<|aZ l] [w] row->∃(backs:↑(↑W)) (o:W),kC l=.rl (backs.map W.tup)/\RT isNameB rs (320+k*h) [f0 rs] [o] row/\(h<=890000->∃m d,Fn d backs [o] m [(w,ac)] []/\d<=50)
section
variable {rs:↑aD}{U D:↑Av}{drop:Av->Bool}{l:↑(NP×W)}
def ziD{f:Av->↑Av}(h:∀t,↥(f t)<=100)(t:Av):↥(cY rs f t)<=100:=by
 ext cY;split
 .show(by decide:1<=100)
 .show h t
def CU{f:Av->↑Av}{H d h:Nat}(hl:∀t,↥(f t)<=100)(al:∀z∈l,Qz rs f H d z/\↥z.1.2<=04)(Q:cY rs f (f0<|aZ l)=[f0 rs])(hd:d<=20)(S:H<=320)(x:RT isNameB (aZ l) h [f0<|aZ l] [w] row):∃(backs:↑(↑W)) (o:W),kC l=.rl (backs.map W.tup)/\RT isNameB rs (320+d*h) [f0 rs] [o] row/\(h<=890000->∃m k,Fn k backs [o] m [(w,ac)] []/\k<=50):=by
 let#[rows,L,Y]:=x.back (H:=H) (d:=d) (sem:=cY rs f) (rs:=rs) (backs:=l.map λz=>OA z.2) (λt ht=>kB<|.inr ht) (ziD hl) λn r G=>by
  rw[Au]at G;let#[z,hz,rfl]:=Ay.mp G;let#[j,e,p]:=(al z<|Ah hz).1;show#[j,by rw[Au,hz,Option.map_some,e];rfl,p]
 cases Y with
 | @cons _ _ a c r rows y v=>
  ext v;rw[Q]at y;let#[o,rfl]:=Mf.mp y.len;show#[_,o,8,by rw[Bv];show y.mono<|Hb S _,λhh=>(L.start (x.hg (λr G=>by let#[z,hz,rfl]:=Ap.mp G;show(al z hz).2) w<|.head _) 9).elim λm hf=>#[m,d,hf,9]];rw[Bp];show congrArg W.rl<|Ei λz hz=>8;let#[j,e,_]:=(al z hz).1;change z.2=W.tup (OA z.2);rw[e];rfl
def OB{h:Nat}{Q:Prop}(g:Gn U rs)(x:RT isNameB (aZ<|noL<|f0 rs) h [f0<|aZ<|noL<|f0 rs] [w] row):Q:=absurd (.head _)<|ziC g.f0.1.nm x.dv
def ziE(rs:↑aD):(namesOf rs).Nodup:=by
 have:∀(ts acc:↑Av),acc.Nodup->(ts.foldl dC acc).Nodup:=by
  intro ts
  induction ts with
  | nil=>intro acc h;show h
  | cons t ts E=>intro acc h;show E _ (BK h)
 show this _ _ Gu
def xT{tl:↑aD}{l:↑Av}(h:∀r∈tl,r.name∈l):↥(namesOf tl)<=↥l:=len_sub (ziE tl) λx S=>by
 let#[r,G,rfl]:=gU.mp S;show h r G
def OC(F:Av):mO (aZ<|noL F):=λr G e=>by rw[Ae.mp G]at e;ext e
def CJ.stg(g:Gn U rs)(h:CJ rs D drop l):tI U 1 rs l/\mO (aZ l)/\↥l<=16*(↥rs*↥(namesOf rs))+2/\↥(namesOf<|aZ l)<=↥(namesOf rs)+1:=by
 let#[wd,fx,dr,h]:=h;let key:∀{pl:↑aD} {row},(∀X l,iE rs D drop X l->∃q∈pl,q.name=X/\q.parts=l)->Dn rs [f0 rs] row->(row=[]/\drop (f0 rs)=ab)\/(row≠[]/\f0 rs∈D/\Dn pl [f0 rs] row):=λ{pl row} B k=>by
  let#[Y,O,l,R,s]:=ziA g.own fx dr B k g.top
  by_cases e:row=[]
  .show .inl #[e,(dr _).mpr<|Y e _<|.head _]
  .let#[p,B,hw]:=O e;rw[Ae.mp B]at hw;unfold cU at hw;rw[Xw g.f0.2 |> (show ownB rs (f0 rs)=ab from ·),Ox,Rp]at hw;show .inr #[e,Xv hw,8];cases R with
   | kp _ h=>ext h;show s
   | dr _ h=>ext h;show absurd s.none e
 rcases h with⟨rfl,L,Y⟩|⟨m,f,M,T,rfl,tl,hc,j,h⟩
 .show#[#[g.noL,λrow k=>8,λ_ _ _ x=>OB g x],OC _,Ln 1 _ |> Ow,Am (w4 _)<|Ln 1 _];rcases key (pl:=rs.flatMap λr=>(kY (cU rs D) drop (λ_=>W.non) r.parts).map λx=>#[r.name,x.1,0]) (λX l V=>by
   let#[r,G,e,ht,_]:=V;let#[x,S,rfl]:=BS.mpr ht;show#[#[r.name,x.1,0],Jn.mpr #[r,G,Ap.mpr #[x,S,7]],e,7]) k with⟨_,z⟩|⟨_,z,_⟩
  .rw[Y]at z;ext z
  .show absurd z L
 let I:∀X ps,iE rs D drop X ps->∃q∈aZ T,q.name=X/\q.parts=ps:=λX ps ht=>by
  have #[r,G,e,_]:=ht;show rA<|hc X ps (gU.mpr #[r,G,e]) ht
 let Q:∀{q},q∈aZ T->q∈aZ (M++T):=λ{q} N=>by unfold aZ at *;rw[Ar];show Bo _ N
 let c:∀r∈aZ (M++T),c7 r.name/\r.name∈m::namesOf rs:=λr G=>by
  let#[z,hz,rfl]:=Ap.mp G;rcases(tl.al z hz).1 with e|e
  .show#[by change c7 z.1.1;rw[e];show tl.hd,Bd.mpr<|.inl e]
  .let#[q,N,J]:=gU.mp e;show#[(show c7 z.1.1 from J▸g.hd q N),.tail _ e]
 let A:∀{t},cU rs D t=ab->isNameB t=ab->c7 t->(isNameB t=ownB rs t)->∃q∈aZ (M++T),q.name=t:=λ{t} hw K _ C=>by
  unfold cU at hw;rw[<-C,K,Ox,Rp]at hw;let#[ps,ht]:=L9 wd fx dr<|Xv hw;let#[q,N,e,_]:=I t ps ht;show#[q,Q N,e]
 let pT:∀z∈T,∀t∈z.1.2,∃r∈rs,t∈r.parts/\cU rs D t=ab:=λz hz t ht=>by
  let#[r,G,_,i,_]:=j z hz;show#[r,G,(i.sub t ht).1,(i.sub t ht).2]
 let oT:∀z∈T,∀t∈z.1.2,isNameB t=ab->∃q∈aZ (M++T),q.name=t:=λz hz t ht K=>by
  let#[r,G,L,Y]:=pT z hz t ht;let C:=g.own r G t L;rcases g.pt r G t L with k|k
  .show A Y K k C
  .rw[y7 k.1.ne k.1.sm]at K;ext K
 let o:∀z∈M,∀t∈z.1.2,t=f0 rs/\∃z∈T,f0 rs∈z.1.2:=λz hz t ht=>by
  rcases h with⟨_,rfl,_⟩|⟨_,⟨e,_⟩|⟨_,e,b⟩⟩
  .ext hz
  .have:=Nw (f:=Cg) hz;rw[e]at this;rw[Ae.mp this]at ht;ext ht
  .have:=Nw (f:=Cg) hz;rw[e]at this;rcases Bd.mp this with k|k
   .rw[k]at ht;show#[Ae.mp ht,b]
   .rw[Ae.mp k]at ht;ext ht
 let gn:Gn U (aZ<|M++T):=by
  refine#[λe=>tl.f0.1<|Kx.mp e,λr G=>8,λr G=>(c r G).1,λr G t ht=>8,λr G t ht=>tH (λq N=>(c q N).1.nm) λK=>8]<;>let#[z,hz,rfl]:=Ap.mp G
  .show(tl.al z hz).2.2.2
  .rcases Az.mp hz with hz|hz
   .show .inl<|(o z hz t ht).1▸g.f0.1
   .let#[r,G,L,_]:=pT z hz t ht;show g.pt r G t L
  .rcases Az.mp hz with hz|hz
   .let#[rfl,y,H,hf]:=o z hz t ht;show oT y H _ hf K
   .show oT z hz t ht K
 show#[#[gn,λrow k=>8,λh w row x=>CU tl.sl (λz hz=>#[(tl.al z hz).2.1,(tl.al z hz).2.2.2]) tl.f0.2 ∅ (Aj _) x],λr G e=>8,tl.len,Am (xT λr G=>(c r G).2)<|Aj _]
 .rcases key I k with⟨rfl,z⟩|⟨_,_,z⟩
  .rcases h with⟨L,_⟩|⟨_,⟨e,_⟩|⟨_,e,_⟩⟩
   .rw[L]at z;ext z
   .let#[y,a,rfl,P,J]:=Hx.mp e;let H:f0 (aZ<|y::a++T)=y.1.1:=rfl;rw[H];show .one (r:=lB y.1) (.head _) (by change isNameB y.1.1=ab;rw[P];show g.f0.1.nm) (by change Dn _ y.1.2 _;rw[P];show .nil)
   .let#[y,a,rfl,P,J]:=Hx.mp e;let#[d,lb2,rfl,Z,u]:=Hx.mp J;let H:f0 (aZ<|y::d::lb2++T)=(lB d.1).name:=by change y.1.1=d.1.1;rw[P,Z]
    rw[H];show .one (r:=lB d.1) (.tail _<|.head _) (by change isNameB d.1.1=ab;rw[Z];show tl.hd.nm) (by change Dn _ d.1.2 _;rw[Z];show .nil)
  .let z:Dn (aZ<|M++T) [f0 rs] row:=z.sim λr m n _ q=>.one (Q m) n q;rcases h with⟨_,_,O⟩|⟨_,⟨e,_⟩|⟨_,e,_⟩⟩
   .rw[O];show z
   .let#[y,a,rfl,P,_]:=Hx.mp e;let H:f0 (aZ<|y::a++T)=f0 rs:=by change y.1.1=_;rw[P]
    rw[H];show z
   .let#[y,a,rfl,P,_]:=Hx.mp e;let H:f0 (aZ<|y::a++T)=(lB y.1).name:=rfl;rw[H];show .one (r:=lB y.1) (.head _) (by change isNameB y.1.1=ab;rw[P];show tl.hd.nm) (by change Dn _ y.1.2 _;rw[P];show z)
 .let#[z,hz,rfl]:=Ap.mp G;let nT:∀z∈T,z.1.2≠[]:=λz hz=>by let#[_,_,_,_,h,_]:=j z hz;show h
  let hz:z∈M:=(Az.mp hz).resolve_right λk=>nT z k e;let v:=Nw (f:=Cg) hz;let no:∀{F:Av},(∀z∈T,F∉z.1.2)->(∀z∈M,F∉z.1.2)->∀q∈aZ (M++T),F∉q.parts:=λ{F} L Y q N E=>by
   let#[y,H,rfl]:=Ap.mp N;show(Az.mp H).elim (λk=>Y y k E) λk=>L y k E
  rcases h with⟨_,rfl,_⟩|⟨_,⟨P,Y⟩|⟨L,P,_⟩⟩
  .ext hz
  .let#[y,a,rfl,J,Z]:=Hx.mp P;rw[Kx.mp Z]at hz v⊢;let H:f0 (aZ<|[y]++T)=f0 rs:=by change y.1.1=_;rw[J]
   rw[Kx.mp Z]at no;rw[H];rw[Ae.mp hz];show#[by change y.1.1=_;rw[J],no Y λz hz k=>by rw[Ae.mp hz,J]at k;ext k]
  .let H:f0 (aZ<|M++T)=m:=by
    let#[y,a,rfl,J,Z]:=Hx.mp P;change y.1.1=_;rw[J]
   rw[H];show#[8,no (λz hz k=>8) λz hz k=>L<|(o z hz m k).1▸g.f0.2]
   .rw[P]at v;rcases Bd.mp v with k|k
    .change z.1.1=_;rw[k]
    .change z.1.1=_;rw[Ae.mp k]
   .let#[r,G,k1,_]:=pT z hz m k;have:=g.own r G m k1;rw[tl.hd.nm]at this;show L<|Xv this.symm
end
def xU(rs:↑aD):Prop:=∀r∈rs,∀t,r.parts=[t]->isNameB t=ac
section
variable {rs:↑aD}{U D:↑Av}{l:↑(NP×W)}
def Rc.end_(h:Rc rs X Z):X=Z\/∃r∈rs,Z∈r.parts:=by
 induction h with
 | rf=>show .inl rfl
 | st a b _ _ E=>show .inr<|E.elim (λe=>#[_,a,by rw[b,<-e];show .head _]) id
def CQ.stg(g:Gn U rs)(u:mO rs)(h:CQ rs l):tI U 20 rs l/\mO (aZ l)/\xU (aZ l)/\↥l<=↥rs*↥(namesOf rs)*↥(namesOf rs)/\↥(namesOf<|aZ l)<=↥(namesOf rs):=by
 let k1:1<=↥(namesOf rs):=Po g.f0.2;let k2:1<=↥rs:=Jk.mpr g.ne;rcases h with⟨rfl,L⟩|⟨⟨f,tl⟩,Z,hc,j⟩
 .show#[#[g.noL,λrow k=>absurd (CP (CS g.own k g.top _<|.head _)<|Xw g.f0.2) L,λ_ _ _ x=>OB g x],OC _,λr G t e=>8,Fg (Fg k2 k1) k1,Am (w4 _) k1];rw[Ae.mp G]at e;ext e
 let c:∀r∈aZ l,c7 r.name/\r.name∈namesOf rs:=λr G=>by
  let#[z,hz,rfl]:=Ap.mp G;have:z.1.1∈namesOf rs:=(tl.al z hz).1.elim (λe=>e▸g.f0.2) id;let#[q,N,J]:=gU.mp this;show#[(show c7 z.1.1 from J▸g.hd q N),this]
 let B:∀X ps,X∈namesOf rs->iF rs X ps->∃q∈aZ l,q.name=X/\q.parts=ps:=λX ps L Y=>rA<|hc X ps L Y;let N:∀q∈aZ l,iF rs q.name q.parts:=λq N=>by
  let#[z,hz,rfl]:=Ap.mp N;show j z hz
 let pt:∀q∈aZ l,∀t∈q.parts,∃r∈rs,t∈r.parts/\eE rs t=ab:=λq b t ht=>by
  let#[r,G,_,e,_,hf]:=N q b;show#[r,G,e▸ht,hf t ht]
 show#[#[#[λe=>tl.f0.1<|Kx.mp e,λr G=>8,λr G=>(c r G).1,λr G t ht=>8,λr G t ht=>tH (λq N=>(c q N).1.nm) λK=>8],λrow k=>8,λh w row x=>CU tl.sl (λz hz=>#[(tl.al z hz).2.1,(tl.al z hz).2.2.2]) tl.f0.2 (Aj _) ∅ x],λr G e=>8,λr G t e=>8,tl.len,xT λr G=>(c r G).2]
 .let#[z,hz,rfl]:=Ap.mp G;show(tl.al z hz).2.2.2
 .let#[q,N,k,_]:=pt r G t ht;show g.pt q N t k
 .let#[q,N,k,hf]:=pt r G t ht;let D:ownB rs t=ab:=(g.own q N t k).symm.trans K;let#[ps,hc]:=N7<|CP hf D;let#[O,L,Y,_]:=B t ps (Xv D) hc;show#[O,L,Y]
 .rw[Z];show ziB g.own B N k g.top
 .let#[q,b,o,J,_]:=N r G;let#[F,y]:=u q b<|J.trans e;rw[Z];rw[F]at o;show#[o.end_.resolve_right λ#[p,B,k]=>y p B k,λp B k=>8];let#[p2,L,Y,_]:=pt p B _ k;show y p2 L Y
 .let#[q,b,_,J,P,_]:=N r G;rw[e]at J;have:=g.own q b t (by rw[J];show .head _);unfold sglB at P;rw[J]at P;rw[this];show P
def fQ(rs:↑aD)(t:Av):↑Av:=((b7 rs).find? λe=>decide<|dU rs e=t).getD []
theorem OD:∀{es:↑(↑Av)} {ns:↑Av} {a b:↑Av} {n:Av},ns.Nodup->(es.zip ns).lookup a=-n->(es.zip ns).lookup b=-n->a=b
 | [],_,_,_,_,_,h,_=>nomatch h
 | _::_,[],_,_,_,_,h,_=>nomatch h
 | e::es,m::ns,a,b,n,K,h,k=>by
  let no:∀{c},(es.zip ns).lookup c=-m->False:=λ{c} h=>by
   have:(c,m)∈es.zip ns:=by
    let#[u,o,e,_]:=List.lookup_eq_some_iff.mp h;rw[e];simp
   show(Dc.mp K).1 (Lh this).2
  rw[Ih,Em]at h k
  by_cases x:a=e<;>by_cases y:b=e
  .rw[x,y]
  .rw[beq_eq_false_iff_ne.mpr y]at k;rw[x,beq_self_eq_true]at h;ext h;show(no k).elim
  .rw[beq_eq_false_iff_ne.mpr x]at h;rw[y,beq_self_eq_true]at k;ext k;show(no h).elim
  .rw[beq_eq_false_iff_ne.mpr x]at h;rw[beq_eq_false_iff_ne.mpr y]at k;show OD (Dc.mp K).2 h k
def ziF(f:iQ rs):(i8 rs).Nodup:=by
 unfold i8 kZ gN;show(List.Nodup.sublist Jl 8).sublist<|List.take_sublist _ _;rw[Hh,Kf];show List.Pairwise.imp_of_mem 8 Sx;intro a b S Z d e;rw[Fj]at S Z;have:=f.sum;show d<|LR (Hv (Ca S this) ∅) (Hv (Ca Z this) ∅) e
def ziG(f:iQ rs)(S:a∈b7 rs)(Z:b∈b7 rs)(h:dU rs a=dU rs b):a=b:=by
 let#[x,_,T]:=wZ (ns:=i8 rs) f.len.symm S;let#[y,_,J]:=wZ (ns:=i8 rs) f.len.symm Z;unfold dU pC at h;rw[T,J]at h;ext h;show OD (ziF f) T J
def CV{ps:↑Av}(h:¬(↥ps<=2)):∃p,ps=p::ps.drop 1/\cX rs ps=[p,dU rs<|ps.drop 1]:=by
 cases ps with
 | nil=>show absurd ∅ h
 | cons p ps=>show#[p,7,by ext cX;rw[Xs h];rfl]
structure Ml(N:↑Av)(ml:Av->Nat)(rs:↑aD):Prop where
 one:∀t,t∈N\/isNameB t=ac->ml t=1
 al:∀q∈rs,(q.parts.map ml).sum<=04/\1<=ml q.name/\ml q.name<=3/\(q.name∉N->(q.parts.map ml).sum<=ml q.name/\∀t∈q.parts,t∉N->isNameB t=ab->ml t+1<=ml q.name)
def ziH(g:Gn U rs)(fe:iQ rs)(ht:∀z∈l,w9 rs z)(c1:∀r∈rs,(r.name,cX rs r.parts)∈l.map Cg)(c2:∀e∈b7 rs,(dU rs e,cX rs e)∈l.map Cg)(h0:Hd (f0 rs) True l):tI U 1 rs l/\(∀r∈aZ l,↥r.parts<=2)/\(mO rs->mO (aZ l))/\(xU rs->xU (aZ l))/\↥(namesOf<|aZ l)<=↥(namesOf rs)+↥(b7 rs)/\∃ml,Ml (namesOf rs) ml (aZ l):=by
 let nf:∀{e:↑Av},e∈b7 rs->c7 (dU rs e)/\dU rs e∈i8 rs/\dU rs e∉namesOf rs:=λhe=>by
  let h1:=(BQ fe he).2;let#[h2,i,hi,e]:=LW h1;have:=fe.sum;show#[e▸L4 9,h1,h2]
 let sm:∀{r:aD},r∈rs->∀p∈r.parts,cY rs (fQ rs) p=[p]:=λhr p hp=>kB (by
  rw[g.own _ hr p hp];cases e:ownB rs p with
  | true=>show .inl (Xv e)
  | false=>show .inr rfl)
 let ep:∀{e:↑Av},e∈b7 rs->(∃r∈rs,∀p∈e,p∈r.parts)/\2<=↥e/\↥e<=3:=λhe=>by
  let#[q,hq,k,hk,rfl]:=sX.mp he;have:=g.prt q hq;show#[#[q,hq,λp hp=>Nm hp],by rw[Eo];lia,by rw[Eo];lia]
 let sl:∀t,↥(fQ rs t)<=100:=λt=>by
  ext fQ;cases h:(b7 rs).find? λe=>decide (dU rs e=t) with
  | none=>show Cu _
  | some e=>show Am (ep<|Om h).2.2 ∅
 let sem:∀{e:↑Av},e∈b7 rs->cY rs (fQ rs) (dU rs e)=e:=λ{e} he=>by
  ext cY;rw[Xs λz=>z.elim (nf he).2.2 λz=>by rw[(nf he).1.nm]at z;ext z];ext fQ;cases h:(b7 rs).find? λx=>decide (dU rs x=dU rs e) with
  | none=>show absurd (Xw rfl) (List.find?_eq_none.mp h e he)
  | some x=>show ziG fe (Om h) he (Xv (List.find?_some h :))
 let sp:∀{ps:↑Av},(∃r∈rs,∀p∈ps,p∈r.parts)->(2<↥ps->ps.drop 1∈b7 rs)->(∀p∈cX rs ps,p∈ps\/∃e∈b7 rs,p=dU rs e)/\(cX rs ps).flatMap (cY rs<|fQ rs)=ps/\(↥ps<=2->cX rs ps=ps)/\(2<↥ps->↥(cX rs ps)=2):=λ{ps} #[r,hr,h1] h2=>by
  by_cases z:↥ps<=2
  .let e:cX rs ps=ps:=by ext cX;rw[Xu z]
   rw[e];show#[λp hp=>.inl hp,L6 λp hp=>sm hr p<|h1 p hp,λ_=>rfl,λk=>absurd k<|Nat.not_lt_of_le z]
  .let#[x,e1,e2]:=CV (rs:=rs) z;let he:=h2<|Tf z;let hx:=sm hr x (h1 x<|by rw[e1];show .head _);rw[e2];show#[λp hp=>(Bd.mp hp).elim (λz=>.inl<|by rw[z,e1];show .head _) λz=>.inr #[_,he,Ae.mp z],8,λk=>absurd k z,λ_=>rfl];rw[Mh,Mh,hx,sem he,List.flatMap_nil,Bv];show e1.symm
 let slo:∀ps:↑Av,Pf isNameB rs (cY rs<|fQ rs) 0 0 0 ((Ci ↥ps).map λ(i:Nat)=>W.int i) ps (ps.flatMap<|cY rs<|fQ rs):=λps=>by
  rw[List.range_eq_range'];show Pf.slots ps 0
 let key:∀z∈l,(c7 z.1.1/\z.1.1∈namesOf rs++i8 rs)/\(∃ps,z.1.2=cX rs ps/\(∃r∈rs,∀p∈ps,p∈r.parts)/\(2<↥ps->ps.drop 1∈b7 rs)/\((∃r∈rs,r.name=z.1.1/\r.parts=ps)\/2<=↥ps))/\Qz rs (fQ rs) 0 1 z:=λz hz=>by
  rcases ht z hz with⟨n,r,hr,rfl⟩|⟨e,he,rfl⟩
  .let hm:=Ah hr;let hn:=gU.mpr #[r,hm,7];let hp:∃q∈rs,∀p∈r.parts,p∈q.parts:=#[r,hm,λ_ h=>h];let#[_,s2,_]:=sp hp λh=>sY hm h;show#[#[g.hd r hm,Bf _ hn],#[_,7,hp,λh=>sY hm h,.inl #[r,hm,7,7]],_,7,8];change Pf _ _ _ _ _ _ _ _<|cY rs (fQ rs) r.name;rw[kB<|.inl hn];let h4:=g.prt r hm;show Pf.one (g.hd r hm).nm hr 9 (by have:=slo<|cX rs r.parts;rw[s2]at this;show this)
  .let#[h1,h2,h3]:=ep he;let#[_,s2,_]:=sp h1 λh=>qQ he h;show#[#[(nf he).1,Bo _ (nf he).2.1],#[_,7,h1,λh=>qQ he h,.inr h2],_,7,8];change Pf _ _ _ _ _ _ _ _<|cY rs (fQ rs)<|dU rs e;rw[sem he];have:=slo<|cX rs e;rw[s2]at this;show this.mono ∅
 let nk:∀r∈aZ l,c7 r.name/\r.name∈namesOf rs++i8 rs:=λr hr=>by
  let#[z,hz,rfl]:=Ap.mp hr;show(key z hz).1
 let l2:∀r∈aZ l,↥r.parts<=2:=λr hr=>by
  let#[z,hz,rfl]:=Ap.mp hr;obtain⟨_,⟨ps,e,_⟩,_⟩:=key z hz;change ↥z.1.2<=2;rw[e];show BR rs _
 let pt:∀r∈aZ l,∀t∈r.parts,(∃q∈rs,t∈q.parts)\/∃e∈b7 rs,t=dU rs e:=λr hr t ht=>by
  let#[z,hz,rfl]:=Ap.mp hr;obtain⟨_,⟨ps,e,hp,hd,_⟩,_⟩:=key z hz;let ht:t∈z.1.2:=ht;rw[e]at ht;show((sp hp hd).1 t ht).imp_left λh=>8;let#[q,hq,k]:=hp;show#[q,hq,k t h]
 let hml:∃ml,Ml (namesOf rs) ml (aZ l):=by
  show#[λt=>↥(cY rs (fQ rs) t),λt h=>by rw[kB h];rfl,λq hq=>8];let#[z,hz,rfl]:=Ap.mp hq;let su:∀{ps:↑Av},(cX rs ps).flatMap (cY rs<|fQ rs)=ps->((cX rs ps).map λt=>↥(cY rs (fQ rs) t)).sum=↥ps:=λh=>by rw[<-List.length_flatMap,h]
  rcases ht z hz with⟨n,r,hr,rfl⟩|⟨e,he,rfl⟩
  .let hm:=Ah hr;let hn:=gU.mpr #[r,hm,7];let e1:↥(cY rs (fQ rs) r.name)=1:=by rw[kB<|.inl hn];rfl
   show#[Am (Hw<|su (sp #[r,hm,λ_ h=>h] λh=>sY hm h).2.1)<|g.prt r hm,Hw e1.symm,Am (Hw e1) ∅,λh=>absurd hn h]
  .let#[h1,h2,h3]:=ep he;let e1:↥(cY rs (fQ rs)<|dU rs e)=↥e:=by rw[sem he]
   let e2:=su (sp h1 λh=>qQ he h).2.1;show#[Am (Hw e2)<|Am h3 ∅,by change 1<=↥(cY rs (fQ rs)<|dU rs e);lia,by change(cY rs (fQ rs)<|dU rs e).length<=3;lia,λ_=>#[Hw<|e2.trans e1.symm,λt ht hn ho=>8]];let old:t∉e:=λk=>by
    let#[r,hr,h]:=h1;show hn<|Xv<|(g.own r hr t<|h t k).symm.trans ho
   let ht:t∈cX rs e:=ht;change(cY rs (fQ rs) t).length+1<=↥(cY rs (fQ rs)<|dU rs e)
   by_cases z:↥e<=2
   .unfold cX at ht;rw[Xu z]at ht;show absurd ht old
   .let#[p,e3,e4]:=CV (rs:=rs) z;rw[e4]at ht;rcases Bd.mp ht with k|k
    .show absurd (by rw[k,e3];show .head _) old
    .rw[Ae.mp k,sem<|qQ he<|Tf z,e1,Eo];lia
 show#[#[#[λe=>8,λr hr=>Am (l2 r hr) ∅,λr hr=>(nk r hr).1,λr hr t ht=>8,λr hr t ht=>tH (λq hq=>(nk q hq).1.nm) λhn=>8],λrow k=>8,λh w row x=>CU sl (λz hz=>#[(key z hz).2.2,Am (l2 _<|Ap.mpr #[z,hz,7]) ∅]) (by rw[h0.f0];show kB<|.inl g.f0.2) ∅ ∅ x],l2,λfu r hr e=>8,λsg r hr t e=>8,8,hml]
 .let#[z',t,e1,_]:=h0 trivial;rw[e1]at e;ext e
 .rcases pt r hr t ht with⟨q,hq,k⟩|⟨e,he,rfl⟩
  .show g.pt q hq t k
  .show .inl (nf he).1
 .rcases pt r hr t ht with⟨q,hq,k⟩|⟨e,he,rfl⟩
  .let#[q2,h1,h2]:=gU.mp<|Xv<|(g.own q hq t k).symm.trans hn;let#[q3,h3,h4,_]:=rA<|c1 q2 h1;show#[q3,h3,h4.trans h2]
  .let#[q3,h3,h4,_]:=rA<|c2 e he;show#[q3,h3,h4]
 .let up:∀n {ps a},↥ps<=n->(2<↥ps->ps.drop 1∈b7 rs)->Dn (aZ l) ps a->Dn (aZ l) (cX rs ps) a:=λn=>by
   induction n with
   | zero=>show λ{ps a} hl _ k=>by ext cX;rw[Xu<|Am hl ∅];show k
   | succ n ih=>
    intro ps a hl hd k
    by_cases h2:↥ps<=2
    .unfold cX;rwa [Xu h2]
    .let#[p,e1,e2]:=CV (rs:=rs) h2;let he:=hd<|Tf h2;rw[e1]at k;let#[a,b,rfl,k1,k2]:=k.cut;rw[e2];show k1.app (ps:=[p]) 8;let#[q,hq,q1,q2]:=rA<|c2 _ he;rw[<-q1];show .one hq (by rw[q1];show(nf he).1.nm) (by rw[q2];show ih (by rw[Eo];lia) (λh=>qQ he h) k2)
  rw[h0.f0];show k.sim λr hr n a k=>8;let#[q,hq,q1,q2]:=rA<|c1 r hr;rw[<-q1];show .one hq (by rw[q1];show n) (by rw[q2];show up _ (Aj _) (λh=>sY hr h) k)
 .let#[z,hz,rfl]:=Ap.mp hr;obtain⟨_,⟨ps,e1,hp,hd,hk⟩,_⟩:=key z hz;let#[_,_,s3,s4]:=sp hp hd;let e:z.1.2=[]:=e;rw[e1]at e;let hl:↥ps<=2:=Ni λk=>by have:=s4 k;rw[e]at this;ext this
  rw[s3 hl]at e;rcases hk with⟨q,hq,k1,k2⟩|k
  .let#[f1,f2]:=fu q hq<|k2.trans e;rw[h0.f0];show#[k1.symm.trans f1,λp hp k=>8];rcases pt p hp _ k with⟨q,hq,k⟩|⟨u,hu,k⟩
   .show f2 q hq k
   .show(nf hu).2.2<|k▸g.f0.2
  .rw[e]at k;show absurd k ∅
 .let#[z,hz,rfl]:=Ap.mp hr;obtain⟨_,⟨ps,e1,hp,hd,hk⟩,_⟩:=key z hz;let#[_,_,s3,s4]:=sp hp hd;let e:z.1.2=[t]:=e;rw[e1]at e;let hl:↥ps<=2:=Ni λk=>by have:=s4 k;rw[e]at this;ext this
  rw[s3 hl]at e;rcases hk with⟨q,hq,_,k2⟩|k
  .show sg q hq t<|k2.trans e
  .rw[e]at k;show absurd k (show ¬(2<=1) by decide)
 .have:=xT (l:=namesOf rs++i8 rs) λr hr=>(nk r hr).2;rw[Ag,fe.len]at this;show this
end
def Dn.rt(h:Dn rs ps row):∃k us,RT isNameB rs k ps us row:=by
 induction h with
 | nil=>show#[0,_,.nil]
 | wd n _ E=>
  let#[k,us,x]:=E;show#[k,_,.word n x]
 | nd G n _ _ Q A=>
  let#[i,hi]:=Fu G;let#[k1,Z,x1]:=Q;let#[k2,P,x2]:=A;show#[k1+1+k2,_,.knot n hi (Fm _ _) x1<|x2.mono<|Ln _ _]
def tI.dn{k:Nat}(s:tI U k rs l)(row:↑Av):Dn (aZ l) [f0<|aZ l] row↔Dn rs [f0 rs] row:=by
 show#[λh=>8,s.up row];let#[h,us,x]:=h.rt;let#[w,rfl]:=Mf.mp x.len;let#[_,_,_,y,_]:=s.bk _ _ _ x;show y.dv
abbrev fR:=↑(Av×Nat)
noncomputable def dW(ch:fR):↑(aC×W):=ch.map λe=>(Sum.inr e.1,¬e.2)
structure e8(rs:↑aD)(ch:fR):Prop where
 nd:(ch.map (·.1)).Nodup
 at_:∀(i:Nat) (nm:Av) (k:Nat),ch[i]? = aa (nm,k)->∃r,rs[k]? = aa r/\r.name=nm/\∀p∈r.parts,isNameB p=ab->p∈(ch.take i).map (·.1)
def n6(rs:↑aD)(ch:fR):Prop:=∀r∈rs,(∀p∈r.parts,isNameB p=ab->p∈ch.map (·.1))->r.name∈ch.map (·.1)
section
variable {rs:↑aD}{ch:fR}
def n6.all(h:n6 rs ch)(d:Dn rs ps row):∀p∈ps,isNameB p=ab->p∈ch.map (·.1):=by
 induction d with
 | nil=>show λ_ h=>nomatch h
 | wd n _ E=>show λp B k=>(Bd.mp B).elim (λe=>by rw[e,n]at k;ext k) λz=>E p z k
 | nd G _ _ _ Q A=>show λp B k=>(Bd.mp B).elim (λe=>e▸h _ G Q) λz=>A p z k
def e8.dn(h:e8 rs ch)(K:∀r∈rs,isNameB r.name=ab):∀(i:Nat),∀p∈(ch.take i).map (·.1),∃row,Dn rs [p] row:=by
 intro i
 induction i with
 | zero=>show λ_ h=>nomatch h
 | succ i E=>
  intro p B;rw[Bx,Ar]at B;rcases Az.mp B with B|B
  .show E p B
  .cases e:ch[i]? with
   | none=>rw[e]at B;ext B
   | some x=>
    rw[e]at B;rw[Ae.mp B];let#[r,G,k,O]:=h.at_ i x.1 x.2 e;let J:=Ah G;have:∀qs:↑Av,(∀q∈qs,q∈r.parts)->∃row,Dn rs qs row:=λqs=>by
     induction qs with
     | nil=>show λ_=>#[_,.nil]
     | cons q qs A=>
      intro N;let#[b,y]:=A λz hz=>N z<|.tail _ hz;cases n:isNameB q with
      | false=>show#[_,.wd n y]
      | true=>
       let#[a,x]:=E q<|O q (N q<|.head _) n;show#[_,x.app y]
    let#[row,y]:=this r.parts λ_ h=>h;show#[row,8];change Dn rs [x.1] row;rw[<-k];show .one J (K r J) y
def e8.iff(h:e8 rs ch)(c:n6 rs ch)(K:∀r∈rs,isNameB r.name=ab)(Q:isNameB X=ab):X∈ch.map (·.1)↔∃row,Dn rs [X] row:=by
 show#[λz=>h.dn K ↥ch X<|by rw[Bn];show z,λ#[row,d]=>c.all d X (.head _) Q]
end
structure Gs(rs:↑aD)(ch:fR)(hg sz:Av->Nat)(H S:Nat):Prop where
 wd:∀t,isNameB t=ac->sz t=1
 st:∀e∈ch,∀r,rs[e.2]? = aa r->(∀t∈r.parts,isNameB t=ab->hg t+1<=hg e.1)/\(r.parts.map sz).sum<=sz e.1
 bd:∀e∈ch,1<=hg e.1/\hg e.1<=H/\sz e.1<=S
 s1:1<=S
noncomputable def iG(N:↑Av)(ch:fR)(t:Av):Nat:=((ch.map (·.1)).takeWhile λx=>decide<|x≠t).countP λx=>decide<|x∈N
section
variable {N:↑Av}{ch:fR}{rs:↑aD}{ml:Av->Nat}
def OE(e:ch.map (·.1)=A++t::B)(K:(ch.map (·.1)).Nodup):iG N ch t=A.countP λx=>decide (x∈N):=by
 ext iG;rw[e]at K⊢;rw[List.takeWhile_append_of_pos (p:=λx=>decide<|x≠t) λx S=>Xw λk=>(Cf.mp K).2.2 x S t (.head _) k,List.takeWhile_cons_of_neg<|by rw[Xx λk=>k rfl];decide,Bv]
def OF(h:e8 rs ch){i k:Nat}(hi:ch[i]? = aa (X,k))(ht:t∈(ch.take i).map (·.1)):iG N ch t+(if t∈N then 1 else 0)<=iG N ch X:=by
 let#[A,B,e]:=Rt ht;let hl:=(An.mp hi);let J:ch.map (·.1)=(ch.take i).map (·.1)++X::(ch.drop<|i+1).map (·.1):=by
  conv=>lhs;rw[<-Jz i ch,Eu hl.1,hl.2,Ar,Be]
 rw[OE J h.nd,OE (A:=A) (B:=B++X::(ch.drop<|i+1).map (·.1)) (by rw[J,e,Bs];rfl) h.nd,e,List.countP_append,List.countP_cons];simp only[decide_eq_true_eq];lia
def ziI(h:e8 rs ch)(t:Av):iG N ch t<=↥N:=by
 ext iG;rw[Nq];show len_sub ((h.nd.sublist<|List.takeWhile_sublist _).sublist Jl) λx S=>Xv (Dy.mp S).2
def Ml.gs(m:Ml N ml rs)(h:e8 rs ch)(a:↥N<=04)(hw:∀r∈rs,isNameB r.name=ab):Gs rs ch (λt=>04*iG N ch t+if t∈N then 04 else ml t) (λt=>if isNameB t=ab then(if t∈N then 04 else ml t)*04 ^ (iG N ch t) else 1) 20 1024:=by
 let nm:∀{i X k},ch[i]? = aa (X,k)->1<=ml X/\ml X<=3:=λhi=>by
  let#[r,G,rfl,_]:=h.at_ _ _ _ hi;show#[(m.al r<|Ah G).2.1,(m.al r<|Ah G).2.2.1]
 refine#[λt e=>by rw[Xs<|by rw[e];decide],λe P r G=>8,λe P=>8,by decide]<;>let#[i,hi]:=Fu P
 .let#[g,L,Y,O]:=h.at_ i e.1 e.2 hi;cases (show aa g=aa r from L.symm.trans G);let#[l,c,d,o]:=m.al r<|Ah G;rw[Y]at c d o;let b:∀t∈r.parts,isNameB t=ab->1<=ml t/\ml t<=3:=λt ht n=>by
   let#[x,S,rfl]:=Ap.mp<|O t ht n;let#[j,F]:=Fu<|Ft S;show nm F
  show#[λt ht n=>8,8]
  .let W:=OF (N:=N) h hi<|O t ht n;let U:=b t ht n;split
   .rename_i z;rw[Xu z]at W;split<;>lia
   .rename_i z;rw[Xs z]at W;split
    .lia
    .rename_i y;have:=(o y).2 t ht z n;lia
  .let Q:isNameB e.1=ab:=Y▸hw r (Ah G);rw[Xu Q];let f:∀t∈r.parts,(if isNameB t=ab then(if t∈N then 04 else ml t)*04 ^ (iG N ch t) else 1)<=ml t*04 ^ (iG N ch e.1):=λt ht=>by
    split
    .rename_i n;let W:=OF (N:=N) h hi<|O t ht n;split
     .rename_i z;rw[Xu z]at W;rw[m.one t<|.inl z,Nat.one_mul,<-Nat.pow_succ'];show Jd ∅ W
     .show Gm _<|Jd ∅ (Am (Fm _ _) W)
    .rename_i n;rw[m.one t<|.inr<|Bool.not_eq_true _▸n,Nat.one_mul];show Nat.one_le_pow _ _ ∅
   let sm:∀qs:↑Av,(∀q∈qs,q∈r.parts)->(qs.map λt=>if isNameB t=ab then(if t∈N then 04 else ml t)*04 ^ (iG N ch t) else 1).sum<=(qs.map ml).sum*04 ^ (iG N ch e.1):=λqs=>by
    induction qs with
    | nil=>show λ_=>Cu _
    | cons q qs E=>
     intro T;rw[Be,Be,Nj,Nj,Nat.add_mul];show Ul (f q<|T q<|.head _)<|E λz hz=>T z<|.tail _ hz
   show Am (sm r.parts λ_ h=>h)<|Qv _ 8;split
   .show l
   .rename_i z;show(o z).1
 .let L:=ziI (N:=N) h e.1;let Y:=nm hi;let O:04 ^ (iG N ch e.1)<=256:=Am (Jd ∅ (Am L a)) ∅;show#[by split<;>lia,by split<;>lia,8];let W:(if e.1∈N then 04 else ml e.1)<=04:=by split<;>lia
  split
  .show Am (Fg W O) ∅
  .decide
end
abbrev eV:=↑((Av×Nat)×↑Nat)
noncomputable def gt(S:eV)(k:Av×Nat):↑Nat:=(cB S k).getD []
noncomputable def eI(S:eV):Nat:=(S.map λe=>↥e.2).sum
def iT(S:eV)(row:↑Av):↑Av->Nat->Nat->Prop
 | [],b,e=>e=b
 | p::ps,b,e=>∃m,(if isNameB p=ab then m∈gt S (p,b) else row[b]? = aa p/\m=b+1)/\iT S row ps m e
noncomputable def lG(row:↑Av)(b e:Nat):↑Av:=(row.drop b).take<|e-b
def ziJ{b m e:Nat}(h:b<=m)(k:m<=e):lG row b m++lG row m e=lG row b e:=by
 ext lG;rw[<-Nat.sub_add_sub_cancel k h,Mq<|e-m,List.take_add,Uc,Nat.add_sub_cancel' h]
def tJ(rs:↑aD)(row:↑Av)(S:eV):Prop:=∀p b e,e∈gt S (p,b)->b<=e/\e<=↥row/\Dv isNameB rs [p] (lG row b e)
section
variable {rs:↑aD}{row:↑Av}{S S0:eV}
theorem tJ.en(h:tJ rs row S):∀{ps:↑Av} {b e:Nat},iT S row ps b e->b<=↥row->b<=e/\e<=↥row/\Dv isNameB rs ps (lG row b e)
 | [],b,e,z,Z=>by
  let z:e=b:=z;subst z;show#[Aj _,Z,by ext lG;rw[Mj];show .nil]
 | p::ps,b,e,#[m,z,k],Z=>by
  have:b<=m/\m<=↥row/\Dv isNameB rs [p] (lG row b m):=by
   split at z
   .show h p b m z
   .rename_i n;let#[z,rfl]:=z;let#[hl,z]:=An.mp z;show#[Fw _,hl,8];ext lG;rw[Nat.add_sub_cancel_left,Eu hl,z];show .wd (Bool.not_eq_true _▸n) .nil
  let#[L,Y,O]:=tJ.en h k this.2.1;show#[Am this.1 L,Y,ziJ this.1 L▸this.2.2.app O]
def xV(rs:↑aD)(row:↑Av)(S:eV):Prop:=∀r∈rs,∀b,b<=↥row->∀e,iT S row r.parts b e->e∈gt S (r.name,b)
def xV.all(h:xV rs row S)(d:Dv isNameB rs ps sub):∀{b:Nat} {post:↑Av},b<=↥row->row.drop b=sub++post->iT S row ps b (b+↥sub):=by
 induction d with
 | nil=>show λ_ _=>rfl
 | @wd t ps sub n _ E=>
  intro b post Z e;let hl:b<↥row:=by
   have:=congrArg Js e;rw[Eo,Ag,Bl]at this;lia
  rw[Eu hl]at e;let e:=Tg e;show#[b+1,by rw[n];show#[An.mpr #[hl,e.1],7],by rw[Bl,<-Ig,Rx];show E hl e.2]
 | @nd r ps a c G n _ _ Q A=>
  intro b post Z e;rw[Bs]at e;let hl:b+↥a<=↥row:=by
   have:=congrArg Js e;rw[Eo,Ag]at this;lia
  show#[b+↥a,by rw[n];show h r G b Z _<|Q Z e,8];rw[Ag,<-Ig];show A hl (by rw[<-Uc,e,List.drop_left])
def ziK(h:tJ rs row S)(k:xV rs row S)(n:isNameB (f0 rs)=ab):↥row∈gt S (f0 rs,0)↔Dv isNameB rs [f0 rs] row:=by
 show#[λz=>8,λd=>8]
 .have:=(h _ _ _ z).2.2;unfold lG at this;rwa [Ub,Sq,Bn]at this
 .let#[m,z,e]:=k.all d (b:=0) (post:=[]) (Cu _) (by rw[Bv];rfl);rw[n]at z;let e:0+↥row=m:=e;rw[<-e,Jb]at z;show z
def CW(k j:Av×Nat)(v:↑Nat):gt (i5 S k v) j=if k=j then v else gt S j:=by
 ext gt;rw[A2];split<;>rfl
def ziL(K:(S.map (·.1)).Nodup)(k:Av×Nat)(q:↑Nat):eI (i5 S k<|gt S k++q)=eI S+↥q:=by
 cases e:cB S k with
 | none=>
  unfold gt eI;rw[v5 e,e,Ar,Tn];simp
 | some l=>
  let#[A,B,rfl]:=qH e;let ne:∀z,z∈A\/z∈B->z.1≠k:=λz hz hk=>by
   rw[Ar,Be,Cf,Dc]at K;rcases hz with hz|hz
   .show K.2.2 _ (Ap.mpr #[z,hz,7]) _ (.head _) hk
   .show K.2.1.1<|Ap.mpr #[z,hz,hk]
  let id:∀C:eV,(∀z∈C,z.1≠k)->∀v,C.map (λe=>if e.1=k then(e.1,v) else e)=C:=λC d v=>by
   rw[Ei (g:=λe=>e) λz hz=>Xs<|d z hz];show List.map_id' C
  unfold gt i5 eI;rw[e,Xu 6,Ar,Be,id A λz hz=>ne z<|.inl hz,id B λz hz=>ne z<|.inr hz,Xu rfl];simp only[Option.getD_some,Ar,Be,Tn,Nj,Ag];lia
theorem xW:∀{S:eV} {e:(Av×Nat)×↑Nat},(S.map (·.1)).Nodup->e∈S->cB S e.1=-e.2
 | x::S,e,K,P=>by
  rw[Be,Dc]at K;ext cB;rw[De];rcases Bd.mp P with rfl|P
  .rw[Xw rfl];rfl
  .rw[Xx λz=>K.1<|Ap.mpr #[e,P,z.symm]];show xW K.2 P
theorem CY(h:∀k,gt S k=gt S0 k):∀{ps:↑Av} {b e:Nat},iT S row ps b e->iT S0 row ps b e
 | [],_,_,z=>z
 | p::ps,b,e,#[m,z,k]=>#[m,by rw[<-h];show z,CY h k]
structure gC(rs:↑aD)(row:↑Av)(S0 S:eV)(dn:aD->Nat->Prop):Prop where
 sd:tJ rs row S
 nd:(S.map (·.1)).Nodup
 ln:∀k,(gt S k).Nodup
 ks:∀k∈S.map (·.1),(∃r∈rs,r.name=k.1)/\k.2<=↥row
 ge:eI S0<=eI S
 eq:eI S=eI S0->(∀k,gt S k=gt S0 k)/\∀r b,dn r b->∀e,iT S0 row r.parts b e->e∈gt S0 (r.name,b)
def gC.step{dn:aD->Nat->Prop}(h:gC rs row S0 S dn){r:aD}{b:Nat}(G:r∈rs)(K:isNameB r.name=ab)(Z:b<=↥row){es:↑Nat}(P:∀e,e∈es↔iT S row r.parts b e)(hd:es.Nodup):
  gC rs row S0 (i5 S (r.name,b)<|gt S (r.name,b)++es.filter λe=>!(decide<|e∈gt S (r.name,b))) λq c=>dn q c\/(q=r/\c=b):=by
 let j:=ziL h.nd (r.name,b)<|es.filter λe=>!(decide<|e∈gt S (r.name,b));show#[λp c e J=>8,8,λk=>8,λk hk=>8,by rw[j];show Am h.ge<|Fm _ _,λz=>8]
 .rw[CW]at J;split at J
  .rename_i f;ext f;rcases Az.mp J with J|J
   .show h.sd _ _ _ J
   .let#[L,Y,O]:=h.sd.en ((P e).mp (Dy.mp J).1) Z;show#[L,Y,.one G K O]
  .show h.sd _ _ _ J
 .cases e:cB S (r.name,b) with
  | none=>
   rw[v5 e,Ar,Cf];show#[h.nd,6,λx U y H z=>by
    rw[Ae.mp H]at z;rw[z,<-gA,e]at U;ext U]
  | some l=>
   ext i5;rw[Xu<|by rw[jO];change(cB S (r.name,b)).isSome=ab;rw[e];rfl,Bp];rw[Ei (g:=(·.1)) λx _=>by change(if _ then _ else _:(Av×Nat)×↑Nat).1=_;split<;>rfl];show h.nd
 .rw[CW];split
  .rename_i f;rw[Cf];show#[h.ln _,hd.sublist Jl,λx U y H z=>by
    have:=(Dy.mp H).2;rw[<-z,Xw U]at this;ext this]
  .show h.ln k
 .have:k∈S.map (·.1)\/k=(r.name,b):=by
   rw[<-gA,A2]at hk;split at hk
   .rename_i e;show .inr e.symm
   .show .inl<|gA.mp hk
  rcases this with hk|rfl
  .show h.ks k hk
  .show#[#[r,G,7],Z]
 .rw[j]at z;let V:↥(es.filter λe=>!(decide<|e∈gt S (r.name,b)))=0:=by have:=h.ge;lia
  let A:=Gz.mp V;let#[L,Y]:=h.eq 9;let sub:∀e,e∈es->e∈gt S (r.name,b):=λe J=>by
   show Xv (by
    cases q:decide (e∈gt S (r.name,b)) with
    | true=>rfl
    | false=>
     have:e∈es.filter λe=>!(decide<|e∈gt S (r.name,b)):=Dy.mpr #[J,by rw[q];rfl];rw[A]at this;ext this)
  show#[λk=>8,λq c N e T=>8]
  .rw[CW,A,Bv];split
   .rename_i f;rw[<-f];show L _
   .show L k
  .rcases N with N|⟨rfl,rfl⟩
   .show Y q c N e T
   .rw[<-L];show sub e<|(P e).mpr<|CY (λk=>(L k).symm) T
def gC.few{dn:aD->Nat->Prop}(h:gC rs row S0 S dn):↥S<=↥rs*(↥row+1):=by
 have:=len_sub (b:=rs.flatMap λr=>(Ci<|↥row+1).map λb=>(r.name,b)) h.nd λk hk=>by
  obtain⟨⟨r,G,e⟩,Z⟩:=h.ks k hk;show Jn.mpr #[r,G,Ap.mpr #[k.2,Fj.mpr<|Kh Z,by rw[e]]]
 rw[Ab]at this;show Am this 8;rw[List.length_flatMap];simp[To,List.sum_replicate_nat]
def gC.bound{dn:aD->Nat->Prop}(h:gC rs row S0 S dn):eI S<=↥rs*(↥row+1)*(↥row+1):=by
 let k:∀e∈S,↥e.2<=↥row+1:=λe P=>by
  let ge:gt S e.1=e.2:=by
   ext gt;rw[xW h.nd P];rfl
  have:=len_sub (b:=Ci<|↥row+1) (h.ln e.1) λx U=>Fj.mpr<|Kh (h.sd _ _ _ U).2.1;rw[ge,Hi]at this;show this
 have:∀T:eV,(∀e∈T,↥e.2<=↥row+1)->eI T<=↥T*(↥row+1):=λT=>by
  induction T with
  | nil=>show λ_=>Cu _
  | cons e T E=>
   intro K;let L:=E λe P=>K e<|.tail _ P;let Y:=K e<|.head _;unfold eI at L⊢;rw[Be,Nj,Bl,So];lia
 show Am (this S k)<|Qv _ h.few
end
def Inv.thaw(j:Inv X h k H f)(I:Inv X C G t s)(hd:IsDict u)(d:H a=-u)(W:t a=-.frz o u):Inv X C G (aK t a u) s:=by
 let g:∀{b:Ao},t b=ae->aK t a u b=ae:=λ{b} e=>by
  rw[bB (λz=>by rw[z,W]at e;ext e)];show e
 let kk:∀{b:Ao} {v:HO},t b=-v->(∀o u,v≠.frz o u)->aK t a u b=-v:=λ{b v} e ne=>by
  rw[bB (λz=>by rw[z,W]at e;ext e;show ne _ _ rfl)];show e
 let kt:∀b xs,t b=-.tup xs->aK t a u b=-.tup xs:=λb xs e=>kk e λ_ _ z=>nomatch z;let i:∀b y,t b=-.own y->aK t a u b=-.own y:=λb y e=>kk e λ_ _ z=>nomatch z;show#[I.ok,I.os,I.bare,#[I.base.keep,I.base.slot,λb o e n S=>g<|I.base.free b o e n S,I.base.there,λb xs e=>kt b xs<|I.base.tups b xs e,λb o P e=>8,λb ps e=>8],I.loc,I.cell,g I.free,λx c e=>g<|I.freeC x c e,λp B=>8,λb v e=>8,I.len]
 .rw[bB λz=>8]
  .show I.base.frzs b o P e
  .rw[z]at e;rw[j.base.frzs a o P e]at d;ext d;rcases hd with⟨_,z⟩|⟨_,z⟩<;>ext z
 .let#[m,T]:=I.base.tbls b ps e;show#[m,kk T λ_ _ z=>nomatch z]
 .let#[L,Y,O]:=I.pin p B;show#[L,g Y,O]
 .by_cases Z:b=a
  .subst Z;rw[b8]at e;ext e;show(I.hok b _ W).2.stay (λ_ _ _ q=>q) (λc q=>i c b q) kt
  .rw[bB Z]at e;show(I.hok b v e).stay (λ_ _ _ q=>q) (λc q=>i c b q) kt
abbrev tK(i:Nat)(j:aR):aR:=λO M R=>∃a kvs,O[i]? = aa (aa !a)/\M a=-.dT kvs/\j (O.set i<|-.ft kvs) (λ_=>ae) λw _=>∃n,w=¬n/\R (¬n) M
def ziM{K:Ac}{H:Hp}{M:Mm}{G:SV}{O:S3}{i:Nat}{v:V}{w:W}(h:AS K H M G O)(e:G[i]? = aa (-v))(a:AV K H M v w):AS K H M G (O.set i<|-w):=by
 have:=h.set a i;rwa [show G.set i (-v)=G from by
  let#[hi,e]:=An.mp e;rw[<-e];show List.set_getElem_self hi]at this
def ziN{X:Cx}{i:Nat}{e:Ck}{j:aR}(h:E3 X e j):E3 X e (tK i j):=by
 rintro C s G H Q I ⟨O,M,R,m,U,⟨a,kvs,T,J,h'⟩,k⟩;let#[ks,f,q]:=U _ _ J;let#[o,d]:=I.frzD f<|.inr #[_,7];let B:∀{b:Ao},M b=ae->b≠a:=λ{b} e z=>by rw[z,J]at e;ext e
 let go:Go H M (aK H a<|.frz o<|.dT ks) (λ_=>ae):=#[λb xs P=>by rw[bB<|B<|U.noTup P];show P,λb o u P=>by rw[bB<|B<|U.noFrz P];show P,λb o n P=>#[by rw[bB<|B n];show P,7]];let#[v,A,l]:=m.get T;obtain rfl:=l.inv;let as2:AS X.K (aK H a<|.frz o<|.dT ks) (λ_=>ae) G O:=Paired.mapP m λp r z w e=>by
  let#[v,L,Y]:=z w e;show#[v,L,Y.go go]
 show aY (h C s G _ (λv t=>(∀b D,aK H a (.frz o<|.dT ks) b=-D->t b=-D)/\∃n,v=¬n/\R (¬n) M) d #[_,_,_,ziM as2 A<|.ft b8 q.keys<|q.vals.go go,(λb o z=>nomatch z),h',λv E w F g N av #[n,ew,r]=>8]) λv s1 #[x,t,W,c,st,n,y,r]=>8
 .subst ew;obtain rfl:=av.inv;show#[λb o z=>(g.fr b o rfl z).1,n,7,r]
 .subst y;let S:=I.thaw W (.inr #[_,7]) f<|st a _ b8;let stay:∀b u,H b=-u->aK t a (.dT ks) b=-u:=λb u e=>by
   by_cases Z:b=a
   .rw[Z]at e⊢;rw[b8,<-f];show e
   .rw[bB Z];show st b u (by rw[bB Z];show e)
  let V:Go H M (aK t a<|.dT ks) M:=#[λb xs e=>stay b _ e,λb o u e=>stay b _ e,λb o n e=>#[stay b _ e,n]];show#[¬n,_,S,c,k _ _ _ M #[V.hl,λb o e=>8] (λb o e=>8) (¬n) r]
  .let#[u,q]:=(U b o e).has;show#[u,stay b u q]
  .let#[u,q]:=(U b o e).has;show(U b o e).go V<|(stay b u q).trans q.symm
structure mP(rs:↑aD):Prop where
 ne:rs≠[]
 few:↥rs<=20000
 nm:∀r∈rs,c7 r.name
 pt:∀r∈rs,∀p∈r.parts,c7 p\/fD p
 prt:∀r∈rs,↥r.parts<=04
def Gn.tgO(g:Gn U rs)(h:↥rs<=20000):mP rs:=#[g.ne,h,g.hd,λr G p B=>(g.pt r G p B).imp_right λz=>z.1,g.prt]
noncomputable def gZ(S:eV):↑(↑aC×W):=eC (λk:Av×Nat=>[Sum.inr k.1,Sum.inl (k.2:Int)]) (λl:↑Nat=>W.rl<|l.map λ(n:Nat)=>W.int n) S
def rB:aW:=λws M R=>∃p:Av,ws=[.str p]/\(c7 p\/fD p)/\R (.bl<|isNameB p) M
def CZ:aW:=λws M R=>∃(d:W) (ps:↑Av) (ch:fR),ws=[.tup<|ps.map W.str,d]/\(d=.dk (dW ch)\/∃a,d=!a/\M a=-.dK (dW ch))/\(∀p∈ps,c7 p\/fD p)/\↥ps<=04/\
 ∀b:Bool,(b=ab↔∀p∈ps,isNameB p=ab->p∈ch.map (·.1))->R (.bl b) M
def C0:aW:=λws M R=>∃rs:↑aD,ws=[a9 rs]/\mP rs/\∀ch,e8 rs ch->n6 rs ch->h9 (dW ch) M R
noncomputable def kD(hg:Av->Nat)(H:Nat)(b:Int)(t:Av):Nat:=if b<06 then(06-b).toNat+H else hg t
noncomputable def tL(sz:Av->Nat)(S:Nat)(b:Int)(t:Av):Nat:=if b<06 then 2 ^ ((06-b).toNat)*S else sz t
def mQ:Nat->aW
 | 0=>λ_ _ _=>False
 | n+1=>λws M R=>∃(rs:↑aD) (ch:fR) (nm:Av) (q:Ao) (a b:Int) (hg sz:Av->Nat) (H S:Nat),ws=[a9 rs,.dk<|dW ch,.str nm,!q]/\M q=-.lst [¬a,¬b]/\mP rs/\e8 rs ch/\Gs rs ch hg sz H S/\nm∈ch.map (·.1)/\(∀r∈rs,↥r.parts<=2)/\kD hg H b nm<=n+1/\
  ∀w row c d,RT isNameB rs (kD hg H b nm) [nm] [w] row->(∀t∈row,Sh t)->↥row<=tL sz S b nm->b<=d->R w (put M q<|.lst [¬c,¬d])
abbrev iH:aW:=mQ 30
def OG:aW:=λws M R=>∃c:Int,ws=[¬c]/\∀z:Int,R (¬z) M
def OH:aW:=λws M R=>∃(p:Ao) (S:eV) (ps row:↑Av) (b:Nat),ws=[!p,.tup<|ps.map W.str,.rl<|row.map W.str,¬b]/\M p=-.dT (gZ S)/\(∀p∈ps,c7 p\/fD p)/\↥row<=3/\(∀t∈row,Sh t)/\b<=↥row/\↥ps<=04/\(∀k,∀e∈gt S k,e<=↥row)/\(∀k,(gt S k).Nodup)/\
 ∀es:↑Nat,(∀e,e∈es↔iT S row ps b e)->es.Nodup->R (.rl<|es.map λ(n:Nat)=>W.int n) M
def C1:aW:=λws M R=>∃(rs:↑aD) (row:↑Av),ws=[a9 rs,.rl<|row.map W.str]/\mP rs/\↥row<=3/\(∀t∈row,Sh t)/\∀b:Bool,(b=ab↔Dv isNameB rs [f0 rs] row)->R (.bl b) M
def OI:aW:=λws M R=>∃rs:↑aD,ws=[a9 rs]/\mP rs/\(∀r∈rs,↥r.parts<=2)/\mO rs/\xU rs/\R (.bl ab) M
def tM:aW:=λws M R=>(∃t,ws=[.str t]/\R (.bl ac) M)\/∃us,ws=[.tup us]/\R (.bl ab) M
def tN:Nat->aW
 | 0=>λ_ _ _=>False
 | n+1=>λws M R=>∃j rows out,ws=[.tup j,.rl<|rows.map W.rl]/\Pt rows n j out/\↥out<=1000/\aO out M R
abbrev tO:aW:=tN 60
def xX:aW:=λws M R=>∃(backs:↑(↑W)) (w o:W) (m d:Nat),ws=[.rl<|backs.map W.tup,w]/\Fn d backs [o] m [(w,ac)] []/\d<=50/\R o M
def C3:aW:=λws M R=>∃(rs:↑aD) (X:Av) (w:W) (row:↑Av) (h:Nat),ws=[w]/\RT isNameB rs h [X] [w] row/\(∀r∈rs,↥r.parts<=04)/\h<=900000/\↥row<=70000/\aO (row.map W.str) M R
def OJ:aW:=λws M R=>∃(rs:↑aD) (n:Nat) (r:aD) (us:↑W) (row:↑Av) (h:Nat),ws=[a9 rs,.str r.name,gB n us]/\mP rs/\rs[n]? = aa r/\RT isNameB rs h r.parts us row/\R (.bl ab) M
def OL:aW:=λws M R=>∃(rs:↑aD) (X:Av) (w:W) (row:↑Av) (h:Nat),ws=[a9 rs,.str X,w]/\mP rs/\isNameB X=ab/\RT isNameB rs h [X] [w] row/\h<=900000/\R (.bl ab) M
def OM:aW:=λws M R=>∃(rs:↑aD) (w:W) (row:↑Av) (h:Nat),ws=[a9 rs,CA row,w]/\mP rs/\RT isNameB rs h [f0 rs] [w] row/\h<=900000/\↥row<=70000/\(∀t∈row,Sh t)/\R (.bl ab) M
noncomputable abbrev ziO:↑Av:=["part"]
abbrev ziP:aE:=
   (bH<|aG (bZ ac) (vX aH a8)<|vC<|.str "ABCDEFGHIJKLMNOPQRSTUVWXYZ")
noncomputable abbrev ziQ:↑Av:=["parts","chosen"]
abbrev ziR:aE:=
   (bH<|aG (dH ac) (bD<|cV (bM cF aH) (aQ 0) (iX (bL<|aG (bZ ab) aH aM)<|dG<|aP rB<|aH^aB) aH [ae,aa 1])<|d8 aB)
noncomputable abbrev ziS:↑Av:=["rules","chosen","k","number","name","parts","cost"]
abbrev ziT:aE:=
   (aL 1 sE)
abbrev ziU:aE:=
   (cE (nJ<|bG cD (aH^aB)^aB) (aQ 3)
    (aF (eU (vX aH a7)<|eL 3<|bW (aQ 04)<|bW (aQ 05)<|bW (aQ 06) eJ)
   (bY (iX (bL<|aG (bZ ab) bC aM)<|dG<|aP CZ<|cA^aM^aB)
    (eU a7<|gI aM bC)
    cR)))
abbrev ziV:aE:=
   (cE (nJ<|bG cD (aH^aB)^aB) (aQ 2) ziU)
abbrev ziW:aE:=
   (bH aM)
abbrev ziX:aE:=(aF ziT<|aF ziV ziW)
noncomputable abbrev ON:↑Av:=["rules","chosen","name","state","number","some","k","children","part"]
abbrev ziY(iH:aW):aE:=
   (bY (bL<|aG lX (vX a7 aX)<|vI 06)
    (aF (aL 05<|fB aB)
   (aF (cE (nJ<|bG cD (aH^aB)^aB) (aQ 06)
    (bY (iX (bL<|aG (dH ac) (vX (vX aH cQ) a8) aS)<|dG<|aP CZ<|vX (vX aH cQ) aX^aM^aB)
    (bX<|cJ "list" dZ cA<|cQ^aB)
    cR))
   (aF (aL 04<|vX cA<|aG gS (vX a7 a8)<|bG cD<|cA^aB)
   (eU (aG jJ (vX a7 a8)<|bG cD<|cA^aB)<|gI a7 a8))))
    cR)
abbrev OO(iH:aW):aE:=
   (eU (aG cH (vX a7 aX) aX)<|gI a7 aX)
abbrev OP(iH:aW):aE:=
   (aL 07<|fB aB)
abbrev ziZ(iH:aW):aE:=
   (bY (dG<|aP rB<|fA^aB)
    (bX<|cJ "list" dZ cC<|aP iH (aH^aM^fA^a7^aB)^aB)
    (bX<|cJ "list" dZ cC<|fA^aB))
abbrev OQ(iH:aW):aE:=
   (cE (bM cF<|vX (vX aH bC) aX) (aQ 08)<|ziZ iH)
abbrev OR(iH:aW):aE:=
   (bH<|bA<|bC^bG qA (cC^aB)^aB)
abbrev zi0(iH:aW):aE:=(aF (aL 04<|vX aM aS)<|aF (ziY iH)<|aF (OO iH)<|aF (OP iH)<|aF (OQ iH)<|OR iH)
noncomputable abbrev zi1:↑Av:=["cell"]
abbrev zi2:aE:=
   (aF (bY (bL<|aG zN aH<|aG iY (vI 10)<|vI 18)
    (bH<|aG kR aH<|aG iY (vI 10)<|vI 18)
    cR)
   (bH<|aG zJ (aG jN (aP wH<|aH^aX^aB)<|aG iY (vI 10)<|vI 60)<|aP wH<|aH^lU^aB))
noncomputable abbrev zi3:↑Av:=["spans","parts","row","begin","ends","part","more","at","some"]
abbrev zi4:aE:=
   (aL 04<|d8<|a7^aB)
abbrev zi5:aE:=
   (aF (aL 06<|d8 aB)
   (aF (cE (bM cF bC) (aQ 07)
    (aF (bY (j6<|dG<|aP rB<|cA^aB)
    (aL 08<|aG jN (d8<|aG cH cC aX^aB)<|bG MZ<|aG (dH ac) (l7 aS (iO cC)<|iO<|aG cH cC aX) (d8<|cA^aB)^aB)
    (aL 08<|cJ "dict" nM aH<|bA (cA^cC^aB)^d8 aB^aB))
   (aL 06<|aG cH cQ<|bD<|cV (bM cF fA) (aQ 0) (bL<|aG (bZ ab) aH aM) aH [ae,aa 06])))
   (aL 04 cQ)))
abbrev zi6:aE:=
   (cE (bM cF aM) (aQ 05) zi5)
abbrev zi7:aE:=
   (bH bC)
abbrev zi8:aE:=(aF zi4<|aF zi6 zi7)
noncomputable abbrev zi9:↑Av:=["rules","row","spans","many","name","parts","cost","begin","old","ends"]
abbrev zja:aE:=
   (aL 2 kS)
abbrev zjb:aE:=
   (aL 3<|j1 j8 aX)
abbrev zjc:aE:=
   (aF (aL 3<|tK 2<|bG vR<|bD (cV (bM nS aS) (aQ 0) d7 (bG cD<|vX aM aH^aB) [ae,aa 2])^aB)
   (cE (bM jM aH) (eL 3<|bW (aQ 04)<|bW (aQ 05)<|bW (aQ 06) eJ)
    (cE (nJ<|aG cH (bG cD<|aM^aB) aX^aB) (aQ 07)
    (aF (aL 08<|cJ "dict" nM aS<|bA (bC^cC^aB)^d8 aB^aB)
   (aF (aL 09<|aP OH<|aS^cA^aM^cC^aB)
   (eU (aG cH fA<|bD<|cV (bM cF iN) (aQ 0) (bL<|aG (bZ ab) aH aM) aH [ae,aa 08])<|gI aS<|bA<|bC^cC^aB))))))
abbrev zjd:aE:=
   (jL (bL<|aG uZ (tK 2<|bG vR<|bD (cV (bM nS aS) (aQ 0) d7 (bG cD<|vX aM aH^aB) [ae,aa 2])^aB) a7) zjc)
abbrev zje:aE:=
   (bH<|aG (bZ ac) (bG cD<|aM^aB)<|cJ "dict" nM aS<|bA (vX (vX aH a8) a8^a8^aB)^d8 aB^aB)
abbrev zjf:aE:=(aF zja<|aF zjb<|aF zjd zje)
noncomputable abbrev zjg:↑Av:=["told","name","parts","cost"]
abbrev OS:aE:=
   (bY (iX (bL<|aG (dH ac) aS<|bA aB)<|bL<|aG (dH ab) aM<|vX (vX aH a8) a8)
    (bH<|vC<|.bl ac)
    cR)
abbrev zjh:aE:=
   (aF (cE (bM jM aH) (eL 3<|bW (aQ 1)<|bW (aQ 2)<|bW (aQ 3) eJ)
    (aF (bY (oN (bL<|aG uZ (bG cD<|aS^aB) lU)<|iX (bL<|aG (dH ac) (bG cD<|aS^aB) aX)<|dG<|aP rB<|vX aS a8^aB)
    (bH<|vC<|.bl ac)
    cR)
   OS))
   (bH<|vC<|.bl ab))
noncomputable abbrev zji:↑Av:=["child"]
abbrev zjj:aE:=
   (bH<|bG nK<|aH^vC (.ty "tuple")^aB)
noncomputable abbrev zjk:↑Av:=["tree","row","waiting","child"]
abbrev zjl:aE:=
   (aL 1<|fB aB)
abbrev zjm:aE:=
   (aL 2<|fB<|aH^aB)
abbrev zjn:aE:=
   (aF (aL 3<|kQ "list" lZ aS)
   (bY (dG<|aP tM<|a7^aB)
    (bX<|cJ "list" sD aS<|AQ (vX a7 aX)^aB)
    (bX<|cJ "list" dZ aM<|a7^aB)))
abbrev zjo:aE:=
   (jL (dG aS) zjn)
abbrev zjp:aE:=
   (bH aM)
abbrev zjq:aE:=(aF zjl<|aF zjm<|aF zjo zjp)
noncomputable abbrev zjr:↑Av:=["grammar","name","tree","rule"]
abbrev zjs:aE:=
   (bY (oN (j6<|dG<|aP tM<|aS^aB)<|j6<|bL<|AA zL lX a8 (vX aS a8)<|bG cD<|aH^aB)
    (bH<|vC<|.bl ac)
    cR)
abbrev zjt:aE:=
   (aL 3<|vX aH<|vX aS a8)
abbrev zju:aE:=
   (bY (oN (bL<|aG (dH ab) (vX a7 a8) aM)<|bL<|aG (dH ab) (bG cD<|vX a7 aX^aB)<|bG cD<|vX aS aX^aB)
    (bH<|vC<|.bl ac)
    cR)
abbrev zjv:aE:=
   (bH<|bG sC<|bD (cV (AL<|vX a7 aX^vX aS aX^aB) (eL 2<|bW (aQ 0)<|bW (aQ 1) eJ) d7 (nB (aP wC<|aH^aB)<|aG (dH ac) aM aH) [ae,ae])^aB)
abbrev zjw:aE:=(aF zjs<|aF zjt<|aF zju zjv)
noncomputable abbrev zjx:↑Av:=["grammar","name","tree","waiting","pair","knot","parts"]
abbrev zjy:aE:=
   (aL 3<|fB<|bA (aM^aS^aB)^aB)
abbrev zjz:aE:=
   (aF (aL 04<|kQ "list" lZ a7)
   (aF (bY (j6<|dG<|aP OJ<|aH^vX bC a8^vX bC aX^aB)
    (bH<|vC<|.bl ac)
    cR)
   (aF (aL 05<|vX bC aX)
   (aF (aL 06<|vX (vX aH<|vX cA a8) aX)
   (bX<|cJ "list" sD a7<|bD (cV (AL<|cQ^vX cA aX^aB) (eL 2<|bW (aQ 0)<|bW (aQ 1) eJ) (dG<|aP wC<|aH^aB) (bA<|aH^aM^aB) [ae,ae])^aB)))))
abbrev zjA:aE:=
   (jL (dG a7) zjz)
abbrev zjB:aE:=
   (bH<|vC<|.bl ab)
abbrev zjC:aE:=(aF zjy<|aF zjA zjB)
noncomputable abbrev zjD:↑Av:=["grammar","row","tree"]
abbrev zjE:aE:=
   (bH<|pW (aP OL<|aH^aP qN (aH^aB)^aS^aB)<|aG (dH ac) (bD<|aP C3<|aS^aB) aM)
noncomputable abbrev OT:↑Av:=["pieces","rows","told","piece"]
abbrev zjF(tO:aW):aE:=
   (bY (dG<|bG nK<|a7^vC (.ty "int")^aB)
    (bX<|cJ "list" sD aS<|vX aM a7^aB)
    (bY (bL<|aG (dH ac) (vX a7 a8)<|vC<|.str "whole")
    (bX<|cJ "list" dZ aS<|vX a7 aX^aB)
    (bX<|cJ "list" dZ aS<|bA (vX a7 a8^bG qA (bD (aP tO<|vX a7 aX^aM^aB)^aB)^aB)^aB)))
abbrev zjG(tO:aW):aE:=(aF (aL 2<|fB aB)<|aF (cE (bM cF aH) (aQ 3)<|zjF tO)<|bH aS)
noncomputable abbrev zjH:↑Av:=["backs","tree","told","waiting","pair","child","rows"]
abbrev zjI:aE:=
   (aL 2<|fB aB)
abbrev zjJ:aE:=
   (aL 3<|fB<|bA (aM^vC (.bl ac)^aB)^aB)
abbrev zjK:aE:=
   (aF (aL 04<|kQ "list" lZ a7)
   (aF (aL 05<|vX bC a8)
   (bY (j6<|dG<|aP tM<|cA^aB)
    (bX<|cJ "list" dZ aS<|d8 (cA^aB)^aB)
    (bY (dG<|vX bC aX)
    (aF (aL 06<|bD<|cV (bM cF<|vX cA aX) (aQ 0) d7 (kQ "list" lZ aM) [ae,aa 2])
   (bX<|cJ "list" dZ aS<|bD (aP tO<|vX aH (vX cA a8)^AQ cQ^aB)^aB))
    (aF (bX<|cJ "list" dZ a7<|bA (cA^vC (.bl ab)^aB)^aB)
   (bX<|cJ "list" sD a7<|bD (cV (B3<|vX cA aX^aB) (aQ 0) d7 (bA<|aH^vC (.bl ac)^aB) [ae])^aB))))))
abbrev zjL:aE:=
   (jL (dG a7) zjK)
abbrev zjM:aE:=
   (bH<|vX (vX aS a8) a8)
abbrev zjN:aE:=(aF zjI<|aF zjJ<|aF zjL zjM)
noncomputable abbrev zjO:↑Av:=["script","rules","grammar","full","first","plain","second","told","third","words","name","parts","cost","chosen","cell","tree","back","drawn","row"]
abbrev zjP:aE:=
   (aL 1<|bD<|aP J7<|l7 aH (iO aX) (iO<|vI 08)^aG cH aX (vX (bD<|aP sR<|aP wF (aH^a8^aB)^d8 (kO^aB)^aB) a8)^vI 04^aB)
abbrev zjQ:aE:=
   (aL 2<|bD<|aP ME<|bG HQ (aM^aB)^aB)
abbrev zjR:aE:=
   (eU (aP NV<|aS^aB)<|eL 2<|bW (aQ 3)<|bW (aQ 04) eJ)
abbrev zjS:aE:=
   (eU (aP N9<|a7^aB)<|eL 2<|bW (aQ 05)<|bW (aQ 06) eJ)
abbrev zjT:aE:=
   (eU (aP MG<|cA^aB)<|eL 2<|bW (aQ 07)<|bW (aQ 08) eJ)
abbrev zjU:aE:=
   (bY (j6<|dG<|aP OI<|cC^aB)
    (bH<|vC<|.bl ac)
    cR)
abbrev zjV:aE:=
   (aL 09<|d8<|vC (.str "zoe")^aB)
abbrev zjW:aE:=
   (aL 09<|aG cH iN<|bD<|cV (bM cF rZ) (aQ 0) (j6<|dG<|aP rB<|aH^aB) aH [ae])
abbrev zjX:aE:=
   (cE (bM jM aM) (eL 3<|bW (aQ 10)<|bW (aQ 11)<|bW (aQ 12) eJ) zjW)
abbrev zjY:aE:=
   (aL 13<|bD<|aP C0<|cC^aB)
abbrev OU:aE:=
   (aF (aL 17<|bD<|aP sR<|GC^aG cH (d8<|vI 04^aB) (aG jN (d8<|bG cD (iN^aB)^aB) kO)^aB)
   (aF (aL 18<|bD<|cV (bM cF<|l7 GF (iO aX)<|iO<|aG cH aX<|vX GF a8) (aQ 0) d7 (vX aM aH) [ae,aa 09])
   (bY (bL<|aG (dH ab) (aP C1<|cC^GG^aB)<|aP C1<|aM^GG^aB)
    (bH<|vC<|.bl ac)
    cR)))
abbrev zjZ:aE:=
   (aF (bY (bL<|aG (bZ ac) (vX (vX cC a8) a8) zF)
    (aF (aL 15<|aP iH<|cC^zF^vX (vX cC a8) a8^fB (aP OG (GC^aB)^a8^aB)^aB)
   (aF (aL 16<|aP xX<|bC^aP xX (cQ^aP xX (fA^GD^aB)^aB)^aB)
   (bY (j6<|dG<|aP OM<|aS^bD (aP C3<|GD^aB)^YT^aB)
    (bH<|vC<|.bl ac)
    cR)))
    cR)
   OU)
abbrev zj0:aE:=
   (cE (bM cF<|aG cH (d8<|a8^aB)<|l7 aH (iO<|vI 08)<|iO<|vI 11) (aQ 14) zjZ)
abbrev zj1:aE:=
   (bH<|pW (aG (dH ac) aS aM)<|aG (dH ac) (aG (bZ ac) (vX (vX cC a8) a8) zF)<|aG (bZ ac) (vX (vX aM a8) a8)<|bD<|aP C0<|aM^aB)
abbrev zj2:aE:=(aF zjP<|aF zjQ<|aF zjR<|aF zjS<|aF zjT<|aF zjU<|aF zjV<|aF zjX<|aF zjY<|aF zj0 zj1)
theorem zj3:bE tM zjj zji:=by
 rintro _ M R (⟨t,rfl,r⟩|⟨us,rfl,r⟩)
 .show zbc.mpr #[_,aV,r]
 .show zbd.mpr #[_,aV,r]
theorem zj4{n:Nat}:bE (tN<|n+1) (zjG<|tN n) OT:=by
 rintro _ M R ⟨j,rows,out,rfl,B,hl,r⟩;show λq N=>8;show c8 (λi O F=>∃acc rest o,O=[-.tup j,-.rl (rows.map W.rl),aa !q,o]/\F=put M q (.lst acc)/\out=acc++rest/\Pt rows n (j.drop i) rest) #[[],out,ae,7,7,7,B] 8 8
 .rintro i w O F hw ⟨acc,rest,o,rfl,rfl,e,h⟩ D I;let#[hi,rfl]:=An.mp hw;rw[Eu hi]at h;rw[e,Ag]at hl;generalize S:j[i]=x at h⊢;generalize j.drop (i+1)=tl at h I;cases h with
  | @slot _ k u _ s hk h=>
   rw[Ag]at hl;show zbb.mpr 8;show#[dP aI,so.of (a:=W.rl u) (g9<|by rw[Au,hk];rfl) #[acc,aI,small 9,8]];rw[bV];show I _ _ #[acc++u,s,_,7,7,by rw[e,Bs],h]
  | @whole _ T _ s h=>
   rw[Bl]at hl;show IA.mpr #[dP aI,acc,aI,cS 9,8];rw[bV];show I _ _ #[acc++[T],s,_,7,7,by rw[e,Bs];rfl,h]
  | @knot d m us _ a b g L Y=>
   rw[Bl]at hl;show IA.mpr<|nL (x:=¬m) (y:=.str "whole") 1 ∅ trivial (show Rq ("whole" : Av)=ab by decide +kernel) λc hc=>bN (b:=c) (λz=>absurd (hc.mp z) λh=>nomatch h) λ_=>#[dP aI,us,rows,a,7,L,9,aO.frz #[acc,aI,cS 9,8]];rw[bV];show I _ _ #[acc++[gB m a],b,_,7,7,by rw[e,Bs];rfl,Y]
 .rintro O F ⟨acc,rest,o,rfl,rfl,e,h⟩;rw[Sz]at h;ext h;rw[Bv]at e;show#[_,aV,by rw[e]at r;show r q N]
theorem zj5:∀ws M R,tM ws M R->↥ws=1:=by rintro ws M R (⟨_,rfl,_⟩|⟨_,rfl,_⟩)<;>rfl
theorem zj6:∀n ws M R,tN n ws M R->↥ws=2
 | 0,_,_,_,h=>h.elim
 | n+1,_,_,_,#[_,_,_,e,_]=>by rw[e];rfl
noncomputable def C4(x:W×Bool):W:=.tup [x.1,.bl x.2]
theorem zj7{us:↑W}{t:Ao}{keep:Mm->Prop}{o:Option W}{N:↑W->Mm}{A L:↑W}{R:K3}(a:∀l,N l t=-.lst l)(B:∀l U,put (N l) t (.lst U)=N U)(hl:↥L=↥us)(D:↥us<=100)(hk:∀M,keep M)(r:R (.rl L.reverse)<|N A):
  fU us keep (aQ 0) d7 (kQ "list" lZ<|cG 1) [o,aa !t] (N<|A++L) λw F=>frz w F R:=by
 ext fU;intro p m;let c:∀l,N l p=ae:=λl=>by
  let e:p≠t:=λe=>by rw[e,a]at m;ext m
  rw[<-B (A++L) l,aT e];show m
 let b:t≠p:=λe=>by rw[<-e,a]at m;ext m
 show#[λi O acc M=>∃o,O=[o,aa !t]/\acc=L.reverse.take i/\M=N (A++L.take (↥L-i)),#[_,7,7,by rw[Sq,Bn]],λ_ _ _ _ _ _ _ _=>hk _,8,8]
 .rintro vs i w O acc M hw d ⟨o,rfl,rfl,rfl⟩;let hi:=(An.mp hw).1;obtain⟨x,S⟩:∃x,L[↥L-(i+1)]? = aa x:=#[_,Bh 9];let T:L.take (↥L-i)=L.take (↥L-(i+1))++[x]:=by rw[show ↥L-i=↥L-(i+1)+1 from(Oj<|Nat.sub_pos_of_lt<|hl▸hi).symm,Bx,S];rfl
  let J:L.reverse.take (i+1)=L.reverse.take i++[x]:=by rw[Bx,Mu 9,Nat.sub_sub,Mq 1 i,S];rfl
  let ht:∀{o:MO},put (N<|A++L.take (↥L-i)) p o t=-.lst ((A++L.take (↥L-(i+1)))++[x]):=by intro o;rw[aT b,a,T,Bs]
  show#[dP ht,_,_,ht,by rw[aT<|Cs b,aI],cS<|by rw[Ct,Ec];lia,N<|A++L.take (↥L-(i+1)),8,_,7,J.symm,7];rw[lQ<|Cs b,iW<|by rw[B];show c _,B];show aV
 .rintro O acc M d ⟨o,rfl,rfl,rfl⟩;rw[<-hl,Mj,List.take_zero,Bv,<-Ec,Bn];show aO.frz r p<|c _
theorem zj8:bE xX zjN zjH:=by
 rintro _ M R ⟨backs,w,o,m,d,rfl,hf,hd,r⟩;show λt ht=>λq J=>8;let b:q≠t:=λe=>by rw[e,aI]at J;ext J
 let k:M q=ae:=by rw[aT b]at J;show J
 let c:∀{A B:MO},put (put M t A) q B t=-A:=λ{A B}=>by rw[aT<|Cs b,aI]
 let i:∀{A p B:MO},put (put (put M t A) q B) t p=put (put M t p) q B:=λ{A p B}=>by rw[lQ b,bV]
 show mH (λm U F=>∃S T y K H,U=[-.rl (backs.map W.tup),-w,aa !t,aa !q,y,K,H]/\F=put (put M t<|.lst<|T.map W.rl) q (.lst<|S.map C4)/\Fn d backs [o] m S T) #[m,[(w,ac)],[],_,_,_,7,7,hf] 8;rintro m U F ⟨S,T,y,K,H,rfl,rfl,f⟩ D I;show .inl #[_,aI,bN (λh=>8) λh=>8]
 .cases f with
  | done=>ext h
  | @word m S _ x hl f=>
   rw[Ar];show#[dP aI,_,_,aI,8];rw[bV];show .inl #[x,7,dP c,_,c,cS<|by rw[Ab];lia,8];rw[i];show I _ _ _ (Eb _) #[S,T++[[.str x]],_,_,_,7,by rw[Ar];rfl,f]
  | @down m n S _ us hl f=>
   rw[Ar];show#[dP aI,_,_,aI,8];rw[bV];show .inr #[_,7,dP aI,_,aI,cS<|by rw[Ab];lia,8];rw[bV];show#[dP aI,_,7,8];show l8 (rest:=[]) (λw=>.tup [w,.bl ac]) (small<|by rw[Ec];lia) (λ_ _=>trivial) (λw hw F C sb O=>O)<|aO.frz #[_,aI,small<|by simp only[Ag,Ab,Ec,Bl,Iw];lia,8];rw[bV];show I _ _ _ (Eb _) #[_,T,_,_,_,7,by rw[Ar,Ar,Bp];rfl,f]
  | @up m n S T rows us j u hl O Y Q v s f=>
   rw[Ar,Ar];show#[dP aI,_,_,aI,8];rw[bV];show .inr #[_,7,8];show zj7 (t:=t) (N:=λl=>put (put M t<|.lst l) q<|.lst<|S.map C4) (A:=T.map W.rl) (L:=rows.map W.rl) (λ_=>c) (λ_ _=>i) (by rw[Ab];show O) Y (λ_=>trivial) 8;show#[dP c,so.of (show bP [W.int n,W.tup us] 0=aa (¬n) from rfl)<|so.of (a:=W.tup j) (g9<|by rw[Au,Q];rfl) 8];show#[j,rows,u,by rw[List.reverse_reverse],v.mono<|Am hd ∅,9,aO.frz #[_,c,cS<|by rw[Ab];lia,8]];rw[i];show I _ _ _ (Eb _) #[S,T++[u],_,_,_,7,by rw[Ar];rfl,f]
 .cases f with
  | done=>show lY c (show bP [W.rl [o]] 0=aa (.rl [o]) from rfl) (so.of (show bP [o] 0=aa o from rfl) #[_,(Sub.new ht).trans<|Sub.new<|by rw[aT b];show k,r])
  | word|down|up=>rw[Ar]at h;revert h;cases Sg C4 _<;>intro h<;>ext h
theorem xY{M:Mm}{A B:Mm->Prop}(h:B M):uX (.bl ab) M λc I=>if (!(c))=ab then A I else B I:=h
inductive Fr(row:↑Av):Nat->↑W->↑Av->Prop
 | done:Fr row 0 [] row
 | word {m:Nat} {S:↑W} {acc:↑Av} {t:Av}:↥acc<=70000->Fr row m S (acc++[t])->Fr row (m+1) (S++[.str t]) acc
 | knot {m n:Nat} {S us:↑W} {acc:↑Av}:↥S+↥us<=5000000->Fr row m (S++us.reverse) acc->Fr row (m+1) (S++[gB n us]) acc
inductive Fk(rs:↑aD):Nat->↑(Av×W)->Prop
 | done:Fk rs 0 []
 | knot {m n h:Nat} {S:↑(Av×W)} {us:↑W} {r:aD} {a:↑Av}:rs[n]? = aa r->RT isNameB rs h r.parts us a->↥S+↥us<=5000000->Fk rs m (S++(r.parts.zip us).filter λz=>isNameB z.1)->Fk rs (m+1) (S++[(r.name,gB n us)])
section
variable {rs:↑aD}{row:↑Av}
theorem RT.fr(B:∀r∈rs,↥r.parts<=04){h:Nat}{ps a:↑Av}{ws:↑W}(x:RT isNameB rs h ps ws a):∀{m:Nat} {S:↑W} {acc:↑Av},↥S+↥ws+05*h<=5000000->↥(acc++a)<=70000->Fr row m S (acc++a)->∃q,Fr row q (S++ws.reverse) acc:=by
 induction x with
 | nil=>show λ{m S acc} _ _ f=>#[m,by rw[Bv]at f;rw[List.reverse_nil,Bv];show f]
 | @word h t ps c ws _ _ E=>
  intro m S acc y hl f;rw[Ta]at f hl;let#[q,g]:=E (by rw[Bl]at y;lia) hl f;show#[q+1,8];rw[Ke,<-Bs];show .word 8 g;rw[Ag,Ag]at hl;lia
 | @knot h k n r us ws ps a b _ G hk D _ Q A=>
  intro m S acc y hl f;rw[<-Bs]at f hl;let R:=B r<|Ah G;let l:=D.len;rw[Bl]at y;let#[m1,N]:=A (S:=S) (acc:=acc++a) 9 hl f;let#[m2,i]:=Q (S:=S++ws.reverse) (acc:=acc) (by rw[Ag,Ec];lia) (by rw[Ag]at hl;lia) N;show#[m2+1,8];rw[Ke,<-Bs];show .knot (by rw[Ag,Ec];lia) i
theorem RT.fk(B:∀r∈rs,↥r.parts<=04){h:Nat}{ps a:↑Av}{ws:↑W}(x:RT isNameB rs h ps ws a):∀{m:Nat} {S:↑(Av×W)},↥S+↥ws+05*h<=5000000->Fk rs m S->∃q,Fk rs q (S++(ps.zip ws).filter λz=>isNameB z.1):=by
 induction x with
 | nil=>show λ{m S} _ f=>#[m,by rw[List.zip_nil_left,Tq,Bv];show f]
 | @word h t ps c ws n _ E=>
  intro m S y f;rw[Bl]at y;rw[Ih,Ds,Xs<|by change ¬(isNameB t=ab);rw[n];decide];show E 9 f
 | @knot h k n r us ws ps a b nm G hk D _ Q A=>
  intro m S y f;let R:=B r<|Ah G;let l:=D.len;rw[Bl]at y;let#[m1,N]:=Q (S:=S) 9 f;let#[m2,i]:=A (S:=S++[(r.name,gB n us)]) (by rw[Ag,Cd];lia)<|Fk.knot G D 9 N;rw[Ih,Ds,Xu (show isNameB r.name=ab from nm),Ta];show#[m2,i]
theorem RT.two{h:Nat}{ps a:↑Av}{ws:↑W}(x:RT isNameB rs h ps ws a):∀z∈ps.zip ws,isNameB z.1=ab\/z.2=.str z.1:=by
 induction x with
 | nil=>show λ_ h=>nomatch h
 | word _ _ E=>show λz hz=>(Bd.mp hz).elim (λe=>.inr<|by rw[e]) (E z)
 | knot n _ _ _ _ _ E=>show λz hz=>(Bd.mp hz).elim (λe=>.inl<|by rw[e];show n)<|E z
end
noncomputable def xZ(z:Av×W):W:=.tup [.str z.1,z.2]
theorem n8:∀{ps:↑Av} {us:↑W},oR (ps.map W.str) us=(ps.zip us).map xZ
 | [],_=>by cases ‹↑W›<;>rfl
 | _::_,[]=>rfl
 | p::ps,u::us=>congrArg (W.tup [.str p,u]::·) n8
theorem zj9{ws Z:↑W}(h:Dz (λ_ y=>y=W.bl ab) ws Z):Z=bools (ws.map λ_=>ab):=by
 induction h with
 | nil=>rfl
 | cons a _ E=>rw[a,E];rfl
theorem zka:bE OJ zjw zjr:=by
 rintro _ M R ⟨rs,n,ru,us,row,h,rfl,g,c,G,r⟩;let hk:=(An.mp c).1;let#[i,L,Y]:=jQ hk;cases (show aa i=aa ru from L.symm.trans c);let J:=Ah c;let A:=g.prt ru J;let f:bP [W.int n,W.tup us] 0=aa (¬n):=rfl;show .inr #[_,7,xY<|so.of f<|bN (b:=decide<|(0:Int)<=n) (λ_=>bN (b:=!(decide<|(n:Int)<↥(rs.map bK))) (λz=>8) λ_=>id<|so.of Y<|bN (b:=!(decide<|ru.name=ru.name)) (λz=>8) λ_=>bN (b:=!(decide<|(↥(ru.parts.map W.str):Int)=↥us)) (λz=>8) λ_=>8) λz=>8]
 .rw[Xw<|by rw[Ab];lia]at z;ext z
 .rw[Xw rfl]at z;ext z
 .rw[Xw<|by rw[Ab,G.len]]at z;ext z
 .show#[by rw[Ab,G.len],8];show HW (rest:=[]) (λ_ y=>y=W.bl ab) (λw hw=>8) (small<|by rw[n8,Ab,Tp];lia) (λ_ _=>trivial) (λa b hw F C sb L=>8) λZ U=>aO.frz 8
  .rw[n8]at hw;let#[z,_,rfl]:=Ap.mp hw;show#[_,_,7]
  .rw[n8]at hw;obtain⟨⟨p,u⟩,hz,e⟩:=Ap.mp hw;ext e;let B:=(Lh hz).1;let l:Sh p:=lC<|g.pt ru J p B;show#[p,7,Am l.len ∅,bN (b:=isNameB p) (λ_=>L _ rfl) λK=>8];let e:u=.str p:=(G.two _ hz).resolve_left (by change ¬(isNameB p=ab);rw[K];decide);subst e;show L _ (by rw[Xw rfl];rfl)
  .rw[zj9 U];show#[_,7,_,aV,8];rw[Mi,show(oR (ru.parts.map W.str) us).all (id ∘ λ_=>ab)=ab from Fl.mpr λ_ _=>rfl];show r
 .show absurd (Lv n)<|of_decide_eq_false z
theorem zkb:bE C3 zjq zjk:=by
 rintro _ M R ⟨rs,X,w,row,h,rfl,x,V,hh,hl,r⟩;let#[m,f]:=x.fr (row:=row) V (m:=0) (S:=[]) (acc:=[]) (by change 0+1+_<=_;lia) hl .done;show λt ht=>λq N=>8;let b:q≠t:=λe=>by rw[e,aI]at N;ext N
 let k:M q=ae:=by rw[aT b]at N;show N
 let c:∀{A B:MO},put (put M t A) q B t=-A:=λ{A B}=>by rw[aT<|Cs b,aI]
 let i:∀{A p B:MO},put (put (put M t A) q B) t p=put (put M t p) q B:=λ{A p B}=>by rw[lQ b,bV]
 show mH (λm O F=>∃S acc o,O=[-w,aa !t,aa !q,o]/\F=put (put M t<|.lst<|acc.map W.str) q (.lst S)/\Fr row m S acc) #[m,[w],[],_,7,7,f] 8;rintro m O F ⟨S,acc,o,rfl,rfl,f⟩ D I;show .inl #[_,aI,bN (λh=>8) λh=>8]
 .cases f with
  | done=>ext h
  | @word m S _ t' g f=>
   show#[dP aI,_,_,aI,8];rw[bV];show .inl #[t',7,dP c,_,c,cS<|by rw[Ab];lia,8];rw[i];show I _ _ _ (Eb _) #[S,acc++[t'],_,7,by rw[Ar];rfl,f]
  | @knot m n S us _ l f=>
   show#[dP aI,_,_,aI,8];rw[bV];show .inr #[_,7,dP aI,_,aI,small<|by rw[Ec];lia,8];rw[bV];show I _ _ _ (Eb _) #[_,acc,_,7,7,f]
 .cases f with
  | done=>show#[_,Sub.new<|by rw[aT b];show k,r t ht]
  | @word m S=>revert h;cases S<;>intro h<;>ext h
  | @knot m n S=>revert h;cases S<;>intro h<;>ext h
theorem zkc:bE OL zjC zjx:=by
 rintro _ M R ⟨rs,X,w,row,h,rfl,g,Q,x,hh,r⟩;let#[m,f]:=x.fk g.prt (m:=0) (S:=[]) (by change 0+1+_<=_;lia) .done;rw[show([X].zip [w]).filter (λz=>isNameB z.1)=[(X,w)] by change Qj _ [(X,w)]=_;rw[Ds,Xu Q];rfl]at f;show λq N=>8;show mH (λm O F=>∃S y d H,O=[-a9 rs,-.str X,-w,aa !q,y,d,H]/\F=put M q (.lst<|S.map xZ)/\Fk rs m S) #[m,[(X,w)],_,_,_,7,7,f] 8;rintro m O F ⟨S,y,d,H,rfl,rfl,f⟩ D I;show .inl #[_,aI,bN (λh=>8) λh=>8]
 .cases f with
  | done=>ext h
  | @knot m n h' S us ru a c G U f=>
   let#[i,L,Y]:=jQ (An.mp c).1;cases (show aa i=aa ru from L.symm.trans c);let J:=Ah c;let A:=g.prt ru J;rw[Ar];show#[dP aI,_,_,aI,8];rw[bV];show#[rs,n,ru,us,a,h',7,g,c,G,xY<|so.of Y #[dP aI,8]];show#[by rw[Ab,G.len],8];show vK (rest:=[]) (λw o=>∃p u,w=.tup [.str p,u]/\o=if isNameB p=ab then aa w else ae) (λw hw=>8) (small<|by rw[n8,Ab,Tp];lia) (λ_ _=>trivial) (λa b hw F C Dn sb L Y=>8) λos po=>aO.frz 8
   .rw[n8]at hw;let#[z,_,rfl]:=Ap.mp hw;show#[_,_,7]
   .rw[n8]at hw;obtain⟨⟨p,u⟩,hz,e⟩:=Ap.mp hw;ext e;let U:Sh p:=lC<|g.pt ru J p (Lh hz).1;show#[p,7,Am U.len ∅,bN (b:=isNameB p) (λK=>L _ #[p,u,7,by rw[Xu K]]) λK=>Y #[p,u,7,by rw[Xs<|by rw[K];decide]]]
   .let e:os.filterMap id=((ru.parts.zip us).filter λz=>isNameB z.1).map xZ:=by
     rw[n8]at po
     revert po
     generalize ru.parts.zip us=l;intro po
     induction l generalizing os with
     | nil=>ext po;rfl
     | cons z l E=>
      cases po with
      | cons a b=>
       let#[p,u,T,rfl]:=a;ext T;rw[Ds,Ej];split<;>simp_all
    rw[e];show#[_,aI,small<|by rw[Ab,Ab];have:=Fc (λz:Av×W=>isNameB z.1)<|ru.parts.zip us;rw[Tp]at this;have:=G.len;lia,8];rw[bV];show I _ _ _ (Eb _) #[_,_,_,_,7,by rw[Ar],f]
 .cases f with
  | done=>show#[_,Sub.new N,r]
  | knot=>rw[Ar]at h;revert h;cases Sg xZ _<;>intro h<;>ext h
theorem zkd:bE OM zjE zjD:=by
 rintro _ M R ⟨rs,w,row,h,rfl,g,x,hh,hl,hw,r⟩;let#[G,l,C]:=Ep g.ne;let E:f0 rs=G.name:=by rw[C];rfl
 show#[G,l,by rw[C];rfl,rs,f0 rs,w,row,h,by rw[E],g,by rw[E];show(g.nm G<|by rw[C];show .head _).nm,x,hh,8];show#[rs,f0 rs,w,row,h,7,x,g.prt,hh,hl,aO.frz<|HV (neg:=ac) 2 ∅ (λw N=>8) rfl #[_,aV,r]];let#[t,ht,rfl]:=Ap.mp N;show oW (hw t ht).asc
theorem zke{p:Av}(h:c7 p\/fD p):∃c rest,cs p=c::rest/\decide (c∈cs gG)=isNameB p:=by
 rcases h with h|h
 .let#[c,r,e,m]:=h.hd;show#[c,r,e,by rw[h.nm];show Xw m]
 .cases e:cs p with
  | nil=>show absurd e h.ne
  | cons c r=>
   show#[c,r,7,8];rw[y7 h.ne h.sm];let key:∀c∈cs kM,c∉cs gG:=5
   show Xx (key c<|h.sm c<|by rw[e];show Bj)
theorem zkf:bE rB ziP ziO:=by
 rintro _ M R ⟨p,rfl,B,r⟩;let#[c,rest,e,hc]:=zke B;show#[small<|Am (lC B).len ∅,so.of (o:=bP p.cps.toList 0) (a:=c) (by rw[show p.cps.toList=c::rest from e];show l9 _ _) 8];rw[<-hc]at r;show#[_,aV,8];change R (.bl<|occ #[[c].toArray] gG) M;rw[KJ];show r
theorem OV(ch:fR)(p:Av):aN (dW ch) (Sum.inr p:aC)=(cB ch p).map λn=>W.int (n:Nat):=by
 unfold dW aN cB
 induction ch with
 | nil=>rfl
 | cons e c ih=>
  rw[Be,De,De]
  by_cases h:e.1=p
  .rw[Xw h,Xw (show(Sum.inr e.1:aC)=Sum.inr p by rw[h])];rfl
  .rw[Xx h,Xx (λz:(Sum.inr e.1:aC)=Sum.inr p=>h<|Sa z)];show ih
theorem rC{ch:fR}{p:Av}:(aN (dW ch) (Sum.inr p:aC)).isSome=decide (p∈ch.map (·.1)):=by
 rw[OV,Lw,Ef,decide_eq_true_iff,gA]
theorem zkg:bE CZ ziR ziQ:=by
 rintro _ M R ⟨c,ps,ch,rfl,e,B,hl,r⟩;let v:∀(F:Mm) (x:Av) (Q:K3),L2.Sub M F->Q (.bl<|!(decide<|x∈ch.map (·.1))) F->bZ ab (.str x) c F Q:=λF x Q sb h=>by
  rw[<-rC]at h;rcases e with rfl|⟨a,rfl,S⟩
  .show#[_,#[.inr x,7,7],h]
  .show .inr #[_,.inl #[_,.inr x,sb _ _ S,7,7],h]
 show vJ (rest:=[-c]) (λw=>match w with|.str p=>if isNameB p=ab/\p∉ch.map (·.1) then aa (.str p) else ae|_=>ae) (small<|by rw[Ab];lia) (λ_ _=>trivial) (λw hw F C D sb L Y=>8)<|aO.frz 8
 .let#[p,d,rfl]:=Ap.mp hw;show v F p _ sb (bN (λJ=>#[p,7,B p d,bN (b:=isNameB p) (λK=>L _<|Xu #[K,of_decide_eq_false<|by rw[<-Ge (decide _),J];rfl]) λK=>Y (Xs λz=>by rw[z.1]at K;ext K)]) λJ=>Y (Xs λz=>by rw[Xx z.2]at J;ext J))
 .show nL 2 ∅ (λw hw=>8) (λw hw=>nomatch hw) λb Z=>#[_,aV,r b 8]
  .let#[z,hz,e]:=Lp.mp hw;let#[p,d,rfl]:=Ap.mp hz;let e:(if isNameB p=ab/\p∉ch.map (·.1) then aa (W.str p) else ae)=-w:=e;split at e
   .ext e;show oW (lC<|B p d).asc
   .ext e
  .rw[Z];change W.rl _=W.rl []↔_;rw[W.rl.injEq,List.filterMap_eq_nil_iff];constructor
   .intro h p d K;have:(if isNameB p=ab/\p∉ch.map (·.1) then aa (W.str p) else ae)=ae:=h (.str p)<|Ap.mpr #[p,d,7];show Fz λJ=>by rw[Xu #[K,J]]at this;ext this
   .intro h w hw;let#[p,d,rfl]:=Ap.mp hw;show Xs λz=>z.2<|h p d z.1
theorem zkh:bE OG zi2 zi1:=by
 rintro _ M R ⟨c,rfl,r⟩;let a:pJ 10 18:=#[by decide,by decide,by decide];show#[a,fV (λ_=>#[a,_,aV,r _]) λ_=>#[c,1,7,by decide,by decide,λz Z L=>#[#[by decide,by decide,by decide],.inr #[8,by decide],c,2,7,by decide,by decide,λf _ _=>#[_,aV,r _]]]];have:z.natAbs<2 ^ 250:=by
  let Y:z<2 ^ 250:=Vp L ∅;lia
 show uM this ∅
theorem zki{ch:fR}{p:Av}(h:p∉ch.map (·.1))(k:Nat):bU (dW ch) (Sum.inr p:aC) (.int (k:Nat))=dW (ch++[(p,k)]):=by
 ext bU;rw[Xs<|by rw[show((dW ch).any λkv=>decide<|kv.1=(Sum.inr p:aC))=(aN (dW ch) (Sum.inr p:aC)).isSome from jO _ _,rC,Xx h];decide];ext dW;rw[Ar];rfl
theorem e8.add{rs:↑aD}{ch:fR}{k:Nat}{r:aD}(h:e8 rs ch)(G:rs[k]? = aa r)(K:r.name∉ch.map (·.1))(B:∀p∈r.parts,isNameB p=ab->p∈ch.map (·.1)):e8 rs (ch++[(r.name,k)]):=by
 show#[8,λi nm Y e=>8]
 .rw[Ar,Cf];show#[h.nd,6,λa S b Z z=>K<|by rw[z,Ae.mp Z]at S;show S]
 .rcases Nat.lt_trichotomy i ↥ch with hi|rfl|hi
  .rw[Oo hi]at e;rw[List.take_append_of_le_length<|Hk hi];show h.at_ i nm Y e
  .rw[Ii<|Aj _,Mj]at e;ext e;rw[Tj]
   .show#[r,G,7,B]
   .rfl
  .rw[Hu<|by rw[Ag];show hi]at e;ext e
theorem e8.sub{rs:↑aD}{ch:fR}(h:e8 rs ch):∀x∈ch.map (·.1),x∈namesOf rs:=λx S=>by
 let#[e,P,rfl]:=Ap.mp S;let#[i,hi]:=Fu P;let#[r,G,en,_]:=h.at_ i e.1 e.2 hi;show gU.mpr #[r,Ah G,en]
theorem e8.few{rs:↑aD}{ch:fR}(h:e8 rs ch):↥ch<=↥(namesOf rs):=by
 have:=len_sub h.nd h.sub;rwa [Ab]at this
theorem e8.full{rs:↑aD}{ch:fR}(h:e8 rs ch)(k:↥rs<=↥ch):n6 rs ch:=λr G _=>Fz λz=>by
 have:=len_sub (a:=r.name::ch.map (·.1)) (Dc.mpr #[z,h.nd]) λx S=>(Bd.mp S).elim (λe=>e▸gU.mpr #[r,G,7])<|h.sub x;let Y:=w4 rs;rw[Bl,Ab]at this;lia
theorem zkj:bE C0 ziX ziS:=by
 rintro _ M R ⟨rs,rfl,g,r⟩;let hf:=g.few;let hl:↥(rs.map bK)=↥rs:=Ab _;let bd : -(2 ^ 62)<=(↥(rs.map bK):Int)/\(↥(rs.map bK):Int)<2 ^ 62:=by rw[hl];lia
 show λp hp=>#[_,7,bd.1,bd.2,8]
 show c8 (λi τ M'=>∃ch o2 o3 o4 o5 o6,τ=[-a9 rs,aa !p,o2,o3,o4,o5,o6]/\M'=put M p (.dK<|dW ch)/\e8 rs ch/\(n6 rs ch\/i<=↥ch)) #[[],_,_,_,_,_,7,7,#[Gu,λ_ _ _ h=>nomatch h],.inr<|Aj _] 8 8
 .rintro i w τ M' hw ⟨c0,o2,o3,o4,o5,o6,rfl,rfl,hc0,k0⟩ D hD;show#[_,7,bd.1,bd.2,c8 (λj τ M'=>∃ch o2 o3 o4 o5 o6,τ=[-a9 rs,aa !p,o2,o3,o4,o5,o6]/\M'=put M p (.dK<|dW ch)/\e8 rs ch/\((ch=c0/\∀r∈rs.take j,(∀p∈r.parts,isNameB p=ab->p∈c0.map (·.1))->r.name∈c0.map (·.1))\/(¬(n6 rs c0)/\↥c0<↥ch))) #[c0,_,_,_,_,_,7,7,hc0,.inl #[7,λ_ h=>nomatch h]] 8 8]
  .rintro j w τ M' hw ⟨ch,o2,o3,o4,o5,o6,rfl,rfl,hc,kc⟩ D' hD';let#[hj,rfl]:=qP hw;rw[Cq,hl]at hj;let#[ru,h1,h2]:=jQ hj;rw[Oe];let hm:=Ah h1;let cl:=hc.few;let cn:=w4 rs;let no:(ch=c0->(∀p∈ru.parts,isNameB p=ab->p∈c0.map (·.1))->ru.name∈c0.map (·.1))->(ch=c0/\∀r∈rs.take (j+1),(∀p∈r.parts,isNameB p=ab->p∈c0.map (·.1))->r.name∈c0.map (·.1))\/(¬(n6 rs c0)/\↥c0<↥ch):=λz=>kc.imp_left λ#[e,k]=>#[e,λr hr=>by
    rw[Bx,h1]at hr;show(Az.mp hr).elim (k r) λq=>by rw[Ae.mp q];show z e]
   show so.of h2 #[7,7,.inr #[_,.inl #[dW ch,.inr ru.name,aI,7,7],8]];change if (!((aN (dW ch) (Sum.inr ru.name:aC)).isSome))=ab then _ else _;rw[rC];show bN (λy1=>#[_,ru.parts,ch,7,.inr #[p,7,aI],g.pt ru hm,g.prt ru hm,λb hb=>bN (b:=b) (λy2=>8) λy2=>hD' _ _ #[ch,_,_,_,_,_,7,7,hc,no λe k=>absurd (hb.mpr<|e▸k)<|by rw[y2];decide]]) λy1=>hD' _ _ #[ch,_,_,_,_,_,7,7,hc,no λe _=>e▸Fz λz=>by rw[Xx z]at y1;ext y1];let y1:ru.name∉ch.map (·.1):=of_decide_eq_false (by rw[<-Ge (decide _),y1];rfl);show sM aI (by ext dW;rw[Ab];show cS 9) 8;rw[zki y1,bV];show hD' _ _ #[_,_,_,_,_,_,7,7,hc.add h1 y1<|hb.mp y2,.inr 8];rw[Ag,Cd];rcases kc with⟨e,_⟩|⟨k1,k2⟩
   .rw[<-e];show#[λc=>y1<|c ru hm<|hb.mp y2,Eb _]
   .show#[k1,Je k2]
  .rintro τ M' ⟨ch,o2,o3,o4,o5,o6,rfl,rfl,hc,kc⟩;show hD _ _ #[ch,_,_,_,_,_,7,7,hc,8];rw[pA,Cq,hl,Bn]at kc;rcases kc with⟨rfl,k⟩|⟨k1,k2⟩
   .show .inl k
   .have:=k0.resolve_left k1;show .inr 9
 .rintro τ M' ⟨ch,o2,o3,o4,o5,o6,rfl,rfl,hc,kc⟩;rw[pA,Cq,hl]at kc;show#[_,aV,r ch hc (kc.elim id hc.full) p hp]
section
variable {rs:↑aD}{ch:fR}{hg sz:Av->Nat}{H S:Nat}
theorem Gs.pos(g:Gs rs ch hg sz H S){nm:Av}(h:nm∈ch.map (·.1)){b:Int}:1<=kD hg H b nm:=by
 let#[e,P,rfl]:=Ap.mp h;have:=g.bd e P;ext kD;split<;>lia
theorem Gs.down(g:Gs rs ch hg sz H S){nm t:Av}(h:t∈ch.map (·.1)){b d:Int}(Z:b+1<=d)(k:06<=b->hg t+1<=hg nm):kD hg H d t+1<=kD hg H b nm:=by
 let#[e,P,rfl]:=Ap.mp h;have:=g.bd e P;ext kD;split<;>split<;>lia
theorem p2{n:Nat}:1<=2 ^ (n):=Nat.one_le_pow _ _ ∅
noncomputable def jW(sz:Av->Nat)(S:Nat)(b:Int)(t:Av):Nat:=if b<06 then 2 ^ ((05-b).toNat)*S else sz t
theorem Gs.kid(g:Gs rs ch hg sz H S){t:Av}(h:t∈ch.map (·.1)){b d:Int}(Z:b+1<=d):tL sz S d t<=jW sz S b t:=by
 let#[e,P,rfl]:=Ap.mp h;have:=(g.bd e P).2.2;unfold tL jW;split
 .rw[Xu 9];show Qv _<|Jd ∅ 9
 .split
  .show Am this<|Nat.le_mul_of_pos_left _ p2
  .show Aj _
theorem Gs.word(g:Gs rs ch hg sz H S){t:Av}(h:isNameB t=ac){b:Int}:1<=jW sz S b t:=by
 ext jW;split
 .show Fg (m₁:=1) p2 g.s1
 .rw[g.wd t h];show Aj _
theorem Gs.sum(g:Gs rs ch hg sz H S){ps:↑Av}{nm:Av}{b:Int}(Y:↥ps<=2)(h:06<=b->(ps.map sz).sum<=sz nm):(ps.map<|jW sz S b).sum<=tL sz S b nm:=by
 ext tL;split
 .rename_i z;let e:∀t,jW sz S b t=2 ^ ((05-b).toNat)*S:=λt=>Xu z;let J:(06-b).toNat=(05-b).toNat+1:=9
  rw[J,Vm]
  match ps,Y with
  | [],_=>show Cu _
  | [x],_=>change jW sz S b x+0<=_;rw[e,Nat.mul_right_comm];lia
  | [x,y],_=>change jW sz S b x+(jW sz S b y+0)<=_;rw[e,e,Nat.mul_right_comm];lia
 .rename_i z;rw[show jW sz S b=sz from funext λt=>Xs z];show h 9
end
theorem e8.look{rs:↑aD}{ch:fR}(h:e8 rs ch){rank k:Nat}{nm:Av}(e:ch[rank]? = aa (nm,k)):aN (dW ch) (Sum.inr nm:aC)=-.int (k:Nat):=by
 have:∀{ch:fR},(ch.map (·.1)).Nodup->(nm,k)∈ch->cB ch nm=-k:=λ{ch}=>by
  induction ch with
  | nil=>show λ_ h=>nomatch h
  | cons e c ih=>
   intro hn hm;rw[Be,Dc]at hn;ext cB;rw[De];rcases Bd.mp hm with rfl|hm
   .rw[Xw rfl];rfl
   .rw[Xx λz=>hn.1<|Ap.mpr #[_,hm,z.symm]];show ih hn.2 hm
 rw[OV,this h.nd<|Ah e];rfl
def yA(rs:↑aD)(ch:fR)(nm:Av)(j:Nat):Prop:=∃r,rs[j]? = aa r/\r.name=nm/\∀p∈r.parts,isNameB p=ab->p∈ch.map (·.1)
theorem zkk{n:Nat}:bE (mQ<|n+1) (zi0<|mQ n) ON:=by
 rintro _ M R ⟨rs,ch,nm,q,a,b,hg,sz,H,S,rfl,T,g,hc,gs,hnm,h2p,hlev,r⟩;let hf:=g.few;obtain⟨rank,k,hrk⟩:∃(rank k:Nat),ch[rank]? = aa (nm,k):=by
  let#[e,d,rfl]:=Ap.mp hnm;let#[i,hi]:=Fu d;show#[i,e.2,hi]
 let hke:=Ah hrk;let#[r0,hr0,hn0,hp0]:=hc.at_ rank nm k hrk;let fin:∀(N:Mm) (num:Nat) (ru:aD) (a0:Int) (o5 y:Option W),(∀o,L2.Sub (put M q o)<|put N q o)->N q=-.lst [¬a0,¬b]->rs[num]? = aa ru->ru.name=nm->(∀t∈ru.parts,isNameB t=ab->t∈ch.map (·.1)/\(06<=b->hg t+1<=hg nm))->(06<=b->(ru.parts.map sz).sum<=sz nm)->
   (aF (OO<|mQ n)<|aF (OP<|mQ n)<|aF (OQ<|mQ n)<|OR<|mQ n) (kT R) [-a9 rs,-.dk (dW ch),-.str nm,aa !q,aa ¬num,o5,y,ae,ae] N:=by
  intro N num ru a0 o5 y sb hN B hrn hpt hsm;let J:=Ah B;let v:=g.prt ru J;let#[ru',L,U]:=jQ (rs:=rs) (n:=num) (An.mp B).1;cases (show aa ru'=aa ru from L.symm.trans B);show lY hN (show bP [W.int a0,W.int b] 1=aa (¬b) from rfl)<|AJ hN ∅ 6 λc hcf=>8;let hcq:q≠c:=λz=>by rw[<-z,aI]at hcf;ext hcf
  let hNc:N c=ae:=by rw[aT<|Cs hcq]at hcf;show hcf
  let sw:∀{X Y Z:MO},put (put (put N q X) c Z) q Y=put (put N q Y) c Z:=λ{X Y Z}=>by rw[lQ<|Cs hcq,bV]
  let atq:∀{X Z:MO},put (put N q X) c Z q=-X:=λ{X Z}=>by rw[aT hcq,aI]
  let L1:1<=kD hg H b nm:=gs.pos hnm;show so.of U 8;show c8 (λi O F=>∃cs row a' b' o8,O=[-a9 rs,-.dk (dW ch),-.str nm,aa !q,aa ¬num,o5,y,aa !c,o8]/\F=put (put N q<|.lst [¬a',¬b']) c (.lst cs)/\RT isNameB rs (kD hg H b nm-1) (ru.parts.take i) cs row/\(∀t∈row,Sh t)/\b+1<=b'/\↥row<=((ru.parts.take i).map<|jW sz S b).sum) #[[],[],a0,b+1,_,7,7,.nil,(λ_ h=>nomatch h),Int.le_refl _,Cu _] 8 8
  .rintro i w O F hw ⟨cs,rows,a',b',o8,rfl,rfl,hpr,hsh,hbb,hll⟩ D I;rw[Au]at hw;let#[t,ht,rfl]:=Ay.mp hw;let htm:=Ah ht;let hi:=(An.mp ht).1;let hcl:↥cs<=i:=by rw[hpr.len,Ct];show Nu _ _
   let nx:∀{w:W} {row:↑Av} {a'' b'':Int},RT isNameB rs (kD hg H b nm-1) [t] [w] row->(∀t∈row,Sh t)->↥row<=jW sz S b t->b'<=b''->D.nx [-a9 rs,-.dk (dW ch),-.str nm,aa !q,aa ¬num,o5,y,aa !c,-.str t] (put (put N q<|.lst [¬a'',¬b'']) c<|.lst<|cs++[w]):=λ{w row a'' b''} L l U A=>
    I _ _ #[cs++[w],rows++row,a'',b'',_,7,7,by rw[Bx,ht];show hpr.app L,λu m=>(Az.mp m).elim (hsh u)<|l u,Pw hbb A,by
     rw[Ag,Bx,ht,Ar,Tn];show Ul hll U]
   show#[t,7,g.pt ru J t htm,bN (b:=isNameB t) (λK=>8) λK=>8]
   .let#[L,A]:=hpt t htm K;let ld:=gs.down L hbb A;show#[dP aI,8];cases n with
    | zero=>show absurd (Am ld hlev) (by have:=gs.pos L (b:=b');lia)
    | succ n=>
     show#[rs,ch,t,q,a',b',hg,sz,H,S,7,atq,g,hc,gs,L,h2p,9,λw row a'' b'' P es G E=>8];rw[sw];show#[_,aI,cS 9,8];rw[bV];show nx (P.mono 9) es (Am G<|gs.kid L hbb) E
   .show#[dP aI,_,aI,cS 9,8];rw[bV];show nx (.word K .nil) (λu m=>by rw[Ae.mp m];show lC<|g.pt ru J t htm) (gs.word K)<|Int.le_refl _
  .rintro O F ⟨cs,rows,a',b',o8,rfl,rfl,hpr,hsh,hbb,hll⟩;rw[Ab,Bn]at hll hpr;let kn:=RT.knot (g.nm ru J).nm B (Hw<|Oj L1) hpr .nil;rw[Bv,hrn]at kn;show#[_,aI,_,(sb _).trans<|Sub.new<|by rw[aT<|Cs hcq];show hNc,r _ rows a' b' kn hsh (Am hll<|gs.sum (h2p ru J) hsm) 9]
 show#[_,#[Sum.inr nm,7,(hc.look hrk).symm],8];show lY T (show bP [W.int a,W.int b] 1=aa (¬b) from rfl)<|bN (b:=decide<|b<06) (λy1=>8) λy1=>8
 .show λs l=>8;let hsq:q≠s:=λz=>by rw[<-z,T]at l;ext l
  let hl:↥(rs.map bK)=↥rs:=Ab _;show#[_,7,by rw[hl];lia,by rw[hl];lia,8];show c8 (λi O F=>∃js y,O=[-a9 rs,-.dk (dW ch),-.str nm,aa !q,aa ¬k,aa !s,y,ae,ae]/\F=put M s (.lst<|js.map λ(j:Nat)=>W.int j)/\↥js<=i/\(∀j∈js,yA rs ch nm j)/\∀j,j<i->yA rs ch nm j->j∈js) #[[],_,7,7,Aj _,(λ_ h=>nomatch h),λ_ h=>nomatch h] 8 8
  .rintro i w O F hw ⟨js,y,rfl,rfl,hjl,hj1,hj2⟩ D I;let#[hi,rfl]:=qP hw;rw[Cq,hl]at hi;rw[Oe];let#[ru,L,U]:=jQ hi;let J:=Ah L;let no:¬(yA rs ch nm i)->∀j,j<i+1->yA rs ch nm j->j∈js:=λK j Q C=>(Pd.mp Q).elim (λz=>hj2 j z C) λz=>absurd (z▸C) K;show so.of U<|bN (b:=decide<|ru.name=nm) (λy2=>8) λy2=>I _ _ #[js,_,7,7,9,hj1,no λV=>by let#[x,f,hx2,_]:=V;rw[L]at f;ext f;show of_decide_eq_false y2 hx2];show so.of U #[_,ru.parts,ch,7,.inl rfl,g.pt ru J,g.prt ru J,λb1 hb1=>bN (b:=b1) (λy3=>8) λy3=>I _ _ #[js,_,7,7,9,hj1,no λp=>by let#[x,f,_,hx3]:=p;rw[L]at f;ext f;rw[hb1.mpr hx3]at y3;ext y3]];show#[dP aI,_,aI,cS<|by rw[Ab];lia,8];rw[bV];show I _ _ #[js++[i],_,7,by rw[Ar];rfl,by rw[Ag];show Ea hjl,λj Q=>(Az.mp Q).elim (hj1 j) λz=>by rw[Ae.mp z];show#[ru,L,Xv y2,hb1.mp y3],λj Q C=>(Pd.mp Q).elim (λz=>Bf _<|hj2 j z C) λz=>Bo _<|by rw[z];show .head _]
  .rintro O F ⟨js,y,rfl,rfl,hjl,hj1,hj2⟩;rw[pA,Cq,hl]at hjl hj2;let hkj:=hj2 k (An.mp hr0).1 #[r0,hr0,hn0,λt ht K=>by
    let#[e,d,G]:=Ap.mp<|hp0 t ht K;show Ap.mpr #[e,Ft d,G]]
   let hjp:0<↥js:=Po hkj;let hq2:put M s (.lst<|js.map λ(j:Nat)=>W.int j) q=-.lst [¬a,¬b]:=by rw[aT hsq];show T
   let jl:↥(js.map λ(j:Nat)=>W.int (j:Int))=↥js:=Ab _;let#[w,hw,hwm]:=za9 (xs:=js.map λ(j:Nat)=>W.int (j:Int)) (i:=a) (n:=(↥(js.map λ(j:Nat)=>W.int (j:Int)):Int)) rfl (by rw[jl];lia);let#[num,hnum,rfl]:=Ap.mp hwm;let#[ru,B,hrn,hru2]:=hj1 num hnum;show lY hq2 (show bP [W.int a,W.int b] 0=aa (¬a) from rfl)<|.inl #[_,aI,by rw[jl];lia,lY aI hw 8];show lY hq2 (show bP [W.int a,W.int b] 0=aa (¬a) from rfl)<|.inl #[_,aI,#[by rw[jl];lia,Vp (by rw[jl];lia:_<(2:Int) ^ 20) ∅],AJ hq2 ∅ 6 8];let b6:¬(06<=b):=λz=>absurd (Xv y1) 9;show fin _ num ru _ _ _ (λo=>by rw[bV];show Sub.put<|Sub.new l) aI B hrn (λt ht K=>#[hru2 t ht K,λz=>absurd z b6]) λz=>absurd z b6
 .let#[st1,st2]:=gs.st (nm,k) hke r0 hr0;show fin M k r0 a _ _ (λ_=>aV) T hr0 hn0 (λt ht K=>#[8,λ_=>st1 t ht K]) λ_=>st2;let#[e,d,G]:=Ap.mp<|hp0 t ht K;show Ap.mpr #[e,Ft d,G]
theorem zkl(n:Nat)(ws:↑W)(M:Mm)(R:K3)(h:mQ n ws M R):↥ws=04:=by
 cases n with
 | zero=>show h.elim
 | succ n=>
  let#[_,_,_,_,_,_,_,_,_,_,e,_]:=h;rw[e];rfl
noncomputable abbrev nW(l:↑Nat):↑W:=l.map λ(n:Nat)=>W.int n
theorem OW(l:↑Nat):(nW l).all fL=ab:=by
 rw[Mi];show Fl.mpr λ_ _=>rfl
theorem OX{e:Nat}{l:↑Nat}:inW (¬e) (nW l)=decide (e∈l):=by
 unfold inW nW;rw[Kq,Ef,Gb,decide_eq_true_iff];constructor
 .rintro⟨x,S,h⟩;let h:decide ((x:Int)=e)=ab:=h;rw[<-Int.ofNat_inj.mp (Xv h)];show S
 .show λh=>#[e,h,Xw (p:=(e:Int)=e) rfl]
noncomputable def yB(ms:↑Nat):W->Option W
 | .int i=>if i.toNat∈ms then ae else aa (¬i)
 | _=>ae
theorem OY{xs ms:↑Nat}{keep:Mm->Prop}{o:Option W}{M:Mm}{R:K3}(hl:↥xs<=1000)(hk:∀M,keep M)(r:R (.rl<|nW<|xs.filter λe=>!(decide<|e∈ms)) M):
  fU (nW xs) keep (aQ 0) (bL<|aG (bZ ab) (cG 0)<|cG 1) (cG 0) [o,-.rl (nW ms)] M λw F=>frz w F R:=by
 show vJ (rest:=[-.rl (nW ms)]) (yB ms) (small<|by rw[Ab];lia) (λ_ _=>hk _) (λw hw F C D sb L Y=>8)<|aO.frz 8
 .let#[e,P,rfl]:=Ap.mp hw;show#[7,OW _,8];change if (!(inW (¬e)<|nW ms))=ab then _ else _;rw[OX];show bN (λy=>L _ (Xs λz=>by rw[Xw (show e∈ms from z)]at y;ext y)) λy=>Y (Xu (show e∈ms from Fz λz=>by rw[Xx z]at y;ext y))
 .let e:(nW xs).filterMap (yB ms)=nW (xs.filter λe=>!(decide<|e∈ms)):=by
   clear hl r
   induction xs with
   | nil=>rfl
   | cons x xs E=>
    unfold nW at E⊢;rw[Be,Ej,Ds]
    by_cases h:x∈ms
    .rw[show yB ms (¬x)=ae from Xu h,Xw h];show E
    .rw[show yB ms (¬x)=aa (¬x) from Xs h,Xx h];show congrArg _ E
  rw[e];show r
abbrev pF(S:eV)(row:↑Av)(t:Av)(b m:Nat):Prop:=if isNameB t=ab then m∈gt S (t,b) else row[b]? = aa t/\m=b+1
theorem C5{S:eV}{row:↑Av}{t:Av}:∀{qs:↑Av} {b e:Nat},iT S row (qs++[t]) b e↔∃m,iT S row qs b m/\pF S row t m e
 | [],b,e=>#[λV=>by let#[m,h,k]:=V;show#[b,7,(show e=m from k)▸h],λA=>by let#[m,h,k]:=A;show#[e,(show m=b from h)▸k,7]]
 | p::qs,b,e=>by
  change(∃m,_/\iT S row (qs++[t]) m e)↔∃m,(∃c,_/\iT S row qs c m)/\_;constructor
  .rintro⟨c,L,Y⟩;let#[m,O,W]:=C5.mp Y;show#[m,#[c,L,O],W]
  .rintro⟨m,⟨c,L,O⟩,W⟩;show#[c,L,C5.mpr #[m,O,W]]
theorem C6(a b:Av×Nat)(h:([Sum.inr a.1,Sum.inl (a.2:Int)]:↑aC)=[Sum.inr b.1,Sum.inl (b.2:Int)]):a=b:=by
 simp only[Fh,Qg,Oh,Int.ofNat_inj,and_true]at h;show Pe h.1 h.2
theorem C7{S:eV}{p:Ao}{M:Mm}{t:Av}{b:Nat}{R:K3}(h:M p=-.dT (gZ S))(r:R (.rl<|nW<|gt S (t,b)) M):nM (!p) [.tup [.str t,¬b],.rl []] M R:=by
 show#[_,.inr #[_,[Sum.inr t,Sum.inl (b:Int)],h,7,7],8];ext gZ;rw[nQ (kk:=λk:Av×Nat=>[Sum.inr k.1,Sum.inl (k.2:Int)]) C6 S (t,b)];unfold gt at r;cases e:cB S (t,b) with
 | none=>rw[e]at r;show r
 | some l=>rw[e]at r;show r
theorem zkm:bE OH zi8 zi3:=by
 rintro _ M R ⟨p,S,ps,row,b,rfl,q,B,T,k,Z,A,C,hSn,r⟩;show c8 (λi O F=>∃es d X Q s,O=[aa !p,-.tup (ps.map W.str),-.rl (row.map W.str),aa ¬b,-.rl (nW es),d,X,Q,s]/\M=F/\(∀e,e∈es↔iT S row (ps.take i) b e)/\es.Nodup/\∀e∈es,e<=↥row) #[[b],_,_,_,_,7,7,λe=>Ae,6,λe P=>by rw[Ae.mp P];show Z] 8 8
 .rintro i w O F hw ⟨es,d,X,Q,s,rfl,rfl,P,K,hl⟩ D I;rw[Au]at hw;let#[t,ht,rfl]:=Ay.mp hw;let E:=B t<|Ah ht;let few:∀{l:↑Nat},l.Nodup->(∀e∈l,e<=↥row)->↥l<=06:=λ{l} L Y=>by
   have:=len_sub (b:=Ci<|↥row+1) L λx U=>Fj.mpr<|Kh<|Y x U;rw[Hi]at this;lia
  show c8 (λj O F=>∃ms Q s,O=[aa !p,-.tup (ps.map W.str),-.rl (row.map W.str),aa ¬b,-.rl (nW es),-.str t,-.rl (nW ms),Q,s]/\M=F/\(∀e,e∈ms↔∃m∈es.take j,pF S row t m e)/\ms.Nodup/\∀e∈ms,e<=↥row) #[[],_,_,7,7,λe=>#[(λh=>nomatch h),λV=>by let#[_,h,_]:=V;show nomatch h],Gu,λ_ h=>nomatch h] 8 8
  .rintro j w O F hw ⟨ms,Q,s,rfl,rfl,J,N,a⟩ n v;rw[Au]at hw;let#[m,hme,rfl]:=Ay.mp hw;let hmr:=hl m<|Ah hme;let fin:∀{xs:↑Nat} {D:D3},(∀O F,(∃ms Q s,O=[aa !p,-.tup (ps.map W.str),-.rl (row.map W.str),aa ¬b,-.rl (nW es),-.str t,-.rl (nW ms),Q,s]/\M=F/\(∀e,e∈ms↔∃m∈es.take (j+1),pF S row t m e)/\ms.Nodup/\∀e∈ms,e<=↥row)->D.nx O F)->(∀e,e∈xs↔pF S row t m e)->xs.Nodup->(∀e∈xs,e<=↥row)->
     aL 06 (aG cH (cG 06)<|bD<|cV (bM cF<|cG 08) (aQ 0) (bL<|aG (bZ ab) (cG 0)<|cG 1) (cG 0) [ae,aa 06]) D [aa !p,-.tup (ps.map W.str),-.rl (row.map W.str),aa ¬b,-.rl (nW es),-.str t,-.rl (nW ms),aa ¬m,-.rl (nW xs)] M:=λ{xs D} I U u o=>by
    let fx:=few u o;let fm:=few N a;show OY 9 (λ_=>trivial) #[small<|by rw[Ab,Ab];have:=Fc (λe=>!(decide<|e∈ms)) xs;lia,I _ _ #[ms++xs.filter λe=>!(decide<|e∈ms),_,_,by ext nW;rw[Ar];rfl,7,λe=>8,8,λe P=>8]]
    .rw[Bx,hme,Az,Dy];constructor
     .rintro(h|⟨h,_⟩)
      .let#[c,hc,h]:=(J e).mp h;show#[c,Bf _ hc,h]
      .show#[m,Bo _<|.head _,(U e).mp h]
     .rintro⟨c,hc,h⟩
      by_cases z:e∈ms
      .show .inl z
      .rcases Az.mp hc with hc|hc
       .show absurd ((J e).mpr #[c,hc,h]) z
       .rw[Ae.mp hc]at h;show .inr #[(U e).mpr h,by rw[Xx z];rfl]
    .rw[Cf];show#[N,u.sublist Jl,λx U y H z=>by
      have:=(Dy.mp H).2;rw[<-z,Xw U]at this;ext this]
    .show(Az.mp P).elim (a e) λz=>o e (Dy.mp z).1
   show#[t,7,E,bN (b:=!(isNameB t)) (λK=>8) λK=>8]
   .let K:isNameB t=ac:=Bool.not_eq_true' _▸K;let g:dJ (row.map W.str) (aa (m:Int)) (aa<|(m:Int)+1)=((row.drop m).take 1).map W.str:=by
     ext dJ;rw[show((m:Int)+1)=((m+1:Nat):Int) from rfl,HT.sIx_nat,HT.sIx_nat,Ab,Nv hmr,<-Rn,<-Ur];rcases Nat.lt_or_eq_of_le hmr with z|z
     .rw[Nv z,Nat.succ_sub<|Aj m,Mj]
     .rw[z,Sz,Rm,Rm]
    let at_:((row.drop m).take 1).map W.str=[W.str t]↔row[m]? = aa t:=by
     rw[<-List.head?_drop];cases row.drop m with
     | nil=>show#[(λh=>nomatch h),λh=>nomatch h]
     | cons x l=>show#[λh=>by ext h;rfl,λh=>by ext h;rfl]
    show nL 2 ∅ (λw hw=>8) (λw hw=>8) λc hc=>8
    .let#[x,U,rfl]:=Ap.mp<|AI hw;show oW (k x U).asc
    .rw[Ae.mp hw];show oW (lC E).asc
    .let hc:c=ab↔row[m]? = aa t:=by
      rw[hc,<-at_,<-g];show#[λh=>W.rl.inj h,λh=>congrArg W.rl h]
     let st:∀e,pF S row t m e↔c=ab/\e=m+1:=λe=>by ext pF;rw[Xs<|by rw[K];decide,hc]
     cases c with
     | true=>show#[by decide,by decide,small (show 1*1<=10000000 by decide),fin (xs:=[m+1]) v (λe=>by rw[st,Ae];simp) 6 λe P=>by rw[Ae.mp P];show(An.mp<|hc.mp rfl).1]
     | false=>show#[by decide,by decide,small (show 1*0<=10000000 by decide),fin (xs:=[]) v (λe=>by rw[st];simp) Gu λ_ h=>nomatch h]
   .let K:isNameB t=ab:=by cases z:isNameB t;rw[z]at K;ext K;rfl
    show#[oX q,C7 q<|fin v (λe=>by ext pF;rw[Xu K]) (hSn _) λe P=>C _ e P]
  .rintro O F ⟨ms,Q,s,rfl,rfl,J,N,a⟩;show I _ _ #[ms,_,_,_,_,7,7,λe=>8,N,a];rw[J,Ab,Bn,Bx,ht];show Iff.trans #[λG=>by let#[m,L,Y]:=G;show#[m,(P m).mp L,Y],λf=>by let#[m,L,Y]:=f;show#[m,(P m).mpr L,Y]] C5.symm
 .rintro O F ⟨es,d,X,Q,s,rfl,rfl,P,K,hl⟩;rw[Ab,Bn]at P;show#[_,aV,r es P K]
theorem gC.cg{rs:↑aD}{row:↑Av}{S0 S:eV}{dn dn':aD->Nat->Prop}(h:gC rs row S0 S dn)(k:∀r b,dn' r b->dn r b):gC rs row S0 S dn':=#[h.sd,h.nd,h.ln,h.ks,h.ge,λz=>#[(h.eq z).1,λr b q=>(h.eq z).2 r b<|k r b q]]
theorem gC.new{rs:↑aD}{row:↑Av}{S0 S:eV}{dn:aD->Nat->Prop}(h:gC rs row S0 S dn):gC rs row S S λ_ _=>False:=#[h.sd,h.nd,h.ln,h.ks,Aj _,λ_=>#[λ_=>rfl,λ_ _ z=>z.elim]]
noncomputable def zkn(S:eV):W->W
 | .tup [.str t,¬b]=>.int ↥(gt S (t,b.toNat))
 | _=>.non
abbrev OZ:aR:=tK 2<|bG vR<|bD (cV (bM nS<|cG 2) (aQ 0) d7 (bG cD<|aG p6 (cG 1) (cG 0)^aB) [ae,aa 2])^aB
theorem O0{S:eV}(hn:(S.map (·.1)).Nodup){e:(Av×Nat)×↑Nat}(he:e∈S):gt S (e.1.1,e.1.2)=e.2:=by
 ext gt;rw[show(e.1.1,e.1.2)=e.1 from rfl,xW hn he];rfl
theorem O3:∀S:eV,(S.map λe=>(↥e.2:Int)).sum=(eI S:Int)
 | []=>rfl
 | e::S=>by
  ext eI;rw[Be,Nj,Be,Nj,Tz,O3 S];rfl
theorem O4{S:eV}{a b:Option W}{p:Ao}{rest:S3}{M:Mm}{R:K3}(hM:M p=-.dT (gZ S))(hn:(S.map (·.1)).Nodup)(hl:↥S<=100000)(r:R (¬eI S) M):OZ (a::b::aa (!p)::rest) M R:=by
 show#[p,gZ S,7,hM,8];show l8 (rest:=[-.ft (gZ S)]) (zkn S) (small<|by ext gZ;rw[Ab,Ab];lia) (λ_ _=>trivial) (λw hw M' C sb h1=>8)<|aO.frz #[S.map λe=>(↥e.2:Int),8,eI S,congrArg W.int<|O3 S,r]
 .unfold gZ at hw;rw[Bp]at hw;let#[e,he,rfl]:=Ap.mp hw;show#[.rl<|nW e.2,#[[Sum.inr e.1.1,Sum.inl (e.1.2:Int)],7,8],8]
  .unfold gZ;rw[nQ (kk:=λk:Av×Nat=>[Sum.inr k.1,Sum.inl (k.2:Int)]) C6 S e.1,xW hn he];rfl
  .let h1:C (.int ↥(gt S (e.1.1,e.1.2))) M':=h1;rw[O0 hn he]at h1;change C (.int ↥(nW e.2)) M';rw[Ab];show h1
 .unfold gZ;rw[Bp,Bp,Bp];show Ei λe he=>8;change W.int ↥(gt S (e.1.1,e.1.2))=_;rw[O0 hn he];rfl
theorem zko{S:eV}{a b c:Option W}{p:Ao}{rest:S3}{M:Mm}{D:D3}{u:aE}(hM:M p=-.dT (gZ S))(hn:(S.map (·.1)).Nodup)(hl:↥S<=100000)(r:u D (a::b::aa (!p)::aa (¬eI S)::rest) M):(aF (aL 3 OZ) u) D (a::b::aa (!p)::c::rest) M:=O4 (R:=λw M1=>u D (a::b::aa (!p)::-w::rest) M1) hM hn hl r
theorem zkp:bE C1 zjf zi9:=by
 rintro _ M R ⟨rs,row,rfl,g,hr5,hrs,r⟩;let hf:=g.few;obtain⟨B,hB⟩:∃B,B=↥rs*(↥row+1)*(↥row+1):=#[_,7];let slen:∀{S0 S:eV} {dn:aD->Nat->Prop},gC rs row S0 S dn->↥S<=100000:=λh=>Am h.few<|Am (Fg hf<|Ea hr5) ∅;show λp hp=>8;show mH (λm τ M'=>∃S many o4 o5 o6 o7 o8 o9,τ=[-a9 rs,-.rl (row.map W.str),aa !p,aa ¬many,o4,o5,o6,o7,o8,o9]/\M'=put M p (.dT<|gZ S)/\gC rs row S S (λ_ _=>False)/\(many<eI S\/∃S0,many=eI S0/\gC rs row S0 S λr b=>r∈rs/\b<=↥row)/\m=2*(B-eI S)+(if many<eI S then 1 else 0))
  #[_,[],-1,_,_,_,_,_,_,7,7,#[(λ_ _ _ h=>nomatch h),Gu,λ_=>Gu,(λ_ h=>nomatch h),Aj _,λ_=>#[λ_=>rfl,λ_ _ z=>z.elim]],.inl ∅,7] 8
 rintro m τ M' ⟨S,many,o4,o5,o6,o7,o8,o9,rfl,rfl,I,hm,rfl⟩ D hD;show O4 aI I.nd (slen I)<|bN (b:=decide<|many<(eI S:Int)) (λz=>8) λz=>8
 .let z:=Xv z;rw[Xu z]at hD;show zko aI I.nd (slen I) 8;show c8 (λi τ M'=>∃S1 o4 o5 o6 o7 o8 o9,τ=[-a9 rs,-.rl (row.map W.str),aa !p,aa ¬eI S,o4,o5,o6,o7,o8,o9]/\M'=put M p (.dT<|gZ S1)/\gC rs row S S1 λr b=>r∈rs.take i/\b<=↥row) #[S,_,_,_,_,_,_,7,7,I.cg λ_ _ h=>nomatch h.1] 8 8
  .rintro i w τ M' hw ⟨S1,o4,o5,o6,o7,o8,o9,rfl,rfl,I1⟩ D1 hD1;rw[Au]at hw;let#[ru,hru,rfl]:=Ay.mp hw;let hm:=Ah hru;let hl:↥(row.map W.str)=↥row:=Ab _;show#[7,7,_,7,by rw[hl];lia,by rw[hl];lia,8];show c8 (λj τ M'=>∃S2 o7 o8 o9,τ=[-a9 rs,-.rl (row.map W.str),aa !p,aa ¬eI S,-.str ru.name,-.tup (ru.parts.map W.str),aa ¬ru.cost,o7,o8,o9]/\M'=put M p (.dT<|gZ S2)/\gC rs row S S2 λr b=>(r∈rs.take i/\b<=↥row)\/(r=ru/\b<j)) #[S1,_,_,_,7,7,I1.cg λ_ _ h=>h.elim id λh=>nomatch h.2] 8 8
   .rintro j w τ M' hw ⟨S2,o7,o8,o9,rfl,rfl,I2⟩ D2 hD2;let#[hj,rfl]:=qP hw;let hj:j<=↥row:=by rw[hl]at hj;lia
    rw[Oe];show#[oX aI,C7 aI #[p,S2,ru.parts,row,j,7,aI,g.pt ru hm,hr5,hrs,hj,g.prt ru hm,λk e he=>(I2.sd k.1 k.2 e he).2.1,I2.ln,λes he hn=>8]];let few:∀{l:↑Nat},l.Nodup->(∀e∈l,e<=↥row)->↥l<=06:=λ{l} h1 h2=>by
     have:=len_sub (b:=Ci<|↥row+1) h1 λx hx=>Fj.mpr<|Kh<|h2 x hx;rw[Hi]at this;lia
    let fe:=few hn λe h=>(I2.sd.en ((he e).mp h) hj).2.1;let fo:=few (I2.ln (ru.name,j)) λe h=>(I2.sd _ _ e h).2.1;let I3:=I2.step hm (g.nm ru hm).nm hj he hn;show OY 9 (λ_=>trivial) #[small<|by rw[Ab,Ab];have:=Fc (λe=>!(decide<|e∈gt S2 (ru.name,j))) es;lia,8];show oP (k:=[Sum.inr ru.name,Sum.inl (j:Int)]) aI (by have:=slen I2;ext gZ;rw[Ab];show cS 9) 8;rw[bV];show hD2 _ _ #[_,_,_,_,7,8,I3.cg λr b h=>h.elim (λh=>.inl<|.inl h) λh=>(Pd.mp h.2).elim (λz=>.inl<|.inr #[h.1,z]) λz=>.inr #[h.1,z]];ext gZ;rw[<-A9 (kk:=λk:Av×Nat=>[Sum.inr k.1,Sum.inl (k.2:Int)]) C6 S2 (ru.name,j),<-Ar]
   .rintro τ M' ⟨S2,o7,o8,o9,rfl,rfl,I2⟩;rw[pA,hl]at I2;show hD1 _ _ #[S2,_,_,_,_,_,_,7,7,I2.cg λr b h=>8];let#[h1,h2]:=h;rw[Bx,hru]at h1;rcases Az.mp h1 with h1|h1
    .show .inl #[h1,h2]
    .show .inr #[Ae.mp h1,9]
  .rintro τ M' ⟨S1,o4,o5,o6,o7,o8,o9,rfl,rfl,I1⟩;rw[Ab,Bn]at I1;let b1:=I1.bound;let b0:=I.bound;let ge:=I1.ge;show hD _ _ _ 8 #[S1,_,_,_,_,_,_,_,7,7,I1.new,.inr #[S,7,I1],7];rw[<-hB]at b1 b0;split<;>lia
 .let z:=of_decide_eq_false z;let#[S0,rfl,I0]:=hm.resolve_left z;let te:eI S=eI S0:=by have:=I0.ge;lia
  let#[e1,e2]:=I0.eq te;let cl:xV rs row S:=λr hr b hb e hE=>by rw[e1];show e2 r b #[hr,hb] e<|CY e1 hE
  let#[r0,rs',e0]:=Ep g.ne;let n0:isNameB (f0 rs)=ab:=by let#[q,hq,e]:=w6 g.ne;rw[<-e];show(g.nm q hq).nm
  show#[oX aI,so.of (o:=bP (rs.map bK) 0) (a:=bK r0) (by rw[e0];show l9 _ _) 8];show C7 (t:=r0.name) (b:=0) (R:=λy M2=>L2.bZ ac (.int ↥(row.map W.str)) y M2 (kT R).rt) aI #[7,OW _,_,Sub.new hp,r _ 8];change inW (.int ↥(row.map W.str)) (nW<|gt S (r0.name,0))=ab↔_;rw[Ab,OX,decide_eq_true_iff,show r0.name=f0 rs by rw[e0];rfl];show ziK I.sd cl n0
theorem zkq:bE OI zjh zjg:=by
 rintro _ M R ⟨rs,rfl,g,h2,fu,sg,r⟩;let#[q0,l,e0]:=Ep g.ne;let hF:f0 rs=q0.name:=by rw[e0];rfl
 let a0:bP (rs.map bK) 0=-bK q0:=by rw[e0];show l9 _ _
 show c8 (λi τ M'=>∃o1 o2 o3,τ=[-a9 rs,o1,o2,o3]/\M=M') #[_,_,_,7,7] 8 8
 .rintro i w τ M' hw ⟨o1,o2,o3,rfl,rfl⟩ D hD;rw[Au]at hw;let#[q,hq,rfl]:=Ay.mp hw;let hm:=Ah hq;let hl2:=h2 q hm;let hpl:↥(q.parts.map W.str)=↥q.parts:=Ab _;let go:=hD _ _ #[-.str q.name,-.tup (q.parts.map W.str),aa ¬q.cost,7,7];let fin:OS D [-a9 rs,-.str q.name,-.tup (q.parts.map W.str),aa ¬q.cost] M:=by
   show nL 2 ∅ (nY λt ht=>lC<|g.pt q hm t ht) (nY (ps:=[]) λt ht=>nomatch ht) λb hb=>bN (b:=b) (λy1=>8) λy1=>go;let n1:=(fu q hm<|tG (b:=[])<|W.tup.inj<|hb.mp y1).1;show so.of a0<|bN (b:=!(decide<|q.name=q0.name)) (λy2=>by rw[Xw<|n1.trans hF]at y2;ext y2) λ_=>go
  show#[7,7,bN (b:=decide<|(↥(q.parts.map W.str):Int) > 2) (λz=>8) λ_=>bN (b:=decide<|(↥(q.parts.map W.str):Int)=1) (λz=>8) λ_=>fin]
  .have:=Xv z;rw[hpl]at this;lia
  .let z:=Xv z;rw[hpl]at z;let#[t,et]:=Mf.mp (show ↥q.parts=1 by lia);show so.of (o:=bP (q.parts.map W.str) 0) (a:=.str t) (by rw[et];rfl) #[t,7,g.pt q hm t<|by rw[et];show .head _,8];rw[sg q hm t et];show fin
 .rintro τ M' ⟨o1,o2,o3,rfl,rfl⟩;show#[_,aV,r]
theorem O5{O J:Type}{n:Nat}{f:O->↑J}{l:↑O}(h:∀a∈l,↥(f a)=n):↥(l.flatMap f)=↥l*n:=by
 induction l with
 | nil=>simp
 | cons a l ih=>rw[Mh,Ag,h a<|.head _,ih λx hx=>h x<|.tail _ hx,Bl,So,Mq]
theorem zkr{U:↑Av}{rs:↑aD}(g:Gn U rs):↥(b7 rs)<=(↥(namesOf rs)+↥U)*((↥(namesOf rs)+↥U)*(↥(namesOf rs)+↥U+1)):=by
 obtain⟨A,hA⟩:∃A,A=namesOf rs++U:=#[_,7];let lA:↥A=↥(namesOf rs)+↥U:=by rw[hA,Ag]
 have:=len_sub (b:=A.flatMap λa=>A.flatMap λb=>[a,b]::A.map λc=>[a,b,c]) (LP (rs:=rs)) λe he=>by
  let#[r,hr,k,hk,rfl]:=sX.mp he;let h4:=g.prt r hr;let inA:∀t∈r.parts.drop (k+1),t∈A:=λt ht=>by
   let ht:=Nm ht;rw[hA];rcases g.pt r hr t ht with z|z
   .show Bf _<|Xv<|(g.own r hr t ht).symm.trans z.nm
   .show Bo _ z.2
  let ll:↥(r.parts.drop<|k+1)=↥r.parts-(k+1):=Eo;generalize r.parts.drop (k+1)=e at inA ll
  match e,ll,inA with
  | [a,b],_,h=>show Jn.mpr #[a,h a<|.head _,Jn.mpr #[b,h b<|.tail _<|.head _,.head _]]
  | [a,b,c],_,h=>show Jn.mpr #[a,h a<|.head _,Jn.mpr #[b,h b<|.tail _<|.head _,.tail _<|Ap.mpr #[c,h c<|.tail _<|.tail _<|.head _,7]]]
  | [],h,_=>rw[Iw]at h;lia
  | [_],h,_=>rw[Cd]at h;lia
  | _::_::_::_::_,h,_=>simp only[Bl]at h;lia
 rw[O5 λa _=>O5 λb _=>by rw[Bl,Ab],lA]at this;show this
theorem zks{wl:↑Av}{xs ys:↑W}(h:Dz (λ_ y=>∃t∈wl,y=W.str t) xs ys):∃row:↑Av,ys=row.map W.str/\↥row=↥xs/\∀t∈row,t∈wl:=by
 induction h with
 | nil=>show#[[],7,7,λ_ h=>nomatch h]
 | cons a _ ih=>
  let#[t,ht,rfl]:=a;let#[row,rfl,e,h]:=ih;show#[t::row,7,congrArg (· + 1) e,λu hu=>(Bd.mp hu).elim (λz=>z▸ht)<|h u]
theorem zkt{x w:W}{l:↑W}{hi:Option Int}(h:w∈dJ (x::l) (aa 1) hi):w∈l:=by
 unfold dJ at h;rw[show(aa (1:Int))=aa ((1:Nat):Int) from rfl,HT.sIx_nat,Nv (by change 1<=↥l+1;lia:1<=↥(x::l))]at h;show Ft h
noncomputable def yC:W->Option W
 | .str p=>if isNameB p=ab then ae else aa (.str p)
 | _=>ae
theorem zku(ps:↑Av)(h:∀p∈ps,c7 p\/fD p):∃q:↑Av,(ps.map W.str).filterMap yC=q.map W.str/\↥q<=↥ps/\∀t∈q,fD t:=by
 induction ps with
 | nil=>show#[[],7,Aj _,λ_ h=>nomatch h]
 | cons p ps ih=>
  let#[q,e,l,hq]:=ih λp hp=>h p<|.tail _ hp;rw[Be,Ej]
  by_cases z:isNameB p=ab
  .show#[q,8,Ow l,hq];rw[show yC (.str p)=ae from Xu z];show e
  .show#[p::q,8,Ea l,λt ht=>(Bd.mp ht).elim (λy=>y▸(h p<|.head _).resolve_left λy=>z y.nm)<|hq t];rw[show yC (.str p)=aa (.str p) from Xs z];show congrArg _ e
theorem zkv{l:↑aD}{M:Mm}(g:mP l):Pl 04 (c9 M<|a9 l):=λw hw=>by
 let#[q,hq,rfl]:=Ap.mp hw;intro w hw;simp only[Bd,Pg,or_false]at hw;rcases hw with rfl|rfl|rfl
 .show oW (g.nm q hq).asc
 .show λw hw=>by
   let#[t,ht,rfl]:=Ap.mp hw;show oW (lC<|g.pt q hq t ht).asc
 .trivial
theorem zkw:fD "zoe":=#[5,5,5]
theorem zkx:bE sI zj2 zjO:=by
 rintro _ M R ⟨ns,rfl,hl,hM,r⟩;let hi:=L2.ints_map ns;let one:∀{ds:↑Int},Drawn ds [3]->∃d,ds=[d]/\Below d 3:=λh=>by
  cases h with
  | cons a b=>ext b;show#[_,7,a]
 show#[_,0,.inl rfl,hi,by decide,λc=>#[c,[3],7,by decide,λs hs=>by rw[Ae.mp hs];decide,λds hds=>aO.frz 8]];let#[d,rfl,hd1,hd2]:=one hds;let hz:↥(dJ (ns.map W.int) (aa 1)<|aa 08)<=07:=vN (S:=ns.map W.int) (i:=1) (j:=08) ∅ ∅;show so.of (g9 (j:=0) rfl) #[_,1+d,04,7,hi.cut _ _,9,9,9,by decide,by decide,λrs gr hpm #[hs,U,q1,q2,q3,q4,q5,q6,q7,_]=>aO.frz 8];let hd:∀r∈rs,c7 r.name:=λr hr=>q3 _ (q5 r hr).name;let g:Gn U rs:=by
  show#[gr.ne,λr hr=>(q5 r hr).few,hd,λr hr t ht=>((q5 r hr).parts t ht).elim (λz=>.inr #[q4 t z,z]) λz=>.inl<|q3 t z,λr hr t ht=>tH (λq hq=>(hd q hq).nm) λhn=>8];show q6 t (((q5 r hr).parts t ht).resolve_left λz=>by
   let w:=q4 t z;rw[y7 w.ne w.sm]at hn;ext hn)
 let few:↥rs<=10:=9
 let nam:↥(namesOf rs)<=3:=Am (xT λr hr=>(q5 r hr).name) 9;let tg:=g.tgO 9;show#[rs,7,#[g.ne,9,λr hr=>#[(q5 r hr).lo,λt ht=>#[Am (lC<|tg.pt r hr t ht).len ∅,λn=>by rw[g.own r hr t ht]at n;show Xv n]]],aO.frz 8];let U64:↥U<64:=9
 show#[rs,7,g.g60 9 9 U64,λD drop l1 hE=>#[7,7,8]];let#[s1,fu1,len1,nm1]:=hE.stg g;let len1:↥(aZ l1)<=482:=by
  rw[Ab];show Am len1<|Hb (Gm 16<|Fg few nam) 2
 let nm1:↥(namesOf<|aZ l1)<=04:=9
 show#[aZ l1,7,s1.gn.g60 9 9 U64,fu1,λl2 hS=>#[7,7,8]];let#[s2,fu2,sg2,len2,nm2]:=hS.stg s1.gn fu1;let len2:↥(aZ l2)<=7712:=by
  rw[Ab];show Am len2<|Fg (Fg len1 nm1) nm1
 let nm2:↥(namesOf<|aZ l2)<=04:=9
 let k7:↥(namesOf<|aZ l2)+↥U<=07:=9
 let en2:↥(b7<|aZ l2)<=392:=Am (zkr s2.gn)<|Fg k7<|Fg k7<|Ea k7;let few2:iQ (aZ l2):=#[9,s2.gn.prt,9];show#[aZ l2,7,few2,s2.gn.ne,λl3 t3 c31 c32 len3 hd3=>#[7,7,8]];let#[s3,p3,fu3,sg3,_,ml,hml]:=ziH s2.gn few2 t3 c31 c32 hd3;let len3:↥(aZ l3)<=20000:=by rw[Ab];lia
 let tg3:=s3.gn.tgO len3;let eqv:∀row,Dn (aZ l3) [f0<|aZ l3] row↔Dn rs [f0 rs] row:=λrow=>(s3.dn row).trans<|(s2.dn row).trans<|s1.dn row;let#[r0,l3',e0]:=Ep tg3.ne;let a0:bP ((aZ l3).map bK) 0=-bK r0:=by rw[e0];show l9 _ _
 let eF:f0 (aZ l3)=r0.name:=by rw[e0];rfl
 let#[q0,rs',e1]:=Ep tg.ne;let b0:bP (rs.map bK) 0=-bK q0:=by rw[e1];show l9 _ _
 let eG:f0 rs=q0.name:=by rw[e1];rfl
 show#[aZ l3,7,tg3,p3,fu3 fu2,sg3 sg2,xY 8];show c8 (λi τ M'=>∃(wl:↑Av) (o10 o11 o12:Option W),τ=[-.sc (ns.map W.int),-a9 rs,-a9 rs,-a9 (aZ l1),-kC l1,-a9 (aZ l2),-kC l2,-a9 (aZ l3),-kC l3,-.rl (wl.map W.str),o10,o11,o12,ae,ae,ae,ae,ae,ae]/\M=M'/\(∀t∈wl,fD t)/\wl≠[]/\↥wl<=1+04*i) #[["zoe"],_,_,_,7,7,λt ht=>by rw[Ae.mp ht];show zkw,6,Aj _] 8 8
 .rintro i w τ M' hw ⟨wl,o10,o11,o12,rfl,rfl,h1,h2,h3⟩ Dx hD;rw[Au]at hw;let#[ru,hru,rfl]:=Ay.mp hw;let hm:=Ah hru;let h4:=g.prt ru hm;let hi:=(An.mp hru).1;show#[7,7,8];show vJ (rest:=[]) yC (small<|by rw[Ab];lia) (λ_ _=>trivial) (λw hw M' C Dn sb c1 c2=>8) (aO.frz 8)
  .let#[p,hp,rfl]:=Ap.mp hw;show#[p,7,tg.pt ru hm p hp,bN (b:=!(isNameB p)) (λy1=>c1 _ (Xs λz=>by rw[z]at y1;ext y1)) λy1=>c2<|Xu (by cases z:isNameB p;rw[z]at y1;ext y1;rfl)]
  .let#[q,e,l,hq]:=zku ru.parts<|tg.pt ru hm;rw[e];show#[small<|by rw[Ab,Ab];lia,hD _ _ #[wl++q,_,_,_,by rw[Ar];rfl,7,λt ht=>(Az.mp ht).elim (h1 t)<|hq t,(λz=>h2 (List.append_eq_nil_iff.mp z).1),by rw[Ag];lia]]
 rintro τ M' ⟨wl,o10,o11,o12,rfl,rfl,hwd,hwn,hwl⟩;rw[Ab]at hwl;let hwp:0<↥wl:=Jk.mpr hwn;let hl2:↥(wl.map W.str)=↥wl:=Ab _;show#[aZ l3,7,tg3,λch hc hcl=>h9.frz 8];let gs:=hml.gs hc nm2 λr hr=>(s3.gn.hd r hr).nm;generalize (λt=>04*iG (namesOf<|aZ l2) ch t+if t∈namesOf (aZ l2) then 04 else ml t)=hg at gs;generalize (λt=>if isNameB t=ab then(if t∈namesOf (aZ l2) then 04 else ml t)*04 ^ (iG (namesOf<|aZ l2) ch t) else 1)=sz at gs;let hz2:↥(dJ (ns.map W.int) (aa 08)<|aa 11)<=3:=vN (S:=ns.map W.int) (i:=08) (j:=11) ∅ ∅;show#[small<|by change 1+_<=_;lia,8];show c8 (λi τ M'=>∃o14 o15 o16 o17 o18,τ=[-.sc (ns.map W.int),-a9 rs,-a9 rs,-a9 (aZ l1),-kC l1,-a9 (aZ l2),-kC l2,-a9 (aZ l3),-kC l3,-.rl (wl.map W.str),o10,o11,o12,-.dk (dW ch),o14,o15,o16,o17,o18]/\L2.Sub M M') #[_,_,_,_,_,7,aV] 8 8
 .rintro i w τ M' hw ⟨o14,o15,o16,o17,o18,rfl,sb⟩ Dx hD;obtain⟨c,rfl⟩:∃c:Int,w=¬c:=by
   rcases Bd.mp (Ah hw) with z|z
   .show#[0,z]
   .show hi.cut _ _ _ z
  let fin:∀(o15 o16:Option W) (N:Mm),L2.Sub M N->OU Dx [-.sc (ns.map W.int),-a9 rs,-a9 rs,-a9 (aZ l1),-kC l1,-a9 (aZ l2),-kC l2,-a9 (aZ l3),-kC l3,-.rl (wl.map W.str),o10,o11,o12,-.dk (dW ch),aa ¬c,o15,o16,o17,o18] N:=by
   intro o15 o16 N sN;show#[by decide,by decide,small (show 1*3<=10000000 by decide),small (show 1+3<=10000000 by decide),8];show#[c,[04,(↥(wl.map W.str):Int),(↥(wl.map W.str):Int),(↥(wl.map W.str):Int)],7,6,λs hs=>8,λds hd=>aO.frz 8]
   .rw[hl2]at hs;simp only[Bd,Pg,or_false]at hs;rcases hs with rfl|rfl|rfl|rfl<;>first|exact#[by decide,by decide]|exact#[9,Pw (by lia:_<=(100:Int)) ∅]
   obtain⟨x0,d2,rfl,b0',hd2⟩:∃x0 d2,ds=x0::d2/\Below x0 04/\Drawn d2 [(↥(wl.map W.str):Int),(↥(wl.map W.str):Int),(↥(wl.map W.str):Int)]:=by
    cases hd with
    | cons a b=>show#[_,_,7,a,b]
   let hd3:=JO hd2 (s:=(↥(wl.map W.str):Int)) 6;let hdl:↥(x0::d2)=04:=↥hd;show so.of (o:=bP ((x0::d2).map W.int) 0) (a:=¬x0) (l9 _ _) 8;let cl3:↥(dJ ((x0::d2).map W.int) (aa 1)<|aa<|1+x0)<=3:=Am (vN (S:=(x0::d2).map W.int) (i:=1) (j:=1+x0) ∅ (by have:=b0'.1;lia)) (by have:=b0'.2;lia);show sJ (rest:=[-.rl (wl.map W.str)]) (λ_ y=>∃t∈wl,y=W.str t) (small 9) (λ_ _=>trivial) (λw hw M' C sb h1=>8) λys hys=>aO.frz 8
   .let#[d,hd,rfl]:=Ap.mp<|zkt hw;let#[e1,e2]:=hd3 d hd;rw[hl2]at e2;let#[t,e3,e4]:=sW e1 e2;show so.of e3<|h1 _ #[t,e4,7]
   let#[row,rfl,rl1,rm]:=zks hys;let r3:↥row<=3:=by rw[rl1];show cl3
   let rS:∀t∈row,Sh t:=λt ht=>(hwd t<|rm t ht).sh;show#[aZ l3,row,7,tg3,r3,rS,λb1 hb1=>#[rs,row,7,tg,r3,rS,λb2 hb2=>bN (b:=!(decide<|b1=b2)) (λy=>8) λ_=>hD _ _ #[_,_,_,_,_,7,sN]]];have:b1=b2:=by rw[Ef,hb1,hb2];show eqv row
   rw[Xw this]at y;ext y
  show so.of a0 #[_,#[.inr r0.name,7,7],8];change if (aN (dW ch) (Sum.inr r0.name:aC)).isSome=ab then _ else _;rw[rC];show bN (λy=>so.of a0 #[c,7,λz s hs=>8]) λ_=>fin _ _ _ sb;let lv:∀t,kD hg 20 0 t=26:=λt=>rfl;show#[aZ l3,ch,r0.name,s,z,0,hg,sz,20,1024,7,aI,tg3,hc,gs,Xv y,p3,by rw[lv];decide,λw row a' b' ht hsh hrow _=>8];rw[bV];rw[lv]at ht;let hrow:↥row<=70000:=Am hrow (show 2 ^ 06*1024<=70000 by decide);let sN:=sb.trans<|Sub.new (o:=.lst [¬a',¬b']) hs;generalize put M' s (.lst [¬a',¬b'])=N at sN;rw[<-eF]at ht;let#[b3,o3,e3,y3,f3]:=s3.bk _ _ _ ht;let#[m3,d3,f3,hd3]:=f3 ∅;let#[b2,o2,e2,y2,f2]:=s2.bk _ _ _ y3;let#[m2,d2,f2,hd2]:=f2 ∅;let#[b1,o1,e1',y1,f1]:=s1.bk _ _ _ y2;let#[m1,d1,f1,hd1]:=f1 ∅;show#[b3,_,o3,m3,d3,congrArg (λx=>[x,w]) e3,f3,hd3,b2,_,o2,m2,d2,congrArg (λx=>[x,o3]) e2,f2,hd2,b1,_,o1,m1,d1,congrArg (λx=>[x,o2]) e1',f1,hd1,8];show#[aZ l3,_,w,row,26,7,ht,tg3.prt,by decide,hrow,aO.frz #[rs,o1,row,_,7,tg,y1,by decide,hrow,hsh,xY<|fin _ _ _ sN]]
 .rintro τ M' ⟨o14,o15,o16,o17,o18,rfl,sb⟩;show HV (neg:=ac) 04 ∅ (zkv tg) rfl 8;show so.of a0 #[_,#[.inr r0.name,7,7],so.of b0 #[rs,7,tg,λch2 hc2 hcl2=>h9.frz #[_,#[.inr q0.name,7,7],8]]];let e:(aN (dW ch) (Sum.inr r0.name:aC)).isSome=(aN (dW ch2) (Sum.inr q0.name:aC)).isSome:=by
   rw[rC,rC,Ef,decide_eq_true_iff,decide_eq_true_iff,hc.iff hcl (λr hr=>(s3.gn.hd r hr).nm)<|by rw[<-eF];show s3.gn.f0.1.nm,hc2.iff hcl2 (λr hr=>(hd r hr).nm)<|by rw[<-eG];show g.f0.1.nm,<-eF,<-eG];show exists_congr λrow=>eqv row
  change L2.dH ac (.bl (aN (dW ch) (Sum.inr r0.name:aC)).isSome) (.bl (aN (dW ch2) (Sum.inr q0.name:aC)).isSome) M' (kT R).rt;rw[e];generalize (aN (dW ch2) (Sum.inr q0.name:aC)).isSome=x;cases x<;>exact#[_,sb,r _]
structure Tx(mg:Av->Option Value):Prop where
 c_FIGURED_NAMES:∃t,mg "FIGURED_NAMES" = aa (.int 10000 t)
 c_FIGURES:∃t,mg "FIGURES" = aa (.str "0123456789" t)
 c_GREAT_LETTERS:∃t,mg "GREAT_LETTERS" = aa (.str "ABCDEFGHIJKLMNOPQRSTUVWXYZ" t)
 c_WHOLE:∃t,mg "WHOLE" = aa (.str "whole" t)
 all_:mg "all" = ae
 any_:mg "any" = ae
 dict_:mg "dict" = ae
 enumerate_:mg "enumerate" = ae
 int_:mg "int" = ae
 isinstance_:mg "isinstance" = ae
 len_:mg "len" = ae
 list_:mg "list" = ae
 range_:mg "range" = ae
 reversed_:mg "reversed" = ae
 sorted_:mg "sorted" = ae
 str_:mg "str" = ae
 sum_:mg "sum" = ae
 tuple_:mg "tuple" = ae
 zip_:mg "zip" = ae
structure Kc(K:Ac)(mg:Av->Option Value)(C:Cc):Prop where
 cls_Queue:gE K C.q
 at__Queue:mg "Queue" = aa (!C.q)
 cls_Search:gE K C.s
 at__Search:mg "Search" = aa (!C.s)
 cls_Plainer:gE K C.p
 at__Plainer:mg "Plainer" = aa (!C.p)
 na_costs:fF K C.q "costs"
 na_waiting:fF K C.q "waiting"
 na_grammar:fF K C.s "grammar"
 na_own:fF K C.s "own"
 na_steps:fF K C.s "steps"
 na_queue:fF K C.s "queue"
 na_reached:fF K C.s "reached"
 na_best:fF K C.s "best"
 na_ends:fF K C.s "ends"
 na_begun:fF K C.s "begun"
 na_backs:fF K C.p "backs"
structure Al(P:Bc)(w:Bq)(base:Cz)(K:Ac)(mg:Av->Option Value)(C:Cc)(fa:Nat->Ao)(fb:Nat->Fi):Prop extends Tx mg,Kc K mg C where
 x0:Df K mg "made_of" (top 06) ["text","signs"] (fa 0) (fb 0)
 x1:Df K mg "is_name" (top 07) ["part"] (fa 1) (fb 1)
 x2:Df K mg "names" (top 08) ["grammar"] (fa 2) (fb 2)
 x3:Df K mg "first_name" (top 09) ["grammar"] (fa 3) (fb 3)
 x4:Df K mg "rules_of" (top 10) ["grammar","name"] (fa 04) (fb 04)
 x5:Df K mg "check_rule" (top 11) ["rule","known"] (fa 05) (fb 05)
 x6:Df K mg "grammar_of" (top 12) ["rules"] (fa 06) (fb 06)
 x7:Df K mg "marks" (top 14) ["things"] (fa 07) (fb 07)
 x8:Df K mg "places_of" (top 15) ["row"] (fa 08) (fb 08)
 x9:Df K mg "row_steps" (top 16) ["row"] (fa 09) (fb 09)
 x10:Df K mg "part_facts" (top 17) ["own","parts","cut"] (fa 10) (fb 10)
 x11:Di K C.q "__init__" "Queue.__init__" (dY (top 19) 0) ["self"] (fa 11) (fb 11)
 x12:Dm K C.q "is_done" "Queue.is_done" (dY (top 19) 1) ["self"] (fa 12) (fb 12)
 x13:Dm K C.q "place_of" "Queue.place_of" (dY (top 19) 3) ["self","cost"] (fa 13) (fb 13)
 x14:Dm K C.q "put" "Queue.put" (dY (top 19) 2) ["self","cost","thing"] (fa 14) (fb 14)
 x15:Dm K C.q "take" "Queue.take" (dY (top 19) 04) ["self"] (fa 15) (fb 15)
 x16:Df K mg "added" (top 21) ["cost","other"] (fa 16) (fb 16)
 x17:Di K C.s "__init__" "Search.__init__" (dY (top 22) 0) ["self","grammar","steps"] (fa 17) (fb 17)
 x18:Dm K C.s "reach" "Search.reach" (dY (top 22) 1) ["self","number","cut","cost"] (fa 18) (fb 18)
 x19:Dm K C.s "settle" "Search.settle" (dY (top 22) 04) ["self","number","cut","cost"] (fa 19) (fb 19)
 x20:Dm K C.s "step_by_name" "Search.step_by_name" (dY (top 22) 3) ["self","number","cut","cost","key"] (fa 20) (fb 20)
 x21:Dm K C.s "take_next" "Search.take_next" (dY (top 22) 2) ["self"] (fa 21) (fb 21)
 x22:Df K mg "least_trees" (top 23) ["grammar","places","steps","weights"] (fa 22) (fb 22)
 x23:Df K mg "facts_within" (top 24) ["grammar","best","top"] (fa 23) (fb 23)
 x24:Df K mg "knot_of" (top 27) ["number","children"] (fa 24) (fb 24)
 x25:Df K mg "same_word" (top 26) ["word","begin","end"] (fa 25) (fb 25)
 x26:Df K mg "made_of_best" (top 25) ["grammar","best","top","of_word","of_rule"] (fa 26) (fb 26)
 x27:Df K mg "best_tree" (top 28) ["grammar","best","top"] (fa 27) (fb 27)
 x28:Df K mg "row_trees" (top 30) ["grammar","row","weights"] (fa 28) (fb 28)
 x29:Df K mg "no_weights" (top 31) ["grammar"] (fa 29) (fb 29)
 x30:Df K mg "words_of" (top 33) ["grammar"] (fa 30) (fb 30)
 x31:Df K mg "shortest_lengths" (top 34) ["grammar"] (fa 31) (fb 31)
 x32:Df K mg "is_tree" (top 36) ["child"] (fa 32) (fb 32)
 x33:Df K mg "row_of" (top 37) ["tree"] (fa 33) (fb 33)
 x34:Df K mg "right_knot" (top 38) ["grammar","name","tree"] (fa 34) (fb 34)
 x35:Df K mg "right_tree" (top 39) ["grammar","name","tree"] (fa 35) (fb 35)
 x36:Df K mg "is_reading" (top 40) ["grammar","row","tree"] (fa 36) (fb 36)
 x37:Df K mg "made_names" (top 44) ["old","count"] (fa 37) (fb 37)
 x38:Df K mg "slots" (top 45) ["parts"] (fa 38) (fb 38)
 x39:Di K C.p "__init__" "Plainer.__init__" (dY (top 46) 0) ["self"] (fa 39) (fb 39)
 x40:Dm K C.p "put_rule" "Plainer.put_rule" (dY (top 46) 1) ["self","name","parts","pieces"] (fa 40) (fb 40)
 x41:Dm K C.p "is_part" "Plainer.is_part" (dY (top 46) 2) ["self","name"] (fa 41) (fb 41)
 x42:Dm K C.p "grammar_and_backs" "Plainer.grammar_and_backs" (dY (top 46) 3) ["self"] (fa 42) (fb 42)
 x43:Df K mg "nothing_read" (top 47) ["grammar"] (fa 43) (fb 43)
 x44:Df K mg "empty_trees" (top 48) ["grammar"] (fa 44) (fb 44)
 x45:Df K mg "wordy_names" (top 49) ["grammar"] (fa 45) (fb 45)
 x46:Df K mg "thinned" (top 50) ["parts","own","wordy","empties"] (fa 46) (fb 46)
 x47:Df K mg "put_thinned" (top 51) ["plain","grammar","name","wordy","empties"] (fa 47) (fb 47)
 x48:Df K mg "no_empty" (top 52) ["grammar"] (fa 48) (fb 48)
 x49:Df K mg "check_no_empty" (top 53) ["grammar"] (fa 49) (fb 49)
 x50:Df K mg "is_single" (top 54) ["own","rule"] (fa 50) (fb 50)
 x51:Df K mg "single_chains" (top 55) ["grammar","own","name"] (fa 51) (fb 51)
 x52:Df K mg "chain_pieces" (top 56) ["chain","number","parts"] (fa 52) (fb 52)
 x53:Df K mg "put_chained" (top 57) ["plain","grammar","name","fruitful"] (fa 53) (fb 53)
 x54:Df K mg "no_single" (top 58) ["grammar"] (fa 54) (fb 54)
 x55:Df K mg "long_ends" (top 59) ["grammar"] (fa 55) (fb 55)
 x56:Df K mg "shortened" (top 60) ["parts","made"] (fa 56) (fb 56)
 x57:Df K mg "twos" (top 61) ["grammar"] (fa 57) (fb 57)
 x58:Df K mg "put_together" (top 62) ["pieces","rows"] (fa 58) (fb 58)
 x59:Df K mg "back_tree" (top 63) ["backs","tree"] (fa 59) (fb 59)
 x60:Df K mg "_law_cell_at" (top 65) ["script","k"] (fa 60) (fb 60)
 x61:Df K mg "_law_stir" (top 66) ["cell","k"] (fa 61) (fb 61)
 x62:Df K mg "_law_drawn" (top 67) ["cell","sizes"] (fa 62) (fb 62)
 x63:Df K mg "_law_unlike" (top 68) ["number","many","great"] (fa 63) (fb 63)
 x64:Df K mg "_law_rule" (top 69) ["cell","heads","words","most"] (fa 64) (fb 64)
 x65:Df K mg "_law_rules" (top 70) ["cells","many","most"] (fa 65) (fb 65)
 x66:Df K mg "_law_is_name" (top 71) ["part"] (fa 66) (fb 66)
 x67:Df K mg "_law_all_in" (top 72) ["parts","chosen"] (fa 67) (fb 67)
 x68:Df K mg "_law_chosen" (top 73) ["rules"] (fa 68) (fb 68)
 x69:Df K mg "_law_grow" (top 74) ["rules","chosen","name","state"] (fa 69) (fb 69)
 x70:Df K mg "_law_number" (top 75) ["cell"] (fa 70) (fb 70)
 x71:Df K mg "_law_ends" (top 76) ["spans","parts","row","begin"] (fa 71) (fb 71)
 x72:Df K mg "_law_reads" (top 77) ["rules","row"] (fa 72) (fb 72)
 x73:Df K mg "_law_form" (top 78) ["told"] (fa 73) (fb 73)
 x74:Df K mg "law" (top 79) ["script"] (fa 74) (fb 74)
 f_same_word:C.f=fa 25
 f_knot_of:C.g=fa 24
theorem bI{K:Ac}{x q:Av}{st:Kt}{f:Ao}{ps:↑Av}{fd:Fi}{N:↑Av}{sp:aW}{rd:aE}{P:Bc}{w:Bq}{mg:Av->Option Value}{base:Cz}{C:Cc}{fa:Nat->Ao}{fb:Nat->Fi}(_:Al P w base K mg C fa fb)(k:Nat)(F:jF K x q st f fd)(b:Binds K fd ps [])(good:bE sp rd N)(S:mT N ps (dS st):=by show pD)(tm:∀{cdv:Value} {A:Cw} {outer:↑Ws} {s:Ai} {H:Hp} {E:XK},cT k (A.deeper<|Nd q (dS st) ⇑s f cdv)->(A.deeper<|Nd q (dS st) ⇑s f cdv).units+1<Fs->N.Nodup->jK (kI eR P w K mg base N q (dS st) f cdv A outer s H E).nox (gD st) rd:=by intro _ _ _ _ _ _ hr hu nd;walk_at "t")(len:∀ws M R,sp ws M R->↥ws=↥ps:=by intro _ _ _ h;repeat (first|(let#[rfl,_]:=h;exact rfl)|let#[_,h]:=h)):iV P w K mg base eR (k+1) f fd ps (fJ K sp):=B1 P w mg base k F b S good tm len
section
variable {P:Bc}{w:Bq}{K:Ac}{mg:Av->Option Value}{base:Cz}{C:Cc}{fa:Nat->Ao}{fb:Nat->Fi}(Y:Al P w base K mg C fa fb)
seal L2.PE L2.PA L2.PS L2.fT L2.PT L2.PG L2.PI L2.PO
set_option hygiene false in
local macro_rules | `(tactic| walk_at "t") => do
  let e(l:List Lean.Name):=let l:=l.toArray.map (Lean.mkIdent ·);`(by first $[|exact $l]*)
  let cs←e [`Y.cls_Plainer,`Y.cls_Queue,`Y.cls_Search]
  let na←e [`Y.na_backs,`Y.na_begun,`Y.na_best,`Y.na_costs,`Y.na_ends,`Y.na_grammar,`Y.na_own,`Y.na_queue,`Y.na_reached,`Y.na_steps,`Y.na_waiting]
  let op←e [`GN,`HP,`zcG,`zgk,`ZI,`ZE,`ZF,`zaS,`zcH,`ZG,`ZH,`ZD]
  let cm←`(by first|exact GX hr.units|exact JE hu|exact G6 hu|exact JD hu|exact GY hr.units|exact G7 hu|exact GS|exact GR|exact zM|exact zK)
  let cl←[(`zky,`Y.x0),(`zkz,`Y.x1),(`zkA,`Y.x2),(`zkD,`Y.x5),(`zkF,`Y.x7),(`zkO,`Y.x16),(`zkI,`Y.x10),(`zkV,`Y.x23),(`zkY,`Y.x26),(`zkU,`Y.x22),(`zkG,`Y.x8),(`zkH,`Y.x9),(`zk2,`Y.x30),(`zk1,`Y.x29),(`zk4,`Y.x32),(`zk6,`Y.x34),(`zk7,`Y.x35),(`zkB,`Y.x3),(`zk5,`Y.x33),(`zk0,`Y.x28),(`zkZ,`Y.x27),(`zk3,`Y.x31),(`zkC,`Y.x4),(`zli,`Y.x46),(`zlh,`Y.x45),(`zlg,`Y.x44),(`zlf,`Y.x43),(`zlj,`Y.x47),(`zk9,`Y.x37),(`zlm,`Y.x50),(`zla,`Y.x38),(`zln,`Y.x51),(`zlo,`Y.x52),(`zll,`Y.x49),(`zlp,`Y.x53),(`zlr,`Y.x55),(`zls,`Y.x56),(`zlu,`Y.x58),(`zlx,`Y.x61),(`zly,`Y.x62),(`zlw,`Y.x60),(`zlz,`Y.x63),(`zlA,`Y.x64),(`O7,`Y.x66),(`O8,`Y.x67),(`zlF,`Y.x71),(`zlB,`Y.x65),(`zkE,`Y.x6),(`zlk,`Y.x48),(`zlq,`Y.x54),(`zlt,`Y.x57),(`zlH,`Y.x73),(`zlC,`Y.x68),(`zlD,`Y.x69),(`zlE,`Y.x70),(`zlv,`Y.x59),(`zk8,`Y.x36),(`zlG,`Y.x72)].mapM fun(a,b)=>`(tactic|refine bR ($(Lean.mkIdent a) Y) $(Lean.mkIdent b) hr ?_)
  let mt←[(`Y.cls_Queue,`Y.x13,`zkL),(`Y.cls_Queue,`Y.x14,`zkM),(`Y.cls_Search,`Y.x18,`zkQ),(`Y.cls_Search,`Y.x19,`zkR),(`Y.cls_Search,`Y.x20,`zkS),(`Y.cls_Plainer,`Y.x40,`zlc),(`Y.cls_Plainer,`Y.x41,`zld)].mapM fun(c,x,a)=>`(tactic|refine oU $(Lean.mkIdent c) $(Lean.mkIdent (x++`me)) ($(Lean.mkIdent a) Y) (hr.mono ∅) $(Lean.mkIdent (x++`bi)) ?_ ?_)
  let m0←[(`Y.cls_Queue,`Y.x15,`zkN),(`Y.cls_Queue,`Y.x12,`zkK),(`Y.cls_Search,`Y.x21,`zkT),(`Y.cls_Plainer,`Y.x42,`zle)].mapM fun(c,x,a)=>`(tactic|refine vT $(Lean.mkIdent c) $(Lean.mkIdent (x++`me)) ($(Lean.mkIdent a) Y) (hr.mono ∅) $(Lean.mkIdent (x++`bi)) ?_)
  let cl:=cl.toArray
  let mt:=mt.toArray
  let m0:=m0.toArray
  `(tactic| repeat' first
 | (guard_target =~ fT _ _ _;first|refine zao ?_|refine zan ?_ ?_|exact zam)
 | (guard_target =~ PA _ _ _;first|refine pX ?_ ?_|exact r6)
 | (guard_target =~ PE _ _ (up _ (bD _));refine YS ?_)
 | (guard_target =~ PE _ _ (up _ (sU _));refine zek ?_)
 | (guard_target =~ PE _ _ (up _ (CI _ _ _ _));refine zhI ?_)
 | (guard_target =~ PE _ _ (up _ (tK _ _));refine ziN ?_)
 | (guard_target =~ PE _ (.Name _ _) _;first|exact v _|exact MP Y.f_knot_of Y.x24|exact MP Y.f_same_word Y.x25|exact Y.c_FIGURED_NAMES.elim λ_ h=>rY (y:=V.int 10000) (by rfl) h #[_,rfl] (λ_ _=>.int _)|exact Y.c_FIGURES.elim λ_ h=>rY (y:=V.str "0123456789") (by rfl) h #[_,rfl] (λ_ _=>.str _)|exact Y.c_GREAT_LETTERS.elim λ_ h=>rY (y:=V.str "ABCDEFGHIJKLMNOPQRSTUVWXYZ") (by rfl) h #[_,rfl] (λ_ _=>.str _)|exact Y.c_WHOLE.elim λ_ h=>rY (y:=V.str "whole") (by rfl) h #[_,rfl] (λ_ _=>.str _)|exact GB (by rfl) Y.int_ HY (y:=.ty "int") rfl (λ_ _=>.ty _)|exact GB (by rfl) Y.tuple_ HX (y:=.ty "tuple") rfl (λ_ _=>.ty _))
 | (guard_target =~ PE _ (.Constant _ _ _) _;first|exact YO|exact YR|exact YQ|exact v_non)
 | (guard_target =~ PE _ (.Subscript _ (.Slice _ _ _ _) _) _;refine zaV ?_ ?_ ?_)
 | (guard_target =~ PE _ (.Subscript _ _ _) _;refine ZU hu ?_ ?_)
 | (guard_target =~ PE _ (.Tuple _ _ _) _;refine Y6 ?_)
 | (guard_target =~ PE _ (.List _ _) _;first|refine zaR ?_|refine Y7 ?_)
 | (guard_target =~ PE _ (.Dict _ _ _) _;first|exact zac|exact zad|exact zbP (tl:=[0])|refine zgn ?_ ?_|refine zga hu ?_ ?_)
 | (guard_target =~ PE _ (.BinOp _ _ _ _) _;refine YU $op ?_ ?_)
 | (guard_target =~ PE _ (.UnaryOp _ _ _) _;refine YX ZL ?_)
 | (guard_target =~ PE _ (.Compare _ _ _ _) _;refine YV $cm ?_ ?_)
 | (guard_target =~ PE _ (.BoolOp _ _ _) _;first|refine Y4 ?_|refine v_and ?_ ?_|refine v_or ?_ ?_)
 | (guard_target =~ PE _ (.IfExp _ _ _ _) _;refine Y5 ?_ ?_ ?_)
 | (guard_target =~ PE _ (.Attribute _ _ _) _;refine zbA $cs $na ?_)
 | (guard_target =~ PE _ (.ListComp _ _ _ _) _;refine zaL ?_ (λB=>?_) (λB=>?_) λB=>?_)
 | (guard_target =~ PE _ (.Call (.Name _ _) _ _ _) _;first $[|$cl:tactic]* |refine pY (Z8 rfl) (by rfl) Y.all_ za5 ?_|refine pY (zbg rfl) (by rfl) Y.any_ za6 ?_|refine pY (zbt rfl) (by rfl) Y.sorted_ za8 ?_|refine pY (zbp rfl) (by rfl) Y.sum_ za7 ?_|refine pY zaQ (by rfl) Y.isinstance_ za4 ?_|refine pY Z3 (by rfl) Y.len_ za2 ?_|refine kP (zby rfl) (by rfl) Y.dict_ AH ?_|refine kP (zbz rfl) (by rfl) Y.dict_ AH ?_|refine kP (zez rfl (AY hr)) (by rfl) Y.dict_ AH ?_|refine kP (G9 rfl) (by rfl) Y.list_ vL ?_|refine kP (zaT rfl) (by rfl) Y.list_ vL ?_|refine kP (zbV (tl:=[0]) rfl) (by rfl) Y.list_ vL ?_|refine kP (zb0 rfl) (by rfl) Y.list_ vL ?_|refine kP zgZ (by rfl) Y.int_ HY ?_|refine kP Z7 (by rfl) Y.str_ za3 ?_|refine kP Z6 (by rfl) Y.tuple_ HX ?_|refine MN (i:=3) Y.f_same_word (zkX Y) hr Y.x25.fn.kp Y.x25.bi ?_|refine MN (i:=04) Y.f_knot_of (zkW Y) hr Y.x24.fn.kp Y.x24.bi ?_|exact IJ Y.x11.mak (zkJ Y) (hr.mono ∅) (by rfl) Y.at__Queue Y.x11.bi|exact IJ Y.x39.mak (zlb Y) (hr.mono ∅) (by rfl) Y.at__Plainer Y.x39.bi|refine zbD Y.x17.mak (zkP Y) (hr.mono ∅) (by rfl) Y.at__Search Y.x17.bi ?_|refine zgX (by rfl) Y.list_ (by rfl) Y.range_ ?_|refine zbZ (by rfl) Y.tuple_ (by rfl) Y.range_ ?_|refine zey (AY hr) (by rfl) Y.dict_ (by rfl) Y.zip_ ?_|refine sA (O6 Y n) (hr.mono (by lia)) (by rfl) Y.x58.at_ Y.x58.fn.kp Y.x58.bi ?_|refine sA (O9 Y n) (hr.mono (by lia)) (by rfl) Y.x69.at_ Y.x69.fn.kp Y.x69.bi ?_|refine sA (O8 Y) (hr.mono (by lia)) (by rfl) Y.x67.at_ Y.x67.fn.kp Y.x67.bi ?_|refine sA (O7 Y) (hr.mono (by lia)) (by rfl) Y.x66.at_ Y.x66.fn.kp Y.x66.bi ?_|refine zbo (by rfl) Y.list_ (by rfl) Y.reversed_ ?_)
 | (guard_target =~ PE _ (.Call (.Attribute _ _ _) _ _ _) _;first $[|$mt:tactic]* $[|$m0:tactic]* |refine nC Ou F.slot_dict_get F.type_dict_get (zbH hu) ?_ ?_|refine nC Ou F.slot_dict_pop F.type_dict_pop (zbK hu) ?_ ?_|refine nC Ou F.slot_dict_setdefault F.type_dict_setdefault (zbI hu) ?_ ?_|refine nC Mx F.slot_list_append F.type_list_append Z9 ?_ ?_|refine nC Mx F.slot_list_extend F.type_list_extend zaa ?_ ?_|refine nC Mx F.slot_list_insert F.type_list_insert zb6 ?_ ?_|refine nC Mx Ql F.type_list_pop zgl ?_ ?_|refine nC F.plainAttrs_str F.slot_str_partition F.type_str_partition m_partition ?_ ?_|refine GK Mx Ql F.type_list_pop zab ?_|refine GK F.plainAttrs_str F.slot_str_upper F.type_str_upper m_upper ?_|refine zbS (AY hr) ?_ ?_ ?_|refine zbU ?_)
 | (guard_target =~ PS _ (.Assign [.Name _ _] (.ListComp _ _ _ _) _) _;first|refine zaW nd ?_ (λB=>?_) (λB=>?_) λB=>?_|refine zaM nd ?_ (λB=>?_) (λB=>?_) λB=>?_)
 | (guard_target =~ PS _ (.Assign [.Name _ _] _ _) _;refine zaj nd ?_)
 | (guard_target =~ PS _ (.Assign [.Attribute _ _ _] _ _) _;refine zbB $cs $na ?_ ?_)
 | (guard_target =~ PS _ (.Assign _ _ _) _;refine zai ?_ ?_)
 | (guard_target =~ PS _ (.If _ _ _ _) _;refine zas ?_ ?_ ?_)
 | (guard_target =~ PS _ (.For _ _ _ _ _) _;first|refine zav PassesOwn.never rfl ?_ ?_ ?_|refine s_fzL ?_)
 | (guard_target =~ PS _ (.While _ _ _ _) _;refine zau PassesOwn.never ?_ ?_)
 | (guard_target =~ PS _ (.Expr _ _) _;refine zap ?_)
 | (guard_target =~ PS _ (.Return _ _) _;first|refine zaq ?_|exact zar)
 | exact zat
 | (guard_target =~ PT _ (.Compare _ _ _ _) _;first|refine zbf zM zK ?_ ?_ ?_|refine YW $cm ?_ ?_)
 | (guard_target =~ PT _ (.BoolOp _ _ _) _;refine PW.pt ?_)
 | (guard_target =~ PT _ (.UnaryOp _ _ _) _;refine Y3 ?_)
 | (guard_target =~ PT _ _ _;refine YY ?_)
 | (guard_target =~ PW _ _ _;first|refine YZ ?_|refine Y0 ?_|refine Y1 ?_ ?_|refine Y2 ?_ ?_)
 | (guard_target =~ PG _ (.Name _ _) _;first|exact HA nd|exact zf7)
 | (guard_target =~ PG _ (.Tuple _ _ _) _;refine zag rfl ?_)
 | (guard_target =~ PG _ _ _;refine w_sub hu ?_ ?_)
 | (guard_target =~ iU _ _ _;first|refine zaf ?_ ?_|exact zae)
 | (guard_target =~ iK _ _ _;first|exact zaI|refine zaJ ?_)
 | (guard_target =~ PO _ _ _;first|exact ZX|refine ZY ?_)
 | (guard_target =~ PI _ _ _ _;first|refine zbn (by rfl) Y.zip_ ?_|refine zaG (by rfl) Y.range_ ?_|refine zaH (by rfl) Y.range_ ?_|refine zbi (by rfl) Y.enumerate_ ?_|refine zgm (by rfl) Y.reversed_ ?_|refine zgf ?_|refine zaF ?_|refine zaE ?_|refine zeo ?_|refine zhH ?_))
def zky:=bI Y 0 Y.x0.fn Y.x0.bi zdy
def zkz:=bI Y 1 Y.x1.fn Y.x1.bi zdB
def zkA:=bI Y 0 Y.x2.fn Y.x2.bi zdC
def zkB:=bI Y 0 Y.x3.fn Y.x3.bi zdD
def zkC:=bI Y 0 Y.x4.fn Y.x4.bi zgN
def zkD:=bI Y 2 Y.x5.fn Y.x5.bi zdE
def zkE:=bI Y 3 Y.x6.fn Y.x6.bi zfS
def zkF:=bI Y 0 Y.x7.fn Y.x7.bi zd7
def zkG:=bI Y 0 Y.x8.fn Y.x8.bi zg4
def zkH:=bI Y 0 Y.x9.fn Y.x9.bi zg6
def zkI:=bI Y 0 Y.x10.fn Y.x10.bi zhw
def zkJ:=bI Y 0 Y.x11.fn Y.x11.bi zcz
def zkK:=bI Y 0 Y.x12.fn Y.x12.bi zcy
def zkL:=bI Y 0 Y.x13.fn Y.x13.bi zcA
def zkM:=bI Y 1 Y.x14.fn Y.x14.bi zcB
def zkN:=bI Y 0 Y.x15.fn Y.x15.bi zcC
def zkO:=bI Y 0 Y.x16.fn Y.x16.bi zd8
def zkP:=bI Y 2 Y.x17.fn Y.x17.bi zeg
def zkQ:=bI Y 2 Y.x18.fn Y.x18.bi zd9
def zkR:=bI Y 3 Y.x19.fn Y.x19.bi zed
def zkS:=bI Y 3 Y.x20.fn Y.x20.bi zea
def zkT:=bI Y 04 Y.x21.fn Y.x21.bi zee
def zkU:=bI Y 05 Y.x22.fn Y.x22.bi zeh
def zkV:=bI Y 1 Y.x23.fn Y.x23.bi zhz
def zkW:=bI Y 0 Y.x24.fn Y.x24.bi zhs
def zkX:=bI Y 0 Y.x25.fn Y.x25.bi zhr
def zkY:=bI Y 2 Y.x26.fn Y.x26.bi zhD
def zkZ:=bI Y 3 Y.x27.fn Y.x27.bi zht
def zk0:=bI Y 06 Y.x28.fn Y.x28.bi zih
def zk1:=bI Y 0 Y.x29.fn Y.x29.bi ze3
def zk2:=bI Y 1 Y.x30.fn Y.x30.bi zff
def zk3:=bI Y 06 Y.x31.fn Y.x31.bi zfi
def zk4:=B1 (len:=zj5) P w mg base 0 Y.x32.fn Y.x32.bi pD zj3 λhr hu nd=>by walk_at "t"
def zk5:=bI Y 1 Y.x33.fn Y.x33.bi zkb
def zk6:=bI Y 2 Y.x34.fn Y.x34.bi zka
def zk7:=bI Y 3 Y.x35.fn Y.x35.bi zkc
def zk8:=bI Y 04 Y.x36.fn Y.x36.bi zkd
def zk9:=bI Y 1 Y.x37.fn Y.x37.bi zfT
def zla:=bI Y 0 Y.x38.fn Y.x38.bi zfU
def zlb:=bI Y 0 Y.x39.fn Y.x39.bi zfV
def zlc:=bI Y 0 Y.x40.fn Y.x40.bi zfW
def zld:=bI Y 0 Y.x41.fn Y.x41.bi zhL
def zle:=bI Y 0 Y.x42.fn Y.x42.bi zfZ
def zlf:=bI Y 2 Y.x43.fn Y.x43.bi zgU
def zlg:=bI Y 07 Y.x44.fn Y.x44.bi zii
def zlh:=bI Y 07 Y.x45.fn Y.x45.bi zil
def zli:=bI Y 0 Y.x46.fn Y.x46.bi zio
def zlj:=bI Y 1 Y.x47.fn Y.x47.bi ziq
def zlk:=bI Y 08 Y.x48.fn Y.x48.bi zis
def zll:=bI Y 1 Y.x49.fn Y.x49.bi ziy
def zlm:=bI Y 0 Y.x50.fn Y.x50.bi zgO
def zln:=bI Y 1 Y.x51.fn Y.x51.bi zgS
def zlo:=bI Y 1 Y.x52.fn Y.x52.bi zgP
def zlp:=bI Y 2 Y.x53.fn Y.x53.bi zgT
def zlq:=bI Y 07 Y.x54.fn Y.x54.bi ziz
def zlr:=bI Y 0 Y.x55.fn Y.x55.bi zf5
def zls:=bI Y 0 Y.x56.fn Y.x56.bi zf4
def zlt:=bI Y 2 Y.x57.fn Y.x57.bi zf6
theorem O6(Y:Al P w base K mg C fa fb):∀n,iV P w K mg base eR (1+n) (fa 58) (fb 58) ["pieces","rows"] (fJ K<|tN n)
 | 0=>vF (k:=0) Y.x58.fn (pD (N:=OT)) (λ_ _ _ h=>h.elim) λ_ _ _ _ _ _ _ _ _ _ h=>h.elim
 | n+1=>ML P w mg base (1+n) Y.x58.fn Y.x58.bi pD (zj6<|n+1) zj4 λhr hu nd=>by walk_at "t"
def zlu:=O6 Y 60
def zlv:=bI Y 61 Y.x59.fn Y.x59.bi zj8
def zlw:=B1 (len:=zdx) P w mg base 0 Y.x60.fn Y.x60.bi pD zdF λhr hu nd=>by walk_at "t"
def zlx:=bI Y 0 Y.x61.fn Y.x61.bi zdG
def zly:=bI Y 1 Y.x62.fn Y.x62.bi zeF
def zlz:=bI Y 0 Y.x63.fn Y.x63.bi zeG
def zlA:=bI Y 2 Y.x64.fn Y.x64.bi zeJ
def zlB:=bI Y 3 Y.x65.fn Y.x65.bi zeK
def O7:=bI Y 0 Y.x66.fn Y.x66.bi zkf
def O8:=bI Y 1 Y.x67.fn Y.x67.bi zkg
def zlC:=bI Y 2 Y.x68.fn Y.x68.bi zkj
theorem O9(Y:Al P w base K mg C fa fb):∀n,iV P w K mg base eR (3+n) (fa 69) (fb 69) ["rules","chosen","name","state"] (fJ K<|mQ n)
 | 0=>vF (k:=2) Y.x69.fn (pD (N:=ON)) (λ_ _ _ h=>h.elim) λ_ _ _ _ _ _ _ _ _ _ h=>h.elim
 | n+1=>ML P w mg base (3+n) Y.x69.fn Y.x69.bi pD (zkl<|n+1) zkk λhr hu nd=>by walk_at "t"
def zlD:=O9 Y 30
def zlE:=bI Y 1 Y.x70.fn Y.x70.bi zkh
def zlF:=bI Y 1 Y.x71.fn Y.x71.bi zkm
def zlG:=bI Y 2 Y.x72.fn Y.x72.bi zkp
def zlH:=bI Y 1 Y.x73.fn Y.x73.bi zkq
def zlI:=bI Y 62 Y.x74.fn Y.x74.bi zkx
end
section
variable {w:Bq}{h:Cz}{mg:Av->Option Value}
theorem nA{K:Ac}{C:Ao}{f:Av}(h:Fq K (!C) f=-ae:=by kernel_rfl):fF K C f:=h
theorem mv{x:Av}{v:Value}(X:(hpK w.params).In h)(G:h.Ns Es mg)(e:Uj (hpK w.params) Es x=aa (-v):=by kernel_rfl):mg x=-v:=Ku X G e
theorem mn{x:Av}(X:(hpK w.params).In h)(G:h.Ns Es mg)(e:Uj (hpK w.params) Es x=-ae:=by kernel_rfl):mg x=ae:=PySem.W.mg_none_of X G e
theorem zlJ(X:(hpK w.params).In h)(G:h.Ns Es mg):Tx mg:=#[#[623,Ku (v:=.int 10000 623) X G<|by kernel_rfl],#[227,Ku (v:=.str "0123456789" 227) X G<|by kernel_rfl],#[225,Ku (v:=.str "ABCDEFGHIJKLMNOPQRSTUVWXYZ" 225) X G<|by kernel_rfl],#[621,Ku (v:=.str "whole" 621) X G<|by kernel_rfl],mn X G,mn X G,mn X G,mn X G,mn X G,mn X G,mn X G,mn X G,mn X G,mn X G,mn X G,mn X G,mn X G,mn X G,mn X G]
theorem zlK(X:(hpK w.params).In h)(G:h.Ns Es mg):Kc (hpK w.params) mg #[151,207,237,244,356,0,0,0,0]:=#[#[by kernel_rfl,by kernel_rfl,by kernel_rfl,by kernel_rfl],mv X G,#[by kernel_rfl,by kernel_rfl,by kernel_rfl,by kernel_rfl],mv X G,#[by kernel_rfl,by kernel_rfl,by kernel_rfl,by kernel_rfl],mv X G,nA,nA,nA,nA,nA,nA,nA,nA,nA,nA,nA]
def PB(i:Nat):Fi:=(dL i).fd
theorem zlL{P:Bc}{base:Cz}(X:(hpK w.params).In h)(G:h.Ns Es mg):Al P w base (hpK w.params) mg #[151,207,237,244,356,0,0,0,0] C8 PB:=by
 constructor<;>first|exact zlJ X G|exact zlK X G|exact dF X G|exact dM|exact dI|rfl
end
theorem zlM{l:Sl}{w:Bq}{h:Cz}{mg:Av->Option Value}{fa:Ao}(X:(hpK w.params).In h)(G:h.Ns Es mg)(a:mg "law" = aa !fa):
  ∃fd:Fi,(∀(s:Ai) (v:Value),Vh s fd #[[v],[]] [("script",v)])/\∀base:Cz,(hpK w.params).In base->base.Ns Es mg->iV l.prog w (hpK w.params) mg base eR 63 fa fd ["script"] (fJ (hpK w.params) sI):=by
 let e:=a.symm.trans (Ku (v:=.ref 562) X G<|by kernel_rfl);ext e;show#[PB 74,λs v=>.of_eq rfl,λbase _ _=>zlI<|zlL X G]
theorem walk{l:Sl}{q:Bc}{loose:↑Av}{XP:(Av->Option Value)->Cz->Prop}{YP:Bq->Cz->Prop}{d:DefRec}{K:Uk->Ac}(V:l.most=aa 63)(C:d.params.defaults=[])(A:∀(w:Bq) (h:Cz),YP w h->(K w.params).In h)(F:∀(w:Bq) (mg:Av->Option Value) (fa:Ao) (h:Cz),(K w.params).In h->h.Ns Es mg->mg d.name=-!fa->
   ∃fd:Fi,(∀(s:Ai) (u:Value),Vh s fd #[[u],[]] [("script",u)])/\∀base:Cz,(K w.params).In base->base.Ns Es mg->iV l.prog w (K w.params) mg base eR 63 fa fd ["script"] (fJ (K w.params) sI)):
  PySem.W.WalkO q loose XP YP l.row.toRowW d [] (λf vs=>Vw f vs):=
 L2.WG (n:=63) (k:=63) (x:="script") (CX:=λ_=>eR) (sp:=λw=>fJ (K w.params) sI) V ∅ C #[7,by decide,by decide] A F (λ_ _ a ns hl D y=>zaN hl D y) λ_ _ _ _ _ z=>z
end L2
open PySem PySem.W PyProof.Rows
set_option maxRecDepth 100000 in
set_option maxHeartbeats 0 in
theorem PySem.Challenge.cw_readgrove_k66_whole_one_behind_the_other_holds : PySem.Challenge.rw_readgrove_k66_whole_one_behind_the_other.Holds := by
 w_on; refine PySem.W.holds_law L2.tQ λsaid => 8
 refine PySem.W.holds_open (r := Xy.row) (q := L2.qv) (loose := []) (N := 6956)
  (Xt := λs => xlAt L2.qv [] s&&recOk (Sf<|Pu Xy.row) s)
  (XP := XL L2.qv []) (Yf := L2.hk.obs) (Ya := L2.hk.val) (YP := L2.hk.says) ?hl L2.hk.of L2.hk.keeps
  (λs e => xl_of s (Bool.and_eq_true_iff.mp e).1) XL.keeps 4 4 4 (λs e => recFacts_of (Bool.and_eq_true_iff.mp e).2)
  4 (by assumption) 5 #[7, rfl, rfl, rfl, rfl, 5] ?hw ?hc
 case hw => w_witness2
 case hc => exact L2.walk (l := Xy) rfl rfl (λw h Y => PySem.W.kIn_of Y) (λw mg fa h KX G hmg => L2.zlM KX G hmg)
 case hl => exact L2.PL
