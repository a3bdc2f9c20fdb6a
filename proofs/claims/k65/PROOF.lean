import PyProof.Rows.All
import KE.KDictOf
import KE.KEqDict
import KE.KFromBytes
import KE.KIntText
import KE.KIsAll
import KE.KItem
import KE.KItemsList
import KE.KLam
import KE.KPairComp
import KE.KRevIter
import PySem.Challenge.RW_readgrove_k65_whole_trees_led_back
open Option renaming some->aa,none->ae
open Bool renaming true->ab,false->ac
local macro_rules|`(↥$x)=>`($(x).length)
local macro_rules|`(⇑$x)=>`($(x).heap.objs.size)
local macro_rules|`(∅)=>`(by decide)
local macro_rules|`(↑$x)=>`(List $x)
local macro_rules|`(tactic|let ⟨$xs,*⟩:=$e)=>do{let ps←xs.getElems.mapM fun x=>match x with|`($i:ident)=>`(Lean.Parser.Tactic.rcasesPatLo|$i:ident)|_=>`(Lean.Parser.Tactic.rcasesPatLo|_);`(tactic|obtain ⟨$[$ps],*⟩:=$e)}
open PySem.Challenge renaming rw_readgrove_k65_whole_trees_led_back->Wf,pw_readgrove_k65_whole_trees_led_back->Wg
open PySem renaming wpAny_bind->Aa,Value->Ae,wpAny_pure->Ah,Shared->Ak,Addr->Am,sizeLine->Au,Str->Av,Program->Be,wpAny->Bm,World->Br,starEach->Ci,Expr->Ck,wpAny_call_entry->Cr,bootBuiltins->Cu,Around->Cw,wpAny_callSpecial?_slot->Cy,model->De,compareOp->Dk,wpAny_holding->Dq,wpAny_newObj_type->Ds,Heap->Du,wpAny_field->Dv,wpAny_Call_Name_kw->Dy,mainGlobals->Ed,eval->Ef,DictEntry->Eg,binaryOp->Eh,wpAny_seqItems->Fe,FuncData->Ff,cLine->Fg,builtinLookup_eq_fast->Fi,wpAny_setField_rec->Fs,tupleKind_room_in1->Ft,sysModules->Fu,wpAny_isInstance->Fx,Paired->Fz,attributeBase->Gq,wpAny_specialOf->Gu,Builtin->Ha,wpAny_notOrdered_dict->Hc,wpAny_attempt->Hj,wpAny_truthy_bool->Hn,tupleKind->Ho,typeLookup_type->Hq,rawInt->Hr,Pos->Hv,pyNext->Hy,IsPair->Ia,wpAny_tupleItemsOf->Ig,assignEach->Ih,mem_of_lookup->Il,wpAny_dictEntries->Im,foldedSetIterable->Iq,wpAny_rule->Iv,wpAny_mono->Iw,wpAny_typeNameOfWhole_valiter->Jf,wpAny_typeNameOfWhole_keyiter->Jg,wpAny_pyIter_tuple->Ji,call_meetsIn->Jj,wpAny_passesOwn->Jp,isSubtype_tuple_tuple->Js,holding->Jv,Stmt->Jy,wpAny_of_eq->Kd,sizeLine_eq->Ke,call_meets->Kf,NameKind->Kg,wpAny_forIn_list->Kl,wpAny_typeNameOf_valiter->Lc,wpAny_typeNameOf_keyiter->Ld,Scope->Le,size_of_entries->Lh,codeAny_builtin->Li,keywordEach->Lo,wpAny_typeOf->Lx,wpAny_pyIter_list->Ly,firstArgMember->Lz,atKey->Me,typeLookup->Mf,swapsWith->Mg,strLen_append->Ml,plainId_quiet->Mo,codeAny->Mp,behindInMarks->Mq,Obj->Ms,sliceBounds->Mw,backTo->Mz,wpAny_richCompare_same_room->Nh,storedH->Ni,wpAny_setField->Nr,isSubtype_type->Nt,getattributeRaised->Nu,PyData->Nx,wpAny_pyIter_enum->Od,assign->Oh,backToKw->Pa,codeAny_mono->Pm,PlainAttrs->Pp,wpAny_execs_nil->Pu,wpAny_dictEpoch->Pw,letOwnedTupleGo->Px,wpAny_isOneOf_valiter->Qc,wpAny_updateSeq_pair->Qi,wpAny_pyIter_keyiter->Qj,wpAny_letGo->Qk,isSubtype_stop->Ql,IsZip->Qn,standAt->Qo,getMethod->Qp,Keyword->Qs,ItemsOf->Qt,wpAny_standAt->Rf,wpAny_onRaise->Rg,field->Rh,wpAny_dictSet_heap->Rm,pyIter->Rn,entryOfKey->Ro,wpAny_pyIter_slot->Rx,valueAt->Ry,callerA->Rz,wpAny_pyIter_zip->Sj,wpAny_eqBool_int->Sk,wpAny_Dict_empty->Sl,noFill_tuple_add->Sm,Params->So,IsPart->Sq,storedH_new->Ss,importedModules->Sw,Sem->Sx,Within->Sy,getItem->Tc,BindsTo->Tg,entry_at->Ti,carriedByValue->Tj,callType_codes->Tn,Result->To,wpAny_handled->Tv,seq_tuple_add->Tw,rangeSize_one->Tz,call->Ub,treeTable->Ue,bindL->Ug,bindC->Uh,PassesOwn->Ui,typeOf->Ul,stored->Um,newExc->Uo,isTrue->Uq,concat_meets->Ur,call_range_1->Us,callType_new->Ut,Tok->Uu,Env->Uv,wpAny_throw->Va,seqIndex_of->Vb,getAttr?->Vc,entryFor->Vd,callWith->Ve,CmpOp->Vf,wpAny_Name->Vg,typeIs_str->Vh,typeIs_int->Vi,reduceHash->Vj,isInstance->Vk,closureFor->Vl,builtinsNs->Vm,unaryOp->Vn,setItem->Vo,putAt->Vp,dictSet->Vq,seqIndex?->Vt,eqIsQuiet->Vu,cellsFrom->Vv
open List renaming length_map->Ab,mem_singleton->Ag,length_append->Aj,getElem?_eq_some_iff->An,mem_of_getElem?->Ao,mem_map->Ar,mem_cons->Aw,map_append->Ax,getElem?_map->Ay,mem_append->Bb,mem_append_left->Bf,getElem?_eq_getElem->Bg,map_cons->Bh,size_toArray->Bi,mem_cons_of_mem->Bj,mem_cons_self->Bl,mem_append_right->Bo,map_map->Bp,append_nil->Bs,length_cons->Bv,take_length->Bw,append_assoc->Bx,replicate->Ce,take_add_one->Cf,length_take->Cg,nodup_cons->Cj,lookup->Cm,length_singleton->Co,range->Cp,nodup_append->Cv,find?_cons->Cz,lookup_cons->Ea,exists_cons_of_ne_nil->Ec,length_reverse->Ej,not_mem_nil->Em,nodup_nil->Eo,getElem?_cons_succ->Ep,filter_cons->Er,mem_nil_iff->Ew,replicate_succ->Ez,map_congr_left->Fb,filterMap_cons->Fc,length_eq_zero_iff->Fl,mem_filter->Fo,any_cons->Fp,drop_eq_getElem_cons->Fw,foldl_cons->Gf,nodup_iff_pairwise_ne->Gm,length_filter_le->Gr,length_drop->Gv,cons_ne_nil->Gw,any_eq_true->Gx,all_eq_true->Gy,mem_range->Hf,mem_of_mem_take->Hh,flatten_cons->Hk,mem_zipIdx_iff_getElem?->Hl,mem_filterMap->Hw,getElem?_append_right->Hx,take_append_drop->Hz,getElem?_of_mem->Ii,length_pos_iff->Ir,filter_append->Iz,nil_append->Jc,length_nil->Jd,length_replicate->Jh,pairwise_map->Jk,length_range->Jl,mem_of_mem_drop->Jr,all_cons->Kk,forIn_cons->Ko,zip_cons_cons->Kt,filterMap_map->Ku,length->Ky,foldl_append->Ll,getElem?_reverse->Lp,eq_nil_or_concat->Lq,concat_eq_append->Lr,zipIdx_cons->Lu,perm_middle->Lv,flatten_append->Mj,map_nil->Mu,any_map->Mv,mem_of_find?_eq_some->Nf,getElem?_append_left->Ng,reverse_cons->Nm,flatMap_cons->Nn,take_of_length_le->Oe,all_map->Of,of_mem_zip->Oo,getElem?_eq_none->Oz,forIn_nil->Pg,map_eq_nil_iff->Py,getElem?_range->Qa,filter_sublist->Qb,map_drop->Qg,nodup_range->Rj,getElem_mem->Rk,drop_append->Rl,filter->Rr,take_left'->Rt,map->Si,foldl->Uj,getD->Uz,Nodup->Vx
open PySem.W renaming Frag->Ac,findIn->Fj,kia_one->Ga,fnOf->Gb,keepIn->Gj,emptyDict->Gk,instObj->Ib,mg_of->Jz,kitOne->Kv,codeIn->Kw,callWith_K->Mh,plainGet->Nj,isFn->Nv,lookIn->Oi,plainGet_of->Pb,methodObj->Qd,hasDictIn->Qe,takerIn->Qw,makesIn->Qx,OpenLaw->Qy,nsIn->Sn
open PySem.Heap renaming get?_push_of_some->Af,get?_push_size->Az,lt_size->Bd,SameBut->Ek,size_push->Es,get?_update_self->Gs,get?_update_other->Ja,ExtBut->Ph,IsTuple->Qv
open Nat renaming le_refl->Ai,le_trans->Ap,ne_of_lt->Bn,lt_of_lt_of_le->Cb,ne_of_gt->Cq,zero_le->Cs,succ_le_succ->Eu,lt_trans->Gg,lt_of_le_of_lt->Gh,lt_succ_self->Gz,le_succ->Hi,add_le_add_left->Hm,le_of_succ_le_succ->Hs,le_of_lt->Ht,toDigits->Ij,pow_le_pow_right->Jt,le_add_right->Ka,lt_irrefl->Km,add_assoc->Kn,lt_of_succ_lt->Lm,min_le_left->Mi,zero_add->Mx,sub_add_cancel->Nc,lt_succ_of_lt->Np,toDigits_of_lt_base->Nz,min_le_right->Oa,sub_self->Ol,le_of_eq->Om,le_add_left->Oy,mul_le_mul_left->Qf,digitChar->Ta,succ_pos->Tp,succ_mul->Tq,sub_zero->Ts,add_comm->Tt,log2_lt->Uc
open Option renaming map_eq_some_iff->Ba,isSome_iff_exists->Dz,isSome_map->La
open Bool renaming false_ne_true->Bc,and_eq_true->Dn,eq_iff_iff->Ee,false_eq_true->Fm,not_not->Hb,false_or->Nq,or_true->Og,false_and->Pk,or_eq_true->Ru,true_and->Su
open False renaming elim->Bq
open PySem.Str renaming ofString->Bz,empty->Rq
open Ne renaming symm->Ca
open PyProof.Rows renaming callWith_type1->Cd,slot_tuple_getitem->Ki,envOfC->Ma,AllBare->Pr,IntsAre->Ux,Call_->Vr
open Option.some renaming inj->Ct
open PySem.Builtin.SmallTypes renaming ownedTupleIsFree->Dc,nextOf->Dh,stopIteration->Jn
open PySem.Paired renaming length->Dg,snoc->Te
open PySem.Txt renaming partition->Dj,mul->Iu,upper->Rp
open Int renaming toNat_natCast->Dl,emod_lt_of_pos->Ei,emod_nonneg->Fq,natCast_nonneg->Nd,eq_ofNat_of_zero_le->Ob,zero_add->Oq,le_trans->Rb,natCast_add->Sf,lt_trans->Tu,le_refl->Ud,not_lt->Uy
open Prod renaming fst->Eb,snd->Kj,ext->Pe
open PySem.Builtin.Tuple renaming tupleHashOf->El,tupleExact->Gn
open Array renaming length_toList->Ey,getElem?_toList->Fd,toArray_toList->He,getElem?_eq_some_iff->Hu,forIn_toList->Ks,toList_append->Pq
open List.cons renaming injEq->Fh
open PySem.F renaming slot_dict_valueiterator_next->Fv,slot_dict_keyiterator_next->Ge,slot_zip_next->Ik,slot_tuple_iterator_next->Kb,slot_tuple_hash->Kh,entry_dict_get->Kx,slot_tuple_eq->Lj,slot_dict_get->Lk,plainAttrs_list->Ls,slot_dict_setdefault->Mb,args_tuple_add_2->Na,plainAttrs_dict->Nk,entry_tuple_add->Nl,slot_tuple_add->Nw,args_zip_next_1->Ny,slot_list_getattribute->Oc,slot_zip_getattribute->Ou,entry_zip_next->Ov,slot_list_pop->Pj,args_object_init_2->Qh
open PySem.Heap.SameBut renaming update->Gi
open PySem.Builtin.Dict_items renaming ownsTuple->Gp
open PySem.Builtin.Range renaming rangeSize->Ic
open PySem.Around renaming under_plainId->Ie,under->Sv
open PySem.Builtin.List renaming listExtendWith->Iy,listTooLong->Jo
open PySem.Obj renaming data_mapFields->Jb,data_mapDictKeys->Md,mapSeq->Nb,isFreed_of_fields->Pc,cls_mapFields->Ra,mapFields->Sz
open PySem.Builtin.Slice renaming slicePlaces->Je,sliceAdjust->Mc
open Classical renaming byContradiction->Jm
open PySem.PyData renaming depth->Jq,strOk->Kz,eqv->Mr,eqvAll->Po,depthAll->Ri
open PySem.Builtin.Dict renaming updateFrom->Ju,showsAll->Kr,keyAndDefault->Lw
open PySem.Builtin.Str renaming occurrences->Jw,strSub->Ow
open PySem.AutoSeq1 renaming wpAny_loadPart'->Jx
open PySem.Calls renaming spliced_cons->Kq,spliced_nil->Lf,callWith_builtin->Lg
open Function renaming comp->Ln
open Prod.mk renaming inj->My
open PySem.W.OpenRow renaming toRowW->Oj
open Iff renaming rfl->Ot
open PySem.W.KT renaming len_num->Ox
open Sum.inl renaming injEq->Pd
open Sum.inr renaming inj->Qq,injEq->Sa
open PySem.W.RowW renaming records->Qr
open Nat.succ renaming inj->Sg
open PySem.IsRange renaming new->Tb
open PySem.Shared renaming heap->Td
open PySem.Code renaming isFrame->Tf
open PySem.Walks renaming list->Ua
open Char renaming toNat->Uk
open PyProof.Rows.IsTup renaming new->Uw
open PySem.SeqAt renaming EqAt->Vw
theorem Vy.{u}{c:Prop}{h:Decidable c}(n:¬c){B:Sort u}{t e:B}:ite c t e=e:=if_neg n
theorem Vz.{u}{c:Prop}{h:Decidable c}(n:c){B:Sort u}{t e:B}:ite c t e=t:=if_pos n
theorem Wa{p:Prop}[Decidable p](h:decide p=ab):p:=of_decide_eq_true h
theorem Wc{p:Prop}[Decidable p](h:p):decide p=ab:=decide_eq_true h
theorem We{p:Prop}[Decidable p](h:¬p):decide p=ac:=decide_eq_false h
set_option Elab.async false
set_option compiler.extract_closed false
set_option bootstrap.genMatcherCode false
set_option linter.all false
noncomputable section
set_option genSizeOf false
set_option maxRecDepth 100000
noncomputable section
open PySem Spec PyProof.Rows
namespace L2
open PySem Spec PyProof.Rows
noncomputable def dW(s:Jy)(j:Nat):Jy:=match s with
 | .ClassDef _ _ _ p _ _ _ _ _ _ _=>p.getD j (.Pass ⟨0,0,0,0⟩)
 | _=>.Pass ⟨0,0,0,0⟩
def jF(s:Jy):Arguments:=match s with
 | .FunctionDef _ a _ _ _ _ _ _ _ _=>a
 | _=>{posonlyargs:=[],args:=[],vararg:=ae,kwonlyargs:=[],kw_defaults:=[],kwarg:=ae,defaults:=[]}
def gD(s:Jy):↑Jy:=match s with
 | .FunctionDef _ _ b _ _ _ _ _ _ _=>b
 | _=>[]
noncomputable def dP(s:Jy):Le:=match s with
 | .FunctionDef _ _ _ _ _ _ sc _ _ _=>sc
 | _=>{kind:=.function,names:=[],isGenerator:=ac,isCoroutine:=ac}
end L2
namespace L2
open PySem Spec PyProof.Rows L2
structure Q5 where
 x:String
 q:String
 s:Jy
 m:Ae
 b:Bool
 r:Nat
 t:Nat
 l:Int
 n:Int
 k:Nat
def top(i:Nat):Jy:=Wg.main.body.getD i (.Pass ⟨0,0,0,0⟩)
def en(P:So)(x:String)(t:Uu)(v:Ae):Eg:=⟨PyData.keyHash P (Bz x),.str (Bz x) t,v⟩
abbrev sT(x:String)(t:Uu):Ae:=.str (Bz x) t
noncomputable abbrev cO(x:String)(a:Uu)(q:String)(b c:Uu)(l n:Int)(r:Am)(u v w y z:Ae)(k:Int)(d:Uu):Ms:=⟨.type "code",ae,.fields #[sT x a,sT q b,sT "/claim/cut.py" c,.int l 0,.int n 0,.int 0 0,.int 0 0,.int 3 0,.ref r,.bool ab,.int 181 0,u,v,w,y,z,.int k 0,.int l 0,sT "/claim/cut.py" d],#[]⟩
abbrev fO(x q:Av)(s:Jy)(m c:Ae):Ff:=Gb x q (jF s) (gD s) (dP s) .none .none .none m ae c .none
abbrev m0:Ae:=sT "readgrove.grammars" 223
abbrev m1:Ae:=sT "readgrove.covers" 284
abbrev m2:Ae:=sT "readgrove.queues" 311
abbrev m3:Ae:=sT "readgrove.leasts" 379
abbrev m4:Ae:=sT "readgrove.spans" 543
abbrev m5:Ae:=sT "readgrove.nexts" 560
abbrev m6:Ae:=sT "readgrove.trees" 579
abbrev m7:Ae:=sT "readgrove.plainer" 588
abbrev m8:Ae:=sT "law_readgrove_k65_whole_trees_led_back" 825
def Q5.c(d:Q5):Am:=d.r+(if d.b then 3 else 5)
noncomputable abbrev Q5.fd(d:Q5):Ff:=fO d.x d.q d.s d.m (.ref d.c)
def Q5.g(d:Q5)(i:Nat):Ae:=if d.b then .none else .ref (d.r+i)
noncomputable def Q5.o(d:Q5):↑(Am×Ms):=[(d.c,cO d.x d.t d.q (d.t+1) (d.t+2) d.l d.n d.r (.ref (d.r+1)) .none (d.g 2) (d.g 3) (.ref (d.r+(if d.b then 2 else 4))) d.k (d.k+1)),(d.c+1,⟨.type "function",ae,.func d.fd,#[]⟩)]
noncomputable def tbl:↑Q5:=[⟨"made_of","made_of",top 6,m0,ab,40,229,9,2,232⟩,
 ⟨"is_name","is_name",top 7,m0,ac,45,235,11,1,241⟩,
 ⟨"names","names",top 8,m0,ac,52,244,15,1,250⟩,
 ⟨"first_name","first_name",top 9,m0,ac,59,253,20,1,257⟩,
 ⟨"rules_of","rules_of",top 10,m0,ab,66,260,22,2,263⟩,
 ⟨"check_rule","check_rule",top 11,m0,ac,71,266,24,2,272⟩,
 ⟨"grammar_of","grammar_of",top 12,m0,ac,78,275,30,1,281⟩,
 ⟨"marks","marks",top 14,m1,ab,85,286,38,1,289⟩,
 ⟨"places_of","places_of",top 15,m1,ac,90,292,40,1,296⟩,
 ⟨"row_steps","row_steps",top 16,m1,ab,97,299,42,1,302⟩,
 ⟨"part_facts","part_facts",top 17,m1,ab,102,305,44,3,308⟩,
 ⟨"__init__","Queue.__init__",dW (top 19) 0,m2,ac,114,325,49,1,329⟩,
 ⟨"is_done","Queue.is_done",dW (top 19) 1,m2,ac,121,332,53,1,336⟩,
 ⟨"place_of","Queue.place_of",dW (top 19) 3,m2,ac,135,348,62,2,356⟩,
 ⟨"put","Queue.put",dW (top 19) 2,m2,ac,128,339,56,3,345⟩,
 ⟨"take","Queue.take",dW (top 19) 4,m2,ac,142,359,73,1,366⟩,
 ⟨"added","added",top 21,m3,ac,156,381,82,2,386⟩,
 ⟨"__init__","Search.__init__",dW (top 22) 0,m3,ac,170,401,86,3,407⟩,
 ⟨"reach","Search.reach",dW (top 22) 1,m3,ac,177,410,96,4,418⟩,
 ⟨"settle","Search.settle",dW (top 22) 4,m3,ac,198,448,123,4,460⟩,
 ⟨"step_by_name","Search.step_by_name",dW (top 22) 3,m3,ac,191,435,118,5,445⟩,
 ⟨"take_next","Search.take_next",dW (top 22) 2,m3,ac,184,421,102,1,432⟩,
 ⟨"least_trees","least_trees",top 23,m3,ac,212,479,132,4,489⟩,
 ⟨"facts_within","facts_within",top 24,m3,ab,219,492,140,3,495⟩,
 ⟨"knot_of","knot_of",top 27,m3,ac,238,526,167,2,531⟩,
 ⟨"same_word","same_word",top 26,m3,ac,231,517,165,3,523⟩,
 ⟨"made_of_best","made_of_best",top 25,m3,ac,224,498,151,5,514⟩,
 ⟨"best_tree","best_tree",top 28,m3,ac,245,534,169,3,540⟩,
 ⟨"row_trees","row_trees",top 30,m4,ac,252,545,172,3,551⟩,
 ⟨"no_weights","no_weights",top 31,m4,ab,259,554,174,1,557⟩,
 ⟨"words_of","words_of",top 33,m5,ac,264,562,177,1,570⟩,
 ⟨"shortest_lengths","shortest_lengths",top 34,m5,ab,271,573,185,1,576⟩,
 ⟨"is_tree","is_tree",top 36,m6,ac,276,581,190,1,585⟩,
 ⟨"made_names","made_names",top 40,m7,ac,283,594,195,2,603⟩,
 ⟨"slots","slots",top 41,m7,ac,290,606,205,1,610⟩,
 ⟨"__init__","Plainer.__init__",dW (top 42) 0,m7,ac,304,625,209,1,629⟩,
 ⟨"put_rule","Plainer.put_rule",dW (top 42) 1,m7,ac,311,632,212,4,639⟩,
 ⟨"is_part","Plainer.is_part",dW (top 42) 2,m7,ab,318,642,215,2,645⟩,
 ⟨"grammar_and_backs","Plainer.grammar_and_backs",dW (top 42) 3,m7,ac,323,648,218,1,652⟩,
 ⟨"nothing_read","nothing_read",top 43,m7,ac,337,664,220,1,670⟩,
 ⟨"empty_trees","empty_trees",top 44,m7,ab,344,673,225,1,676⟩,
 ⟨"wordy_names","wordy_names",top 45,m7,ab,349,679,228,1,682⟩,
 ⟨"thinned","thinned",top 46,m7,ab,354,685,240,4,688⟩,
 ⟨"put_thinned","put_thinned",top 47,m7,ac,359,691,247,5,703⟩,
 ⟨"no_empty","no_empty",top 48,m7,ac,366,706,253,1,719⟩,
 ⟨"check_no_empty","check_no_empty",top 49,m7,ab,373,722,272,1,725⟩,
 ⟨"is_single","is_single",top 50,m7,ac,378,728,278,2,733⟩,
 ⟨"single_chains","single_chains",top 51,m7,ac,385,736,280,3,747⟩,
 ⟨"chain_pieces","chain_pieces",top 52,m7,ac,392,750,291,3,758⟩,
 ⟨"put_chained","put_chained",top 53,m7,ab,399,761,296,4,764⟩,
 ⟨"no_single","no_single",top 54,m7,ac,404,767,304,1,774⟩,
 ⟨"long_ends","long_ends",top 55,m7,ac,411,777,313,1,784⟩,
 ⟨"shortened","shortened",top 56,m7,ac,418,787,319,2,792⟩,
 ⟨"twos","twos",top 57,m7,ac,425,795,321,1,806⟩,
 ⟨"put_together","put_together",top 58,m7,ac,432,809,332,2,816⟩,
 ⟨"back_tree","back_tree",top 59,m7,ab,439,819,342,2,822⟩,
 ⟨"_law_cell_at","_law_cell_at",top 61,m8,ac,444,827,358,2,832⟩,
 ⟨"_law_stir","_law_stir",top 62,m8,ac,451,835,362,2,841⟩,
 ⟨"_law_drawn","_law_drawn",top 63,m8,ac,458,844,366,2,852⟩,
 ⟨"_law_unlike","_law_unlike",top 64,m8,ac,465,855,376,3,869⟩,
 ⟨"_law_rule","_law_rule",top 65,m8,ac,472,872,391,4,882⟩,
 ⟨"_law_rules","_law_rules",top 66,m8,ab,479,885,400,3,888⟩,
 ⟨"_law_is_name","_law_is_name",top 67,m8,ac,484,891,409,1,895⟩,
 ⟨"_law_all_in","_law_all_in",top 68,m8,ab,491,898,411,2,901⟩,
 ⟨"_law_chosen","_law_chosen",top 69,m8,ac,496,904,413,1,914⟩,
 ⟨"_law_grow","_law_grow",top 70,m8,ac,503,917,421,4,929⟩,
 ⟨"_law_number","_law_number",top 71,m8,ac,510,932,438,1,936⟩,
 ⟨"_law_made","_law_made",top 72,m8,ac,517,939,442,3,948⟩,
 ⟨"_law_words","_law_words",top 73,m8,ac,524,951,455,1,957⟩,
 ⟨"_law_taken","_law_taken",top 74,m8,ab,531,960,462,2,963⟩,
 ⟨"_law_right","_law_right",top 75,m8,ab,536,966,471,4,969⟩,
 ⟨"law","law",top 76,m8,ac,541,972,488,1,985⟩]
noncomputable def xC(P:So)(x:String)(a t:Nat)(l:Int):↑(Am×Ms):=[(a-1,⟨.type "dict",ae,.dict [en P "__module__" (t+7) (sT "readgrove.errors" 187),en P "__firstlineno__" (t+11) (.int l (t+10)),en P "__static_attributes__" (t+12) (.ref (a-2)),en P "__doc__" (t+13) .none].toArray 2,#[]⟩),(a,⟨.type "type",ae,.cls ⟨x,[.ref 24],[.ref a,.ref 24,.type "ValueError",.type "Exception",.type "BaseException",.type "object"],a-1,x,ab,[],[],ac,ae,ac⟩,#[aa (.ref (a-9)),ae,aa (sT x t),aa (sT x (t+8)),aa (.builtin "ValueError.__new__"),aa (.bool ab)]⟩)]
def dL(i:Nat):Q5:=tbl.getD i ⟨"","",top 0,.none,ab,0,0,0,0,0⟩
def BX(i:Nat):Am:=(dL i).c+1
def eP(P:So)(i:Nat):Eg:=en P (dL i).x ((dL i).k+2) (.ref (BX i))
noncomputable def hpK:So->Ac:=λP=>tbl.flatMap Q5.o++xC P "NoGrammar" 37 207 4++[(nat_lit 3,⟨(.type "dict"),ae,.dict ([en P "__name__" 165 (sT "law_readgrove_k65_whole_trees_led_back" 825),en P "__doc__" 166 .none,en P "__package__" 167 .none,en P "__loader__" 168 (.builtin "__main__.__loader__#opaque"),en P "__spec__" 169 .none,en P "__annotations__" 170 (.ref 6),en P "__builtins__" 171 (.ref 4),en P "__file__" 173 (sT "/claim/cut.py" 172),en P "__cached__" 174 .none,en P "GroveError" 206 (.ref 24),en P "NoGrammar" 222 (.ref 37),en P "GREAT_LETTERS" 226 (sT "ABCDEFGHIJKLMNOPQRSTUVWXYZ" 225),en P "FIGURES" 228 (sT "0123456789" 227)]++[0,1,2,3,4,5,6,7,8,9,10].map (eP P)++[en P "Queue" 378 (.ref 151)]++[16].map (eP P)++[en P "Search" 478 (.ref 207)]++[22,23,26,25,24,27,28,29,30,31,32].map (eP P)++[en P "WHOLE" 591 (sT "whole" 590),en P "FIGURED_NAMES" 593 (.int 10000 592)]++[33,34].map (eP P)++[en P "Plainer" 663 (.ref 332)]++[39,40,41,42,43,44,45,46,47,48,49,50,51,52,53,54,55,56,57,58,59,60,61,62,63,64,65,66,67,68,69,70,71].map (eP P)).toArray 76,#[]⟩),
 (nat_lit 23,⟨(.type "dict"),ae,.dict [en P "__module__" 196 (sT "readgrove.errors" 187),en P "__firstlineno__" 200 (.int 2 199),en P "__static_attributes__" 201 (.ref 22),en P "__weakref__" 203 (.ref 25),en P "__doc__" 204 .none].toArray 3,#[]⟩),
 (nat_lit 24,⟨(.type "type"),ae,.cls ⟨(Bz "GroveError"),[(.type "ValueError")],[(.ref 24),(.type "ValueError"),(.type "Exception"),(.type "BaseException"),(.type "object")],23,(Bz "GroveError"),ab,[],[(.ref 37)],ac,ae,ac⟩,#[aa (.ref 15),ae,aa (sT "GroveError" 189),aa (sT "GroveError" 197),aa (.builtin "ValueError.__new__"),aa (.bool ab)]⟩),
 (nat_lit 150,⟨(.type "dict"),ae,.dict [en P "__module__" 320 (sT "readgrove.queues" 311),en P "__firstlineno__" 324 (.int 47 323),en P "__init__" 331 (.ref 120),en P "is_done" 338 (.ref 127),en P "put" 347 (.ref 134),en P "place_of" 358 (.ref 141),en P "take" 368 (.ref 148),en P "__static_attributes__" 371 (.ref 149),en P "__dict__" 373 (.ref 152),en P "__weakref__" 375 (.ref 153),en P "__doc__" 376 .none].toArray 4,#[]⟩),
 (nat_lit 151,⟨(.type "type"),ae,.cls ⟨(Bz "Queue"),[(.type "object")],[(.ref 151),(.type "object")],150,(Bz "Queue"),ab,[],[],ac,ae,ac⟩,#[ae,ae,aa (sT "Queue" 313),aa (sT "Queue" 321),aa (.builtin "object.__new__"),aa (.bool ab)]⟩),
 (nat_lit 206,⟨(.type "dict"),ae,.dict [en P "__module__" 396 (sT "readgrove.leasts" 379),en P "__firstlineno__" 400 (.int 84 399),en P "__init__" 409 (.ref 176),en P "reach" 420 (.ref 183),en P "take_next" 434 (.ref 190),en P "step_by_name" 447 (.ref 197),en P "settle" 462 (.ref 204),en P "__static_attributes__" 471 (.ref 205),en P "__dict__" 473 (.ref 208),en P "__weakref__" 475 (.ref 209),en P "__doc__" 476 .none].toArray 4,#[]⟩),
 (nat_lit 207,⟨(.type "type"),ae,.cls ⟨(Bz "Search"),[(.type "object")],[(.ref 207),(.type "object")],206,(Bz "Search"),ab,[],[],ac,ae,ac⟩,#[ae,ae,aa (sT "Search" 389),aa (sT "Search" 397),aa (.builtin "object.__new__"),aa (.bool ab)]⟩),
 (nat_lit 331,⟨(.type "dict"),ae,.dict [en P "__module__" 620 (sT "readgrove.plainer" 588),en P "__firstlineno__" 624 (.int 207 623),en P "__init__" 631 (.ref 310),en P "put_rule" 641 (.ref 317),en P "is_part" 647 (.ref 322),en P "grammar_and_backs" 654 (.ref 329),en P "__static_attributes__" 656 (.ref 330),en P "__dict__" 658 (.ref 333),en P "__weakref__" 660 (.ref 334),en P "__doc__" 661 .none].toArray 4,#[]⟩),
 (nat_lit 332,⟨(.type "type"),ae,.cls ⟨(Bz "Plainer"),[(.type "object")],[(.ref 332),(.type "object")],331,(Bz "Plainer"),ab,[],[],ac,ae,ac⟩,#[ae,ae,aa (sT "Plainer" 613),aa (sT "Plainer" 621),aa (.builtin "object.__new__"),aa (.bool ab)]⟩)]
noncomputable def NN:↑Am:=tbl.flatMap (λd=>[d.c,d.c+1])++[36,37,3,23,24,150,151,206,207,331,332]
noncomputable def qv:Be:={Wg with main:={Wg.main with body:=([1,2,4,5,6,7,8,9,10,11,12,14,15,16,17,19,21,22,23,24,25,26,27,28,30,31,33,34,36,38,39,40,41,42,43,44,45,46,47,48,49,50,51,52,53,54,55,56,57,58,59,61,62,63,64,65,66,67,68,69,70,71,72,73,74,75,76]:↑Nat).map top}}
def hk:PySem.W.Hook:=PySem.W.kHook hpK NN (λ_=>by kernel_rfl)
theorem BY{Z B j:Type}{o:Option Z}{f:Z->B}{g:Z->j}{a:B}{b:j}(h:o.map f=aa a)(k:o.map g=aa b):o.map (λs=>(f s,g s))=aa (a,b):=by
 cases o with
 | none=>cases h
 | some s=>cases h;cases k;rfl
open PySem.W in
theorem sM(p:Be)(w:Br)(N:Nat):openEnds Ue p w N=(fencedOpening Ue p w N).bind λs=>match s.heap.isNs Ed&&s.gens.size==0 with
 | true=>(PySem.W.Fast.tw14082659384304107361 PySem.W.Fast.tw14364793385576792824 p w ⇑s (s.heap.nsMap Ed "__annotations__") N s (topStub p)).bind λt=>match staticsOk (Sw p.main.body) s.heap t.heap&&namesBound p t.heap&&gensDone t&&laidKept s.heap t.heap with
  | true=>aa t
  | false=>ae
 | false=>ae:=by rw[<-PySem.W.Fast.te14082659384304107361,<-PySem.W.Fast.te14364793385576792824];rfl
abbrev mJ(w:Br):=PySem.W.openEnds Ue Wf.row.prog w 6816
open PySem.W in
noncomputable abbrev kB:=λs=>openSeen qv [] (Sw Wf.row.prog.main.body) (λs=>xlAt qv [] s&&recOk (Qr (Oj Wf.row)) s) ab s
set_option maxHeartbeats 0 in
theorem BZ(w:Br):(mJ w).map hk.obs=aa (hk.val w):=by unfold mJ;rw[sM];kernel_rfl
set_option maxHeartbeats 0 in
open PySem.W in
theorem NO(w:Br):(mJ w).map (λs=>(kB s).1)=aa (openGood qv []).1:=by unfold mJ;rw[sM];kernel_rfl
set_option maxHeartbeats 0 in
open PySem.W in
theorem NQ(w:Br):(mJ w).map (λs=>((kB s).2.1,(kB s).2.2.1,(kB s).2.2.2.1))=aa (bltViewBooted,ab,ab):=by unfold mJ;rw[sM];kernel_rfl
set_option maxHeartbeats 0 in
open PySem.W in
theorem NR(w:Br):(mJ w).map (λs=>(kB s).2.2.2.2)=aa (pinGoodD (drecsOf qv),plainGoodE qv (looseW qv []),plainGoodD qv [],wideGood qv,clsGoodW qv []):=by unfold mJ;rw[sM];kernel_rfl
theorem NS{Z B j m l i:Type}{o:Option Z}{e:Z->i}{f:Z->B}{g:Z->j}{h:Z->m}{k:Z->l}{u:i}{a:B}{b:j}{c:m}{d:l}(v:o.map e=aa u)(x:o.map (λs=>(f s,g s,h s))=aa (a,b,c))(z:o.map k=aa d):o.map (λs=>(e s,f s,g s,h s,k s))=aa (u,a,b,c,d):=by
 cases o with
 | none=>cases v
 | some s=>cases v;cases x;cases z;rfl
open PySem.W in
theorem nN(w:Br):(openEnds Ue Wf.row.prog w 6816).map (λs=>openSeen qv [] (Sw Wf.row.prog.main.body) (λs=>xlAt qv [] s&&recOk (Qr (Oj Wf.row)) s) ab s)=aa (openGood qv []):=NS (e:=λs=>(kB s).1) (f:=λs=>(kB s).2.1) (g:=λs=>(kB s).2.2.1) (h:=λs=>(kB s).2.2.2.1) (k:=λs=>(kB s).2.2.2.2) (NO w) (NQ w) (NR w)
set_option maxHeartbeats 0 in
theorem sN:Wf.wellSaid=ab:=by kernel_rfl
open PySem.W in
theorem NT:LeftO Wf.row.prog qv [] (λs=>xlAt qv [] s&&recOk (Qr (Oj Wf.row)) s) hk.obs hk.val 6816:=λw=>BY (nN w) (BZ w)
end L2
namespace L2
abbrev Pn:=↑(Am×Ms)
abbrev lO(x:Array Ae)(n:Nat:=0):Ms:={cls:=.type "list",data:=.seq x n}
abbrev Db(x:Av):Prop:=(x==("__debug__" : Av))=ac
abbrev aC:=Sum Int Av
def nO:aC->Ae->Bool
 | .inl k,v=>Value.isInt k v
 | .inr x,v=>Value.isStrOf x v
def NU(w:Br):aC->Int
 | .inl k=>hashInt k
 | .inr x=>hashStr w x
theorem kC:∀{k:aC} {v:Ae},nO k v=ab->(∃i t,k=Sum.inl i/\v=Value.int i t)\/(∃x t,k=Sum.inr x/\v=Value.str x t)
 | .inl i,v,h=>by
  let⟨t,e⟩:=Value.isInt_shape (k:=i) (v:=v) h;exact .inl ⟨i,t,rfl,e⟩
 | .inr x,v,h=>by
  let⟨t,e⟩:=Value.isStrOf_shape (x:=x) (v:=v) h;exact .inr ⟨x,t,rfl,e⟩
theorem NV(i:Int)(t:Uu):nO (.inl i) (.int i t)=ab:=by simp[nO,Value.isInt]
theorem NW(x:Av)(t:Uu):nO (.inr x) (.str x t)=ab:=by simp[nO,Value.isStrOf]
theorem NY(a b:Int):decide ((Sum.inl a:aC)=Sum.inl b)=(a==b):=by
 by_cases e:a=b
 .subst e;simp
 .have h:¬(Sum.inl a:aC)=Sum.inl b:=λq=>e (Sum.inl.inj q);rw[We h];exact(beq_eq_false_iff_ne.mpr e).symm
theorem NZ(a b:Av):decide ((Sum.inr a:aC)=Sum.inr b)=decide (a=b):=by
 by_cases e:a=b
 .subst e;simp
 .have h:¬(Sum.inr a:aC)=Sum.inr b:=λq=>e (Qq q);rw[We h,We e]
theorem N0(a:Int)(b:Av):decide ((Sum.inl a:aC)=Sum.inr b)=ac:=We (λq=>nomatch q)
theorem N1(a:Av)(b:Int):decide ((Sum.inr a:aC)=Sum.inl b)=ac:=We (λq=>nomatch q)
def bU(prog:Be)(w:Br):PySem.KeyKind prog w aC where
 is:=nO
 hash:=NU w
 inj:=λv a b m Z=>by
  rcases kC m with⟨i,t,rfl,rfl⟩|⟨x,t,rfl,rfl⟩
  .rcases kC Z with⟨j,u,rfl,e⟩|⟨y,u,rfl,e⟩
   .injection e with e1 _;rw[e1]
   .exact nomatch e
  .rcases kC Z with⟨j,u,rfl,e⟩|⟨y,u,rfl,e⟩
   .exact nomatch e
   .injection e with e1 _;rw[e1]
 byValue:=λk v h=>by
  rcases kC h with⟨i,t,rfl,rfl⟩|⟨x,t,rfl,rfl⟩<;>rfl
 pyHash:=λc h=>by
  rcases kC c with⟨i,t,rfl,rfl⟩|⟨x,t,rfl,rfl⟩
  .exact wpAny_pyHash_int h
  .exact wpAny_pyHash_str h
 eqBool:=λW c h=>by
  rcases kC W with⟨i,t,rfl,rfl⟩|⟨x,t,rfl,rfl⟩
  .rcases kC c with⟨j,u,rfl,rfl⟩|⟨y,u,rfl,rfl⟩
   .rw[NY]at h;exact Sk h
   .rw[N0]at h;exact SeqAt.EqAt.int_str i t y u _ _ _ _ h
  .rcases kC c with⟨j,u,rfl,rfl⟩|⟨y,u,rfl,rfl⟩
   .rw[N1]at h;exact SeqAt.EqAt.str_int x t j u _ _ _ _ h
   .rw[NZ]at h;exact wpAny_eqBool_str h
 «strs»:=λk x t v h=>by
  rcases kC h with⟨i,u,rfl,e⟩|⟨y,u,rfl,e⟩
  .exact nomatch e
  .injection e with e1 _;subst e1;cases v<;>rfl
theorem N2(prog:Be)(w:Br)(i:Int)(t:Uu):(bU prog w).is (.inl i) (.int i t)=ab:=NV i t
theorem N3(prog:Be)(w:Br)(x:Av)(t:Uu):(bU prog w).is (.inr x) (.str x t)=ab:=NW x t
inductive V where
 | non|bl (b:Bool)|int (i:Int)|str (x:Av)|byt (b:Array UInt8)|flt (b:UInt64)|ref (a:Am)|ty (n:String)
 deriving DecidableEq
def RelV:V->Ae->Prop
 | .non,u=>u=Value.none
 | .bl b,u=>u=Value.bool b
 | .int i,u=>∃t,u=Value.int i t
 | .str x,u=>∃t,u=Value.str x t
 | .byt b,u=>∃t,u=Value.bytes b t
 | .flt b,u=>∃t,u=Value.float b t
 | .ref a,u=>u=Value.ref a
 | .ty n,u=>u=Value.type n
abbrev a5:↑V->↑Ae->Prop:=Fz RelV
theorem a5.length(r:a5 xs us):↥xs=↥us:=Dg r
theorem a5.get:∀{xs:↑V} {us:↑Ae} {i:Nat} {x:V},a5 xs us->xs[i]? = aa x->∃u,us[i]? = aa u/\RelV x u
 | _,_,_,_,.nil,e=>by simp at e
 | _,_,0,_,.cons r _,e=>by simp at e;subst e;exact⟨_,rfl,r⟩
 | _,_,i+1,x,.cons _ t,e=>by
  let⟨u,h1,h2⟩:=a5.get (i:=i) (x:=x) t (by simpa using e);exact⟨u,by simpa using h1,h2⟩
theorem a5.set(r:RelV x u):∀{xs:↑V} {us:↑Ae} (i:Nat),a5 xs us->a5 (xs.set i x) (us.set i u)
 | _,_,_,.nil=>.nil
 | _,_,0,.cons _ t=>.cons r t
 | _,_,i+1,.cons q t=>.cons q (a5.set r i t)
theorem a5.append:∀{xs ys:↑V} {us ws:↑Ae},a5 xs us->a5 ys ws->a5 (xs++ys) (us++ws):=by
 intro xs ys us ws h s
 induction h with
 | nil=>exact s
 | cons r t E=>exact .cons r E
theorem a5.take:∀{xs:↑V} {us:↑Ae} (n:Nat),a5 xs us->a5 (xs.take n) (us.take n)
 | _,_,0,_=>.nil
 | _,_,_+1,.nil=>.nil
 | _,_,n+1,.cons r t=>.cons r (a5.take n t)
theorem a5.drop:∀{xs:↑V} {us:↑Ae} (n:Nat),a5 xs us->a5 (xs.drop n) (us.drop n)
 | _,_,0,r=>r
 | _,_,_+1,.nil=>.nil
 | _,_,n+1,.cons _ t=>a5.drop n t
def fM:Option V->Option Ae->Prop
 | some v,aa u=>RelV v u
 | none,ae=>True
 | _,_=>False
def KV{b:Type}:↑(b×V)->↑(b×Ae)->Prop:=Fz λ(p:b×V) (q:b×Ae)=>p.1=q.1/\RelV p.2 q.2
def kV:aC->V
 | .inl i=>.int i
 | .inr x=>.str x
inductive HO where
 | lst (xs:↑V)
 | tup (xs:↑V)
 | dK (kvs:↑(aC×V))|dT (kvs:↑(↑aC×V))
 | set (S:Int->Bool) (n:Nat)
 | ins (C dx:Am) (fs:↑(Av×V))
 | own (x:Am)
 | xd (fs:↑(Av×V))
 | met (f x:Am)
 | rng (lo hi:Int)
 | frz (o:Ms) (u:HO)
 | tbl (ps:Array Ae)
 | ext (φ:Du->Prop)
abbrev Hp:=Am->Option HO
def aL(H:Hp)(a:Am)(o:HO):Hp:=λb=>if b=a then aa o else H b
theorem b8{H:Hp}{a:Am}{o:HO}:aL H a o a=aa o:=by unfold aL;rw[Vz rfl]
theorem bD{H:Hp}{a b:Am}{o:HO}(h:b≠a):aL H a o b=H b:=by unfold aL;rw[Vy h]
theorem sO{H:Hp}{a b:Am}{o u:HO}(h:H a=aa o)(h':H b=aa u)(d:o≠u):a≠b:=by
 intro e;subst e;rw[h]at h';exact d (Ct h')
theorem eO{H:Hp}{a b:Am}{o:HO}(h:H a=aa o)(h':H b=ae):a≠b:=by
 intro e;subst e;rw[h]at h';cases h'
section
variable (P:Be)(w:Br)
def b5(H:Hp)(h:Du)(a:Am):HO->Prop
 | .lst xs=>↥xs<=Au/\∃(its:↑Ae) (n:Nat),a5 xs its/\h.get? a=aa (lO its.toArray n)
 | .tup xs=>↥xs<=Au/\∃its:↑Ae,a5 xs its/\IsTup h a its.toArray
 | .dK kvs=>↥kvs<=Au/\(a==Fu)=ac/\∃vs,KV kvs vs/\h.DictOf (bU P w) a vs
 | .dT kvs=>↥kvs<=Au/\(a==Fu)=ac/\∃xs:↑(↑aC×Am×Ae),
   Fz (λ(p:↑aC×V) (q:↑aC×Am×Ae)=>p.1=q.1/\H q.2.1=aa (.tup (p.1.map kV))/\RelV p.2 q.2.2) kvs xs/\
   ∃o es ep,h.get? a=aa o/\o.ExactDict/\o.data=.dict es ep/\es.toList=xs.map (Ro (Ho (bU P w)))/\(xs.map (·.1)).Nodup
 | .set S n=>h.SetOf (intKind P w) a S n
 | .ins C s fs=>H s=aa (.own a)/\↥fs<=1000/\s≠a/\h.get? a=aa (Ib C s)/\
   ∃g,h.Ns1 s g/\(∀f,fM (fs.lookup f) (g f))/\Sy g (fs.map (·.1))
 | .own _=>∃o,h.get? a=aa o
 | .xd fs=>∃g,h.Ns1 a g/\∀f,fM (fs.lookup f) (g f)
 | .rng lo hi=>∃t u v,h.get? a=aa {cls:=.type "range",data:=.fields #[.int lo t,.int hi u,.int 1 v]}
 | .frz o u=>h.get? a=aa o/\b5 H h a u
 | .tbl ps=>h.get? a=aa {cls:=.none,data:=.fields ps}
 | .met f x=>h.get? a=aa (Qd (.ref f) (.ref x))
 | .ext i=>i h/\(∃o,h.get? a=aa o)/\∀h1 h2:Du,i h1->(∀o,h1.get? a=aa o->h2.get? a=aa o)->i h2
def cS(H:Hp)(h:Du):Prop:=∀a o,H a=aa o->b5 P w H h a o
end
section
variable {P:Be}{w:Br}{H H':Hp}{h h':Du}{a:Am}{o:HO}
theorem b5.lt(x:b5 P w H h a o):a<h.objs.size:=by
 cases o with
 | lst xs=>let⟨_,_,_,_,e⟩:=x;exact Bd e
 | tup xs=>let⟨_,_,_,p⟩:=x;exact p.lt
 | dK kvs=>let⟨_,_,_,_,o,_,_,e,_⟩:=x;exact Bd e
 | dT kvs=>let⟨_,_,_,_,o,_,_,e,_⟩:=x;exact Bd e
 | set S n=>let⟨o,_,_,_,e,_⟩:=x;exact Bd e
 | ins C s fs=>let⟨_,_,_,e,_⟩:=x;exact Bd e
 | own y=>let⟨_,e⟩:=x;exact Bd e
 | xd fs=>obtain⟨_,⟨_,_,_,e,_⟩,_⟩:=x;exact Bd e
 | rng lo hi=>let⟨_,_,_,e⟩:=x;exact Bd e
 | frz ob u=>let⟨e,_⟩:=x;exact Bd e
 | tbl ps=>exact Bd (show h.get? a=aa _ from x)
 | met f y=>exact Bd (show h.get? a=aa _ from x)
 | ext i=>obtain⟨_,⟨_,e⟩,_⟩:=x;exact Bd e
theorem Paired.mapP{B j:Type}{F G:B->j->Prop}:∀{d:↑B} {c:↑j},Fz F d c->(∀a b,F a b->G a b)->Fz G d c:=by
 intro d c h f
 induction h with
 | nil=>exact .nil
 | cons r t E=>exact .cons (f _ _ r) E
theorem b5.stay(x:b5 P w H h a o)(k:∀b u,(b=a\/H b=aa (.own a))->h.get? b=aa u->h'.get? b=aa u)(Y:∀b,H b=aa (.own a)->H' b=aa (.own a))(ht:∀b xs,H b=aa (.tup xs)->H' b=aa (.tup xs)):b5 P w H' h' a o:=by
 induction o with
 | lst xs=>let⟨z,its,n,r,e⟩:=x;exact⟨z,its,n,r,k _ _ (.inl rfl) e⟩
 | tup xs=>let⟨z,its,r,ob,e,c⟩:=x;exact⟨z,its,r,ob,k _ _ (.inl rfl) e,c⟩
 | dK kvs=>let⟨z,y,vs,r,ob,es,ep,e,c⟩:=x;exact⟨z,y,vs,r,ob,es,ep,k _ _ (.inl rfl) e,c⟩
 | dT kvs=>
  let⟨z,y,xs,r,ob,es,ep,e,c⟩:=x;exact⟨z,y,xs,Paired.mapP r λp q z=>⟨z.1,ht _ _ z.2.1,z.2.2⟩,ob,es,ep,k _ _ (.inl rfl) e,c⟩
 | set S n=>let⟨ob,es,ep,t,e,c⟩:=x;exact⟨ob,es,ep,t,k _ _ (.inl rfl) e,c⟩
 | ins C s fs=>
  obtain⟨d,z,ne,e,g,⟨j,es,ep,T,c⟩,r⟩:=x;exact⟨Y _ d,z,ne,k _ _ (.inl rfl) e,g,⟨j,es,ep,k _ _ (.inr d) T,c⟩,r⟩
 | own y=>let⟨ob,e⟩:=x;exact⟨ob,k _ _ (.inl rfl) e⟩
 | xd fs=>obtain⟨g,⟨j,es,ep,e,c⟩,r⟩:=x;exact⟨g,⟨j,es,ep,k _ _ (.inl rfl) e,c⟩,r⟩
 | rng lo hi=>let⟨t,u,v,e⟩:=x;exact⟨t,u,v,k _ _ (.inl rfl) e⟩
 | frz ob u E=>let⟨e,q⟩:=x;exact⟨k _ _ (.inl rfl) e,E q⟩
 | tbl ps=>
  have e:h.get? a=aa {cls:=.none,data:=.fields ps}:=x;show h'.get? a=aa {cls:=.none,data:=.fields ps};exact k a _ (.inl rfl) e
 | met f y=>
  have e:h.get? a=aa (Qd (.ref f) (.ref y)):=x;show h'.get? a=aa (Qd (.ref f) (.ref y));exact k a _ (.inl rfl) e
 | ext i=>obtain⟨p,⟨o,e⟩,st⟩:=x;exact⟨st _ _ p λo q=>k _ _ (.inl rfl) q,⟨o,k _ _ (.inl rfl) e⟩,st⟩
theorem cS.lt(x:cS P w H h)(e:H a=aa o):a<h.objs.size:=(x a o e).lt
theorem cS.fresh(x:cS P w H h)(e:h.objs.size<=a):H a=ae:=by
 cases q:H a with
 | none=>rfl
 | some u=>exact absurd (Cb (x.lt q) e) (Km _)
theorem cS.kept(x:cS P w H h)(k:∀b u,h.get? b=aa u->h'.get? b=aa u):cS P w H h':=λa o e=>
 (x a o e).stay (λb u _ q=>k b u q) (λ_ q=>q) λ_ _ q=>q
theorem cS.laid(x:cS P w H h)(k:∀b u,h.get? b=aa u->h'.get? b=aa u)(G:h.objs.size<=a)(new:b5 P w (aL H a o) h' a o):cS P w (aL H a o) h':=λb u e=>by
 have hn:=x.fresh G
 by_cases Z:b=a
 .subst Z;rw[b8]at e;cases e;exact new
 .rw[bD Z]at e;exact(x b u e).stay (λc v _ q=>k c v q) (λc q=>by rw[bD (eO q hn)];exact q) λc xs q=>by rw[bD (eO q hn)];exact q
end
def Rd(H:Hp)(a:Am)(u:HO):Prop:=H a=aa u\/∃o,H a=aa (.frz o u)
theorem Rd.ok(r:Rd H a u)(x:cS P w H h):b5 P w H h a u:=by
 rcases r with r|⟨o,r⟩
 .exact x a u r
 .let⟨_,q⟩:=x a _ r;exact q
def qH:Option HO->Prop
 | some (.lst _)=>True
 | some (.dK _)=>True
 | some (.dT _)=>True
 | some (.set _ _)=>True
 | some (.ins _ _ _)=>True
 | some (.ext _)=>True
 | _=>False
section
variable {P:Be}{w:Br}{H:Hp}{h h':Du}{x e:Am}{o':HO}
theorem cS.write(ok:cS P w H h)(d:qH (H x))(Y:e=x\/H e=aa (.own x))(k:∀b u,b≠e->h.get? b=aa u->h'.get? b=aa u)(f:∃u,h'.get? e=aa u)(new:b5 P w (aL H x o') h' x o'):cS P w (aL H x o') h':=λb u q=>by
 have g:∀c y,H c=aa (.own y)->c≠x:=λc y r z=>by subst z;rw[r]at d;exact d
 have i:∀c xs,H c=aa (.tup xs)->c≠x:=λc xs r z=>by subst z;rw[r]at d;exact d
 by_cases Z:b=x
 .subst Z;rw[b8]at q;cases q;exact new
 .rw[bD Z]at q
  by_cases a:b=e
  .have A:H b=aa (.own x):=by
    rcases Y with z|z
    .exact absurd (a.trans z) Z
    .rw[a];exact z
   rw[q]at A;cases A;let⟨v,G⟩:=f;exact⟨v,by rw[a];exact G⟩
  .refine(ok b u q).stay (λc v hc r=>k c v ?_ r) (λc r=>by rw[bD (g c b r)];exact r) λc xs r=>by rw[bD (i c xs r)];exact r
   rcases hc with rfl|hc
   .exact a
   .rintro rfl;rcases Y with z|z
    .exact g c b hc z
    .rw[hc]at z;cases z;exact Z rfl
end
structure Un(fs ex:↑Am)(H H':Hp)(h h':Du):Prop where
 keep:∀b o,h.get? b=aa o->H b=ae->b∉fs->b∉ex->h'.get? b=aa o
 slot:∀b o,h.get? b=aa o->H b=ae->b∈fs->b∉ex->∃sl,h'.get? b=aa {o with slots:=sl}
 free:∀b o,h.get? b=aa o->H b=ae->b∉ex->H' b=ae
 there:∀b o,h.get? b=aa o->b∉ex->∃o',h'.get? b=aa o'
 tups:∀b xs,H b=aa (.tup xs)->H' b=aa (.tup xs)
 frzs:∀b o u,H b=aa (.frz o u)->H' b=aa (.frz o u)
 tbls:∀b ps,H b=aa (.tbl ps)->∃more,H' b=aa (.tbl (ps++more))
section
variable {fs fs' ex ex':↑Am}{H H1 H2:Hp}{h h1 h2 h':Du}{a x e:Am}{o:HO}
theorem Un.any(u:Un fs ex H H1 h h1)(q:h.get? b=aa ob)(n:H b=ae)(J:b∉ex):∃sl,h1.get? b=aa {ob with slots:=sl}:=by
 by_cases Z:b∈fs
 .exact u.slot b ob q n Z J
 .exact⟨ob.slots,u.keep b ob q n Z J⟩
theorem Un.kept(k:∀b u,h.get? b=aa u->h'.get? b=aa u):Un fs ex H H h h':=
 ⟨λb ob q _ _ _=>k b ob q,λb ob q _ _ _=>⟨ob.slots,k b ob q⟩,λ_ _ _ n _=>n,λb ob q _=>⟨ob,k b ob q⟩,λ_ _ q=>q,λ_ _ _ q=>q,λ_ ps q=>⟨#[],by rw[q];simp⟩⟩
theorem Un.refl:Un fs ex H H h h:=Un.kept λ_ _ q=>q
theorem Un.laid(k:∀b u,h.get? b=aa u->h'.get? b=aa u)(G:h.objs.size<=a)(hn:H a=ae):Un fs ex H (aL H a o) h h' where
 keep:=λb u q _ _ _=>k b u q
 slot:=λb u q _ _ _=>⟨u.slots,k b u q⟩
 free:=λb u q n _=>by rw[bD (Bn (Cb (Bd q) G))];exact n
 there:=λb u q _=>⟨u,k b u q⟩
 tups:=λb xs q=>by rw[bD (eO q hn)];exact q
 frzs:=λb u xs q=>by rw[bD (eO q hn)];exact q
 tbls:=λb ps q=>⟨#[],by rw[bD (eO q hn),q];simp⟩
theorem Un.write(d:qH (H x))(Y:e=x\/H e=aa (.own x))(k:∀b u,b≠e->h.get? b=aa u->h'.get? b=aa u)(f:∃u,h'.get? e=aa u):Un fs ex H (aL H x o) h h':=by
 have J:∀b,H b=ae->b≠x:=λb n z=>by subst z;rw[n]at d;exact d
 have Z:∀b,H b=ae->b≠e:=λb n z=>by
  subst z;rcases Y with r|r
  .exact J b n r
  .rw[n]at r;cases r
 have S:∀b u,H b=aa u->¬qH (aa u)->b≠x:=λb u q nm z=>by subst z;rw[q]at d;exact nm d
 refine⟨λb u q n _ _=>k b u (Z b n) q,λb u q n _ _=>⟨u.slots,k b u (Z b n) q⟩,λb u q n _=>by rw[bD (J b n)];exact n,λb u q _=>?_,
  λb xs q=>by rw[bD (S b _ q λz=>z)];exact q,λb u xs q=>by rw[bD (S b _ q λz=>z)];exact q,λb ps q=>⟨#[],by rw[bD (S b _ q λz=>z),q];simp⟩⟩
 by_cases a:b=e
 .subst a;exact f
 .exact⟨u,k b u a q⟩
end
def sP(h:Du)(H:Hp):↑Am:=(Cp h.objs.size).filter λa=>(H a).isSome
def lC(h:Du)(H:Hp):Du:=PySem.W.hideAll h (sP h H)
theorem N4(h:Du)(H:Hp):(lC h H).objs.size=h.objs.size:=PySem.W.hideAll_size _ _
theorem N5(e:h.get? b=aa o)(n:H b=ae):(lC h H).get? b=aa o:=
 PySem.W.hideAll_get _ e λS=>by
  have q:(H b).isSome=ab:=(Fo.mp S).2;rw[n]at q;simp at q
theorem N6(e:(lC h H).get? b=aa o):h.get? b=aa o/\H b=ae:=by
 have g:h.get? b=aa o:=PySem.W.of_hideAll (sP h H) e;refine⟨g,?_⟩;cases q:H b with
 | none=>rfl
 | some x=>
  have S:b∈sP h H:=Fo.mpr ⟨Hf.mpr (Bd g),by simp[q]⟩;have z:(lC h H).get? b=ae:=PySem.W.hideAll_none (sP h H) S;rw[z]at e;cases e
structure Mod(K:Ac)(mg:Av->Option Ae)(base:Du):Prop where
 kin:K.In base
 glob:base.Ns Ed mg
 blt:∃mb,base.Ns Vm mb/\∀x:Av,x≠"__name__"->mb x=Cu x
 nolimit:base.NoLimit
structure Cx where
 prog:Be
 w:Br
 K:Ac
 mg:Av->Option Ae
 base:Du
 A:Cw
 N:↑Av
 s₀:Ak
 H₀:Hp
 env:Env
 outer:↑Env
 stack:↑Env
 ex:↑Am
 fn:Av->Bool
 calm:Bool
 pn:↑(Am×Ms)
 xe:Ae->Ak->Prop
abbrev Cx.m(X:Cx):=De X.prog X.w
abbrev Cx.a(X:Cx){B:Type}(t:Sx B)(Q:B->Ak->Prop)(E:Ae->Ak->Prop)(s:Ak):Prop:=Bm X.m X.A t Q E s
abbrev Se(X:Cx)(e:Ck)(es:↑Ck):Prop:=Ci (e::es) X.env=(ac,Ef e X.env)::Ci es X.env
abbrev Sb(X:Cx)(pos:Hv)(es:↑Ck):Prop:=(Mz pos (Ci es X.env)).any (·.1)=ac
abbrev Fy(X:Cx)(x:Av):Prop:=X.fn x=ab\/X.env.scope.names.lookup x=aa .local
def iK(l:↑Env):↑Am:=l.filterMap (·.frame)
abbrev Cx.fs(X:Cx):↑Am:=iK X.outer
def sQ(sc:Le)(x:Av):Prop:=sc.names.lookup x=aa .local\/sc.names.lookup x=aa .cell\/sc.names.lookup x=aa .free
def Loc(sc:Le)(x:Av):Prop:=sc.names.lookup x=aa .local\/sc.names.lookup x=aa .cell
def Look(env:Env)(h:Du)(m:Av->Option Ae)(x:Av)(u:Ae):Prop:=
 (env.kindOf x=aa .local/\m x=aa u)\/((env.kindOf x=aa .cell\/env.kindOf x=aa .free)/\∃c,env.cells.lookup x=aa c/\h.IsCell c (aa u))
structure Cx.Ok(X:Cx):Prop where
 mod:Mod X.K X.mg X.base
 kind:X.env.scope.kind=.function
 glob:X.env.globals=Ed
 blt:X.env.builtins=Vm
 above:⇑X.s₀<=X.env.locals
 inj:∀x y c,X.env.cells.lookup x=aa c->X.env.cells.lookup y=aa c->x=y
 has:∀x,(X.env.kindOf x=aa .cell\/X.env.kindOf x=aa .free)->∃c,X.env.cells.lookup x=aa c
 cab:∀x c,X.fn x=ab->X.env.cells.lookup x=aa c->⇑X.s₀<=c
 hd:X.calm=ab->X.A.handled=ae
 frames:X.A.frames=aa X.stack
 stk:X.stack=X.outer\/(X.stack=X.env::X.outer/\X.env.frame=aa X.env.locals)
 exf:∀b∈X.ex,b≠X.env.locals/\∀x c,X.env.cells.lookup x=aa c->c≠b
 bs:∀b o,X.base.get? b=aa o->X.s₀.heap.get? b=aa o/\X.H₀ b=ae
 bsz:X.base.objs.size<=⇑X.s₀
 noex:∀b o,X.base.get? b=aa o->b∉X.ex
 exfs:∀b∈X.ex,b∉X.fs
 funs:X.s₀.heap.FunFrames X.base X.outer
 frf:∀b∈X.fs,X.H₀ b=ae
structure Inv(X:Cx)(af:Pn)(Z:↑(Option V))(H:Hp)(s:Ak):Prop where
 ok:X.Ok
 os:s.os=X.s₀.os
 bare:Pr s.gens
 base:Un X.fs X.ex X.H₀ H X.s₀.heap s.heap
 loc:∃m,s.heap.Ns X.env.locals m/\∀(i:Nat) (x:Av) (v:V),X.N[i]? = aa x->Z[i]? = aa (aa v)->sQ X.env.scope x->∃u,RelV v u/\Look X.env s.heap m x u
 cell:∀x c,X.env.cells.lookup x=aa c->∃v,s.heap.IsCell c v
 free:H X.env.locals=ae
 freeC:∀x c,X.env.cells.lookup x=aa c->H c=ae
 pin:∀p∈X.pn++af,s.heap.get? p.1=aa p.2/\H p.1=ae/\p.1≠X.env.locals/\p.1∉X.fs/\∀v,p.2.data≠.cell v
 hok:cS X.prog X.w H s.heap
 len:↥Z=↥X.N
section
variable {X:Cx}{af:Pn}{Z:↑(Option V)}{H H':Hp}{s:Ak}{h':Du}
theorem Cx.Ok.nofr(ok:X.Ok)(e:X.base.get? b=aa o):b∉X.fs:=λZ=>by
 have:=(ok.funs.mem Z).1;rw[e]at this;cases this
theorem Inv.bs(I:Inv X af Z H s):∀b o,X.base.get? b=aa o->s.heap.get? b=aa o/\H b=ae:=λb o e=>
 ⟨I.base.keep b o (I.ok.bs b o e).1 (I.ok.bs b o e).2 (I.ok.nofr e) (I.ok.noex b o e),I.base.free b o (I.ok.bs b o e).1 (I.ok.bs b o e).2 (I.ok.noex b o e)⟩
theorem Inv.bk(I:Inv X af Z H s):∀b o,X.base.get? b=aa o->s.heap.get? b=aa o:=λb o e=>(I.bs b o e).1
theorem Inv.mod(I:Inv X af Z H s):Mod X.K X.mg X.base:=I.ok.mod
theorem Inv.kIn(I:Inv X af Z H s):X.K.In s.heap:=I.ok.mod.kin.keeps I.bk
theorem Inv.lt(I:Inv X af Z H s):X.env.locals<⇑s:=let ⟨_,hn,_⟩:=I.loc;hn.lt
theorem Inv.sz(I:Inv X af Z H s):⇑X.s₀<=⇑s:=Ap I.ok.above (Ht I.lt)
theorem Inv.nofs(I:Inv X af Z H s)(h:⇑s<=a):a∉X.fs:=λY=>by
 let⟨_,o,f,_⟩:=I.ok.funs.mem Y;exact absurd (Cb (Bd f) (Ap I.sz h)) (Km _)
theorem Inv.cne(I:Inv X af Z H s):∀x c,X.env.cells.lookup x=aa c->c≠X.env.locals:=λx c e z=>by
 let⟨v,o,f,hd⟩:=I.cell x c e;obtain⟨m,⟨o',es,ep,B,n,_⟩,_⟩:=I.loc;rw[z,B]at f;cases f;rw[n]at hd;cases hd
theorem Inv.funs(I:Inv X af Z H s):s.heap.FunFrames X.base X.outer:=by
 have all:∀(l:↑Env),(∀b∈iK l,b∈X.fs)->X.s₀.heap.FunFrames X.base l->s.heap.FunFrames X.base l:=by
  intro l
  induction l with
  | nil=>intro _ _;trivial
  | cons env r E=>
   intro F hl;obtain⟨hk,⟨L,o,hf,hn,f,hd⟩,T⟩:=hl;have j:L∈X.fs:=F L (by unfold iK;rw[Fc,hf];exact Bl);let⟨sl,e⟩:=I.base.slot L o f (I.ok.frf L j) j λz=>I.ok.exfs L z j;exact⟨hk,⟨L,_,hf,hn,e,hd⟩,E (λb Y=>F b (by unfold iK;rw[Fc,hf];exact Bj _ Y)) T⟩
 exact all X.outer (λ_ Y=>Y) I.ok.funs
theorem Inv.stack(I:Inv X af Z H s):s.heap.FunFrames X.base X.stack:=by
 rcases I.ok.stk with e|⟨e,hf⟩
 .rw[e];exact I.funs
 .rw[e];let⟨m,hn,_⟩:=I.loc;refine .cons (by rw[I.ok.kind];decide) hf hn ?_ I.funs;exact Heap.get?_none_of_le (Ap I.ok.bsz I.ok.above)
theorem Inv.stkSub(I:Inv X af Z H s):∀b∈iK X.stack,b∈X.env.locals::X.fs:=λb Y=>by
 rcases I.ok.stk with e|⟨e,hf⟩
 .rw[e]at Y;exact Bj _ Y
 .rw[e]at Y;unfold iK at Y;rw[Fc,hf]at Y;exact Y
theorem Inv.stkFree(I:Inv X af Z H s):∀b∈iK X.stack,H b=ae:=λb Y=>by
 rcases Aw.mp (I.stkSub b Y) with e|Y
 .rw[e];exact I.free
 .let⟨_,o,f,_⟩:=I.ok.funs.mem Y;exact I.base.free b o f (I.ok.frf b Y) λz=>I.ok.exfs b z Y
theorem Inv.step{g':Array GenState}{t':Nat}{d':Drawn}{ch:↑Am}(I:Inv X af Z H s)(a:∀b∈ch,(b∈X.ex\/⇑X.s₀<=b)/\b≠X.env.locals/\(∀x c,X.env.cells.lookup x=aa c->c≠b)/\∀p∈X.pn++af,p.1≠b)(keep:∀b o,b≠X.env.locals->b∉X.fs->b∉ch->s.heap.get? b=aa o->H b=ae->h'.get? b=aa o)(slot:∀b o,b≠X.env.locals->b∈X.fs->b∉ch->s.heap.get? b=aa o->H b=ae->∃sl,h'.get? b=aa {o with slots:=sl})(free:∀b o,b∉ch->s.heap.get? b=aa o->H b=ae->H' b=ae)(there:∀b o,b∉ch->s.heap.get? b=aa o->∃o',h'.get? b=aa o')(tups:∀b xs,H b=aa (.tup xs)->H' b=aa (.tup xs))(frzs:∀b o u,H b=aa (.frz o u)->H' b=aa (.frz o u))(tbls:∀b ps,H b=aa (.tbl ps)->∃more,H' b=aa (.tbl (ps++more)))(ns:∀m,s.heap.Ns X.env.locals m->h'.Ns X.env.locals m)(hok:cS X.prog X.w H' h')(hg:Pr g'):
  Inv X af Z H' {s with heap:=h',gens:=g',drawn:=d',toks:=t'}:=by
 have y:∀b o,X.s₀.heap.get? b=aa o->b≠X.env.locals:=λb o e=>Bn (Cb (Bd e) I.ok.above);have t:∀b o,X.s₀.heap.get? b=aa o->b∉X.ex->b∉ch:=λb o e J Y=>by
  rcases(a b Y).1 with z|z
  .exact J z
  .exact absurd (Cb (Bd e) z) (Km _)
 have j:∀x c,X.env.cells.lookup x=aa c->∀v,s.heap.IsCell c v->h'.IsCell c v:=λx c e v ⟨o,f,hd⟩=>by
  have h:c∉ch:=λz=>(a c z).2.2.1 x c e rfl
  by_cases hc:c∈X.fs
  .let⟨sl,q⟩:=slot c o (I.cne x c e) hc h f (I.freeC x c e);exact⟨_,q,hd⟩
  .exact⟨o,keep c o (I.cne x c e) hc h f (I.freeC x c e),hd⟩
 refine⟨I.ok,I.os,hg,⟨λb o e n Y J=>?_,λb o e n Y J=>?_,λb o e n J=>?_,λb o e J=>?_,λb xs e=>tups b xs (I.base.tups b xs e),λb o xs e=>frzs b o xs (I.base.frzs b o xs e),λb ps e=>?_⟩,?_,λx c e=>?_,?_,λx c e=>?_,λp G=>?_,hok,I.len⟩
 .exact keep b o (y b o e) Y (t b o e J) (I.base.keep b o e n Y J) (I.base.free b o e n J)
 .let⟨sl,D⟩:=I.base.slot b o e n Y J;let⟨A,T⟩:=slot b _ (y b o e) Y (t b o e J) D (I.base.free b o e n J);exact⟨A,T⟩
 .let⟨o',D⟩:=I.base.there b o e J;exact free b o' (t b o e J) D (I.base.free b o e n J)
 .let⟨o',D⟩:=I.base.there b o e J;exact there b o' (t b o e J) D
 .let⟨m1,D⟩:=I.base.tbls b ps e;let⟨m2,T⟩:=tbls b _ D;exact⟨m1++m2,by rw[T,Array.append_assoc]⟩
 .let⟨m,hn,hl⟩:=I.loc;refine⟨m,ns m hn,λi x v D T P=>?_⟩;let⟨u,r,l⟩:=hl i x v D T P;refine⟨u,r,?_⟩;rcases l with l|⟨k,c,e,z⟩
  .exact .inl l
  .exact .inr ⟨k,c,e,j x c e _ z⟩
 .let⟨v,z⟩:=I.cell x c e;exact⟨v,j x c e v z⟩
 .obtain⟨m,⟨o,_,_,f,_⟩,_⟩:=I.loc;exact free _ o (λz=>(a _ z).2.1 rfl) f I.free
 .let⟨v,o,f,hd⟩:=I.cell x c e;exact free c o (λz=>(a c z).2.2.1 x c e rfl) f (I.freeC x c e)
 .let⟨e,n,ne,g,d⟩:=I.pin p G;have h:p.1∉ch:=λz=>(a p.1 z).2.2.2 p G rfl;exact⟨keep p.1 p.2 ne g h e n,free p.1 p.2 h e n,ne,g,d⟩
theorem Inv.un{t':Nat}(I:Inv X af Z H s)(u:Un X.fs [] H H' s.heap h')(hok:cS X.prog X.w H' h'):Inv X af Z H' {s with heap:=h',toks:=t'}:=by
 obtain⟨m,⟨o,es,ep,f,r⟩,_⟩:=id I.loc;let⟨sl,j⟩:=u.any f I.free (by simp);exact I.step (g':=s.gens) (d':=s.drawn) (ch:=[]) (λ_ z=>nomatch z) (λb o _ Y _ e n=>u.keep b o e n Y (by simp)) (λb o _ Y _ e n=>u.slot b o e n Y (by simp)) (λb o _ e n=>u.free b o e n (by simp)) (λb o _ e=>u.there b o e (by simp)) u.tups u.frzs u.tbls (λq S=>by
  let⟨o',A,F,B,W⟩:=S;rw[f]at B;cases B;exact⟨_,A,F,j,W⟩) hok I.bare
theorem Inv.call{g':Array GenState}{t':Nat}{d':Drawn}{ch:↑Am}(I:Inv X af Z H s)(u:Un (iK X.stack) ch H H' s.heap h')(hok:cS X.prog X.w H' h')(hg:Pr g')(a:∀b∈ch,(b∈X.ex\/⇑X.s₀<=b)/\b≠X.env.locals/\(∀x c,X.env.cells.lookup x=aa c->c≠b)/\∀p∈X.pn++af,p.1≠b):
  Inv X af Z H' {s with heap:=h',gens:=g',drawn:=d',toks:=t'}:=by
 obtain⟨m,⟨o,es,ep,f,r⟩,_⟩:=id I.loc;let⟨sl,j⟩:=u.any f I.free λz=>(a _ z).2.1 rfl;exact I.step (ch:=ch) a (λb o j Y hc e n=>u.keep b o e n (λz=>(Aw.mp (I.stkSub b z)).elim j Y) hc) (λb o _ _ hc e n=>u.any e n hc) (λb o hc e n=>u.free b o e n hc) (λb o hc e=>u.there b o e hc) u.tups u.frzs u.tbls (λq S=>by
  let⟨o',A,F,B,W⟩:=S;rw[f]at B;cases B;exact⟨_,A,F,j,W⟩) hok hg
theorem Inv.turned{t':Nat}{it:Am}(I:Inv X af Z H s)(k:∀b o,b≠it->s.heap.get? b=aa o->h'.get? b=aa o)(hn:H it=ae)(j:it≠X.env.locals)(h1:it∈X.ex\/⇑X.s₀<=it)(h2:∀x c,X.env.cells.lookup x=aa c->c≠it)(h3:∀p∈X.pn++af,p.1≠it):Inv X af Z H {s with heap:=h',toks:=t'}:=by
 have a:∀b u,H b=aa u->b≠it:=λb u e z=>by rw[z,hn]at e;cases e
 refine I.step (g':=s.gens) (d':=s.drawn) (ch:=[it]) (λb Y=>?_) (λb o _ _ hc e _=>k b o (λz=>hc (by simp[z])) e) (λb o _ _ hc e _=>⟨o.slots,k b o (λz=>hc (by simp[z])) e⟩) (λ_ _ _ _ n=>n)
  (λb o hc e=>⟨o,k b o (λz=>hc (by simp[z])) e⟩) (λ_ _ e=>e) (λ_ _ _ e=>e) (λb ps e=>⟨#[],by rw[e];simp⟩) (λm S=>?_) (λb u e=>?_) I.bare
 .have e:b=it:=by simpa using Y
  subst e;exact⟨h1,j,h2,h3⟩
 .let⟨o,es,ep,f,r⟩:=S;exact⟨o,es,ep,k _ o (Ca j) f,r⟩
 .refine(I.hok b u e).stay (λc v hc q=>k c v ?_ q) (λ_ q=>q) λ_ _ q=>q;rcases hc with z|z
  .rw[z];exact a b u e
  .exact a c _ z
theorem Inv.tok(I:Inv X af Z H s)(t:Nat):Inv X af Z H {s with toks:=t}:=I.un (h':=s.heap) (t':=t) Un.refl I.hok
theorem Inv.kept{t':Nat}(I:Inv X af Z H s)(k:∀b u,s.heap.get? b=aa u->h'.get? b=aa u):Inv X af Z H {s with heap:=h',toks:=t'}:=I.un (Un.kept k) (I.hok.kept k)
theorem Inv.laid{t':Nat}(I:Inv X af Z H s)(k:∀b u,s.heap.get? b=aa u->h'.get? b=aa u)(G:⇑s<=a)(new:b5 X.prog X.w (aL H a o) h' a o):
  Inv X af Z (aL H a o) {s with heap:=h',toks:=t'}:=I.un (Un.laid k G (I.hok.fresh G)) (I.hok.laid k G new)
theorem Inv.write{t':Nat}(I:Inv X af Z H s)(d:qH (H x))(Y:e=x\/H e=aa (.own x))(k:∀b u,b≠e->s.heap.get? b=aa u->h'.get? b=aa u)(f:∃u,h'.get? e=aa u)(new:b5 X.prog X.w (aL H x o) h' x o):Inv X af Z (aL H x o) {s with heap:=h',toks:=t'}:=I.un (Un.write d Y k f) (I.hok.write d Y k f new)
theorem Inv.pins_of(I:Inv X af Z H s)(h:∀p∈a,s.heap.get? p.1=aa p.2/\H p.1=ae/\p.1≠X.env.locals/\p.1∉X.fs/\∀v,p.2.data≠.cell v):Inv X a Z H s:=
 ⟨I.ok,I.os,I.bare,I.base,I.loc,I.cell,I.free,I.freeC,λp G=>(Bb.mp G).elim (λz=>I.pin p (Bf _ z)) (h p),I.hok,I.len⟩
theorem B0{N:↑Av}(t:N.Nodup){i j:Nat}{x:Av}(a:N[i]? = aa x)(b:N[j]? = aa x):i=j:=by
 let⟨h1,D⟩:=An.mp a;let⟨h2,T⟩:=An.mp b;exact(List.getElem_inj t).mp (D.trans T.symm)
theorem B1{M:Model}{A:Cw}{E:Ae->Ak->Prop}{i:Nat}{x:Av}{v:V}{u:Ae}{Q:Unit->Ak->Prop}(I:Inv X af Z H s)(t:X.N.Nodup)(hi:X.N[i]? = aa x)(J:Loc X.env.scope x)(r:RelV v u)(h:∀C,Inv X af (Z.set i (aa v)) H C->(∃a,Ek a s.heap C.heap/\(a=X.env.locals\/X.env.cells.lookup x=aa a))->Q () C)(hf:Fy X x:=by first|exact .inl rfl|exact .inr rfl|assumption):Bm M A (storeName X.env x u) Q E s:=by
 let⟨m,hn,hl⟩:=id I.loc;have hcls:(X.env.scope.kind==.class||(X.env.scope.kind==.module&&X.env.locals !=X.env.globals))=ac:=by rw[I.ok.kind];rfl
 have hiσ:i<↥Z:=by rw[I.len];exact(An.mp hi).1
 have cne:=I.cne;have f:∀{a:Am} {h':Du},(∃o,s.heap.get? a=aa o/\H a=ae)->Ek a s.heap h'->cS X.prog X.w H h':=λ{a h'} g F b ob e=>by
  let⟨_,_,B⟩:=g;refine(I.hok b ob e).stay (λc L hc q=>(F.2 c ?_).trans q) (λ_ q=>q) λ_ _ q=>q;rintro rfl;rcases hc with rfl|hc
  .rw[B]at e;cases e
  .rw[B]at hc;cases hc
 rcases J with hk|hk
 .refine wpAny_storeName_local hk hn (λh' hn' F=>?_) hcls;let⟨oL,_,_,hoL,_⟩:=id hn;refine h _ ⟨I.ok,I.os,I.bare,⟨λb o e n N J=>?_,λb o e n N J=>?_,I.base.free,λb o e J=>?_,I.base.tups,I.base.frzs,I.base.tbls⟩,⟨_,hn',λj y v' D T P=>?_⟩,λy c e=>?_,I.free,I.freeC,λp G=>?_,f ⟨oL,hoL,I.free⟩ F,by simpa using I.len⟩ ⟨_,F,.inl rfl⟩
  .exact(F.2 b (Bn (Cb (Bd e) I.ok.above))).trans (I.base.keep b o e n N J)
  .let⟨sl,D⟩:=I.base.slot b o e n N J;exact⟨sl,(F.2 b (Bn (Cb (Bd e) I.ok.above))).trans D⟩
  .let⟨o',D⟩:=I.base.there b o e J;exact⟨o',(F.2 b (Bn (Cb (Bd e) I.ok.above))).trans D⟩
  .by_cases hj:j=i
   .subst hj;rw[hi]at D;cases D;rw[List.getElem?_set_self hiσ]at T;cases T;exact⟨u,r,.inl ⟨hk,by simp⟩⟩
   .rw[List.getElem?_set_ne (Ca hj)]at T;let⟨K,W,q⟩:=hl j y v' D T P;refine⟨K,W,?_⟩;rcases q with⟨k,e⟩|⟨k,c,e,z⟩
    .refine .inl ⟨k,?_⟩;have:y≠x:=λe=>hj (B0 t D (e▸hi));simp[this,e]
    .exact .inr ⟨k,c,e,z.sameBut F (cne y c e)⟩
  .let⟨L,z⟩:=I.cell y c e;exact⟨L,z.sameBut F (cne y c e)⟩
  .let⟨e,n,ne,nf,d⟩:=I.pin p G;exact⟨(F.2 p.1 ne).trans e,n,ne,nf,d⟩
 .have hfn:X.fn x=ab:=by
   rcases hf with z|z
   .exact z
   .rw[z]at hk;cases hk
  let⟨c,hc⟩:=I.ok.has x (.inl hk);let⟨L,z⟩:=I.cell x c hc;refine wpAny_storeName_cell I.ok.kind hk hc z (λh' hc' F=>?_);let⟨O,U,hocd⟩:=id z;refine h {s with heap:=h'} ⟨I.ok,I.os,I.bare,⟨λb o e n N J=>?_,λb o e n N J=>?_,I.base.free,λb o e J=>?_,I.base.tups,I.base.frzs,I.base.tbls⟩,⟨m,hn.sameBut F (Ca (cne x c hc)),λj y v' D T P=>?_⟩,λy Y e=>?_,I.free,I.freeC,λp G=>?_,f ⟨O,U,I.freeC x c hc⟩ F,by simpa using I.len⟩ ⟨c,F,.inr hc⟩
  .exact(F.2 b (Bn (Cb (Bd e) (I.ok.cab x c hfn hc)))).trans (I.base.keep b o e n N J)
  .let⟨sl,D⟩:=I.base.slot b o e n N J;exact⟨sl,(F.2 b (Bn (Cb (Bd e) (I.ok.cab x c hfn hc)))).trans D⟩
  .let⟨o',D⟩:=I.base.there b o e J;exact⟨o',(F.2 b (Bn (Cb (Bd e) (I.ok.cab x c hfn hc)))).trans D⟩
  .by_cases hj:j=i
   .subst hj;rw[hi]at D;cases D;rw[List.getElem?_set_self hiσ]at T;cases T;exact⟨u,r,.inr ⟨.inl hk,c,hc,hc'⟩⟩
   .rw[List.getElem?_set_ne (Ca hj)]at T;let⟨K,W,q⟩:=hl j y v' D T P;refine⟨K,W,?_⟩;rcases q with q|⟨k,Y,e,l⟩
    .exact .inl q
    .refine .inr ⟨k,Y,e,l.sameBut F ?_⟩;rintro rfl;exact hj (B0 t D (I.ok.inj _ _ _ e hc▸hi))
  .by_cases hcc:Y=c
   .subst hcc;exact⟨_,hc'⟩
   .let⟨w2,R⟩:=I.cell y Y e;exact⟨w2,R.sameBut F hcc⟩
  .let⟨e,n,ne,nf,d⟩:=I.pin p G;refine⟨(F.2 p.1 ?_).trans e,n,ne,nf,d⟩;intro q;rw[q,U]at e;have S:O=p.2:=Ct e;exact d L (by rw[<-S];exact hocd)
theorem B2{E:Ae->Ak->Prop}{i:Nat}{Q:Unit->Ak->Prop}(I:Inv X af Z H s)(t:X.N.Nodup)(hi:X.N[i]? = aa x)(J:Loc X.env.scope x)(r:RelV v u)(h:∀j,Inv X af (Z.set i (aa v)) H j->Q () j)(hf:Fy X x:=by first|exact .inl rfl|exact .inr rfl|assumption):Bm M A (storeName X.env x u) Q E s:=
 B1 I t hi J r (λj F _=>h j F) hf
theorem Inv.call'(I:Inv X af Z H s)(f:j.os=s.os)(u:Un (iK X.stack) ch H H' s.heap j.heap)(hok:cS X.prog X.w H' j.heap)(hg:Pr j.gens)(a:∀b∈ch,(b∈X.ex\/⇑X.s₀<=b)/\b≠X.env.locals/\(∀x c,X.env.cells.lookup x=aa c->c≠b)/\∀p∈X.pn++af,p.1≠b):Inv X af Z H' j:=by
 let⟨h',g',d',t',o'⟩:=j;have e:o'=s.os:=f;subst e;exact I.call (g':=g') (t':=t') (d':=d') u hok hg a
end
abbrev XK:=Ae->Option Am->Hp->Prop
abbrev St:=↑(Option V)
abbrev VK:=V->Hp->Prop
abbrev TE:=St->Hp->VK->Prop
abbrev TT:=St->Hp->(Bool->Hp->Prop)->Prop
abbrev TA:=St->Hp->(↑V->Hp->Prop)->Prop
structure lE where
 nx:St->Hp->Prop
 rt:VK
 bk:St->Hp->Prop:=λ_ _=>False
 ct:St->Hp->Prop:=λ_ _=>False
abbrev TS:=lE->St->Hp->Prop
def EP(X:Cx)(af:Pn)(Z:St)(Q:VK)(u:Ae)(j:Ak):Prop:=∃v l,Inv X af Z l j/\RelV v u/\Q v l
def TP(X:Cx)(af:Pn)(Z:St)(Q:Bool->Hp->Prop)(b:Bool)(j:Ak):Prop:=∃l,Inv X af Z l j/\Q b l
def AP(X:Cx)(af:Pn)(Z:St)(Q:↑V->Hp->Prop)(us:↑Ae)(j:Ak):Prop:=∃vs l,Inv X af Z l j/\a5 vs us/\Q vs l
def SP(X:Cx)(af:Pn)(D:lE)(f:Flow)(j:Ak):Prop:=
 match f with
 | .next=>∃O l,Inv X af O l j/\D.nx O l
 | .brk=>∃O l,Inv X af O l j/\D.bk O l
 | .cont=>∃O l,Inv X af O l j/\D.ct O l
 | .ret u=>∃v O l,Inv X af O l j/\RelV v u/\D.rt v l
def PE(X:Cx)(e:Ck)(t:TE):Prop:=
 ∀(af:Pn) (s:Ak) (Z:St) (H:Hp) (Q:VK),Inv X af Z H s->t Z H Q->X.a (Ef e X.env) (EP X af Z Q) X.xe s
def PT(X:Cx)(e:Ck)(t:TT):Prop:=
 ∀(af:Pn) (s:Ak) (Z:St) (H:Hp) (Q:Bool->Hp->Prop),Inv X af Z H s->t Z H Q->X.a (Uq e X.env (Ef e X.env)) (TP X af Z Q) X.xe s
def PW(X:Cx)(e:Ck)(t:TT):Prop:=
 ∀(whole:Sx Ae) (af:Pn) (s:Ak) (Z:St) (H:Hp) (Q:Bool->Hp->Prop),Inv X af Z H s->t Z H Q->X.a (Uq e X.env whole) (TP X af Z Q) X.xe s
theorem PW.pt(h:PW X e t):PT X e t:=h _
def PA(X:Cx)(es:↑Ck)(t:TA):Prop:=
 ∀(pos:Hv) (af:Pn) (s:Ak) (Z:St) (H:Hp) (Q:↑V->Hp->Prop),Inv X af Z H s->t Z H Q->X.a (spliced (Mz pos (Ci es X.env))) (AP X af Z Q) X.xe s
def PS(X:Cx)(st:Jy)(t:TS):Prop:=
 ∀(af:Pn) (s:Ak) (Z:St) (H:Hp) (D:lE),Inv X af Z H s->t D Z H->X.a (exec st X.env) (SP X af D) X.xe s
def fN(X:Cx)(st:↑Jy)(t:TS):Prop:=
 ∀(af:Pn) (s:Ak) (Z:St) (H:Hp) (D:lE),Inv X af Z H s->t D Z H->X.a (execs st X.env) (SP X af D) X.xe s
theorem aZ{B:Type}{t:Sx B}{Q d:B->Ak->Prop}{M:Model}{A:Cw}{E:Ae->Ak->Prop}{s:Ak}(h:Bm M A t Q E s)(H:∀a s,Q a s->d a s):Bm M A t d E s:=Iw h H λ_ _ x=>x
section
variable {X:Cx}
def N7(i:Nat):TE:=λZ H Q=>∃v,Z[i]? = aa (aa v)/\Q v H
def tC(v:V):TE:=λ_ H Q=>Q v H
theorem B3{i:Nat}(t:X.N[i]? = aa x)(G:sQ X.env.scope x)(hd:Db x:=by decide)(p:(x==("__classdict__" : Av))=ac:=by decide):PE X (.Name x pos) (N7 i):=by
 intro af s Z H Q I h;let⟨v,e,h⟩:=h;let⟨m,hn,hl⟩:=I.loc;let⟨u,r,l⟩:=hl i x v t e G;have fin:EP X af Z Q u s:=⟨v,H,I,r,h⟩;rcases l with⟨hk,S⟩|⟨hk,c,hc,a⟩
 .exact Vg (wpAny_loadName_local I.ok.kind hk hn S fin) hd
 .rcases hk with hk|hk
  .exact Vg (wpAny_loadName_cell I.ok.kind hk hc a fin) hd
  .exact Vg (wpAny_loadName_free I.ok.kind hk hc a fin p) hd
theorem N8{i j pos}:PE X (.Constant (.int i) j pos) (tC (.int i)):=λ_ _ _ H _ I h=>wpAny_Constant_int ⟨.int i,H,I.tok _,⟨_,rfl⟩,h⟩
theorem N9{b j pos}:PE X (.Constant (.bool b) j pos) (tC (.bl b)):=λ_ _ _ H _ I h=>Constant_bool ⟨.bl b,H,I,rfl,h⟩
theorem OA{x j pos}:PE X (.Constant (.str x) j pos) (tC (.str x)):=λ_ _ _ H _ I h=>Calls.Constant_str ⟨.str x,H,I.tok _,⟨_,rfl⟩,h⟩
def Gl(X:Cx)(x:Av):Prop:=X.env.kindOf x=aa .globalImplicit
theorem sR{E:Ae->Ak->Prop}{Q:Ae->Ak->Prop}(I:Inv X af Z H s)(hg:Gl X x)(S:X.mg x=aa u)(h:Q u s)(hd:Db x:=by decide):X.a (Ef (.Name x pos) X.env) Q E s:=
 Calls.Name_function_global I.ok.kind hg (Calls.loadGlobal_global (by rw[I.ok.glob];exact I.mod.glob.keeps I.bk) S h) hd
theorem gE{E:Ae->Ak->Prop}{Q:Ae->Ak->Prop}(I:Inv X af Z H s)(hg:Gl X x)(S:X.mg x=ae)(c:Cu x=aa u)(h:Q u s)(hn:x≠"__name__":=by decide)(hd:Db x:=by decide):X.a (Ef (.Name x pos) X.env) Q E s:=by
 let⟨P,O,L⟩:=I.mod.blt;exact Calls.Name_function_global I.ok.kind hg (Calls.loadGlobal_builtin (by rw[I.ok.glob];exact I.mod.glob.keeps I.bk) S (by rw[I.ok.blt];exact O.keeps I.bk) ((L x hn).trans c) h) hd
theorem OB(hg:Gl X x)(S:X.mg x=aa u)(r:RelV v u)(hd:Db x:=by decide):PE X (.Name x pos) (tC v):=
 λ_ _ _ H _ I h=>sR I hg S ⟨v,H,I,r,h⟩ hd
theorem OC(hg:Gl X x)(S:X.mg x=ae)(c:Cu x=aa u)(r:RelV v u)(hn:x≠"__name__":=by decide)(hd:Db x:=by decide):PE X (.Name x pos) (tC v):=
 λ_ _ _ H _ I h=>gE I hg S c ⟨v,H,I,r,h⟩ hn hd
variable {a b:Ck}{ta tb:TE}{pos:Hv}
variable {tA tB':TT}{rest:↑Ck}
def OD(t u:TT):TT:=λZ H Q=>t Z H λc j=>if c=ab then u Z j Q else Q ac j
def OE(t u:TT):TT:=λZ H Q=>t Z H λc j=>if c=ab then Q ab j else u Z j Q
def OF(t:TT):TT:=λZ H Q=>t Z H λc j=>Q (!c) j
theorem OG(m:PT X a tA):PW X (.BoolOp .And [a] pos) tA:=by
 intro d af s Z H Q I h;refine isTrue_and (aZ (m af s Z H Q I h) λc U e=>?_);cases c with
 | true=>exact isTrue_and_nil e
 | false=>exact e
theorem OH(m:PT X a tA):PW X (.BoolOp .Or [a] pos) tA:=by
 intro d af s Z H Q I h;refine isTrue_or (aZ (m af s Z H Q I h) λc U e=>?_);cases c with
 | false=>exact isTrue_or_nil e
 | true=>exact e
theorem OI(m:PT X a tA)(Y:PW X (.BoolOp .And (b::rest) pos) tB'):PW X (.BoolOp .And (a::b::rest) pos) (OD tA tB'):=by
 intro d af s Z H Q I h;refine isTrue_and (aZ (m af s Z H _ I h) λc U ⟨j,M,g⟩=>?_);cases c with
 | true=>exact Y d af U Z j Q M g
 | false=>exact⟨j,M,g⟩
theorem OJ(m:PT X a tA)(Y:PW X (.BoolOp .Or (b::rest) pos) tB'):PW X (.BoolOp .Or (a::b::rest) pos) (OE tA tB'):=by
 intro d af s Z H Q I h;refine isTrue_or (aZ (m af s Z H _ I h) λc U ⟨j,M,g⟩=>?_);cases c with
 | true=>exact⟨j,M,g⟩
 | false=>exact Y d af U Z j Q M g
theorem OL(m:PT X a tA):PT X (.UnaryOp .Not a pos) (OF tA):=by
 intro af s Z H Q I h;exact isTrue_not (m af s Z H (λc j=>Q (!c) j) I h)
def OM(ta tb:TE):TE:=λZ H Q=>ta Z H λx j=>∃c,x=.bl c/\if c=ab then tb Z j Q else Q (.bl ac) j
def ON(ta tb:TE):TE:=λZ H Q=>ta Z H λx j=>∃c,x=.bl c/\if c=ab then Q (.bl ab) j else tb Z j Q
theorem OO{op}(h:PE X a t):PE X (.BoolOp op [a] pos) t:=λaf s Z H Q I hw=>BoolOp_one (h af s Z H Q I hw)
theorem OP(m:PE X a ta)(Y:PE X (.BoolOp .And (b::rest) pos) tb):PE X (.BoolOp .And (a::b::rest) pos) (OM ta tb):=by
 intro af s Z H Q I h;refine BoolOp_and (aZ (m af s Z H _ I h) λv U A=>?_);let⟨x,j,M,l,g⟩:=A;let⟨c,rfl,g⟩:=g;cases l;refine Hn ?_;cases c with
 | true=>exact Y af U Z j Q M g
 | false=>exact⟨.bl ac,j,M,rfl,g⟩
theorem OQ(m:PE X a ta)(Y:PE X (.BoolOp .Or (b::rest) pos) tb):PE X (.BoolOp .Or (a::b::rest) pos) (ON ta tb):=by
 intro af s Z H Q I h;refine BoolOp_or (aZ (m af s Z H _ I h) λv U A=>?_);let⟨x,j,M,l,g⟩:=A;let⟨c,rfl,g⟩:=g;cases l;refine Hn ?_;cases c with
 | false=>exact Y af U Z j Q M g
 | true=>exact⟨.bl ab,j,M,rfl,g⟩
def OR(t:TT)(ta tb:TE):TE:=λZ H Q=>t Z H λc j=>if c=ab then ta Z j Q else tb Z j Q
theorem OS{c:Ck}(hc:PT X c tA)(m:PE X a ta)(Y:PE X b tb):PE X (.IfExp c a b pos) (OR tA ta tb):=by
 intro af s Z H Q I h;refine wpAny_IfExp (aZ (hc af s Z H _ I h) λd U ⟨j,M,g⟩=>?_);cases d with
 | true=>exact m af U Z j Q M g
 | false=>exact Y af U Z j Q M g
end
def bN(K:Ac)(H:Hp)(a:Am)(xs:↑V):Prop:=
 Rd H a (.lst xs)\/
  ∃(o:Ms) (its:Array Ae) (n:Nat),K.lookup a=aa o/\o.cls=.type "list"/\o.dict=ae/\o.data=.seq its n/\its.size<=Au/\a5 xs its.toList
def bL(K:Ac)(H:Hp)(a:Am)(xs:↑V):Prop:=
 Rd H a (.tup xs)\/
  ∃(o:Ms) (its:Array Ae) (n:Nat),K.lookup a=aa o/\o.cls=.type "tuple"/\o.data=.seq its n/\its.size<=Au/\a5 xs its.toList
noncomputable def OT:Ae->Option V
 | .none=>aa .non
 | .bool b=>aa (.bl b)
 | .int i _=>aa (.int i)
 | .str x _=>aa (.str x)
 | .bytes b _=>aa (.byt b)
 | .float b _=>aa (.flt b)
 | .ref a=>aa (.ref a)
 | .type n=>aa (.ty n)
 | _=>ae
theorem RelV.abs(r:RelV x u):OT u=aa x:=by
 cases x with
 | non=>cases r;rfl
 | bl _=>cases r;rfl
 | int _=>let⟨t,rfl⟩:=r;rfl
 | str _=>let⟨t,rfl⟩:=r;rfl
 | byt _=>let⟨t,rfl⟩:=r;rfl
 | flt _=>let⟨t,rfl⟩:=r;rfl
 | ref _=>cases r;rfl
 | ty _=>cases r;rfl
theorem RelV.inj(r:RelV x u)(q:RelV y u):x=y:=Ct (r.abs.symm.trans q.abs)
theorem a5.inj:∀{xs ys:↑V} {us:↑Ae},a5 xs us->a5 ys us->xs=ys:=by
 intro xs ys us h k
 induction h generalizing ys with
 | nil=>cases k;rfl
 | cons r t E=>
  cases k with
  | cons W t'=>rw[r.inj W,E t']
section
variable {X:Cx}{af:Pn}{Z:St}{H:Hp}{s:Ak}{a:Am}{xs ys:↑V}
theorem bN.of{K:Ac}(h:H a=aa (.lst xs)):bN K H a xs:=.inl (.inl h)
theorem bL.of{K:Ac}(h:H a=aa (.tup xs)):bL K H a xs:=.inl (.inl h)
theorem Inv.list(I:Inv X af Z H s)(h:bN X.K H a xs):∃its:↑Ae,a5 xs its/\PlainL s.heap a its.toArray/\↥xs<=Au:=by
 rcases h with h|⟨o,its,n,hk,hc,hd,F,hz,r⟩
 .let⟨z,its,n,r,e⟩:=h.ok I.hok;exact⟨its,r,⟨_,n,e,rfl,rfl,rfl⟩,z⟩
 .refine⟨its.toList,r,⟨o,n,I.kIn a o hk,hc,hd,by simpa using F⟩,?_⟩;have e:=↥r;simp only[Ey]at e;lia
theorem Inv.tuple(I:Inv X af Z H s)(h:bL X.K H a xs):∃its:↑Ae,a5 xs its/\IsTup s.heap a its.toArray/\↥xs<=Au:=by
 rcases h with h|⟨o,its,n,hk,hc,F,hz,r⟩
 .let⟨z,its,r,p⟩:=h.ok I.hok;exact⟨its,r,p,z⟩
 .refine⟨its.toList,r,⟨o,I.kIn a o hk,hc,n,by simpa using F⟩,?_⟩;have e:=↥r;simp only[Ey]at e;lia
theorem Inv.list_inj(I:Inv X af Z H s)(h:bN X.K H a xs)(h':bN X.K H a ys):xs=ys:=by
 obtain⟨its,r,⟨o,n,e,_,_,d⟩,_⟩:=I.list h;obtain⟨its',W,⟨U,D,g,_,_,d'⟩,_⟩:=I.list h';rw[e]at g;cases g;rw[d]at d';injection d' with d1 _;have:its=its':=by simpa using congrArg Array.toList d1
 subst this;exact r.inj W
theorem Inv.tuple_inj(I:Inv X af Z H s)(h:bL X.K H a xs)(h':bL X.K H a ys):xs=ys:=by
 obtain⟨its,r,⟨o,e,_,n,d⟩,_⟩:=I.tuple h;obtain⟨its',W,⟨U,g,_,D,d'⟩,_⟩:=I.tuple h';rw[e]at g;cases g;rw[d]at d';injection d' with d1 _;have:its=its':=by simpa using congrArg Array.toList d1
 subst this;exact r.inj W
end
noncomputable abbrev Cx.wish(X:Cx)(E:Ae->Ak->Prop):Cx:={X with xe:=E}
noncomputable abbrev Cx.nox(X:Cx):Cx:=X.wish λ_ _=>False
theorem Cx.Ok.wish{X:Cx}(ok:X.Ok)(E:Ae->Ak->Prop):(X.wish E).Ok:=
 ⟨ok.mod,ok.kind,ok.glob,ok.blt,ok.above,ok.inj,ok.has,ok.cab,ok.hd,ok.frames,ok.stk,ok.exf,ok.bs,ok.bsz,ok.noex,ok.exfs,ok.funs,ok.frf⟩
theorem Cx.Ok.unwish{X:Cx}{E:Ae->Ak->Prop}(ok:(X.wish E).Ok):X.Ok:=
 ⟨ok.mod,ok.kind,ok.glob,ok.blt,ok.above,ok.inj,ok.has,ok.cab,ok.hd,ok.frames,ok.stk,ok.exf,ok.bs,ok.bsz,ok.noex,ok.exfs,ok.funs,ok.frf⟩
section
variable {X:Cx}{af:Pn}{Z:St}{H:Hp}{s:Ak}{E:Ae->Ak->Prop}
theorem Inv.wish(I:Inv X af Z H s)(E:Ae->Ak->Prop):Inv (X.wish E) af Z H s:=⟨I.ok.wish E,I.os,I.bare,I.base,I.loc,I.cell,I.free,I.freeC,I.pin,I.hok,I.len⟩
theorem Inv.unwish(I:Inv (X.wish E) af Z H s):Inv X af Z H s:=⟨I.ok.unwish,I.os,I.bare,I.base,I.loc,I.cell,I.free,I.freeC,I.pin,I.hok,I.len⟩
theorem SP.unwish(h:SP (X.wish E) af D f s'):SP X af D f s':=by
 cases f with
 | next=>let⟨σ',H',I,q⟩:=h;exact⟨σ',H',I.unwish,q⟩
 | brk=>let⟨σ',H',I,q⟩:=h;exact⟨σ',H',I.unwish,q⟩
 | cont=>let⟨σ',H',I,q⟩:=h;exact⟨σ',H',I.unwish,q⟩
 | ret u=>let⟨v,σ',H',I,r,q⟩:=h;exact⟨v,σ',H',I.unwish,r,q⟩
theorem fN.nox{st:↑Jy}{t:TS}(h:fN X.nox st t):fN X st t:=λaf s Z H D I hw=>
 Iw (h af s Z H D (I.wish _) hw) (λ_ _ q=>q.unwish) λ_ _ z=>Bq z
end
section
variable {X:Cx}{st:Jy}{rest:↑Jy}{t u:TS}{e:Ck}{te:TE}{pos:Hv}
def OU:TS:=λD Z H=>D.nx Z H
def OV(t u:TS):TS:=λD Z H=>t {D with nx:=u D} Z H
theorem OW:fN X [] OU:=λ_ _ Z H _ I h=>Pu ⟨Z,H,I,h⟩
theorem OX(h1:PS X st t)(h2:fN X rest u):fN X (st::rest) (OV t u):=by
 intro af s Z H D I h;refine wpAny_execs_cons (aZ (h1 af s Z H {D with nx:=u D} I h) λf s1 q=>?_);cases f with
 | next=>
  let⟨σ',H',I',q⟩:=q;exact h2 af s1 σ' H' D I' q
 | ret v=>exact q
 | brk=>exact q
 | cont=>exact q
theorem OY(h1:PS X st t):fN X [st] t:=by
 intro af s Z H D I h;refine wpAny_execs_cons (aZ (h1 af s Z H D I h) λf s1 q=>?_);cases f with
 | next=>exact Pu q
 | ret v=>exact q
 | brk=>exact q
 | cont=>exact q
theorem Inv.quiet(I:Inv X af Z H s):interactive X.env=ac:=by simp[interactive,I.ok.kind]
def OZ(te:TE):TS:=λD Z H=>te Z H λ_ j=>D.nx Z j
theorem O0(Y:PE X e te)(F:Mg e ae pos.line X.env=pure ac:=by rfl):PS X (.Expr e pos) (OZ te):=by
 intro af s Z H D I h;exact wpAny_Expr_any (aZ (Y af s Z H _ I h) λv U ⟨x,j,M,l,g⟩=>⟨Z,j,M,g⟩) I.quiet F
def O3(te:TE):TS:=λD Z H=>te Z H D.rt
theorem O4(Y:PE X e te):PS X (.Return (aa e) pos) (O3 te):=by
 intro af s Z H D I h;exact wpAny_Return_some (aZ (Y af s Z H _ I h) λv U ⟨x,j,M,l,g⟩=>⟨x,Z,j,M,l,g⟩)
def O5:TS:=λD _ H=>D.rt .non H
theorem O6:PS X (.Return ae pos) O5:=λ_ _ Z H _ I h=>wpAny_Return_none ⟨.non,Z,H,I,rfl,h⟩
def O7(c:TT)(t u:TS):TS:=λD Z H=>c Z H λb j=>if b=ab then t D Z j else u D Z j
theorem O8{c:Ck}{a b:↑Jy}{tc:TT}(hc:PT X c tc)(m:fN X a t)(Y:fN X b u):PS X (.If c a b pos) (O7 tc t u):=by
 intro af s Z H D I h;refine wpAny_If (aZ (hc af s Z H _ I h) λd U ⟨j,M,g⟩=>?_);cases d with
 | true=>exact m af U Z j D M g
 | false=>exact Y af U Z j D M g
def O9:TS:=λ_ _ _=>False
theorem PB:PS X st O9:=λ_ _ _ _ _ _ h=>h.elim
end
abbrev TG:=V->St->Hp->(St->Hp->Prop)->Prop
abbrev jT:=↑V->St->Hp->(St->Hp->Prop)->Prop
def PG(X:Cx)(b:Ck)(t:TG):Prop:=
 ∀(af:Pn) (s:Ak) (Z:St) (H:Hp) (v:V) (u:Ae) (Q:St->Hp->Prop),Inv X af Z H s->RelV v u->t v Z H Q->
  X.a (Oh b X.env u) (λ_ j=>∃O l,Inv X af O l j/\Q O l) X.xe s
def iZ(X:Cx)(ts:↑Ck)(t:jT):Prop:=
 ∀(af:Pn) (s:Ak) (Z:St) (H:Hp) (vs:↑V) (us:↑Ae) (Q:St->Hp->Prop),Inv X af Z H s->a5 vs us->t vs Z H Q->
  X.a (assignInOrder ((Ih ts X.env).map (·.2)) us) (λ_ j=>∃O l,Inv X af O l j/\Q O l) X.xe s
abbrev sS:=V->V->V->Hp->(Hp->Prop)->Prop
def sU(X:Cx)(t:sS):Prop:=
 ∀(af:Pn) (s:Ak) (Z:St) (H:Hp) (o i v:V) (p D u:Ae) (Q:Hp->Prop),Inv X af Z H s->RelV o p->RelV i D->RelV v u->t o i v H Q->
  X.a (Vo p D u) (λ_ j=>∃l,Inv X af Z l j/\Q l) X.xe s
section
variable {X:Cx}{pos:Hv}
def w5(i:Nat):TG:=λv Z H Q=>Q (Z.set i (aa v)) H
theorem PC{i:Nat}(t:X.N.Nodup)(hi:X.N[i]? = aa x)(J:Loc X.env.scope x)(hf:Fy X x:=by first|exact .inl rfl|exact .inr rfl|assumption):PG X (.Name x pos) (w5 i):=by
 intro af s Z H v u Q I r h;exact wpAny_assign_Name (B2 I t hi J r (λj F=>⟨_,H,F,h⟩) hf)
def PD:jT:=λvs Z H Q=>vs=[]/\Q Z H
def PF(t:TG)(u:jT):jT:=λvs Z H Q=>∃v r,vs=v::r/\t v Z H λO l=>u r O l Q
theorem PH:iZ X [] PD:=by
 intro af s Z H vs us Q I r h;let⟨e,h⟩:=h;subst e;cases r;exact assignInOrder_nil ⟨Z,H,I,h⟩
theorem PJ{e:Ck}{es:↑Ck}{t:TG}{u:jT}(O:PG X e t)(L:iZ X es u)(F:(Ih (e::es) X.env).map (·.2)=Oh e X.env::(Ih es X.env).map (·.2):=by rfl):iZ X (e::es) (PF t u):=by
 intro af s Z H vs us Q I r h;let⟨v,a,D,h⟩:=h;subst D;cases r with
 | cons r c=>
  rw[F];refine assignInOrder_cons (aZ (O af s Z H _ _ _ I r h) λ_ U ⟨x,j,M,g⟩=>?_);exact L af U x j _ _ Q M c g
def PK(K:Ac)(n:Nat)(t:jT):TG:=λv Z H Q=>∃a xs,v=.ref a/\bL K H a xs/\↥xs=n/\t xs Z H Q
theorem PL{k:Nat}{n:Nat}(hc:X.calm=ab)(h:iZ X es t)(hn:↥(Ih es X.env)=n:=by rfl)(y:(Ih es X.env).findIdx? (·.1)=ae:=by rfl):PG X (.Tuple es k pos) (PK X.K n t):=by
 intro af s Z H v u Q I r hw;let⟨a,xs,D,N,hl,hw⟩:=hw;subst D;cases r;let⟨its,U,ht,hz⟩:=I.tuple N;refine assign_Tuple_tuple (I.ok.hd hc) ht (by simp[hn,<-hl,↥U]) y λh' J=>?_;have M:Inv X af Z H {s with heap:=h'}:=I.kept (t':=s.toks) λb o e=>J b o (Bn (Bd e)) e;exact h af _ Z H xs _ Q M (by simpa using U) hw
def PM(to a:TE)(t:sS):TG:=λv Z H Q=>to Z H λo j=>a Z j λi w=>t o i v w λK=>Q Z K
theorem PQ{o i:Ck}{to a:TE}{t:sS}(f:PE X o to)(hi:PE X i a)(F:sU X t)(m:∀v,Oh (.Subscript o i pos) X.env v=(do
   let p <-Jv [v] (Ef o X.env)
   let D <-Jv [v,p] (Ef i X.env)
   Qo pos
   Jv [v,p,D] (Vo p D v)
   release [v,p,D] []):=by intro _;rfl):PG X (.Subscript o i pos) (PM to a t):=by
 intro af s Z H v u Q I r h;rw[m];refine Aa (Dq (aZ (f af s Z H _ I h) λp U A=>?_));let⟨x,j,M,l,g⟩:=A;refine Aa (Dq (aZ (hi af U Z j _ M g) λD Y C=>?_));let⟨y,w,P,R,n⟩:=C;refine Aa (Rf (Aa (Dq (aZ (F af Y Z w x y v p D u _ P l R r n) λ_ N G=>?_))));let⟨K,O,L⟩:=G;exact wpAny_release ⟨Z,K,O,L⟩
def sW(te:TE)(g:TG):TS:=λD Z H=>te Z H λx j=>g x Z j D.nx
theorem PR{tg e:Ck}{te:TE}{g:TG}(W:PE X e te)(hg:PG X tg g)(F:swapsWithSole [tg] e pos.line X.env=pure ac:=by rfl)(hw:swappedStores [tg] e X.env=pure ae:=by rfl)(O:(Ih [tg] X.env).map (·.2)=[Oh tg X.env]:=by rfl):PS X (.Assign [tg] e pos) (sW te g):=by
 intro af s Z H D I h;refine wpAny_Assign_stores (aZ (W af s Z H _ I h) λv U A=>?_) F hw;let⟨x,j,M,l,P⟩:=A;rw[O];exact aZ (hg af U Z j x v _ M l P) λ_ Y q=>q
theorem PU{i:Nat}{x:Av}{e:Ck}{te:TE}{a:Hv}(t:X.N.Nodup)(hi:X.N[i]? = aa x)(J:Loc X.env.scope x)(W:PE X e te)(F:Mg e (aa (.Name x a)) pos.line X.env=pure ac:=by rfl)(hf:Fy X x:=by first|exact .inl rfl|exact .inr rfl|assumption):
  PS X (.Assign [.Name x a] e pos) (sW te (w5 i)):=by
 intro af s Z H D I h;refine wpAny_Assign_Name (aZ (W af s Z H _ I h) λv U A=>?_) F;let⟨y,j,M,l,g⟩:=A;exact B2 M t hi J l (λY P=>⟨_,j,P,g⟩) hf
end
section
variable {X:Cx}{pos:Hv}
def PV(c:TT)(tb:TS):TS:=λD Z H=>∃W:Nat->St->Hp->Prop,(∃m,W m Z H)/\∀m Z H,W m Z H->
 c Z H λb j=>if b=ab then ∃N:St->Hp->Prop,(∀O l,N O l->∃q,q<m/\W q O l)/\tb {D with nx:=N,ct:=N,bk:=D.nx} Z j else D.nx Z j
theorem PX{c:Ck}{body:↑Jy}{tc:TT}{tb:TS}(hp:Ui X.m X.A X.env X.xe)(hc:PT X c tc)(hb:fN X body tb):PS X (.While c body [] pos) (PV tc tb):=by
 intro af s Z H D I h;obtain⟨W,⟨m0,w0⟩,turn⟩:=h;refine wpAny_While (codeAny_whileLoop (λn s'=>∃σ' H',Inv X af σ' H' s'/\W n σ' H') ?_ m0 ⟨Z,H,I,w0⟩);rintro n s1 ⟨σ1,H1,I1,w1⟩;refine Jp hp (aZ (hc af s1 σ1 H1 _ I1 (turn n σ1 H1 w1)) λb s2 z0=>?_);let⟨H2,I2,q2⟩:=z0;cases b with
 | true=>
  let⟨N,hN,q2⟩:=q2;rw[Vz rfl];refine Jp hp (aZ (hb af s2 σ1 H2 _ I2 q2) λf s3 q3=>?_);cases f with
  | next=>
   let⟨σ3,H3,I3,n3⟩:=q3;let⟨m',hm,w3⟩:=hN σ3 H3 n3;exact⟨m',hm,σ3,H3,I3,w3⟩
  | cont=>
   let⟨σ3,H3,I3,n3⟩:=q3;let⟨m',hm,w3⟩:=hN σ3 H3 n3;exact⟨m',hm,σ3,H3,I3,w3⟩
  | brk=>exact q3
  | ret v=>exact q3
 | false=>
  rw[Vy Bc];exact Pu ⟨σ1,H2,I2,q2⟩
end
structure It where
 go:Nat->Hp->Prop
 yld:Nat->Hp->V->Hp->Prop
 stop:Nat->Hp->Prop
def gU(X:Cx)(af:Pn)(H:Hp)(b:Am):Prop:=
 H b=ae/\b≠X.env.locals/\b∉X.fs/\(b∈X.ex\/⇑X.s₀<=b)/\(∀x c,X.env.cells.lookup x=aa c->c≠b)/\∀p∈X.pn++af,p.1≠b
theorem Inv.fpOk(I:Inv X af Z H s)(Y:⇑s<=b)(hn:l b=ae):gU X af l b:=by
 refine⟨hn,Cq (Cb I.lt Y),I.nofs Y,.inr (Ap I.sz Y),λx c e z=>?_,λp G z=>?_⟩
 .let⟨v,q⟩:=I.cell x c e;exact absurd (Cb q.lt (by rw[z];exact Y)) (Km _)
 .exact absurd (Cb (Bd (I.pin p G).1) (by rw[z];exact Y)) (Km _)
structure i0(P:Be)(w:Br)(K:Ac)(tg:Ck)(J:It)(fp:↑Am)(it:Am)(tn:Nat->Du->Prop):Prop where
 mem:it∈fp
 obj:∀i h,tn i h->∀b∈fp,∃o,h.get? b=aa o/\∀v,o.data≠.cell v
 keep:∀i h h',tn i h->(∀b∈fp,∀o,h.get? b=aa o->h'.get? b=aa o)->tn i h'
 item:∀(X:Cx),X.prog=P->X.w=w->X.K=K->X.calm=ab->∀(i:Nat) (af:Pn) (s:Ak) (Z:St) (H:Hp) (E:Ae->Ak->Prop),Inv X af Z H s->(∀b∈fp,gU X af H b)->tn i s.heap->J.go i H->
  Bm (De P w) X.A (Hy (.ref it)) (λr s1=>∃u,r=aa u/\
   Bm (De P w) X.A (Px tg (.ref it) u) (λ_ s2=>∃x H',Inv X af Z H' s2/\RelV x u/\J.yld i H x H'/\tn (i+1) s2.heap/\∀b∈fp,H' b=ae) E s1) E s
 done:∀(X:Cx),X.prog=P->X.w=w->X.K=K->X.calm=ab->∀(i:Nat) (af:Pn) (s:Ak) (Z:St) (H:Hp) (E:Ae->Ak->Prop),Inv X af Z H s->(∀b∈fp,gU X af H b)->tn i s.heap->J.stop i H->
  Bm (De P w) X.A (Hy (.ref it)) (λr s1=>r=ae/\Inv X af Z H s1) E s
 self:∀(A:Cw) (i:Nat) (s:Ak) (Q:Ae->Ak->Prop) (E:Ae->Ak->Prop),tn i s.heap->Q (.ref it) s->Bm (De P w) A (Rn (.ref it)) Q E s
abbrev TI:=St->Hp->(It->Hp->Prop)->Prop
def sX(X:Cx)(af:Pn)(Z:St)(tg:Ck)(R:It->Hp->Prop)(a:Ae)(Y:Ak):Prop:=
 ∃(it:Am) (fp:↑Am) (M:Nat->Du->Prop) (J:It) (l:Hp),a=.ref it/\Inv X af Z l Y/\i0 X.prog X.w X.K tg J fp it M/\M 0 Y.heap/\(∀b∈fp,gU X af l b)/\R J l
def PI(X:Cx)(tg b:Ck)(d:TI):Prop:=
 ∀(af:Pn) (s:Ak) (Z:St) (H:Hp) (R:It->Hp->Prop),Inv X af Z H s->d Z H R->
  X.a (Ef b X.env) (λv U=>X.a (Rn v) (sX X af Z tg R) X.xe U) X.xe s
theorem oP{E:Ae->Ak->Prop}{Q:Unit->Ak->Prop}(f:s.heap.get? it=aa o)(hc:o.cls=.type n)(hd:o.data=.fields vs)(hn : ["enumerate","zip","dict_itemiterator","dict_reverseitemiterator","odict_iterator","itertools.zip_longest","itertools.pairwise"].contains n=ac)(H:Q () s):Bm M A (Px tg (.ref it) u) Q E s:=by
 unfold Px;cases tg<;>first
  | exact Ah H
  | (cases u<;>first
    | exact Ah H
    | (refine Aa (wpAny_load f ?_)
       rw[hc,hd];show Bm M A (if (["enumerate","zip","dict_itemiterator","dict_reverseitemiterator","odict_iterator","itertools.zip_longest","itertools.pairwise"].contains n&&vs[0]?==aa (Hr _))=ab then _ else _) Q E s;rw[Vy (by intro h;rw[hn,Pk]at h;cases h)];exact Ah H))
def oQ(K:Ac)(a:Am):It:=
 ⟨λi H=>∃xs x,bN K H a xs/\xs[i]? = aa x,λi H x l=>l=H/\∀xs,bN K H a xs->xs[i]? = aa x,λi H=>∃xs,bN K H a xs/\↥xs<=i⟩
def w6(K:Ac)(a:Am):It:=
 ⟨λi H=>∃xs x,bL K H a xs/\xs[i]? = aa x,λi H x l=>l=H/\∀xs,bL K H a xs->xs[i]? = aa x,λi H=>∃xs,bL K H a xs/\↥xs<=i⟩
def qI(lo:Int)(n:Nat):It:=⟨λi _=>i<n,λi H x l=>l=H/\x=.int (lo+i),λi _=>n<=i⟩
theorem PY{P:Be}{w:Br}{K:Ac}{tg:Ck}(a it:Am):i0 P w K tg (oQ K a) [it] it (λi h=>h.IsListIter it a i) where
 mem:=by simp
 obj:=λi h st b V=>by
  have e:b=it:=by simpa using V
  subst e;let⟨o,e,c,d⟩:=st;exact⟨o,e,λv z=>by rw[d]at z;cases z⟩
 keep:=λi h h' st k=>st.at λo e=>k it (by simp) o e
 item:=by
  intro X R hw Q hc i af s Z H E I hf st hg;subst R hw Q;let⟨xs,x,N,J⟩:=hg;let⟨its,U,p,hz⟩:=I.list N;let⟨u,W,ru⟩:=U.get J;let⟨f0,C,O,L,j,S⟩:=hf it (by simp);refine wpAny_pyNext_list_item st p.isList (x:=u) (by simpa using W) λh' m sb=>?_;have M:Inv X af Z H {s with heap:=h'}:=I.turned (t':=s.toks) (λb o V e=>(sb.2 b V).trans e) f0 C L j S;let⟨o,e,c,d⟩:=id m;exact⟨u,rfl,oP (s:={s with heap:=h'}) e c d ∅ ⟨x,H,M,ru,⟨rfl,λys Y=>by rw[I.list_inj Y N];exact J⟩,m,λb V=>(hf b V).1⟩⟩
 done:=by
  intro X R hw Q hc i af s Z H E I hf st hg;subst R hw Q;let⟨xs,N,J⟩:=hg;let⟨its,U,p,hz⟩:=I.list N;let⟨f0,C,O,L,j,S⟩:=hf it (by simp);have hl:=↥U;exact wpAny_pyNext_list_end (I.ok.hd hc) st p.isList (by simp;lia) λh' T=>⟨rfl,I.turned (t':=s.toks) (λb o V e=>T b o V e) f0 C L j S⟩
 self:=λ_ _ _ _ _ st h=>wpAny_pyIter_listiter st h
theorem PZ{P:Be}{w:Br}{K:Ac}{tg:Ck}(a it:Am):i0 P w K tg (w6 K a) [it] it (λi h=>h.IsTupleIter it a i) where
 mem:=by simp
 obj:=λi h st b V=>by
  have e:b=it:=by simpa using V
  subst e;let⟨o,e,c,d⟩:=st;exact⟨o,e,λv z=>by rw[d]at z;cases z⟩
 keep:=λi h h' st k=>st.at λo e=>k it (by simp) o e
 item:=by
  intro X R hw Q hc i af s Z H E I hf st hg;subst R hw Q;let⟨xs,x,N,J⟩:=hg;let⟨its,U,p,hz⟩:=I.tuple N;let⟨u,W,ru⟩:=U.get J;let⟨f0,C,O,L,j,S⟩:=hf it (by simp);refine wpAny_pyNext_tuple_item st (show s.heap.IsTuple a its.toArray from p) (x:=u) (by simpa using W) λh' m sb=>?_;have M:Inv X af Z H {s with heap:=h'}:=I.turned (t':=s.toks) (λb o V e=>(sb.2 b V).trans e) f0 C L j S;let⟨o,e,c,d⟩:=id m;exact⟨u,rfl,oP (s:={s with heap:=h'}) e c d ∅ ⟨x,H,M,ru,⟨rfl,λys Y=>by rw[I.tuple_inj Y N];exact J⟩,m,λb V=>(hf b V).1⟩⟩
 done:=by
  intro X R hw Q hc i af s Z H E I hf st hg;subst R hw Q;let⟨xs,N,J⟩:=hg;let⟨its,U,p,hz⟩:=I.tuple N;let⟨f0,C,O,L,j,S⟩:=hf it (by simp);have hl:=↥U;exact wpAny_pyNext_tuple_end (I.ok.hd hc) st (show s.heap.IsTuple a its.toArray from p) (by simp;lia) λh' T=>⟨rfl,I.turned (t':=s.toks) (λb o V e=>T b o V e) f0 C L j S⟩
 self:=λ_ _ _ _ _ st h=>wpAny_pyIter_tupleiter st h
theorem P0{P:Be}{w:Br}{K:Ac}{tg:Ck}(it:Am)(lo:Int)(n:Nat):i0 P w K tg (qI lo n) [it] it (λi h=>IsRangeIter h it (lo+(i:Nat)*1) ((n:Int)-(i:Nat)) 1) where
 mem:=by simp
 obj:=λi h st b Y=>by
  have e:b=it:=by simpa using Y
  subst e;exact⟨_,st,λv z=>by
   have N:Data.fields _=Data.cell v:=z;cases N⟩
 keep:=λi h h' st k=>k it (by simp) _ st
 item:=by
  intro X R hw Q hc i af s Z H E I hf st hg;subst R hw Q;let⟨f0,C,O,L,j,S⟩:=hf it (by simp);have W:=Walks.range (prog:=X.prog) (w:=X.w) (I.ok.hd hc) it lo 1 n;refine W.item i s _ _ hg st λv h' tk c m V=>?_;let⟨t,rfl⟩:=c;have M:Inv X af Z H {s with heap:=h',toks:=tk}:=I.turned (λb o Y e=>V b o (by simpa using Y) e) f0 C L j S;refine⟨_,rfl,oP (s:={s with heap:=h',toks:=tk}) (n:="range_iterator") m rfl rfl ∅ ⟨.int (lo+i),H,M,⟨t,?_⟩,⟨rfl,rfl⟩,m,λb Y=>(hf b Y).1⟩⟩;rw[Int.mul_one]
 done:=by
  intro X R hw Q hc i af s Z H E I hf st hg;subst R hw Q;let⟨f0,C,O,L,j,S⟩:=hf it (by simp);exact wpAny_pyNext_range_end (I.ok.hd hc) st (by have:n<=i:=hg;lia) λh' T=>⟨rfl,I.turned (t':=s.toks) (λb o Y e=>T b o Y e) f0 C L j S⟩
 self:=λ_ _ _ _ _ st h=>wpAny_pyIter_rangeiter st h
section
variable {X:Cx}{tg:Ck}
theorem B4{R:It->Hp->Prop}{E:Ae->Ak->Prop}{lo hi:Int}{tk:Nat}(I:Inv X af Z H s)(O : -(2 ^ 62)<=lo)(L:lo<2 ^ 62)(h3 : -(2 ^ 62)<=hi)(m:hi<2 ^ 62)(q:R (qI lo (hi-lo).toNat) H):X.a (Rn (.ref ⇑s)) (sX X af Z tg R) E {s with heap:=s.heap.push {cls:=.type "range",data:=.fields #[.int lo t,.int hi u,.int 1 v]},toks:=tk}:=by
 refine wpAny_pyIter_range (Tb ..) (small_one O L h3 m) ?_;have M:Inv X af Z H {s with heap:=s.heap.push {cls:=.type "range",data:=.fields #[.int lo t,.int hi u,.int 1 v]},toks:=tk}:=I.kept λb o e=>Af _ e;refine⟨(s.heap.push {cls:=.type "range",data:=.fields #[.int lo t,.int hi u,.int 1 v]}).objs.size,[(s.heap.push {cls:=.type "range",data:=.fields #[.int lo t,.int hi u,.int 1 v]}).objs.size],_,_,H,rfl,
  M.kept (t':=tk) λb o e=>Af _ e,P0 _ lo (hi-lo).toNat,?_,λb Y=>?_,q⟩
 .have D:lo+((0:Nat):Int)*1=lo:=by simp
  have T:(((hi-lo).toNat:Nat):Int)-((0:Nat):Int)=Ic lo hi 1:=by rw[Tz];split<;>lia
  show IsRangeIter _ _ (lo+((0:Nat):Int)*1) ((((hi-lo).toNat:Nat):Int)-((0:Nat):Int)) 1;rw[D,T];exact Az _ rfl
 .have e:b=(s.heap.push {cls:=.type "range",data:=.fields #[.int lo t,.int hi u,.int 1 v]}).objs.size:=by simpa using Y
  subst e;exact M.fpOk (Ai _) (M.hok.fresh (Ai _))
def P1(ta:TA):TI:=λZ H R=>ta Z H λvs G=>∃j:Int,vs=[.int j]/\-(2 ^ 62)<=j/\j<2 ^ 62/\R (qI 0 j.toNat) G
def P2(ta:TA):TI:=λZ H R=>ta Z H λvs G=>∃i j:Int,vs=[.int i,.int j]/\(-(2 ^ 62)<=i/\i<2 ^ 62/\-(2 ^ 62)<=j/\j<2 ^ 62)/\R (qI i (j-i).toNat) G
theorem P4{a:Ck}{ta:TA}{p pos:Hv}(hg:Gl X "range")(S:X.mg "range" = ae)(m:PA X [a] ta)(F:Ci [a] X.env=[(ac,Ef a X.env)]:=by rfl):PI X tg (.Call (.Name "range" p) [a] [] pos) (P1 ta):=by
 intro af s Z H R I h;refine Vr (gE I hg S boot_range (Cd (aZ (m pos af s Z H _ I h) λus U A=>?_) F rfl));let⟨vs,G,M,l,g⟩:=A;let⟨j,e,g,n,q⟩:=g;subst e;cases l with
 | cons r c=>
  cases c;let⟨t,rfl⟩:=r;exact Us (B4 M (by lia) (by lia) g n (by simpa using q))
theorem P5{a b:Ck}{ta:TA}{p pos:Hv}(hg:Gl X "range")(S:X.mg "range" = ae)(m:PA X [a,b] ta)(F:Ci [a,b] X.env=[(ac,Ef a X.env),(ac,Ef b X.env)]:=by rfl)(D:Ci [b] X.env=[(ac,Ef b X.env)]:=by rfl):
  PI X tg (.Call (.Name "range" p) [a,b] [] pos) (P2 ta):=by
 intro af s Z H R I h;refine Vr (gE I hg S boot_range (Cd (aZ (m pos af s Z H _ I h) λus U A=>?_) (by rw[F,D]) (by rw[D];rfl)));let⟨vs,G,M,l,g⟩:=A;obtain⟨i,j,e,⟨g,n,L,d⟩,q⟩:=g;subst e;cases l with
 | cons r c=>
  cases c with
  | cons W c=>
   cases c;let⟨t,rfl⟩:=r;let⟨t',rfl⟩:=W;exact call_range_2 (B4 M g n L d q)
def P6(d:TI)(g:TG)(tb:TS):TS:=λD Z H=>d Z H λJ j=>∃W:Nat->Nat->St->Hp->Prop,(∃m,W 0 m Z j)/\∀i m Z H,W i m Z H->
 (J.stop i H/\D.nx Z H)\/(J.go i H/\∃N:St->Hp->Prop,(∀O l,N O l->∃q,q<m/\W (i+1) q O l)/\∀x l,J.yld i H x l->g x Z l λa w=>tb {D with nx:=N,ct:=N,bk:=D.nx} a w)
def qJ(fp:↑Am)(h:Du):Pn:=fp.filterMap λb=>(h.get? b).map λo=>(b,o)
theorem sY(Z:b∈fp)(e:h.get? b=aa o):(b,o)∈qJ fp h:=Hw.mpr ⟨b,Z,by rw[e];rfl⟩
theorem P7(G:p∈qJ fp h):p.1∈fp/\h.get? p.1=aa p.2:=by
 let⟨b,Z,e⟩:=Hw.mp G;cases q:h.get? b with
 | none=>rw[q]at e;cases e
 | some o=>
  rw[q]at e;have g:(b,o)=p:=Ct e;subst g;exact⟨Z,q⟩
theorem Inv.pinned(I:Inv X af Z H s)(hf:∀b∈fp,gU X af H b)(f:∀b∈fp,∃o,s.heap.get? b=aa o/\∀v,o.data≠.cell v):Inv X (af++qJ fp s.heap) Z H s:=
 I.pins_of λp G=>(Bb.mp G).elim (λz=>I.pin p (Bo _ z)) λz=>by
  let⟨Y,e⟩:=P7 z;let⟨f0,C,O,_⟩:=hf p.1 Y;let⟨o,g,d⟩:=f p.1 Y;rw[e]at g;cases g;exact⟨e,f0,C,O,d⟩
theorem Inv.unpinned(I:Inv X (af++pl) Z H s):Inv X af Z H s:=I.pins_of λp G=>I.pin p (Bo _ (Bf _ G))
theorem P8{iter:Ck}{body:↑Jy}{wi:TI}{g:TG}{tb:TS}{pos:Hv}(hp:Ui X.m X.A X.env X.xe)(hc:X.calm=ab)(hi:PI X tg iter wi)(hg:PG X tg g)(hb:fN X body tb)(hs:∀x,Iq iter X.env x=pure x:=by intro _;rfl):PS X (.For tg iter body [] pos) (P6 wi g tb):=by
 intro af s Z H D I h;refine wpAny_For (aZ (hi af s Z H _ I h) λv s1 h1=>aZ h1 λitv s2 h2=>?_) hs;obtain⟨it,fp,tn,J,H2,e,I2,T,st2,f2,W,⟨m0,w0⟩,turn⟩:=h2;subst e;have stat:∀{H':Hp},(∀b∈fp,H' b=ae)->∀b∈fp,gU X af H' b:=λhn b hb=>⟨hn b hb,(f2 b hb).2⟩
 refine codeAny_forLoop_any (λn s'=>∃i σ' H',Inv X af σ' H' s'/\tn i s'.heap/\(∀b∈fp,H' b=ae)/\W i n σ' H') ?_ m0 ⟨0,Z,H2,I2,st2,λb hb=>(f2 b hb).1,w0⟩;rintro n s3 ⟨i,σ3,H3,I3,st3,fr3,w3⟩;rcases turn i n σ3 H3 w3 with⟨stop,qn⟩|⟨go,N,hN,step⟩
 .refine Jp hp (aZ (T.done X rfl rfl rfl hc i af s3 σ3 H3 X.xe I3 (stat fr3) st3 stop) λr s4 z0=>?_);let⟨hr,I4⟩:=z0;subst hr;exact Pu ⟨σ3,H3,I4,qn⟩
 .refine Jp hp (aZ (T.item X rfl rfl rfl hc i af s3 σ3 H3 X.xe I3 (stat fr3) st3 go) λr s4 z1=>?_);let⟨u,hr,h4⟩:=z1;subst hr;refine Jp hp (aZ h4 λ_ s5 z2=>?_);let⟨x,H5,I5,r5,y5,st5,fr5⟩:=z2;have I5':=I5.pinned (stat fr5) (T.obj _ _ st5);refine Jp hp (aZ (hg _ s5 σ3 H5 x u _ I5' r5 (step x H5 y5)) λ_ s6 z3=>?_);let⟨σ6,H6,I6,q6⟩:=z3;refine Jp hp (aZ (hb _ s6 σ6 H6 _ I6 q6) λf s7 q7=>?_);have again:∀{σ7:St} {H7:Hp},Inv X (af++qJ fp s5.heap) σ7 H7 s7->N σ7 H7->∃m,m<n/\∃i σ' H',Inv X af σ' H' s7/\tn i s7.heap/\(∀b∈fp,H' b=ae)/\W i m σ' H':=λ{σ7 H7} I7 n7=>by
   let⟨m',hm,w7⟩:=hN σ7 H7 n7;refine⟨m',hm,i+1,σ7,H7,I7.unpinned,T.keep _ _ _ st5 λb hb o e=>(I7.pin (b,o) (Bo _ (Bo _ (sY hb e)))).1,λb hb=>?_,w7⟩;let⟨o,e,d⟩:=T.obj _ _ st5 b hb;exact(I7.pin (b,o) (Bo _ (Bo _ (sY hb e)))).2.1
  cases f with
  | next=>let⟨σ7,H7,I7,n7⟩:=q7;exact again I7 n7
  | cont=>let⟨σ7,H7,I7,n7⟩:=q7;exact again I7 n7
  | brk=>let⟨σ7,H7,I7,q7⟩:=q7;exact⟨σ7,H7,I7.unpinned,q7⟩
  | ret v=>let⟨x7,σ7,H7,I7,r7,q7⟩:=q7;exact⟨x7,σ7,H7,I7.unpinned,r7,q7⟩
end
abbrev R2:=V->V->Hp->VK->Prop
def bB(X:Cx)(f:Ae->Ae->Sx Ae)(r:R2):Prop:=
 ∀(af:Pn) (s:Ak) (Z:St) (H:Hp) (x y:V) (v u:Ae) (Q:VK),Inv X af Z H s->RelV x v->RelV y u->r x y H Q->
  X.a (f v u) (EP X af Z Q) X.xe s
def qK(X:Cx)(f:Ae->Sx Ae)(r:V->Hp->VK->Prop):Prop:=
 ∀(af:Pn) (s:Ak) (Z:St) (H:Hp) (x:V) (v:Ae) (Q:VK),Inv X af Z H s->RelV x v->r x H Q->
  X.a (f v) (EP X af Z Q) X.xe s
def cR(X:Cx)(f:Ae)(r:↑V->Hp->VK->Prop):Prop:=
 ∀(af:Pn) (s:Ak) (Z:St) (H:Hp) (xs:↑V) (us:↑Ae) (Q:VK),Inv X af Z H s->a5 xs us->r xs H Q->
  X.a (call f us) (EP X af Z Q) X.xe s
def P9(X:Cx)(r:V->Hp->(Bool->Hp->Prop)->Prop):Prop:=
 ∀(af:Pn) (s:Ak) (Z:St) (H:Hp) (x:V) (v:Ae) (Q:Bool->Hp->Prop),Inv X af Z H s->RelV x v->r x H Q->
  X.a (truthy v) (TP X af Z Q) X.xe s
def qL(r:R2)(ta tb:TE):TE:=λZ H Q=>ta Z H λx j=>tb Z j λy w=>r x y w Q
def QA(r:V->Hp->VK->Prop)(ta:TE):TE:=λZ H Q=>ta Z H λx j=>r x j Q
def rI(C:Int->Int->Prop)(g:Int->Int->V):R2:=λx y H Q=>∃i j,x=.int i/\y=.int j/\C i j/\Q (g i j) H
def kD(g:Int->Int->V):R2:=λx y H Q=>∃i j,x=.int i/\y=.int j/\Q (g i j) H
def rU(g:Int->V):V->Hp->VK->Prop:=λx H Q=>∃i,x=.int i/\Q (g i) H
section
variable {X:Cx}{a b c:Ck}{ta tb tc:TE}{pos:Hv}
theorem w9(m:PE X a ta)(W:PE X b tb){af:Pn}{s:Ak}{Z:St}{H:Hp}{R:V->V->Hp->Prop}(I:Inv X af Z H s)(h:ta Z H λx j=>tb Z j λy w=>R x y w){Q:Ae->Ak->Prop}{f:Ae->Ae->Sx Ae}(hf:∀v u Y x y w,Inv X af Z w Y->RelV x v->RelV y u->R x y w->X.a (f v u) Q X.xe Y):
  X.a (Ef a X.env) (λv C=>X.a (Ef b X.env) (λu L=>X.a (f v u) Q X.xe L) X.xe C) X.xe s:=by
 refine aZ (m af s Z H _ I h) λv U ⟨x,j,M,l,g⟩=>?_;refine aZ (W af U Z j _ M g) λu Y ⟨y,w,i,D,n⟩=>?_;exact hf v u Y x y w i l D n
theorem QB(f:bB X (Eh op) r)(m:PE X a ta)(W:PE X b tb):PE X (.BinOp a op b pos) (qL r ta tb):=by
 intro af s Z H Q I h;exact wpAny_BinOp (w9 m W I h λv u Y x y w i G P q=>f af Y Z w x y v u Q i G P q)
theorem QC{op:UnaryOp}{r:V->Hp->VK->Prop}(f:qK X (Vn op) r)(m:PE X a ta):PE X (.UnaryOp op a pos) (QA r ta):=by
 intro af s Z H Q I h;exact UnaryOp_ (aZ (m af s Z H _ I h) λv U ⟨x,j,M,l,g⟩=>f af U Z j x v Q M l g)
theorem oR{f:Ae->Ae->Sx Ae}{C:Int->Int->Prop}{g:Int->Int->Int}(b:∀(i j:Int) (t u:Uu) (s:Ak) (Q:Ae->Ak->Prop) (E:Ae->Ak->Prop),C i j->Q (.int (g i j) s.toks) {s with toks:=s.toks+1}->X.a (f (.int i t) (.int j u)) Q E s):
  bB X f (rI C λi j=>.int (g i j)):=by
 intro af s Z H x y v u Q I G P h;let⟨i,j,rfl,rfl,hc,q⟩:=h;let⟨t,rfl⟩:=G;let⟨t',rfl⟩:=P;exact b i j t t' s _ _ hc ⟨.int (g i j),H,I.tok _,⟨_,rfl⟩,q⟩
theorem xA{f:Ae->Ae->Sx Ae}{g:Int->Int->Int}(b:∀(i j:Int) (t u:Uu) (s:Ak) (Q:Ae->Ak->Prop) (E:Ae->Ak->Prop),Q (.int (g i j) s.toks) {s with toks:=s.toks+1}->X.a (f (.int i t) (.int j u)) Q E s):
  bB X f (kD λi j=>.int (g i j)):=by
 intro af s Z H x y v u Q I G P h;let⟨i,j,rfl,rfl,q⟩:=h;let⟨t,rfl⟩:=G;let⟨t',rfl⟩:=P;exact b i j t t' s _ _ ⟨.int (g i j),H,I.tok _,⟨_,rfl⟩,q⟩
theorem sZ{f:Ae->Ae->Sx Ae}{g:Int->Int->Bool}(b:∀(i j:Int) (t u:Uu) (s:Ak) (Q:Ae->Ak->Prop) (E:Ae->Ak->Prop),Q (.bool (g i j)) s->X.a (f (.int i t) (.int j u)) Q E s):
  bB X f (kD λi j=>.bl (g i j)):=by
 intro af s Z H x y v u Q I G P h;let⟨i,j,rfl,rfl,q⟩:=h;let⟨t,rfl⟩:=G;let⟨t',rfl⟩:=P;exact b i j t t' s _ _ ⟨.bl (g i j),H,I,rfl,q⟩
def oS(i j:Int):Prop:=0<=j/\j<=1000000/\i.natAbs<2 ^ 64
def oT(i j:Int):Prop:=(-(2 ^ 64)<i/\i<2 ^ 64)\/(-(2 ^ 64)<j/\j<2 ^ 64)
theorem oT.ok{i j:Int}(h:oT i j):IntMulOk i j:=by
 rcases h with⟨O,L⟩|⟨O,L⟩
 .exact .of_left (intBits_le_64 O L)
 .exact .of_right (intBits_le_64 O L)
theorem QD(k:Nat):(0:Int)<=2 ^ k:=by
 rw[two_pow_cast];exact Nd _
theorem QE:bB X (Eh .Add) (kD λi j=>.int (i+j)):=xA λ_ _ _ _ _ _ _ q=>add_int q
theorem QF:bB X (Eh .Sub) (kD λi j=>.int (i-j)):=xA λ_ _ _ _ _ _ _ q=>sub_int q
theorem QG:bB X (Eh .Mult) (rI oT λi j=>.int (i*j)):=oR λ_ _ _ _ _ _ _ hc q=>mul_int q hc.ok
theorem QH:bB X (Eh .Mod) (rI (λ_ j=>0<j) λi j=>.int (i % j)):=oR λi j _ _ _ _ _ hc q=>by
 have O:(0:Int)<j:=hc;exact mod_int' (by lia) (by rw[Int.fmod_eq_emod_of_nonneg i (by lia)];exact q)
theorem QI:bB X (Eh .Pow) (rI oS λi j=>.int (i ^ j.toNat)):=oR λ_ _ _ _ _ _ _ hc q=>pow_int_small hc.1 hc.2.1 hc.2.2 q
theorem QJ:bB X (Eh .RShift) (rI (λ_ j=>0<=j) λi j=>.int (i/2 ^ j.toNat)):=oR λi j _ _ _ _ _ hc q=>
 rshift_int hc (by rw[Int.fdiv_eq_ediv_of_nonneg i (QD _)];exact q)
theorem QK:bB X (Eh .BitAnd) (kD λi j=>.int (Builtin.bitAnd i j)):=xA λ_ _ _ _ _ _ _ q=>and_int q
theorem QL{f:Ae->Sx Ae}{g:Int->Int}(b:∀(i:Int) (t:Uu) (s:Ak) (Q:Ae->Ak->Prop) (E:Ae->Ak->Prop),Q (.int (g i) s.toks) {s with toks:=s.toks+1}->X.a (f (.int i t)) Q E s):
  qK X f (rU λi=>.int (g i)):=by
 intro af s Z H x v Q I G h;let⟨i,rfl,q⟩:=h;let⟨t,rfl⟩:=G;exact b i t s _ _ ⟨.int (g i),H,I.tok _,⟨_,rfl⟩,q⟩
theorem QM:qK X (Vn .USub) (rU λi=>.int (-i)):=QL λ_ _ _ _ _ q=>neg_int q
end
noncomputable def tB:V->V->Bool
 | .non,.non=>ab|.non,.int _=>ab|.int _,.non=>ab|.non,.bl _=>ab|.bl _,.non=>ab|.non,.str _=>ab|.str _,.non=>ab
 | .int _,.int _=>ab|.bl _,.bl _=>ab|.str _,.str _=>ab|.byt _,.byt _=>ab
 | .int _,.str _=>ab|.str _,.int _=>ab|.bl _,.str _=>ab|.str _,.bl _=>ab
 | _,_=>ac
def QN:R2:=λx y H Q=>tB x y=ab/\Q (.bl (decide (x=y))) H
def QO:R2:=λx y H Q=>tB x y=ab/\Q (.bl (!decide (x=y))) H
theorem B5{i j:Int}:decide (V.int i=V.int j)=(i==j):=by
 rw[Ee];simp
theorem B6{i j:Bool}:decide (V.bl i=V.bl j)=(i==j):=by
 rw[Ee];simp
theorem B7:decide (V.str i=V.str j)=(i==j):=by
 rw[Ee];simp
theorem B8:decide (V.byt i=V.byt j)=(i.toList==j.toList):=by
 rw[Ee];cases i;cases j;simp
section
variable {X:Cx}{a b c:Ck}{ta tb tc:TE}{pos:Hv}
theorem dD{k y:Bool}(I:Inv X af Z H s)(q:Q (.bl k) H)(e:k=y):EP X af Z Q (.bool y) s:=by
 subst e;exact⟨.bl k,H,I,rfl,q⟩
theorem QP:bB X (Dk .Eq) QN:=by
 intro af s Z H x y v u Q I rx ry h;let⟨hs,q⟩:=h;cases x with
 | non=>
  cases rx;cases y with
  | non=>cases ry;exact PySem.EqNone.eq_none_none (dD I q (by simp))
  | bl j=>cases ry;exact PySem.EqNone.eq_none_bool (dD I q (by simp))
  | int j=>let⟨t',rfl⟩:=ry;exact PySem.EqNone.eq_none_int (dD I q (by simp))
  | str j=>let⟨t',rfl⟩:=ry;exact PySem.EqNone.eq_none_str (dD I q (by simp))
  | _=>exact absurd (show ac=ab from hs) Bc
 | bl i=>
  cases rx;cases y with
  | non=>cases ry;exact PySem.EqNone.eq_bool_none (dD I q (by simp))
  | bl j=>cases ry;exact eq_bool (dD I q B6)
  | str j=>let⟨t',rfl⟩:=ry;exact PySem.EqMixed.eq_bool_str (dD I q (by simp))
  | _=>exact absurd (show ac=ab from hs) Bc
 | int i=>
  let⟨t,rfl⟩:=rx;cases y with
  | non=>cases ry;exact PySem.EqNone.eq_int_none (dD I q (by simp))
  | int j=>let⟨t',rfl⟩:=ry;exact eq_int (dD I q B5)
  | str j=>let⟨t',rfl⟩:=ry;exact PySem.EqMixed.eq_int_str (dD I q (by simp))
  | _=>exact absurd (show ac=ab from hs) Bc
 | str i=>
  let⟨t,rfl⟩:=rx;cases y with
  | non=>cases ry;exact PySem.EqNone.eq_str_none (dD I q (by simp))
  | bl j=>cases ry;exact PySem.EqMixed.eq_str_bool (dD I q (by simp))
  | int j=>let⟨t',rfl⟩:=ry;exact PySem.EqMixed.eq_str_int (dD I q (by simp))
  | str j=>let⟨t',rfl⟩:=ry;exact eq_str (dD I q B7)
  | _=>exact absurd (show ac=ab from hs) Bc
 | byt i=>
  let⟨t,rfl⟩:=rx;cases y with
  | byt j=>let⟨t',rfl⟩:=ry;exact PySem.W.eq_bytes (dD I q B8)
  | _=>exact absurd (show ac=ab from hs) Bc
 | _=>cases y<;>exact absurd (show ac=ab from hs) Bc
theorem QQ:bB X (Dk .NotEq) QO:=by
 intro af s Z H x y v u Q I rx ry h;let⟨hs,q⟩:=h;cases x with
 | non=>
  cases rx;cases y with
  | non=>cases ry;exact PySem.EqNone.ne_none_none (dD I q (by simp))
  | bl j=>cases ry;exact PySem.EqNone.ne_none_bool (dD I q (by simp))
  | int j=>let⟨t',rfl⟩:=ry;exact PySem.EqNone.ne_none_int (dD I q (by simp))
  | str j=>let⟨t',rfl⟩:=ry;exact PySem.EqNone.ne_none_str (dD I q (by simp))
  | _=>exact absurd (show ac=ab from hs) Bc
 | bl i=>
  cases rx;cases y with
  | non=>cases ry;exact PySem.EqNone.ne_bool_none (dD I q (by simp))
  | bl j=>cases ry;exact ne_bool (dD I q (congrArg not B6))
  | str j=>let⟨t',rfl⟩:=ry;exact PySem.EqMixed.ne_bool_str (dD I q (by simp))
  | _=>exact absurd (show ac=ab from hs) Bc
 | int i=>
  let⟨t,rfl⟩:=rx;cases y with
  | non=>cases ry;exact PySem.EqNone.ne_int_none (dD I q (by simp))
  | int j=>let⟨t',rfl⟩:=ry;exact ne_int (dD I q (congrArg not B5))
  | str j=>let⟨t',rfl⟩:=ry;exact PySem.EqMixed.ne_int_str (dD I q (by simp))
  | _=>exact absurd (show ac=ab from hs) Bc
 | str i=>
  let⟨t,rfl⟩:=rx;cases y with
  | non=>cases ry;exact PySem.EqNone.ne_str_none (dD I q (by simp))
  | bl j=>cases ry;exact PySem.EqMixed.ne_str_bool (dD I q (by simp))
  | int j=>let⟨t',rfl⟩:=ry;exact PySem.EqMixed.ne_str_int (dD I q (by simp))
  | str j=>let⟨t',rfl⟩:=ry;exact ne_str (dD I q (congrArg not B7))
  | _=>exact absurd (show ac=ab from hs) Bc
 | byt i=>
  let⟨t,rfl⟩:=rx;cases y with
  | byt j=>let⟨t',rfl⟩:=ry;exact PySem.W.ne_bytes (dD I q (congrArg not B8))
  | _=>exact absurd (show ac=ab from hs) Bc
 | _=>cases y<;>exact absurd (show ac=ab from hs) Bc
theorem QS:bB X (Dk .Lt) (kD λi j=>.bl (decide (i<j))):=sZ λ_ _ _ _ _ _ _ q=>lt_int q
theorem QT:bB X (Dk .LtE) (kD λi j=>.bl (decide (i<=j))):=sZ λ_ _ _ _ _ _ _ q=>le_int q
theorem QU:bB X (Dk .Gt) (kD λi j=>.bl (decide (j<i))):=sZ λ_ _ _ _ _ _ _ q=>gt_int q
theorem QV:bB X (Dk .GtE) (kD λi j=>.bl (decide (j<=i))):=sZ λ_ _ _ _ _ _ _ q=>ge_int q
theorem QW:bB X (Dk .In) (λx y H Q=>∃i j,x=.str i/\y=.str j/\Q (.bl (!(Jw j i 0 ↥j 1).isEmpty)) H):=by
 intro af s Z H x y v u Q I G P h;let⟨i,j,rfl,rfl,q⟩:=h;let⟨t,rfl⟩:=G;let⟨t',rfl⟩:=P;exact in_str (dD I q rfl)
theorem QX:bB X (Dk .NotIn) (λx y H Q=>∃i j,x=.str i/\y=.str j/\Q (.bl (!(!(Jw j i 0 ↥j 1).isEmpty))) H):=by
 intro af s Z H x y v u Q I G P h;let⟨i,j,rfl,rfl,q⟩:=h;let⟨t,rfl⟩:=G;let⟨t',rfl⟩:=P;exact notIn_str (dD I q rfl)
theorem bB.or{f:Ae->Ae->Sx Ae}(h:bB X f r)(h':bB X f W):bB X f (λx y H Q=>r x y H Q\/W x y H Q):=by
 intro af s Z H x y v u Q I G P q;rcases q with q|q
 .exact h af s Z H x y v u Q I G P q
 .exact h' af s Z H x y v u Q I G P q
theorem B9(b:Ck)(h:op≠.In:=by decide)(L:op≠.NotIn:=by decide):Mq op b=ac:=by
 have D:(op==CmpOp.In)=ac:=by cases op<;>first|rfl|exact absurd rfl h
 have T:(op==CmpOp.NotIn)=ac:=by cases op<;>first|rfl|exact absurd rfl L
 cases b<;>simp[Mq,D,T]
theorem QY(f:bB X (Dk op) r)(m:PE X a ta)(W:PE X b tb)(S:Mq op b=ac):PE X (.Compare a [op] [b] pos) (qL r ta tb):=by
 intro af s Z H Q I h;exact wpAny_Compare1 (w9 m W I h λv u Y x y w i G P q=>f af Y Z w x y v u Q i G P q) S
def CA(t:TE):TT:=λZ H Q=>t Z H λx H'=>∃k,x=.bl k/\Q k H'
theorem QZ(f:bB X (Dk op) r)(m:PE X a ta)(W:PE X b tb)(S:Mq op b=ac):PT X (.Compare a [op] [b] pos) (CA (qL r ta tb)):=by
 intro af s Z H Q I h;refine wpAny_isTrue_Compare1 (aZ (m af s Z H _ I h) λv U ⟨x,j,M,l,g⟩=>aZ (W af U Z j _ M g) λu Y ⟨y,w,i,R,n⟩=>
  aZ (f af Y Z w x y v u _ i l R n) λc N ⟨z,K,O,o,k,e,L⟩=>?_) S
 subst e;cases o;exact Hn ⟨K,O,L⟩
def CB(r W:R2)(ta tb tc:TE):TE:=λZ H Q=>ta Z H λx j=>tb Z j λy w=>r x y w λz K=>∃k,z=.bl k/\
 (if k=ab then tc Z K λL o=>W y L o Q else Q (.bl ac) K)
theorem Q0(f:bB X (Dk op) r)(B:bB X (Dk q) W)(m:PE X a ta)(Z:PE X b tb)(hc:PE X c tc)(S:lastMarks [op,q] [b,c]=ac:=by with_unfolding_all rfl):PT X (.Compare a [op,q] [b,c] pos) (CA (CB r W ta tb tc)):=by
 intro af s σ H Q I h;refine isTrue_chain (aZ (m af s σ H _ I h) λv U ⟨x,j,M,l,g⟩=>test_link (aZ (Z af U σ j _ M g) λu Y ⟨y,w,i,R,n⟩=>
  aZ (f af Y σ w x y v u _ i l R n) λd N ⟨z,K,O,o,k,e,V⟩=>?_)) S
 subst e;cases o;refine Hn ?_;cases k with
 | false=>
  let⟨E,C,A⟩:=V;cases C;exact ite_ff ⟨K,O,A⟩
 | true=>
  refine ite_tt (test_last (aZ (hc af N σ K _ O V) λL t ⟨D,H4,P,r4,J⟩=>aZ (B af t σ H4 y D u L _ P R r4 J) λd' p ⟨G,H5,I5,r5,F,T,q5⟩=>?_));subst T;cases r5;exact Hn ⟨H5,I5,q5⟩
def CC(K:Ac)(x:V)(H:Hp)(k:Bool):Prop:=
 match x with
 | .non=>k=ac
 | .bl b=>k=b
 | .int i=>k=(i !=0)
 | .str y=>↥y<=Au/\k=((↥y:Int) !=0)
 | .byt y=>y.size<=Au/\k=((y.size:Int) !=0)
 | .ref p=>(∃xs,bN K H p xs/\k = !xs.isEmpty)\/(∃xs,bL K H p xs/\k = !xs.isEmpty)\/∃kvs,H p=aa (.dK kvs)/\k = !kvs.isEmpty
 | _=>False
theorem Q1{b:Type}{kvs:↑(b×V)}{vs:↑(b×Ae)}(r:KV kvs vs):(!vs.isEmpty) = !kvs.isEmpty:=by
 cases r<;>rfl
theorem CD{xs:↑V}{its:↑Ae}(r:a5 xs its):(!its.toArray.isEmpty) = !xs.isEmpty:=by
 cases r<;>simp
theorem lG:(Au:Nat)<2 ^ 63:=by rw[Ke];decide
theorem Q2:P9 X (λx H Q=>∃k,CC X.K x H k/\Q k H):=by
 intro af s Z H x v Q I rx h;let⟨k,e,q⟩:=h;have hl:=lG;have hs:Au=16777216:=Ke;cases x with
 | non=>
  cases rx;have e':k=ac:=e;subst e';exact truthy_none ⟨H,I,q⟩
 | bl b=>
  cases rx;have e':k=b:=e;subst e';exact Hn ⟨H,I,q⟩
 | int i=>
  let⟨t,rfl⟩:=rx;have e':k=(i !=0):=e;subst e';exact PySem.P.truthy_int ⟨H,I,q⟩
 | str y=>
  let⟨t,rfl⟩:=rx;obtain⟨hy,e'⟩:↥y<=Au/\k=((↥y:Int) !=0):=e;subst e';exact PySem.P.truthy_str (by lia) ⟨H,I.tok _,q⟩
 | byt y=>
  let⟨t,rfl⟩:=rx;obtain⟨hy,e'⟩:y.size<=Au/\k=((y.size:Int) !=0):=e;subst e';exact PySem.W.truthy_bytes (by lia) ⟨H,I.tok _,q⟩
 | ref p=>
  cases rx;have e':(∃xs,bN X.K H p xs/\k = !xs.isEmpty)\/(∃xs,bL X.K H p xs/\k = !xs.isEmpty)\/∃kvs,H p=aa (.dK kvs)/\k = !kvs.isEmpty:=e;rcases e' with⟨xs,hx,e'⟩|⟨xs,hx,e'⟩|⟨kvs,hx,e'⟩
  .subst e';let⟨its,r,pl,hz⟩:=I.list hx;have hlen:=↥r;exact wpAny_truthy_list pl.isList (by simp only[Bi];lia) ⟨H,I.tok _,by rw[CD r];exact q⟩
  .subst e';let⟨its,r,pl,hz⟩:=I.tuple hx;have hlen:=↥r;exact truthy_tuple pl (by simp only[Bi];lia) ⟨H,I.tok _,by rw[CD r];exact q⟩
  .subst e';obtain⟨hz,hS,vs,r,m⟩:↥kvs<=Au/\(p==Fu)=ac/\∃vs,KV kvs vs/\s.heap.DictOf (bU X.prog X.w) p vs:=I.hok p _ hx;have hlen:↥kvs=↥vs:=Dg r;exact wpAny_truthy_dict hS m (by lia) ⟨H,I.tok _,by rw[Q1 r];exact q⟩
 | _=>exact Bq e
theorem Q3(m:PE X a ta)(Y:∀whole,Uq a X.env whole=(do let v <-whole;Qo a.pos;Jv [v] (truthy v))):
  PT X a (λZ H Q=>ta Z H λx H'=>∃k,CC X.K x H' k/\Q k H'):=by
 intro af s Z H Q I h;exact isTrue_plain (aZ (m af s Z H _ I h) λv U A=>by let⟨x,j,M,l,g⟩:=A;exact Q2 af U Z j x v Q M l g) (Y _)
theorem Q4:bB X (Eh .Add) (λx y H Q=>∃i j,x=.str i/\y=.str j/\↥i+↥j<=Au/\Q (.str (i++j)) H):=by
 intro af s Z H x y v u Q I G P h;let⟨i,j,rfl,rfl,hz,q⟩:=h;let⟨t,rfl⟩:=G;let⟨t',rfl⟩:=P;exact add_str (λt' tk=>⟨.str (i++j),H,I.tok _,⟨_,rfl⟩,q⟩) hz
theorem vals1(r:a5 [x] us):∃u,us=[u]/\RelV x u:=by
 cases r with
 | cons l R=>cases R;exact⟨_,rfl,l⟩
theorem vals2(r:a5 [x,y] us):∃u L,us=[u,L]/\RelV x u/\RelV y L:=by
 cases r with
 | cons l R=>
  cases R with
  | cons c t=>cases t;exact⟨_,_,rfl,l,c⟩
theorem Q6:cR X (.type "str") (λxs H Q=>∃i,xs=[.int i]/\i.natAbs.log2<1920/\Q (.str (toString i)) H):=by
 intro af s Z H xs us Q I r h;let⟨i,rfl,hz,q⟩:=h;let⟨u,rfl,t,rfl⟩:=vals1 r;exact PySem.P.str_of_int hz ⟨.str _,H,I.tok _,⟨_,rfl⟩,q⟩
end
structure nP(h:Du)(x dx C:Am)(mA:Av->Option Ae):Prop where
 obj:h.get? x=aa (Ib C dx)
 ns:h.Ns1 dx mA
 ne:dx≠x
theorem Q7{h:Du}{dx:Am}{mA:Av->Option Ae}(n:h.Ns1 dx mA):∃j,h.get? dx=aa j/\∀name,Oi name j=aa (mA name):=by
 let⟨o,es,ep,f,hd,hk,_,S⟩:=n;refine⟨o,f,λname=>?_⟩;have e:=S name;unfold nsFind findBy at e;rw[<-Array.find?_toList]at e;unfold Oi;rw[hd];dsimp only;split
 .rename_i y q;rw[q]at e;exact congrArg aa e
 .rename_i q;rw[q]at e;have a:es.toList.any (·.refKey)=ac:=by
   rw[List.any_eq_false];intro y K;let⟨z,t,r⟩:=hk y (Array.mem_toList_iff.mp K);simp[DictEntry.refKey,r]
  have c:¬es.toList.any (·.refKey)=ab:=by rw[a];exact Bc
  rw[Vy c];exact congrArg aa e
theorem nP.look{mA:Av->Option Ae}(I:nP h x dx C mA):∃j,PySem.W.InstAt h x (Ib C dx) C (aa j)/\∀name,Oi name j=aa (mA name):=
 let ⟨j,ho,hl⟩:=Q7 I.ns
 ⟨j,⟨I.obj,rfl,rfl,ho⟩,hl⟩
section
variable {prog:Be}{w:Br}{A:Cw}{E:Ae->Ak->Prop}{s:Ak}{K:Ac}{x dx C f:Am}{mA:Av->Option Ae}{name:Av}{v:Ae}
theorem Q8{a:Bool}{Q:Ae->Ak->Prop}(X:K.In s.heap)(I:nP s.heap x dx C mA)(hg:Nj K C name=ab)(hh:Qe K C=ab)(m:Fj K (.ref C) name=aa ae)(c:mA name=aa v)(k:PySem.W.handedIn v=ab)(h:Q v {s with toks:=s.toks+1}):
  Bm (De prog w) A (getAttr (.ref x) name a) Q E s:=by
 let⟨j,J,hl⟩:=I.look;exact PySem.W.get_value X J (Pb hg).1 (PySem.W.findObj_own hh m rfl (by rw[hl,c])) k h
theorem Q9{Q:Ae×↑Ae->Ak->Prop}(X:K.In s.heap)(I:nP s.heap x dx C mA)(hg:Nj K C name=ab)(hf:Fj K (.ref C) name=aa (aa (.ref f)))(ht:Nv K (.ref f)=ab)(c:mA name=ae)(h:Q (.ref f,[.ref x]) s):
  Bm (De prog w) A (Qp (.ref x) name pl) Q E s:=by
 let⟨j,J,hl⟩:=I.look;exact PySem.W.method_fn X J (Pb hg).1 (Pb hg).2 hf (beq_iff_eq.mp ht) (by show(Oi name j).map (·.isSome)=aa ac;rw[hl,c];rfl) h
theorem RA{Q:Unit->Ak->Prop}(X:K.In s.heap)(I:nP s.heap x dx C mA)(F:Fj K (.ref C) "__setattr__" = aa (aa (.builtin "object.__setattr__")))(G:PySem.W.plainOver K C=ab)(ht:Qw K C name=aa ae)(hh:Qe K C=ab)(hw:Sy mA ns)(hsz:↥ns<=Au)(h:∀h',nP h' x dx C (λy=>if y=name then aa v else mA y)->Ek dx s.heap h'->Q () {s with heap:=h',toks:=s.toks+2}):
  Bm (De prog w) A (setAttr (.ref x) name v) Q E s:=by
 let⟨j,J,hl⟩:=I.look;refine PySem.W.set_plain X J F (PySem.W.osa_open (s:={s with toks:=s.toks+1}) (r:=ae) X J G ht λb=>?_);let⟨B,hc,n⟩:=PySem.W.any_some hh;have S:s.heap.get? x=aa ⟨.ref C,aa dx,.plain,#[]⟩:=I.obj;refine Aa (Ah (Aa (Aa (wpAny_loadPart S (Aa (PySem.W.Looks.here (s:={s with toks:=s.toks+1}) (PySem.W.looks_clsIn X hc) ?_))))));rw[n];refine Ah (a:=aa dx) (Aa (Ah (Aa ?_)));refine wpAny_nsSet1 (s:={s with toks:=s.toks+1}) I.ns λh' m D=>?_;let⟨i,f,g,d,e,c⟩:=m.count (PySem.Within.cons name v hw);refine Aa (wpAny_lookBehind d (by rw[e];exact pastItsLine_dict (Ap c (by rw[Bv];lia))) ?_);exact Ah (h _ ⟨(D.2 _ (Ca I.ne)).trans I.obj,m,I.ne⟩ D)
theorem RB{R:To->Ak->Prop}(X:K.In s.heap)(S:Qx K C=ab)(hi:Fj K (.ref C) "__init__" = aa (aa (.ref f)))(hf:PySem.W.typeIn K (.ref f)=aa (.type "function"))(h:Mp (De prog w) (A.under (.builtin "type.__call__" ⟨.ref C::vs,b⟩)) (.call (.ref f) ⟨.ref (⇑s+1)::vs,b⟩) (PySem.W.InitBack (⇑s+1) R)
   {s with heap:=(s.heap.push Gk).push (Ib C ⇑s)}):
  Mp (De prog w) A (.call (.ref C) ⟨vs,b⟩) R s:=by
 let⟨hh,g,d,t,os⟩:=s;exact PySem.W.make_core (PySem.W.makes_of X S) (PySem.W.looks_findIn X hi) (λself=>PySem.W.bind_fn X self hf) (.inl rfl) h
end
noncomputable def putF(f:Av)(v:V):↑(Av×V)->↑(Av×V)
 | []=>[(f,v)]
 | (g,x)::r=>if g=f then(g,v)::r else(g,x)::putF f v r
theorem CF(f g:Av)(v:V):∀fs:↑(Av×V),(putF f v fs).lookup g=if g=f then aa v else fs.lookup g
 | []=>by
  show Cm g [(f,v)]=_
  by_cases h:g=f
  .have Z:(g==f)=ab:=beq_iff_eq.mpr h;simp only[Cm,Z,Vz h]
  .have Z:(g==f)=ac:=beq_eq_false_iff_ne.mpr h;simp only[Cm,Z,Vy h]
 | (k,x)::r=>by
  have E:=CF f g v r;rw[show putF f v ((k,x)::r)=(if k=f then(k,v)::r else(k,x)::putF f v r) from rfl]
  by_cases hk:k=f
  .rw[Vz hk]
   by_cases h:g=k
   .have Z:(g==k)=ab:=beq_iff_eq.mpr h;simp only[Cm,Z,Vz (h.trans hk)]
   .have Z:(g==k)=ac:=beq_eq_false_iff_ne.mpr h;simp only[Cm,Z,Vy (λe:g=f=>h (e.trans hk.symm))]
  .rw[Vy hk]
   by_cases h:g=k
   .have Z:(g==k)=ab:=beq_iff_eq.mpr h;simp only[Cm,Z,Vy (λe:g=f=>hk (h.symm.trans e))]
   .have Z:(g==k)=ac:=beq_eq_false_iff_ne.mpr h;simp only[Cm,Z];exact E
theorem xB(f:Av)(v:V):∀fs:↑(Av×V),f∈(putF f v fs).map (·.1)/\∀g,g∈fs.map (·.1)->g∈(putF f v fs).map (·.1)
 | []=>⟨by simp[putF],λg h=>by simp at h⟩
 | (k,x)::r=>by
  let⟨a,i⟩:=xB f v r;rw[show putF f v ((k,x)::r)=(if k=f then(k,v)::r else(k,x)::putF f v r) from rfl]
  by_cases hk:k=f
  .rw[Vz hk];subst hk;exact⟨by simp,λg h=>by simpa using h⟩
  .rw[Vy hk];refine⟨?_,λg h=>?_⟩
   .rw[Bh];exact Bj _ a
   .rw[Bh]at h⊢;rcases Aw.mp h with e|e
    .exact Aw.mpr (.inl e)
    .exact Bj _ (i g e)
theorem CG(f:Av)(v:V):∀fs:↑(Av×V),↥(putF f v fs)<=↥fs+1
 | []=>by simp[putF]
 | (k,x)::r=>by
  have E:=CG f v r;rw[show putF f v ((k,x)::r)=(if k=f then(k,v)::r else(k,x)::putF f v r) from rfl]
  by_cases hk:k=f
  .rw[Vz hk,Bv,Bv];lia
  .rw[Vy hk,Bv,Bv];lia
theorem fM.some_of(r:fM (aa v) o):∃u,o=aa u/\RelV v u:=by
 cases o with
 | none=>exact Bq r
 | some u=>exact⟨u,rfl,r⟩
theorem fM.none_of(r:fM ae o):o=ae:=by
 cases o with
 | none=>rfl
 | some u=>exact Bq r
theorem RC(r:RelV v u):PySem.W.handedIn u=ab:=by
 cases v with
 | non=>cases (show u=Value.none from r);rfl
 | bl b=>cases (show u=Value.bool b from r);rfl
 | int i=>let⟨t,e⟩:=(show ∃t,u=Value.int i t from r);cases e;rfl
 | str x=>let⟨t,e⟩:=(show ∃t,u=Value.str x t from r);cases e;rfl
 | byt b=>let⟨t,e⟩:=(show ∃t,u=Value.bytes b t from r);cases e;rfl
 | flt b=>let⟨t,e⟩:=(show ∃t,u=Value.float b t from r);cases e;rfl
 | ref a=>cases (show u=Value.ref a from r);rfl
 | ty n=>cases (show u=Value.type n from r);rfl
section
variable {P:Be}{w:Br}{H H':Hp}{h h':Du}{a C dx:Am}{fs fs':↑(Av×V)}
theorem tD(hok:cS P w H h)(e:H a=aa (.ins C dx fs)):∃mA,nP h a dx C mA/\(∀f,fM (fs.lookup f) (mA f))/\Sy mA (fs.map (·.1))/\↥fs<=1000/\H dx=aa (.own a):=by
 let⟨d,z,ne,ob,mA,n,r,q⟩:=(show b5 P w H h a (.ins C dx fs) from hok a _ e);exact⟨mA,⟨ob,n,ne⟩,r,q,z,d⟩
end
structure gF(K:Ac)(C:Am):Prop where
 pg:Nj K C Rq=ab
 hd:Qe K C=ab
 po:PySem.W.plainOver K C=ab
 sa:Fj K (.ref C) "__setattr__" = aa (aa (.builtin "object.__setattr__"))
theorem gF.get{K:Ac}{C:Am}(c:gF K C)(f:Av):Nj K C f=ab:=c.pg
def fF(K:Ac)(C:Am)(f:Av):Prop:=Fj K (.ref C) f=aa ae
theorem fF.taker{K:Ac}{C:Am}{f:Av}(n:fF K C f):Qw K C f=aa ae:=by
 unfold Qw;rw[show Fj K (.ref C) f=aa ae from n];rfl
structure oU(K:Ac)(C:Am)(m:Av)(f:Am):Prop where
 at_:Fj K (.ref C) m=aa (aa (.ref f))
 fn:Nv K (.ref f)=ab
 kp:Gj K (.ref f)=ab
section
variable {X:Cx}{af:Pn}{Z:St}{H:Hp}{s:Ak}{a C dx:Am}{fs:↑(Av×V)}{f:Av}{v:V}{A:Cw}{E:Ae->Ak->Prop}
theorem RD{b:Bool}{Q:Ae->Ak->Prop}(I:Inv X af Z H s)(e:H a=aa (.ins C dx fs))(c:gF X.K C)(n:fF X.K C f)(l:fs.lookup f=aa v)(h:∀u s',Inv X af Z H s'->RelV v u->Q u s'):Bm X.m A (getAttr (.ref a) f b) Q E s:=by
 let⟨mA,O,r,_,_,_⟩:=tD I.hok e;let⟨u,W,ru⟩:=fM.some_of (v:=v) (o:=mA f) (by rw[<-l];exact r f);exact Q8 I.kIn O (c.get f) c.hd n W (RC ru) (h u _ (I.tok _) ru)
theorem CH{Q:Ae×↑Ae->Ak->Prop}(I:Inv X af Z H s)(e:H a=aa (.ins C dx fs))(c:gF X.K C)(k:oU X.K C m g)(l:fs.lookup m=ae)(h:Q (.ref g,[.ref a]) s):Bm X.m A (Qp (.ref a) m pl) Q E s:=by
 let⟨mA,O,r,_,_,_⟩:=tD I.hok e;have hn:mA m=ae:=fM.none_of (by rw[<-l];exact r m);exact Q9 I.kIn O (c.get m) k.at_ k.fn hn h
theorem RE{Q:Unit->Ak->Prop}(I:Inv X af Z H s)(e:H a=aa (.ins C dx fs))(c:gF X.K C)(n:fF X.K C f)(hl:↥fs<1000)(P:RelV y u)(h:∀s',Inv X af Z (aL H a (.ins C dx (putF f y fs))) s'->Q () s'):Bm X.m A (setAttr (.ref a) f u) Q E s:=by
 let⟨mA,O,r,d,_,Y⟩:=tD I.hok e;have hz:↥(fs.map (·.1))<=Au:=by rw[Ab,Ke];lia
 refine RA I.kIn O c.sa c.po n.taker c.hd d hz λh' i sb=>h _ ?_;have hd:∃o,h'.get? dx=aa o:=let ⟨o,_,_,e',_⟩:=i.ns;⟨o,e'⟩;refine I.write (x:=a) (e:=dx) (by rw[e];exact True.intro) (.inr Y) (λb q W z=>(sb.2 b W).trans z) hd ?_;refine⟨by rw[bD O.ne];exact Y,?_,O.ne,i.obj,_,i.ns,λg=>?_,λg hg=>?_⟩
 .have:=CG f y fs;lia
 .show fM ((putF f y fs).lookup g) (if g=f then aa u else mA g);rw[CF]
  by_cases q:g=f
  .rw[Vz q,Vz q];exact P
  .rw[Vy q,Vy q];exact r g
 .by_cases q:g=f
  .rw[q];exact(xB f y fs).1
  .refine(xB f y fs).2 g (d g λz=>hg ?_);show(if g=f then aa u else mA g)=ae;rw[Vy q];exact z
theorem Inv.made(I:Inv X af Z H s):Inv X af Z (aL (aL H ⇑s (.own (⇑s+1))) (⇑s+1) (.ins C ⇑s []))
  {s with heap:=(s.heap.push Gk).push (Ib C ⇑s)}:=by
 have D:(s.heap.push Gk).get? ⇑s=aa Gk:=Az s.heap rfl;have T:((s.heap.push Gk).push (Ib C ⇑s)).get? (⇑s+1)=aa (Ib C ⇑s):=by
  have:=Az (s.heap.push Gk) (o:=Ib C ⇑s) rfl;rwa [Es]at this
 have P:(s.heap.push Gk).Ns ⇑s (λ_=>ae):=⟨Gk,#[],_,D,rfl,(λe Y=>absurd Y (by simp)),λ_=>rfl⟩;have M:=I.laid (a:=⇑s) (o:=.own (⇑s+1)) (h':=s.heap.push Gk) (t':=s.toks) (λb u q=>Af _ q) (Ai _) ⟨_,D⟩;refine M.laid (a:=⇑s+1) (o:=.ins C ⇑s []) (t':=s.toks) (λb u q=>Af _ q) (Om (Es _ _)) ?_;have ne:⇑s≠⇑s+1:=Bn (Gz _);refine⟨by rw[bD ne,b8],Cs _,ne,T,λ_=>ae,(Heap.Ns1.of_empty P).at λo q=>Af _ q,λ_=>True.intro,λy K=>absurd rfl K⟩
theorem RF{Q:Ae->Ak->Prop}(Z:Gq e f env (Ef e env)=Ef e env)(h:Bm (De prog w) A (Ef e env) (λo y=>Bm (De prog w) A (getAttr o f ab) Q E y) E s):Bm (De prog w) A (Ef (.Attribute e f pos) env) Q E s:=
 Attribute_any_ h (by rw[arm_eval_Attribute,Z])
end
def RG(K:Ac)(ta:TE)(f:Av):TE:=λZ H Q=>ta Z H λx j=>∃a C dx fs v,x=.ref a/\j a=aa (.ins C dx fs)/\gF K C/\fF K C f/\fs.lookup f=aa v/\Q v j
def RH(K:Ac)(ta tv:TE)(f:Av):TS:=λD Z H=>tv Z H λy j=>ta Z j λx w=>∃a C dx fs,x=.ref a/\w a=aa (.ins C dx fs)/\gF K C/\fF K C f/\↥fs<1000/\
 D.nx Z (aL w a (.ins C dx (putF f y fs)))
section
variable {X:Cx}{o e value:Ck}{f:Av}{pos pos' tpos:Hv}{ta tv:TE}
theorem RI(Y:PE X e ta)(W:Gq e f X.env (Ef e X.env)=Ef e X.env):PE X (.Attribute e f pos) (RG X.K ta f):=by
 intro af s Z H Q I h;refine RF W (aZ (Y af s Z H _ I h) λu U A=>?_);let⟨x,j,M,G,a,C,dx,fs,v,ex,B,c,n,l,q⟩:=A;subst ex;obtain rfl:u=Value.ref a:=G;exact RD M B c n l λz V i ru=>⟨v,j,i,ru,q⟩
theorem RJ(m:PE X o ta)(Y:PE X value tv)(F:Mg value (aa (.Attribute o f pos')) pos.line X.env=pure ac):PS X (.Assign [.Attribute o f pos'] value pos) (RH X.K ta tv f):=by
 intro af s Z H D I h;refine plainObj_wpAny_Assign_Attribute (aZ (Y af s Z H _ I h) λu U ⟨y,j,M,P,q⟩=>aZ (m af U Z j _ M q) λp V N=>?_) F;let⟨x,w,i,G,a,C,dx,fs,ex,d,c,n,l,B⟩:=N;subst ex;obtain rfl:p=Value.ref a:=G;exact RE i d c n l P λS O=>⟨Z,_,O,B⟩
end
section
variable {X:Cx}{af:Pn}{Z:St}{H:Hp}{s:Ak}{A:Cw}{E:Ae->Ak->Prop}{Q:Ae->Ak->Prop}{c:Ae}{b:Bool}
inductive iL(K:Ac)(H:Hp):V->Ae->Prop where
 | non:iL K H .non (.type "NoneType")
 | bl (x:Bool):iL K H (.bl x) (.type "bool")
 | int (i:Int):iL K H (.int i) (.type "int")
 | str (x:Av):iL K H (.str x) (.type "str")
 | flt (x:UInt64):iL K H (.flt x) (.type "float")
 | lst {a:Am} {xs:↑V} (e:H a=aa (.lst xs)):iL K H (.ref a) (.type "list")
 | frz {a:Am} {o:Ms} {xs:↑V} (e:H a=aa (.frz o (.lst xs))):iL K H (.ref a) (.type "list")
 | tup {a:Am} {xs:↑V} (e:H a=aa (.tup xs)):iL K H (.ref a) (.type "tuple")
 | dK {a:Am} {kvs:↑(aC×V)} (e:H a=aa (.dK kvs)):iL K H (.ref a) (.type "dict")
 | dT {a:Am} {kvs:↑(↑aC×V)} (e:H a=aa (.dT kvs)):iL K H (.ref a) (.type "dict")
 | ins {a C dx:Am} {fs:↑(Av×V)} (e:H a=aa (.ins C dx fs)) (cl:gF K C) (ha:Fj K (.ref C) "__class__" = aa (aa (.builtin "object.__class__")))
   (hn:PySem.W.specialIn K (.builtin "object.__class__") "__get__" = aa (aa (.builtin "getset_descriptor.__get__"))) (htk:PySem.W.takesIn K (.builtin "object.__class__")=aa ab)
   (hm:PySem.W.mroIn K C (.type "object")=aa ab):iL K H (.ref a) (.ref C)
theorem RK(I:Inv X af Z H s)(G:RelV x u)(ty:iL X.K H x t)(e:Kv X.K t c=aa b)(h:∀tk,Q (.bool b) {s with toks:=tk}):
  Bm X.m A (call (.builtin "isinstance") [u,c]) Q E s:=by
 cases ty with
 | non=>cases (show u=Value.none from G);exact Ga PySem.W.kitx_none I.kIn True.intro e (λz=>nomatch z) h
 | bl y=>cases (show u=Value.bool y from G);exact Ga PySem.W.kitx_bool I.kIn True.intro e (λz=>nomatch z) h
 | int i=>let⟨t,q⟩:=(show ∃t,u=Value.int i t from G);cases q;exact Ga PySem.W.kitx_int I.kIn True.intro e (λz=>nomatch z) h
 | str y=>let⟨t,q⟩:=(show ∃t,u=Value.str y t from G);cases q;exact Ga PySem.W.kitx_str I.kIn True.intro e (λz=>nomatch z) h
 | flt y=>let⟨t,q⟩:=(show ∃t,u=Value.float y t from G);cases q;exact Ga PySem.W.kitx_float I.kIn True.intro e (λz=>nomatch z) h
 | @lst a xs B=>
  cases (show u=Value.ref a from G);let⟨_,_,n,_,U⟩:=(show b5 X.prog X.w H s.heap a (.lst xs) from I.hok a _ B);exact Ga PySem.W.kitx_list I.kIn ⟨_,U,rfl⟩ e (λz=>nomatch z) h
 | @frz a ob xs B=>
  cases (show u=Value.ref a from G);let⟨_,_,_,n,_,U⟩:=(show b5 X.prog X.w H s.heap a (.frz ob (.lst xs)) from I.hok a _ B);exact Ga PySem.W.kitx_list I.kIn ⟨_,U,rfl⟩ e (λz=>nomatch z) h
 | @tup a xs B=>
  cases (show u=Value.ref a from G);let⟨_,_,_,p⟩:=(show b5 X.prog X.w H s.heap a (.tup xs) from I.hok a _ B);let⟨o,U,L,_⟩:=p;exact Ga PySem.W.kitx_tuple I.kIn ⟨o,U,L⟩ e (λz=>nomatch z) h
 | @dK a kvs B=>
  cases (show u=Value.ref a from G);let⟨_,_,vs,_,p⟩:=(show b5 X.prog X.w H s.heap a (.dK kvs) from I.hok a _ B);let⟨o,es,ep,U,L,_⟩:=p;exact Ga PySem.W.kitx_dict I.kIn ⟨o,U,L.1⟩ e (λz=>nomatch z) h
 | @dT a kvs B=>
  cases (show u=Value.ref a from G);let⟨_,_,xs,_,o,es,ep,U,L,_⟩:=(show b5 X.prog X.w H s.heap a (.dT kvs) from I.hok a _ B);exact Ga PySem.W.kitx_dict I.kIn ⟨o,U,L.1⟩ e (λz=>nomatch z) h
 | @ins a C dx fs B cl g hn f S=>
  cases (show u=Value.ref a from G);let⟨mA,O,_⟩:=tD I.hok B;let⟨j,J,_⟩:=O.look;exact Ga (PySem.W.kitx_own (cl.get _) cl.hd g hn f S) I.kIn J e (λz=>nomatch z) h
end
structure cQ(k:Nat)(A:Cw):Prop where
 hd:A.handled=ae
 dp:A.depth+3*k+5<recursionLimit
 un:A.units+16*k+200<Fg
theorem cQ.mono{j k:Nat}(r:cQ k A)(h:j<=k):cQ j A:=⟨r.hd,by have:=r.dp;lia,by have:=r.un;lia⟩
theorem cQ.deeper{k:Nat}(r:cQ (k+1) A)(env:Env):cQ k (A.deeper env):=
 ⟨r.hd,by have:=r.dp;show A.depth+1+3*k+5<_;lia,by have:=r.un;show A.units+3+16*k+200<_;lia⟩
theorem RL{A:Cw}{C:Am}{us:↑Ae}{b:↑(Av×Ae)}:(A.under (.builtin "type.__call__" ⟨.ref C::us,b⟩)).depth=A.depth+1:=by
 first|rfl|simp[Sv,Code.weight,Code.isCreation,Code.isGuard,Code.isCaller,Code.frames,Tf,guardIds]
theorem RM{A:Cw}{C:Am}{us:↑Ae}{b:↑(Av×Ae)}:(A.under (.builtin "type.__call__" ⟨.ref C::us,b⟩)).units=A.units+1:=by
 first|rfl|simp[Sv,Code.cUnits,Code.frames,Tf]
theorem cQ.make{k:Nat}(r:cQ (k+1) A)(C:Am)(us:↑Ae)(b:↑(Av×Ae)):cQ k (A.under (.builtin "type.__call__" ⟨.ref C::us,b⟩)):=
 ⟨r.hd,by have:=r.dp;rw[RL];lia,by have:=r.un;rw[RM];lia⟩
theorem cQ.depth{k:Nat}(r:cQ k A):A.depth<recursionLimit:=by have:=r.dp;lia
theorem cQ.units{k:Nat}(r:cQ k A):A.units+64<Fg:=by have:=r.un;lia
def xD:TA:=λ_ H Q=>Q [] H
def RN(ta:TE)(a:TA):TA:=λZ H Q=>ta Z H λx j=>a Z j λxs w=>Q (x::xs) w
section
variable {X:Cx}{e:Ck}{es:↑Ck}{te:TE}{t:TA}{pos:Hv}
theorem RO:PA X [] xD:=λ_ _ _ _ H Q I h=>Lf ⟨[],H,I,.nil,h⟩
theorem RP(m:PE X e te)(T:PA X es t)(F:Se X e es:=by rfl):PA X (e::es) (RN te t):=by
 intro pos af s Z H Q I h;rw[F];show Bm _ _ (spliced ((ac,Ef e X.env)::Mz pos (Ci es X.env))) _ _ s;refine Kq (aZ (m af s Z H _ I h) λu U A=>?_);let⟨x,j,M,l,g⟩:=A;exact aZ (T pos af U Z j _ M g) λus Y C=>by let⟨xs,w,i,R,n⟩:=C;exact⟨x::xs,w,i,.cons l R,n⟩
def RQ(t:TA):TE:=λZ H Q=>t Z H λxs j=>↥xs<=Au/\∀p,j p=ae->Q (.ref p) (aL j p (.tup xs))
def RS(t:TA):TE:=λZ H Q=>t Z H λxs j=>↥xs<=Au/\∀p,j p=ae->Q (.ref p) (aL j p (.lst xs))
theorem RU{x1}(h:PA X es t):PE X (.Tuple es x1 pos) (RQ t):=by
 intro af s Z H Q I N;refine wpAny_Tuple_spliced (aZ (h pos af s Z H _ I N) λus U ⟨xs,j,M,r,z,q⟩=>⟨by rw[<-↥r];exact z,?_⟩);have hf:j ⇑U=ae:=M.hok.fresh (Ai _);refine⟨.ref ⇑U,aL j ⇑U (.tup xs),M.laid (t':=U.toks) (λb u e=>Af _ e) (Ai _) ?_,rfl,q _ hf⟩;exact⟨z,us,r,⟨_,Az _ rfl,rfl,_,rfl⟩⟩
theorem CI(h:PA X es t):PE X (.List es pos) (RS t):=by
 intro af s Z H Q I N;refine wpAny_List_spliced (aZ (h pos af s Z H _ I N) λus U ⟨xs,j,M,r,z,q⟩=>⟨by rw[<-↥r];exact z,?_⟩);have hf:j ⇑U=ae:=M.hok.fresh (Ai _);refine⟨.ref ⇑U,aL j ⇑U (.lst xs),M.laid (t':=U.toks) (λb u e=>Af _ e) (Ai _) ?_,rfl,q _ hf⟩;exact⟨z,us,0,r,Az _ rfl⟩
end
abbrev Sp:=↑V->Hp->VK->XK->Prop
abbrev kE:=↑Env->Hp->Ak->XK->Ae->Ak->Prop
structure nQ(P:Be)(w:Br)(K:Ac)(mg:Av->Option Ae)(base:Du)(A:Cw)(outer:↑Env)(s:Ak)(H:Hp):Prop where
 frames:A.frames=aa outer
 mod:Mod K mg base
 bs:∀b o,base.get? b=aa o->s.heap.get? b=aa o/\H b=ae
 bsz:base.objs.size<=⇑s
 funs:s.heap.FunFrames base outer
 frf:∀b∈iK outer,H b=ae
 hok:cS P w H s.heap
 bare:Pr s.gens
def CE(outer:↑Env)(P:Be)(w:Br)(H:Hp)(s:Ak)(Q:VK)(u:Ae)(s':Ak):Prop:=
 ∃v H',s'.os=s.os/\Pr s'.gens/\Un (iK outer) [] H H' s.heap s'.heap/\cS P w H' s'.heap/\RelV v u/\Q v H'
def CR(CX:kE)(outer:↑Env)(P:Be)(w:Br)(H:Hp)(s:Ak)(Q:VK)(E:XK)(r:To)(s':Ak):Prop:=
 match r with
 | .ok (.ret u)=>CE outer P w H s Q u s'
 | .ok _=>False
 | .error e=>CX outer H s E e s'
structure hW(P:Be)(w:Br)(K:Ac)(mg:Av->Option Ae)(base:Du)(CX:kE)(k:Nat)(f:Am)(fd:Ff)(ps:↑Av)(sp:Sp):Prop where
 len:∀vs H Q E,sp vs H Q E->↥vs=↥ps
 run:∀(A:Cw) (outer:↑Env) (s:Ak) (H:Hp) (args:Args) (us:↑Ae) (vs:↑V) (Q:VK) (E:XK),cQ k A->nQ P w K mg base A outer s H->Tg s fd args (ps.zip us)->a5 vs us->sp vs H Q E->
  Mp (De P w) A (.call (.ref f) args) (CR CX outer P w H s Q E) s
abbrev Cx.f(X:Cx):=hW X.prog X.w X.K X.mg X.base
theorem nQ.make{P:Be}{w:Br}{K:Ac}{mg:Av->Option Ae}{base:Du}{A:Cw}{outer:↑Env}{s:Ak}{H:Hp}(e:nQ P w K mg base A outer s H)(C:Am)(us:↑Ae)(b:↑(Av×Ae)):
  nQ P w K mg base (A.under (.builtin "type.__call__" ⟨.ref C::us,b⟩)) outer s H:=⟨by first|exact e.frames|(simpa [Sv,Code.envs,Tf,pushEnvs] using e.frames),e.mod,e.bs,e.bsz,e.funs,e.frf,e.hok,e.bare⟩
section
variable {X:Cx}{af:Pn}{Z:St}{H:Hp}{s s':Ak}
theorem Inv.env0(I:Inv X af Z H s):nQ X.prog X.w X.K X.mg X.base X.A X.stack s H:=
 ⟨I.ok.frames,I.ok.mod,I.bs,Ap I.ok.bsz I.sz,I.stack,I.stkFree,I.hok,I.bare⟩
theorem Inv.after(I:Inv X af Z H s)(h:CE X.stack X.prog X.w H s Q u s'):EP X af Z Q u s':=by
 let⟨v,H',os,bare,un,hok,r,q⟩:=h;let⟨hh,g,d,t,a⟩:=s';obtain rfl:a=s.os:=os;exact⟨v,H',I.call (h':=hh) (g':=g) (d':=d) (t':=t) (ch:=[]) un hok bare (λb z=>absurd z (by simp)),r,q⟩
end
def CJ(sp:Sp)(dvs:↑V)(E:XK)(t:TA):TE:=λZ H Q=>t Z H λvs j=>sp (vs++dvs) j Q E
def xE(C:Am)(m:Av)(sp:Sp)(dvs:↑V)(E:XK)(ta:TE)(t:TA):TE:=λZ H Q=>ta Z H λx j=>∃a dx fs,x=.ref a/\j a=aa (.ins C dx fs)/\fs.lookup m=ae/\
 t Z j λvs w=>sp (x::(vs++dvs)) w Q E
def CK(C:Am)(sp:Sp)(dvs:↑V)(E:XK)(t:TA):TE:=λZ H Q=>t Z H λvs j=>∀x dx,j x=ae->j dx=ae->dx≠x->
 sp (.ref x::(vs++dvs)) (aL (aL j dx (.own x)) x (.ins C dx [])) (λv w=>v=.non/\Q (.ref x) w) E
def Binds(K:Ac)(fd:Ff)(ps:↑Av)(ds:↑Ae):Prop:=
 ∀(s:Ak) (us:↑Ae),K.In s.heap->↥(us++ds)=↥ps->Tg s fd ⟨us,[]⟩ (ps.zip (us++ds))
theorem Binds.all{K:Ac}{fd:Ff}{ps:↑Av}(h:∀us:↑Ae,↥us=↥ps->bindArgs fd ⟨us,[]⟩=pure (ps.zip us)):Binds K fd ps []:=λs us _ hl=>by
 rw[Bs]at hl⊢;exact .of_eq (h us hl)
def mK(CX:kE)(X:Cx)(E:XK):Prop:=∀(af:Pn) (Z:St) (H:Hp) (s:Ak) (e:Ae) (s':Ak),Inv X af Z H s->CX X.stack H s E e s'->X.xe e s'
section
variable {X:Cx}{CX:kE}{k:Nat}{f C:Am}{fd:Ff}{ps:↑Av}{sp:Sp}{dvs:↑V}{ds:↑Ae}{E:XK}{x m:Av}{p pos apos:Hv}{e o:Ck}{es:↑Ck}{ta:TE}{t:TA}
theorem tE(F:X.f CX k f fd ps sp)(hr:cQ k X.A)(hb:Binds X.K fd ps ds)(hd:a5 dvs ds)(hx:mK CX X E)(I:Inv X af Z H s)(r:a5 vs us)(h:sp (vs++dvs) H Q E):X.a (call (.ref f) us) (EP X af Z Q) X.xe s:=by
 have r2:a5 (vs++dvs) (us++ds):=r.append hd;have hl:↥(us++ds)=↥ps:=by rw[<-↥r2];exact F.len _ _ _ _ h
 refine wpAny_call (Pm (F.run X.A X.stack s H ⟨us,[]⟩ (us++ds) (vs++dvs) Q E hr I.env0 (hb s us I.kIn hl) r2 h) λr s' hq=>?_);cases r with
 | error e=>exact hx af Z H s e s' I hq
 | ok fl=>
  cases fl with
  | ret u=>exact I.after hq
  | next=>exact Bq hq
  | brk=>exact Bq hq
  | cont=>exact Bq hq
theorem RV(F:X.f CX k f fd ps sp)(T:cQ k X.A)(hg:Gl X x)(S:X.mg x=aa (.ref f))(hk:Gj X.K (.ref f)=ab)(W:Binds X.K fd ps ds)(hd:a5 dvs ds)(J:mK CX X E)(m:PA X (e::es) t)(o:Db x:=by decide)(Y:Se X e es:=by rfl)(a:Sb X pos es:=by rfl):
  PE X (.Call (.Name x p) (e::es) [] pos) (CJ sp dvs E t):=by
 intro af s Z H Q I h;refine Dy (sR I hg S ?_ o);refine Mh (h₀:=X.base) I.ok.mod.kin hk (aZ (m pos af s Z H _ I h) λus U ⟨vs,j,M,r,q⟩=>⟨M.kIn,?_⟩) Y a;exact tE F T W hd J M r q
theorem RW(Y:PE X o ta)(c:gF X.K C)(S:oU X.K C m f)(F:X.f CX k f fd ps sp)(T:cQ k X.A)(W:Binds X.K fd ps ds)(hd:a5 dvs ds)(J:mK CX X E)(g:PA X (e::es) t)(y:Se X e es:=by rfl)(b:Sb X pos es:=by rfl)(ht:Ef (.Call (.Attribute o m apos) (e::es) [] pos) X.env=(do
   let p <-Ef o X.env
   Qo apos.atName
   let (f,first) <-Jv [p] (Qp p m pl)
   Ve pos f first (Mz pos (Ci (e::es) X.env)) (Pa pos (Lo [] X.env))):=by rfl):
  PE X (.Call (.Attribute o m apos) (e::es) [] pos) (xE C m sp dvs E ta t):=by
 intro af s Z H Q I h;refine PySem.W.methodCall_KW (pl:=pl) (aZ (Y af s Z H _ I h) λu U d=>?_) ht;let⟨x,j,M,G,a,dx,fs,ex,B,l,q⟩:=d;subst ex;obtain rfl:u=Value.ref a:=G;refine CH M B c S l ?_;refine Mh (first:=[.ref a]) (h₀:=X.base) I.ok.mod.kin S.kp (aZ (g pos af U Z j _ M q) λus V ⟨vs,w,i,r,n⟩=>⟨i.kIn,?_⟩) y b;exact tE (us:=.ref a::us) (vs:=.ref a::vs) F T W hd J i (.cons rfl r) n
theorem RX(Y:PE X o ta)(c:gF X.K C)(S:oU X.K C m f)(F:X.f CX k f fd ps sp)(T:cQ k X.A)(W:Binds X.K fd ps ds)(hd:a5 dvs ds)(J:mK CX X E)(ht:Ef (.Call (.Attribute o m apos) [] [] pos) X.env=(do
   let p <-Ef o X.env
   Qo apos.atName
   let (f,first) <-Jv [p] (Qp p m pl)
   Ve pos f first (Mz pos (Ci [] X.env)) (Pa pos (Lo [] X.env))):=by rfl):
  PE X (.Call (.Attribute o m apos) [] [] pos) (xE C m sp dvs E ta xD):=by
 intro af s Z H Q I h;refine PySem.W.methodCall_KW (pl:=pl) (aZ (Y af s Z H _ I h) λu U d=>?_) ht;let⟨x,j,M,G,a,dx,fs,ex,B,l,q⟩:=d;subst ex;obtain rfl:u=Value.ref a:=G;refine CH M B c S l ?_;exact PySem.W.callWith_K0 (first:=[.ref a]) M.kIn S.kp (tE (us:=[.ref a]) (vs:=[.ref a]) F T W hd J M (.cons rfl .nil) q)
structure Mk(K:Ac)(C f:Am):Prop where
 makes:Qx K C=ab
 init:Fj K (.ref C) "__init__" = aa (aa (.ref f))
 fn:Nv K (.ref f)=ab
 kp:Gj K (.ref C)=ab
theorem CL(M:Mk X.K C f)(F:X.f CX k f fd ps sp)(hr:cQ (k+1) X.A)(hb:Binds X.K fd ps ds)(hd:a5 dvs ds)(hx:mK CX X E)(I:Inv X af Z H s)(r:a5 vs us)(h:∀x dx,H x=ae->H dx=ae->dx≠x->sp (.ref x::(vs++dvs)) (aL (aL H dx (.own x)) x (.ins C dx [])) (λv H2=>v=.non/\Q (.ref x) H2) E):
  X.a (call (.ref C) us) (EP X af Z Q) X.xe s:=by
 have hq:=h (⇑s+1) ⇑s (I.hok.fresh (Hi _)) (I.hok.fresh (Ai _)) (Bn (Gz _));have I2:=Inv.made (C:=C) I;have r2:a5 (V.ref (⇑s+1)::(vs++dvs)) (Value.ref (⇑s+1)::(us++ds)):=.cons rfl (r.append hd);have hl:↥(Value.ref (⇑s+1)::us++ds)=↥ps:=by
  have e:=↥r2;rw[F.len _ _ _ _ hq]at e;exact e.symm
 refine wpAny_call (RB (f:=f) I.kIn M.makes M.init (beq_iff_eq.mp M.fn) (Pm (F.run _ X.stack _ _ ⟨Value.ref (⇑s+1)::us,[]⟩ (Value.ref (⇑s+1)::(us++ds)) _ _ E (hr.make C us [])
  (I2.env0.make C us []) (hb _ (Value.ref (⇑s+1)::us) I2.kIn hl) r2 hq) λr s' hq'=>?_))
 cases r with
 | error e=>exact hx af Z _ _ e s' I2 hq'
 | ok fl=>
  cases fl with
  | ret u=>
   let⟨v,H',I3,rv,ev,q3⟩:=I2.after hq';subst ev;exact⟨rv,⟨V.ref (⇑s+1),H',I3,rfl,q3⟩⟩
  | next=>exact Bq hq'
  | brk=>exact Bq hq'
  | cont=>exact Bq hq'
theorem RY(M:Mk X.K C f)(F:X.f CX k f fd ps sp)(T:cQ (k+1) X.A)(hg:Gl X x)(S:X.mg x=aa (.ref C))(W:Binds X.K fd ps ds)(hd:a5 dvs ds)(J:mK CX X E)(m:PA X (e::es) t)(o:Db x:=by decide)(Y:Se X e es:=by rfl)(a:Sb X pos es:=by rfl):
  PE X (.Call (.Name x p) (e::es) [] pos) (CK C sp dvs E t):=by
 intro af s Z H Q I h;refine Dy (sR I hg S ?_ o);refine Mh (h₀:=X.base) I.ok.mod.kin M.kp (aZ (m pos af s Z H _ I h) λus U ⟨vs,j,g,r,q⟩=>⟨g.kIn,?_⟩) Y a;exact CL M F T W hd J g r q
theorem RZ(M:Mk X.K C f)(F:X.f CX k f fd ps sp)(T:cQ (k+1) X.A)(hg:Gl X x)(S:X.mg x=aa (.ref C))(Y:Binds X.K fd ps ds)(hd:a5 dvs ds)(J:mK CX X E)(o:Db x:=by decide):PE X (.Call (.Name x p) [] [] pos) (CK C sp dvs E xD):=by
 intro af s Z H Q I h;refine Dy (sR I hg S ?_ o);exact PySem.W.callWith_K0 I.kIn M.kp (CL (us:=[]) M F T Y hd J I .nil h)
end
structure mL(N P:↑Av)(sc:Le):Prop where
 kind:sc.kind=.function
 co:sc.isCoroutine=ac
 gen:sc.isGenerator=ac
 nd:N.Nodup
 pre:N.take ↥P=P
 par:∀x∈P,sc.names.lookup x=aa .local\/sc.names.lookup x=aa .cell
 nofree:∀y∈sc.names,y.2≠.free
theorem CM{a:Av->Option Kg}:∀{binds:↑(Av×Ae)} {m:Av->Option Ae},(∀v,(x,v)∉binds)->Ug a binds m x=m x
 | [],_,_=>rfl
 | (n,v)::r,m,h=>by
  unfold Ug;rw[CM λw hw=>h w (Bj _ hw)];split
  .have:x≠n:=by rintro rfl;exact h v Bl
   simp[this]
  .rfl
theorem CN{a:Av->Option Kg}:∀{binds:↑(Av×Ae)} {m:Av->Option Ae},(∀v,(x,v)∉binds)->Uh a binds m x=m x
 | [],_,_=>rfl
 | (n,v)::r,m,h=>by
  unfold Uh;rw[CN λw hw=>h w (Bj _ hw)];split
  .rfl
  .have:x≠n:=by rintro rfl;exact h v Bl
   simp[this]
theorem CO{a:Av->Option Kg}{x:Av}{v:Ae}:∀{P:↑Av} {vs:↑Ae} {i:Nat} {m:Av->Option Ae},P.Nodup->P[i]? = aa x->vs[i]? = aa v->a x=aa .local->
  Ug a (P.zip vs) m x=aa v
 | [],_,_,_,_,h,_,_=>by simp at h
 | _::_,[],_,_,_,_,h,_=>by simp at h
 | p::P,w::vs,0,m,nd,O,L,hk=>by
  simp at O L;subst O;subst L;show Ug a ((p,w)::P.zip vs) m p=_;unfold Ug;rw[CM λv c=>(Cj.mp nd).1 (Oo c).1,Vz hk];simp
 | p::P,w::vs,i+1,m,nd,O,L,hk=>by
  show Ug a ((p,w)::P.zip vs) m x=_;unfold Ug;exact CO (i:=i) (Cj.mp nd).2 (by simpa using O) (by simpa using L) hk
theorem CP{a:Av->Option Kg}{x:Av}{v:Ae}:∀{P:↑Av} {vs:↑Ae} {i:Nat} {m:Av->Option Ae},P.Nodup->P[i]? = aa x->vs[i]? = aa v->a x≠aa .local->
  Uh a (P.zip vs) m x=aa v
 | [],_,_,_,_,h,_,_=>by simp at h
 | _::_,[],_,_,_,_,h,_=>by simp at h
 | p::P,w::vs,0,m,nd,O,L,hk=>by
  simp at O L;subst O;subst L;show Uh a ((p,w)::P.zip vs) m p=_;unfold Uh;rw[CN λv c=>(Cj.mp nd).1 (Oo c).1,Vy hk];simp
 | p::P,w::vs,i+1,m,nd,O,L,hk=>by
  show Uh a ((p,w)::P.zip vs) m x=_;unfold Uh;exact CP (i:=i) (Cj.mp nd).2 (by simpa using O) (by simpa using L) hk
def start(N:↑Av)(vs:↑V):St:=vs.map aa++Ce (↥N-↥vs) ae
noncomputable def kF(CX:kE)(P:Be)(w:Br)(K:Ac)(mg:Av->Option Ae)(base:Du)(N:↑Av)(g:Av)(M:Le)(f:Am)(B:Ae)(A:Cw)(outer:↑Env)(s:Ak)(H:Hp)(E:XK):Cx where
 prog:=P
 w:=w
 K:=K
 mg:=mg
 base:=base
 A:=A.deeper (Ma g M ⇑s f B)
 N:=N
 s₀:=s
 H₀:=H
 env:=Ma g M ⇑s f B
 outer:=outer
 stack:=Ma g M ⇑s f B::outer
 ex:=[]
 calm:=ab
 fn:=λ_=>ab
 pn:=[]
 xe:=λe j=>Bm (De P w) (A.deeper (Ma g M ⇑s f B)) (leaving (Ma g M ⇑s f B) e) (λ_ U=>CX outer H s E e U) (λC U=>CX outer H s E C U) j
theorem CQ{sc:Le}{n:Nat}{x:Av}(h:sc.names.lookup x=aa .cell):∃c,(Vv n sc.names []).lookup x=aa c:=by
 have q:=PySem.W.cellsFrom_some sc.names n [] (.inl h);exact Dz.mp q
theorem R0{CX:kE}{P:Be}{w:Br}{K:Ac}{mg:Av->Option Ae}{base:Du}{N ps:↑Av}{g:Av}{M:Le}{f:Am}{B:Ae}{A:Cw}{outer:↑Env}{s U:Ak}{H:Hp}{E:XK}{us:↑Ae}{vs:↑V}(S:mL N ps M)(hd:A.handled=ae)(I:nQ P w K mg base A outer s H)(hl:↥vs=↥ps)(r:a5 vs us)(x:InCallC s ⇑s (Ug (Ma g M ⇑s f B).kindOf (ps.zip us) λ_=>ae) (Vv (⇑s+1) M.names []) (Uh (Ma g M ⇑s f B).kindOf (ps.zip us) λ_=>ae) U):
  Inv (kF CX P w K mg base N g M f B A outer s H E) [] (start N vs) H U:=by
 have o:↥ps<=↥N:=by have:=congrArg Ky S.pre;rw[Cg]at this;lia
 let⟨O,tk,rfl,hk⟩:=x.done;have X:∀b:Am,b∉(kF CX P w K mg base N g M f B A outer s H E).ex:=λb z=>absurd (show b∈([]:↑Am) from z) (by simp);refine⟨⟨I.mod,S.kind,rfl,rfl,Ai _,λy z c O L=>?_,λy Y=>?_,λy c _ h=>?_,λ_=>hd,Around.frames_deeper I.frames,.inr ⟨rfl,rfl⟩,λb z=>absurd z (X b),I.bs,I.bsz,λb _ _=>X b,λb z=>absurd z (X b),I.funs,I.frf⟩,
  rfl,I.bare,Un.kept hk,⟨_,x.toInCall.ns,λi y v O L h3=>?_⟩,λy c h=>⟨_,x.cell y c h⟩,I.hok.fresh (Ai _),λy c h=>?_,λp G=>absurd (show p∈([]:↑(Am×Ms)) from G) (by simp),I.hok.kept hk,?_⟩
 .exact name_of_addr x.apart (Il O) (Il L)
 .have Y:M.names.lookup y=aa .cell\/M.names.lookup y=aa .free:=Y;rcases Y with Y|Y
  .exact CQ Y
  .exact absurd rfl (S.nofree _ (Il Y))
 .exact Ht (x.above y c (Il h))
 .have hi:i<↥vs:=by
   unfold start at L
   by_cases hi:i<↥vs
   .exact hi
   .rw[Hx (by simpa using hi)]at L;rw[List.getElem?_replicate]at L;split at L<;>cases L
  have m:vs[i]? = aa v:=by
   unfold start at L;rw[Ng (by simpa using hi),Ay]at L;cases e:vs[i]? with
   | none=>rw[e]at L;cases L
   | some a=>rw[e]at L;cases L;rfl
  let⟨u,W,R⟩:=r.get m;have G:ps[i]? = aa y:=by
   rw[<-S.pre,List.getElem?_take_of_lt (by lia)];exact O
  have d:ps.Nodup:=by rw[<-S.pre];exact S.nd.sublist (List.take_sublist _ _)
  refine⟨u,R,?_⟩;rcases S.par y (Ao G) with k|k
  .exact .inl ⟨k,CO d G W k⟩
  .let⟨c,e⟩:=CQ (n:=⇑s+1) k;refine .inr ⟨.inl k,c,e,?_⟩;have q:=x.cell y c e;rw[CP d G W (by show M.names.lookup y≠_;rw[k];decide)]at q;exact q
 .exact I.hok.fresh (Ht (x.above y c (Il h)))
 .unfold start;show _=↥N;rw[Aj,Ab,Jh];lia
theorem R1{CX:kE}{P:Be}{w:Br}{K:Ac}{mg:Av->Option Ae}{base:Du}{k:Nat}{f:Am}{name qual:Av}{params:Arguments}{body:↑Jy}{scope:Le}{dV kV doc pm cdv ct oc:Ae}{an od:Option Am}{osl:Array (Option Ae)}{N ps:↑Av}{sp:Sp}(lk:K.lookup f=aa ⟨oc,od,.func (Gb name qual params body scope dV kV doc pm an cdv ct),osl⟩)(hcd:Kw K cdv qual=ab)(S:mL N ps scope)(len:∀vs H Q E,sp vs H Q E->↥vs=↥ps)(hbody:∀(A:Cw) (outer:↑Env) (s:Ak) (H:Hp) (vs:↑V) (Q:VK) (E:XK),cQ k (A.deeper (Ma qual scope ⇑s f cdv))->sp vs H Q E->
   ∃t,fN (kF CX P w K mg base N qual scope f cdv A outer s H E) body t/\t {nx:=λ_ H'=>Q .non H',rt:=Q} (start N vs) H):
  hW P w K mg base CX (k+1) f (Gb name qual params body scope dV kV doc pm an cdv ct) ps sp:=by
 refine⟨len,λA outer s H args us vs Q E hr e0 hb r hsp=>?_⟩;have hl:=len _ _ _ _ hsp;have KX:K.In s.heap:=e0.mod.kin.keeps λb o e=>(e0.bs b o e).1;have lim:s.heap.NoLimit:=e0.mod.nolimit.keeps λb o e=>(e0.bs b o e).1;have hkind:∀y∈ps.zip us,scope.names.lookup y.1=aa .local\/(scope.names.lookup y.1=aa .cell/\((Vv (⇑s+1) scope.names []).lookup y.1).isSome=ab):=λ⟨n,v⟩ hy=>by
  rcases S.par n (Oo hy).1 with q|q
  .exact .inl q
  .exact .inr ⟨q,PySem.W.cellsFrom_some _ _ _ (.inl q)⟩
 refine codeAny_call_function hr.depth (KX _ _ lk) rfl S.co S.gen rfl (PySem.W.codeRec_of KX hcd) (hb _ _ _ _ ?_);refine wpAny_newFunctionEnv_cells S.kind hkind λenv he s1 x=>?_;subst he;refine⟨lim.keeps x.toInCall.keep,codeAny_func ?_⟩;let⟨t,ht,hq⟩:=hbody A outer s H vs Q E (hr.deeper _) hsp;have I:Inv (kF CX P w K mg base N qual scope f cdv A outer s H E) [] (start N vs) H s1:=R0 S hr.hd e0 hl r x;refine Iw (ht [] s1 (start N vs) H _ I hq) (λfl s' hs=>?_) λe s' hs=>hs;have fin:∀{σ':St} {H':Hp} {v:V} {u:Ae},Inv (kF CX P w K mg base N qual scope f cdv A outer s H E) [] σ' H' s'->RelV v u->Q v H'->CE outer P w H s Q u s':=
  λ{σ' H' v u} J rv q=>⟨v,H',J.os,J.bare,J.base,J.hok,rv,q⟩
 cases fl with
 | ret u=>
  let⟨v,σ',H',J,rv,q⟩:=hs;exact fin J rv q
 | next=>
  let⟨σ',H',J,q⟩:=hs;exact fin (v:=V.non) (u:=Value.none) J rfl q
 | brk=>
  let⟨_,_,_,q⟩:=hs;exact Bq q
 | cont=>
  let⟨_,_,_,q⟩:=hs;exact Bq q
section
variable {X:Cx}{x:Av}{p pos:Hv}{e:Ck}{es:↑Ck}{t:TA}{id T:String}{r:↑V->Hp->VK->Prop}
def xF(r:↑V->Hp->VK->Prop)(t:TA):TE:=λC H Q=>t C H λvs j=>r vs j Q
theorem R4(hc:cR X (.builtin id) r)(hg:Gl X x)(S:X.mg x=ae)(c:Cu x=aa (.builtin id))(m:PA X (e::es) t)(hn:x≠"__name__":=by decide)(o:Db x:=by decide)(Z:Se X e es:=by rfl)(a:Sb X pos es:=by rfl):PE X (.Call (.Name x p) (e::es) [] pos) (xF r t):=by
 intro B s C H Q I h;refine Dy (gE I hg S c ?_ hn o);exact PyProof.Rows.callWith_builtin1 (aZ (m pos B s C H _ I h) λus U ⟨vs,j,M,l,g⟩=>hc B U C j vs us Q M l g) Z a
theorem R5(hc:cR X (.type T) r)(hg:Gl X x)(S:X.mg x=ae)(c:Cu x=aa (.type T))(m:PA X (e::es) t)(hn:x≠"__name__":=by decide)(o:Db x:=by decide)(Z:Se X e es:=by rfl)(a:Sb X pos es:=by rfl):PE X (.Call (.Name x p) (e::es) [] pos) (xF r t):=by
 intro B s C H Q I h;refine Dy (gE I hg S c ?_ hn o);exact Cd (aZ (m pos B s C H _ I h) λus U ⟨vs,j,M,l,g⟩=>hc B U C j vs us Q M l g) Z a
end
end L2
namespace HT
section
variable {prog:Be}{w:Br}{A:Cw}{E:Ae->Ak->Prop}{s:Ak}
theorem cat_tup{Q:Ae->Ak->Prop}(ht:IsTup s.heap t vs.toArray)(Z:IsTup s.heap b ws.toArray)(c:vs≠[])(O:ws=[]->Q (.ref t) s)(L:ws≠[]->Q (.ref ⇑s) {s with heap:=s.heap.push {cls:=.type "tuple",data:=.seq (vs++ws).toArray}})(hsz:↥vs+↥ws<=Au):Bm (De prog w) A (Eh .Add (.ref t) (.ref b)) Q E s:=by
 obtain⟨⟨cls,x,data,sl⟩,f,hc,n,hd⟩:=id ht;obtain⟨⟨p,k,o,l⟩,d,j,a,g⟩:=id Z;simp only at hc hd j g;subst hc hd j g;have e:vs.toArray++ws.toArray=(vs++ws).toArray:=by simp
 by_cases hw:ws=[]
 .exact Ur ⟨_,f,rfl⟩ ⟨_,d,rfl⟩ Sm Tw Nw Nl (Na _ _)
   (tuple_addW1 t b vs.toArray ws.toArray n a x k sl l (by simpa using c) (by simp[hw])) ⟨f,d,O hw⟩
 .refine Ur ⟨_,f,rfl⟩ ⟨_,d,rfl⟩ Sm Tw Nw Nl (Na _ _)
   (tuple_addW2 t b vs.toArray ws.toArray n a x k sl l (by simpa using c) (by simpa using hw) (by rw[Bi,Bi];exact hsz)) ⟨f,d,?_⟩
  rw[e];exact L hw
def sIx(n d:Nat):Option Int->Nat
 | none=>d
 | some v=>if v<0 then(v+(n:Int)).toNat else min v.toNat n
theorem sIx_nat(n d k:Nat):sIx n d (aa (k:Int))=min k n:=by
 show(if (k:Int)<0 then((k:Int)+(n:Int)).toNat else min (k:Int).toNat n)=min k n;rw[Vy (by lia),Dl]
theorem R6(n d:Nat)(hd:d<=n)(o:Option Int):sIx n d o<=n:=by
 cases o with
 | none=>exact hd
 | some v=>
  show(if v<0 then(v+(n:Int)).toNat else min v.toNat n)<=n
  by_cases c:v<0
  .rw[Vz c];lia
  .rw[Vy c];exact Oa _ _
theorem CS(v:Int)(n d:Nat):(if v<0 then max (v+(n:Int)) 0 else min v (n:Int))=((sIx n d (aa v):Nat):Int):=by
 show(if v<0 then max (v+(n:Int)) 0 else min v (n:Int))=(((if v<0 then(v+(n:Int)).toNat else min v.toNat n):Nat):Int)
 by_cases c:v<0
 .simp only[Vz c];lia
 .simp only[Vy c];lia
theorem R7(lo hi:Option Int)(n:Nat):Mc lo hi 1 (n:Int)=(((sIx n 0 lo:Nat):Int),((sIx n n hi:Nat):Int)):=by
 have O:¬((1:Int)<0):=by lia
 unfold Mc;simp only[O,if_false];refine Pe ?_ ?_
 .cases lo with
  | none=>rfl
  | some v=>exact CS v n 0
 .cases hi with
  | none=>rfl
  | some v=>exact CS v n n
theorem R8(i j:Nat):Je (i:Int) (j:Int) 1=j-i:=by
 unfold Je;have O:(1:Int) > 0:=by lia
 simp only[O,if_true,Int.ediv_one];split<;>lia
theorem CU{Q:Option Int->Ak->Prop}(p:Sq v o)(h:Q o s):Bm (De prog w) A (Builtin.Slice.slicePartIndex v) Q E s:=by
 cases p with
 | none=>exact slicePart_none h
 | int i t=>exact slicePart_int h
theorem R9{sl:Am}{c y:Ae}{lo hi:Option Int}{n:Nat}{Q:Int×Int×Nat->Ak->Prop}(F:s.heap.IsSliceOf sl c y .none)(pl:Sq c lo)(z:Sq y hi)(h:Q (((sIx n 0 lo:Nat):Int),1,sIx n n hi-sIx n 0 lo) s):Bm (De prog w) A (Builtin.Slice.sliceApplied (.ref sl) (pure (n:Int))) Q E s:=by
 let⟨os,d,e,b⟩:=id F;unfold Builtin.Slice.sliceApplied Builtin.Slice.sliceFields;refine Aa (Aa (Dv d b (x:=c) rfl (Aa (Dv d b (x:=y) rfl (Aa (Dv d b (x:=.none) rfl (Ah ?_)))))));refine Aa (slicePart_none ?_);show Bm _ _ (if ((1:Int)==0)=ab then _ else _) _ _ s;rw[Vy ∅];refine Aa (CU pl (Aa (CU z (Aa (Ah ?_)))));show Bm _ _ (match Mc lo hi 1 (n:Int) with|(lo,hi)=>pure (lo,(1:Int),Je lo hi 1)) _ _ s;rw[R7 lo hi n];show Bm _ _ (pure (((sIx n 0 lo:Nat):Int),(1:Int),Je ((sIx n 0 lo:Nat):Int) ((sIx n n hi:Nat):Int) 1)) _ _ s;rw[R8];exact Ah h
theorem SA(xs:Array Ae)(i k:Nat):((Cp k).filterMap λ(m:Nat)=>xs[((i:Int)+(m:Int)*1).toNat]?).toArray=((xs.toList.drop i).take k).toArray:=by
 have e:(λ(m:Nat)=>xs[((i:Int)+(m:Int)*1).toNat]?)=λm=>xs[i+m]?:=by
  funext m;have:((i:Int)+(m:Int)*1).toNat=i+m:=by lia
  rw[this]
 rw[e];have:=pick_run xs i k;rw[Ku]at this;have T:((λx=>xs[x]?) ∘ λx=>i+x)=λm=>xs[i+m]?:=rfl;rw[T]at this;rw[this]
theorem getItem_tuple_cut{t sl:Am}{items:Array Ae}{c y:Ae}{lo hi:Option Int}{Q:Ae->Ak->Prop}(ht:IsTup s.heap t items)(F:s.heap.IsSliceOf sl c y .none)(pl:Sq c lo)(z:Sq y hi)(hw:¬(sIx items.size 0 lo=0/\sIx items.size items.size hi=items.size))(h:Q (.ref ⇑s) {s with heap:=s.heap.push {cls:=.type "tuple",data:=.seq ((items.toList.drop (sIx items.size 0 lo)).take (sIx items.size items.size hi-sIx items.size 0 lo)).toArray}})(hsz:items.size<=Au):Bm (De prog w) A (Tc (.ref t) (.ref sl)) Q E s:=by
 have a:sizeOk (.seq ((items.toList.drop (sIx items.size 0 lo)).take (sIx items.size items.size hi-sIx items.size 0 lo)).toArray):=by
  show((items.toList.drop (sIx items.size 0 lo)).take (sIx items.size items.size hi-sIx items.size 0 lo)).toArray.size<=Au;rw[Bi,Cg,Gv,Ey];omega
 have hj:sIx items.size items.size hi<=items.size:=R6 _ _ (Ai _) hi;let⟨os,d,e,b⟩:=id F;have f:s.TypeIs (.ref sl) "slice":=⟨os,d,e⟩;unfold Tc
 try with_reducible refine Dq ?_
 first|refine Aa (Ah ?_)|skip
 refine Aa (wpAny_sequenceKey ht.typeIs ∅ ?_);refine Aa (Cy (name:=Bz "__getitem__") ht.typeIs Ki
  (Cr Ki ht.typeIs entry_tuple_getitem ?_ (args_tuple_getitem _ _)))
 show Bm _ _ (Builtin.Tuple.tupleItemsOf (.ref t)>>=_) _ _ s;refine Aa (tupleItemsOf_ ht ?_);refine Aa (Lx f ?_);rw[Vz ∅];refine Aa (R9 F pl z ?_);have i:¬((((sIx items.size 0 lo:Nat):Int)==0&&(1:Int)==1&&(sIx items.size items.size hi-sIx items.size 0 lo)==items.size)=ab):=by
  intro q;rw[Dn,Dn]at q;have g:((sIx items.size 0 lo:Nat):Int)=0:=eq_of_beq q.1.1;have n:sIx items.size items.size hi-sIx items.size 0 lo=items.size:=eq_of_beq q.2;exact hw ⟨by omega,by omega⟩
 show Bm _ _ (if (((sIx items.size 0 lo:Nat):Int)==0&&(1:Int)==1&&(sIx items.size items.size hi-sIx items.size 0 lo)==items.size)=ab then _ else _) _ _ s;rw[Vy i,SA]
 first
  | exact Aa (m:=Gn _) (Ds (Ah ⟨_,rfl,Ah h⟩) a)
  | exact Aa (m:=Gn _) (Ds (Aa (Ah (Ah ⟨_,rfl,Ah h⟩))) a)
  | exact Aa (Aa (m:=Gn _) (Ds (Ah (Ah ⟨_,rfl,Ah h⟩)) a))
  | exact Aa (Aa (m:=Gn _) (Ds (Ah ⟨_,rfl,Ah h⟩) a))
end
end HT
namespace L2
abbrev TO:=St->Hp->(Option Int->Hp->Prop)->Prop
def PO(X:Cx)(e:Option Ck)(t:TO):Prop:=
 ∀(B:Pn) (s:Ak) (C:St) (H:Hp) (Q:Option Int->Hp->Prop),Inv X B C H s->t C H Q->
  X.a (evalPart e X.env) (λu j=>∃o l,Inv X B C l j/\Sq u o/\Q o l) X.xe s
def SD:TO:=λ_ H Q=>Q ae H
def SE(t:TE):TO:=λC H Q=>t C H λx j=>∃i,x=.int i/\Q (aa i) j
section
variable {X:Cx}{e:Ck}{te:TE}{lo hi:Option Ck}{tl th:TO}{pos p2:Hv}
theorem SF:PO X ae SD:=by
 intro B s C H Q I h;rw[evalPart_none];exact Ah ⟨ae,H,I,.none,h⟩
theorem SG(h:PE X e te):PO X (aa e) (SE te):=by
 intro B s C H Q I hw;rw[evalPart_some];refine aZ (h B s C H _ I hw) λu U A=>?_;let⟨x,j,M,l,g⟩:=A;let⟨i,rfl,q⟩:=g;let⟨t,rfl⟩:=l;exact⟨aa i,j,M,.int i t,q⟩
def tF(X:Cx)(r:V->Option Int->Option Int->Hp->VK->Prop):Prop:=
 ∀(B:Pn) (s:Ak) (C:St) (H:Hp) (x:V) (v c y:Ae) (lo hi:Option Int) (sl:Am) (Q:VK),Inv X B C H s->RelV x v->s.heap.IsSliceOf sl c y .none->Sq c lo->Sq y hi->r x lo hi H Q->
  ∃T id,Mf (.type T) "__getitem__" = pure (aa (.builtin id))/\s.TypeIs v T/\X.a (Tc v (.ref sl)) (EP X B C Q) X.xe s
def SH(r:V->Option Int->Option Int->Hp->VK->Prop)(te:TE)(tl th:TO):TE:=λC H Q=>te C H λx j=>tl C j λl w=>th C w λu K=>r x l u K Q
theorem SI{r:V->Option Int->Option Int->Hp->VK->Prop}(D:tF X r)(Z:PE X e te)(hl:PO X lo tl)(W:PO X hi th):PE X (.Subscript e (.Slice lo hi ae p2) pos) (SH r te tl th):=by
 intro B s C H Q I h;refine Subscript_ (aZ (Z B s C H _ I h) λv U A=>?_);let⟨x,j,M,d,g⟩:=A;refine wpAny_Slice (aZ (hl B U C j _ M g) λc Y ⟨l,w,i,pl,n⟩=>aZ (W B Y C w _ i n) λy N R=>?_);let⟨u,K,O,z,L⟩:=R;rw[evalPart_none];refine Ah ?_;have f:Inv X B C K {N with heap:=N.heap.push {cls:=.type "slice",data:=.fields #[c,y,.none]}}:=O.kept (t':=N.toks) λb ob q=>Af _ q;let⟨T,id,P,ht,hg⟩:=D B {N with heap:=N.heap.push {cls:=.type "slice",data:=.fields #[c,y,.none]}} C K x v c y l u ⇑N Q f d (Heap.IsSliceOf.new ..) pl z L;show X.a (subscriptTail e (.Slice lo hi ae p2) v (.ref ⇑N)) (EP X B C Q) X.xe {N with heap:=N.heap.push {cls:=.type "slice",data:=.fields #[c,y,.none]}};exact tail_any (ops:=[.ref ⇑N,v]) ht P hg (by with_unfolding_all rfl)
def mM(xs:↑V)(lo hi:Option Int):↑V:=(xs.drop (HT.sIx ↥xs 0 lo)).take (HT.sIx ↥xs ↥xs hi-HT.sIx ↥xs 0 lo)
theorem CV(xs:↑V)(lo hi:Option Int):↥(mM xs lo hi)<=↥xs:=by
 unfold mM;rw[Cg,Gv];lia
def SJ(K:Ac):V->Option Int->Option Int->Hp->VK->Prop:=λx lo hi H Q=>∃a xs,x=.ref a/\bL K H a xs/\
 ¬(HT.sIx ↥xs 0 lo=0/\HT.sIx ↥xs ↥xs hi=↥xs)/\∀p,H p=ae->Q (.ref p) (aL H p (.tup (mM xs lo hi)))
theorem SM:tF X (SJ X.K):=by
 intro B s C H x v c y lo hi sl Q I G F pl z h;let⟨a,xs,rfl,J,hw,q⟩:=h;cases G;let⟨its,r,ht,hz⟩:=I.tuple J;have T:its.toArray.size=↥xs:=by rw[Bi];exact r.length.symm
 refine⟨"tuple",_,Ki.lookup,ht.typeIs,?_⟩;refine HT.getItem_tuple_cut ht F pl z (by rw[T];exact hw) ?_ (by rw[T];exact hz);rw[T];refine⟨.ref ⇑s,_,I.laid (t':=s.toks) (o:=.tup (mM xs lo hi)) (λb ob q=>Af _ q) (Ai _) ?_,rfl,q _ (I.hok.fresh (Ai _))⟩;exact⟨Ap (CV xs lo hi) hz,_,(r.drop (HT.sIx ↥xs 0 lo)).take (HT.sIx ↥xs ↥xs hi-HT.sIx ↥xs 0 lo),Uw _ _⟩
def SN(K:Ac):R2:=λx y H Q=>∃a b xs ys,x=.ref a/\y=.ref b/\bL K H a xs/\bL K H b ys/\xs≠[]/\↥xs+↥ys<=Au/\
 (ys=[]->Q (.ref a) H)/\(ys≠[]->∀p,H p=ae->Q (.ref p) (aL H p (.tup (xs++ys))))
theorem a5.nil_iff(r:a5 xs us):us=[]↔xs=[]:=by
 cases r with
 | nil=>simp
 | cons _ _=>simp
theorem SO:bB X (Eh .Add) (SN X.K):=by
 intro B s C H x y v u Q I G P h;let⟨a,b,xs,ys,rfl,rfl,m,Z,J,hz,g,n⟩:=h;cases G;cases P;let⟨its,l,O,_⟩:=I.tuple m;let⟨t,R,p2,_⟩:=I.tuple Z;refine HT.cat_tup O p2 (λz=>J (l.nil_iff.mp z)) (λz=>⟨.ref a,H,I,rfl,g (R.nil_iff.mp z)⟩) (λz=>?_) (by rw[<-↥l,<-↥R];exact hz);refine⟨.ref ⇑s,_,I.laid (t':=s.toks) (o:=.tup (xs++ys)) (λb ob q=>Af _ q) (Ai _) ?_,rfl,n (λw=>z (R.nil_iff.mpr w)) _ (I.hok.fresh (Ai _))⟩;exact⟨by rw[Aj];exact hz,_,l.append R,Uw _ _⟩
end
noncomputable def gV(n:Nat)(i:Int):Option Nat:=if 0<=i then(if i<n then aa i.toNat else ae) else if -(n:Int)<=i then aa (i+n).toNat else ae
def bR{B:Type}(xs:↑B)(i:Int):Option B:=(gV ↥xs i).bind λj=>xs[j]?
theorem xG{n:Nat}{i:Int}{j:Nat}(h:gV n i=aa j):Vt i n=aa j/\j<n/\-(n:Int)<=i/\i<n:=by
 unfold gV at h
 by_cases J:0<=i
 .rw[Vz J]at h
  by_cases O:i<n
  .rw[Vz O]at h;have e:i.toNat=j:=Ct h;exact⟨by rw[Vb J O,e],by lia,by lia,O⟩
  .rw[Vy O]at h;cases h
 .rw[Vy J]at h
  by_cases O : -(n:Int)<=i
  .rw[Vz O]at h;have e:(i+n).toNat=j:=Ct h;exact⟨by rw[seqIndex_neg (by lia) O,e],by lia,O,by lia⟩
  .rw[Vy O]at h;cases h
theorem xH{B:Type}{xs:↑B}{i:Int}{v:B}(h:bR xs i=aa v):∃j,Vt i ↥xs=aa j/\xs[j]? = aa v/\j<↥xs/\-(↥xs:Int)<=i/\i<↥xs:=by
 unfold bR at h;cases e:gV ↥xs i with
 | none=>rw[e]at h;cases h
 | some j=>
  rw[e]at h;let⟨O,L,h3,m⟩:=xG e;exact⟨j,O,h,L,h3,m⟩
theorem gW{B:Type}{xs:↑B}{j:Nat}{v:B}(h:xs[j]? = aa v):bR xs (j:Int)=aa v:=by
 have hj:j<↥xs:=(An.mp h).1;have e:gV ↥xs (j:Int)=aa j:=by
  unfold gV;rw[Vz (by lia),Vz (by lia)];simp
 unfold bR;rw[e];exact h
theorem CW{B:Type}(xs:↑B)(v:B):bR (xs++[v]) (-1)=aa v:=by
 have hl:↥(xs++[v])=↥xs+1:=by simp
 have e:gV ↥(xs++[v]) (-1)=aa ↥xs:=by
  unfold gV;rw[hl,Vy ∅,Vz (by lia)];congr 1;lia
 unfold bR;rw[e];show(xs++[v])[↥xs]? = aa v;simp
def CY(b:Ck):Prop:=∀o i,subscripted b ac o i=operate [o,i] (Tc o i)
def jG(X:Cx)(r:R2):Prop:=
 ∀(d b:Ck) (B:Pn) (s:Ak) (C:St) (H:Hp) (x y:V) (v u:Ae) (Q:VK),Inv X B C H s->RelV x v->RelV y u->r x y H Q->
  subscripted b ac v u=operate [v,u] (Tc v u)->X.a (subscriptTail d b v u) (EP X B C Q) X.xe s
def e8(X:Cx)(id:String)(r:V->↑V->Hp->VK->Prop):Prop:=
 ∀(B:Pn) (s:Ak) (C:St) (H:Hp) (x:V) (xs:↑V) (v:Ae) (us:↑Ae) (Q:VK),Inv X B C H s->RelV x v->a5 xs us->r x xs H Q->
  X.a (call (.builtin id) (v::us)) (EP X B C Q) X.xe s
section
variable {X:Cx}{a b:Ck}{ta tb:TE}{pos:Hv}
theorem jG.or(h:jG X r)(h':jG X W):jG X (λx y H Q=>r x y H Q\/W x y H Q):=by
 intro d b B s C H x y v u Q I G P q F;rcases q with q|q
 .exact h d b B s C H x y v u Q I G P q F
 .exact h' d b B s C H x y v u Q I G P q F
theorem SQ(T:jG X r)(m:PE X a ta)(Z:PE X b tb)(F:CY b):PE X (.Subscript a b pos) (qL r ta tb):=by
 intro B s C H Q I h;exact Subscript_ (w9 m Z I h λv u Y x y w i G P q=>T a b B Y C w x y v u Q i G P q (F _ _))
def SU(K:Ac):R2:=λx y H Q=>∃p xs i v,x=.ref p/\y=.int i/\bN K H p xs/\bR xs i=aa v/\Q v H
def SW(K:Ac):R2:=λx y H Q=>∃p xs i v,x=.ref p/\y=.int i/\bL K H p xs/\bR xs i=aa v/\Q v H
def SX:R2:=λx y H Q=>∃z i c,x=.str z/\y=.int i/\↥z<=Au/\bR z.cps.toList i=aa c/\Q (.str ⟨#[c]⟩) H
theorem SY:jG X (SU X.K):=by
 intro d b B s C H x y v u Q I G P h F;let⟨p,xs,i,z,rfl,rfl,N,Z,q⟩:=h;cases G;let⟨t,rfl⟩:=P;let⟨its,r,pl,hz⟩:=I.list N;let⟨j,O,L,h3,m,Y⟩:=xH Z;let⟨w,e,c⟩:=r.get L;have hl:=↥r;have hn:=lG;have fin:EP X B C Q w s:=⟨z,H,I,c,q⟩
 by_cases J:0<=i
 .have hj:i.toNat=j:=by
   rw[Vb J Y]at O;exact Ct O
  exact item_listR pl.isList J (by lia) (by rw[hj];simpa using e) fin F
 .have hj:(i+(its.toArray.size:Int)).toNat=j:=by
   rw[seqIndex_neg (by lia) m]at O;rw[Bi,<-hl];exact Ct O
  exact subscriptTail_builtinR (x:=w) pl.isList.typeIs slot_list_getitem.lookup
   (wpAny_getItem_list_neg (Q:=λr M=>r=w/\EP X B C Q r M) pl.isList (by lia) (by rw[Bi]<;>lia) (by lia) (by rw[hj];simpa using e) ⟨rfl,fin⟩) F
theorem S4:jG X (SW X.K):=by
 intro d b B s C H x y v u Q I G P h F;let⟨p,xs,i,z,rfl,rfl,N,Z,q⟩:=h;cases G;let⟨t,rfl⟩:=P;let⟨its,r,pl,hz⟩:=I.tuple N;let⟨j,O,L,h3,m,Y⟩:=xH Z;let⟨w,e,c⟩:=r.get L;have hl:=↥r;have hn:=lG;have fin:EP X B C Q w s:=⟨z,H,I,c,q⟩;exact subscriptTail_builtinR (x:=w) pl.typeIs slot_tuple_getitem.lookup
  (getItem_tuple (j:=j) (Q:=λr M=>r=w/\EP X B C Q r M) pl (by lia) (by lia) (by rw[Bi,<-hl];exact O) (by simpa using e) ⟨rfl,fin⟩) F
theorem S5:jG X SX:=by
 intro d b B s C H x y v u Q I G P h F;let⟨z,i,c,rfl,rfl,hz,Z,q⟩:=h;let⟨t,rfl⟩:=G;let⟨t',rfl⟩:=P;let⟨j,O,L,h3,m,Y⟩:=xH Z;have hl:↥z.cps.toList=↥z:=by simp[Str.length]
 rw[hl]at O m Y;have hn:=lG;exact tail_any (Vh s z t) slot_str_getitem.lookup (getItem_str (c:=c) (by
  have D:decide (i < -(2 ^ 63:Int))=ac:=We (by lia);have T:decide (i ≥ 2 ^ 63)=ac:=We (by lia);rw[D,T,Bool.or_false]) (by rw[O];simpa using L) ⟨.str ⟨#[c]⟩,H,I.tok _,⟨_,rfl⟩,q⟩) F
theorem S6(its:↑Ae)(n j:Nat)(u:Ae):Nb (·.setIfInBounds j u) (lO its.toArray n)=(lO (its.set j u).toArray n):=by
 simp[Nb]
theorem Inv.lst{B:Pn}{C:St}{H:Hp}{s:Ak}{p:Am}{xs:↑V}(I:Inv X B C H s)(h:H p=aa (.lst xs)):
  ∃(its:↑Ae) (n:Nat),a5 xs its/\s.heap.get? p=aa (lO its.toArray n)/\↥xs<=Au:=by
 let⟨z,its,n,r,e⟩:=I.hok p _ h;exact⟨its,n,r,e,z⟩
theorem Inv.lstUpd{B:Pn}{C:St}{H:Hp}{s:Ak}{p:Am}{xs ys:↑V}{its its':↑Ae}{n D:Nat}{f:Ms->Ms}(I:Inv X B C H s)(h:H p=aa (.lst xs))(Y:s.heap.get? p=aa (lO its.toArray n))(hf:f (lO its.toArray n)=(lO its'.toArray D))(r:a5 ys its')(hz:↥ys<=Au)(t:Nat):
  Inv X B C (aL H p (.lst ys)) {s with heap:=s.heap.update p f,toks:=t}:=by
 have e:(s.heap.update p f).get? p=aa (lO its'.toArray D):=by
  rw[Gs f Y (by rw[hf]<;>rfl),hf]
 refine I.write (x:=p) (e:=p) (by rw[h];trivial) (.inl rfl) (λb u Z q=>(Ja _ _ (Ca Z)).trans q) ⟨_,e⟩ ?_;exact⟨hz,its',D,r,e⟩
def S7:V->V->V->Hp->(Hp->Prop)->Prop:=λo i v H Q=>∃p xs k j,o=.ref p/\i=.int k/\H p=aa (.lst xs)/\gV ↥xs k=aa j/\Q (aL H p (.lst (xs.set j v)))
theorem S8:sU X S7:=by
 intro B s C H o i v N D u Q I x w U h;let⟨p,xs,k,j,rfl,rfl,G,hj,q⟩:=h;cases x;let⟨t,rfl⟩:=w;let⟨its,n,r,f,hz⟩:=I.lst G;let⟨O,L,h3,m⟩:=xG hj;have hl:=↥r;have hn:=lG;have F:Inv X B C (aL H p (.lst (xs.set j v))) {s with heap:=s.heap.update p (Nb (·.setIfInBounds j u))}:=
  I.lstUpd G f (S6 its n j u) (r.set U j) (by rw[List.length_set];exact hz) s.toks
 by_cases J:0<=k
 .have hk:k.toNat=j:=by
   rw[Vb J m]at O;exact Ct O
  exact PySem.W.ki_setAt f J (by lia) (by rw[Bi,<-hl];exact m) (by rw[hk];exact⟨_,F,q⟩)
 .have hk:(k+(its.toArray.size:Int)).toNat=j:=by
   rw[seqIndex_neg (by lia) h3]at O;rw[Bi,<-hl];exact Ct O
  exact PySem.W.ki_setBack f (by lia) (by rw[Bi,<-hl];exact h3) (by lia) (by rw[hk];exact⟨_,F,q⟩)
theorem S9(lo hi:Option Int)(n:Nat):(Mw lo hi ae n).1=((HT.sIx n 0 lo:Nat):Int)/\(Mw lo hi ae n).2.1=((HT.sIx n n hi:Nat):Int)/\(Mw lo hi ae n).2.2=1:=by
 refine⟨?_,?_,rfl⟩
 .cases lo with
  | none=>simp[Mw,HT.sIx]
  | some i=>
   simp only[Mw,HT.sIx,Option.getD_none,show(1:Int) > 0 by decide,if_true]
   by_cases h:i<0
   .simp only[h,if_true]<;>lia
   .simp only[h,if_false]<;>lia
 .cases hi with
  | none=>simp[Mw,HT.sIx]
  | some i=>
   simp only[Mw,HT.sIx,Option.getD_none,show(1:Int) > 0 by decide,if_true]
   by_cases h:i<0
   .simp only[h,if_true]<;>lia
   .simp only[h,if_false]<;>lia
theorem TB(its:↑Ae)(lo hi:Option Int):slicePick its.toArray lo hi ae=((its.drop (HT.sIx ↥its 0 lo)).take (HT.sIx ↥its ↥its hi-HT.sIx ↥its 0 lo)).toArray:=by
 let⟨O,L,h3⟩:=S9 lo hi its.toArray.size;unfold slicePick;rw[O,L,h3];simp only[sliceRange_one,pick_run,Bi]<;>rfl
def TC(K:Ac):V->Option Int->Option Int->Hp->VK->Prop:=λx lo hi H Q=>∃a xs,x=.ref a/\bN K H a xs/\∀p,H p=ae->Q (.ref p) (aL H p (.lst (mM xs lo hi)))
theorem xI:tF X (TC X.K):=by
 intro B s C H x v c y lo hi sl Q I G F pl z h;let⟨a,xs,rfl,J,q⟩:=h;cases G;let⟨its,r,ht,hz⟩:=I.list J;have T:=↥r;refine⟨"list",_,slot_list_getitem.lookup,ht.isList.typeIs,?_⟩;refine wpAny_getItem_list_slice ht.isList F pl z .none (by simp) ?_ (by rw[Bi]<;>lia);rw[TB,<-T];refine⟨.ref ⇑s,_,I.laid (t':=s.toks) (o:=.lst (mM xs lo hi)) (λb ob q=>Af _ q) (Ai _) ?_,rfl,q _ (I.hok.fresh (Ai _))⟩;exact⟨Ap (CV xs lo hi) hz,_,0,(r.drop (HT.sIx ↥xs 0 lo)).take (HT.sIx ↥xs ↥xs hi-HT.sIx ↥xs 0 lo),Az _ rfl⟩
def kG:V->Bool
 | .non=>ab
 | .bl _=>ab
 | .int _=>ab
 | .str _=>ab
 | _=>ac
noncomputable def kH:V->V->Bool
 | .non,.non=>ab
 | .bl a,.bl b=>a==b
 | .bl a,.int b=>(if a then 1 else 0)==b
 | .int a,.bl b=>a==(if b then 1 else 0)
 | .int a,.int b=>a==b
 | .str a,.str b=>a==b
 | _,_=>ac
theorem TF(P:RelV y u)(G:RelV x v)(d:kG y=ab)(c:kG x=ab):Vw A s u v (kH y x):=by
 cases y with
 | non=>
  cases P;cases x with
  | non=>cases G;exact SeqAt.EqAt.same _
  | bl b=>cases G;exact SeqAt.EqAt.none_bool b
  | int b=>let⟨t,rfl⟩:=G;exact SeqAt.EqAt.none_int b t
  | str b=>let⟨t,rfl⟩:=G;exact SeqAt.EqAt.none_str b t
  | _=>exact absurd (show ac=ab from c) Bc
 | bl a=>
  cases P;cases x with
  | non=>cases G;exact SeqAt.EqAt.bool_none a
  | bl b=>cases G;exact SeqAt.EqAt.bool_bool a b
  | int b=>let⟨t,rfl⟩:=G;exact SeqAt.EqAt.bool_int a b t
  | str b=>let⟨t,rfl⟩:=G;exact SeqAt.EqAt.bool_str a b t
  | _=>exact absurd (show ac=ab from c) Bc
 | int a=>
  let⟨t',rfl⟩:=P;cases x with
  | non=>cases G;exact SeqAt.EqAt.int_none a t'
  | bl b=>cases G;exact SeqAt.EqAt.int_bool a t' b
  | int b=>let⟨t,rfl⟩:=G;exact SeqAt.EqAt.int_int a t' b t
  | str b=>let⟨t,rfl⟩:=G;exact SeqAt.EqAt.int_str a t' b t
  | _=>exact absurd (show ac=ab from c) Bc
 | str a=>
  let⟨t',rfl⟩:=P;cases x with
  | non=>cases G;exact SeqAt.EqAt.str_none a t'
  | bl b=>cases G;exact SeqAt.EqAt.str_bool a t' b
  | int b=>let⟨t,rfl⟩:=G;exact SeqAt.EqAt.str_int a t' b t
  | str b=>let⟨t,rfl⟩:=G;exact SeqAt.EqAt.str_str a t' b t
  | _=>exact absurd (show ac=ab from c) Bc
 | _=>exact absurd (show ac=ab from d) Bc
noncomputable def hZ(x:V)(u:Ae):Bool:=match u with
 | .none=>kH .non x
 | .bool b=>kH (.bl b) x
 | .int i _=>kH (.int i) x
 | .str z _=>kH (.str z) x
 | _=>ac
theorem CZ(r:RelV y u)(f:kG y=ab):hZ x u=kH y x:=by
 cases y with
 | non=>cases r;rfl
 | bl b=>cases r;rfl
 | int i=>let⟨t,rfl⟩:=r;rfl
 | str z=>let⟨t,rfl⟩:=r;rfl
 | _=>exact absurd (show ac=ab from f) Bc
theorem tG:∀{xs:↑V} {us:↑Ae},a5 xs us->xs.all kG=ab->us.any (hZ x)=xs.any λy=>kH y x:=by
 intro xs us h f
 induction h with
 | nil=>rfl
 | cons r t E=>
  rw[Kk,Dn]at f;rw[Fp,Fp,CZ r f.1,E f.2]
theorem qM(G:RelV x v)(c:kG x=ab):∀{xs:↑V} {us:↑Ae},a5 xs us->xs.all kG=ab->∀u∈us,Vw A s u v (hZ x u)
 | _,_,.nil,_=>λu W=>by cases W
 | y::xs,u::us,.cons r t,f=>λz W=>by
  rw[Kk,Dn]at f;rcases Aw.mp W with rfl|W
  .rw[CZ r f.1];exact TF r G f.1 c
  .exact qM G c t f.2 z W
def inV(x:V)(xs:↑V):Bool:=xs.any λy=>kH y x
def C0(K:Ac)(neg:Bool):R2:=λx y H Q=>∃p xs,y=.ref p/\(bN K H p xs\/bL K H p xs)/\kG x=ab/\xs.all kG=ab/\Q (.bl (if neg then !inV x xs else inV x xs)) H
theorem TH:bB X (Dk .In) (C0 X.K ac):=by
 intro B s C H x y v u Q I G P h;let⟨p,xs,rfl,N,c,fs,q⟩:=h;cases P;rcases N with N|N
 .let⟨its,r,pl,hz⟩:=I.list N;refine SeqAt.in_listAt (hZ x) pl.isList (λw hw=>qM G c r fs w (by simpa using hw)) ⟨.bl _,H,I,rfl,?_⟩;rw[show its.toArray.any (hZ x)=its.any (hZ x) by simp,tG r fs];exact q
 .let⟨its,r,pl,hz⟩:=I.tuple N;refine SeqAt.in_tupleAt (hZ x) pl (λw hw=>qM G c r fs w (by simpa using hw)) ⟨.bl _,H,I,rfl,?_⟩;rw[show its.toArray.any (hZ x)=its.any (hZ x) by simp,tG r fs];exact q
theorem TJ:bB X (Dk .NotIn) (C0 X.K ab):=by
 intro B s C H x y v u Q I G P h;let⟨p,xs,rfl,N,c,fs,q⟩:=h;cases P;rcases N with N|N
 .let⟨its,r,pl,hz⟩:=I.list N;refine SeqAt.notIn_listAt (hZ x) pl.isList (λw hw=>qM G c r fs w (by simpa using hw)) ⟨.bl _,H,I,rfl,?_⟩;rw[show its.toArray.any (hZ x)=its.any (hZ x) by simp,tG r fs];exact q
 .let⟨its,r,pl,hz⟩:=I.tuple N;refine SeqAt.notIn_tupleAt (hZ x) pl (λw hw=>qM G c r fs w (by simpa using hw)) ⟨.bl _,H,I,rfl,?_⟩;rw[show its.toArray.any (hZ x)=its.any (hZ x) by simp,tG r fs];exact q
theorem TL:cR X (.builtin "len") (λxs H Q=>∃p ys,xs=[.ref p]/\(bN X.K H p ys\/bL X.K H p ys)/\Q (.int ↥ys) H):=by
 intro B s C H xs us Q I r h;let⟨p,ys,rfl,N,q⟩:=h;let⟨u,rfl,G⟩:=vals1 r;cases G;have hn:=lG;rcases N with N|N
 .let⟨its,W,pl,hz⟩:=I.list N;have T:=↥W;exact Calls.call_len_list pl.isList (by simp only[Bi]<;>lia) ⟨.int ↥ys,H,I.tok _,⟨s.toks+1,by rw[Bi,T]⟩,q⟩
 .let⟨its,W,pl,hz⟩:=I.tuple N;have T:=↥W;exact len_tuple pl (by simp only[Bi]<;>lia) ⟨.int ↥ys,H,I.tok _,⟨s.toks+1,by rw[Bi,T]⟩,q⟩
theorem TM:cR X (.builtin "len") (λxs H Q=>∃z,xs=[.str z]/\↥z<=Au/\Q (.int ↥z) H):=by
 intro B s C H xs us Q I r h;let⟨z,rfl,hz,q⟩:=h;let⟨u,rfl,t,rfl⟩:=vals1 r;have hn:=lG;exact len_str (by lia) ⟨.int ↥z,H,I.tok _,⟨_,rfl⟩,q⟩
theorem cR.or{r W:↑V->Hp->VK->Prop}(h:cR X f r)(h':cR X f W):cR X f (λxs H Q=>r xs H Q\/W xs H Q):=by
 intro B s C H xs us Q I rs q;rcases q with q|q
 .exact h B s C H xs us Q I rs q
 .exact h' B s C H xs us Q I rs q
theorem TN:cR X (.type "list") (λxs H Q=>∃p ys,xs=[.ref p]/\(bN X.K H p ys\/bL X.K H p ys)/\∀l,H l=ae->Q (.ref l) (aL H l (.lst ys))):=by
 intro B s C H xs us Q I r h;let⟨p,ys,rfl,N,q⟩:=h;let⟨u,rfl,G⟩:=vals1 r;cases G;have fin:∀(its:↑Ae),a5 ys its->↥ys<=Au->∀(h':Du) (Y:Nat),(∀b U,s.heap.get? b=aa U->h'.get? b=aa U)->
   h'.get? ⇑s=aa {cls:=.type "list",dict:=ae,data:=.seq its.toArray Y,slots:=#[]}->EP X B C Q (.ref ⇑s) {s with heap:=h'}:=λits W hz h' Y kp e=>
  ⟨.ref ⇑s,_,I.laid (t':=s.toks) kp (Ai _) (show b5 X.prog X.w _ h' _ (.lst ys) from⟨hz,its,Y,W,e⟩),rfl,q _ (I.hok.fresh (Ai _))⟩
 rcases N with N|N
 .let⟨its,W,pl,hz⟩:=I.list N;have T:=↥W;let⟨o,f,hc,n,hd⟩:=pl.isList;exact call_list_seq p (.inl rfl) f hc hd (λh' Y kp e=>fin its W hz h' Y kp e) (by simp only[Bi]<;>lia)
 .let⟨its,W,pl,hz⟩:=I.tuple N;have T:=↥W;let⟨o,f,hc,n,hd⟩:=pl;exact call_list_seq p (.inr rfl) f hc hd (λh' Y kp e=>fin its W hz h' Y kp e) (by simp only[Bi]<;>lia)
theorem TQ:cR X (.type "tuple") (λxs H Q=>∃p ys,xs=[.ref p]/\((bN X.K H p ys/\∀l,H l=ae->Q (.ref l) (aL H l (.tup ys)))\/(bL X.K H p ys/\Q (.ref p) H))):=by
 intro B s C H xs us Q I r h;let⟨p,ys,rfl,h⟩:=h;let⟨u,rfl,G⟩:=vals1 r;cases G;rcases h with⟨N,q⟩|⟨N,q⟩
 .let⟨its,W,pl,hz⟩:=I.list N;have T:=↥W;refine call_tuple_list pl.isList (λh' kp=>?_) (by simp only[Bi]<;>lia);have M:Inv X B C H {s with heap:=h'}:=I.kept (t':=s.toks) kp;have i:Inv X B C (aL H h'.objs.size (.tup ys)) {s with heap:=h'.push {cls:=.type "tuple",data:=.seq its.toArray}}:=
   M.laid (t':=s.toks) (λb o e=>Af _ e) (Ai _) (show b5 X.prog X.w _ _ _ (.tup ys) from⟨hz,its,W,Uw _ _⟩)
  exact⟨.ref h'.objs.size,_,i,rfl,q _ (M.hok.fresh (Ai _))⟩
 .let⟨its,W,pl,hz⟩:=I.tuple N;exact call_tuple_same pl ⟨.ref p,H,I,rfl,q⟩
def tH(K:Ac)(T:String)(x:V)(H:Hp):Prop:=match x with
 | .str _=>T = "str"
 | .int _=>T = "int"
 | .ref p=>(T = "list"/\∃xs,bN K H p xs)\/(T = "tuple"/\∃o,K.lookup p=aa o/\o.cls=.type "tuple"/\o.dict=ae)\/
   (T = "dict"/\((∃kvs,Rd H p (.dK kvs))\/∃kvs,Rd H p (.dT kvs)))\/(T = "set"/\∃S n,H p=aa (.set S n))
 | _=>False
theorem C1(I:Inv X B C H s)(r:RelV x v)(ty:tH X.K T x H):
  s.TypeIs v T/\∀a,v=.ref a->∃ob,s.heap.get? a=aa ob/\ob.dict=ae:=by
 cases x with
 | str z=>
  let⟨t,rfl⟩:=r;cases (show T = "str" from ty);exact⟨Vh s z t,λ_ e=>nomatch e⟩
 | int i=>
  let⟨t,rfl⟩:=r;cases (show T = "int" from ty);exact⟨Vi s i t,λ_ e=>nomatch e⟩
 | ref p=>
  cases r;rcases ty with⟨rfl,xs,N⟩|⟨rfl,o,hk,hc,hd⟩|⟨rfl,hk⟩|⟨rfl,S,n,hk⟩
  .let⟨its,_,pl,_⟩:=I.list N;refine⟨pl.isList.typeIs,λa e=>?_⟩;cases e;let⟨o,n,e,c,hd,_⟩:=pl;exact⟨o,e,hd⟩
  .refine⟨⟨o,I.kIn p o hk,hc⟩,λa e=>?_⟩;cases e;exact⟨o,I.kIn _ o hk,hd⟩
  .have z:∃o,s.heap.get? p=aa o/\o.ExactDict:=by
    rcases hk with⟨kvs,hk⟩|⟨kvs,hk⟩
    .let⟨_,_,_,_,o,_,_,e,ex,_⟩:=hk.ok I.hok;exact⟨o,e,ex⟩
    .let⟨_,_,_,_,o,_,_,e,ex,_⟩:=hk.ok I.hok;exact⟨o,e,ex⟩
   let⟨o,e,ex⟩:=z;refine⟨⟨o,e,ex.1⟩,λa g=>?_⟩;cases g;exact⟨o,e,ex.2.1⟩
  .let⟨o,_,_,_,e,ex,_⟩:=I.hok p _ hk;refine⟨⟨o,e,ex.1⟩,λa g=>?_⟩;cases g;exact⟨o,e,ex.2.1⟩
 | _=>exact Bq ty
def TR(K:Ac)(T:String)(r:V->↑V->Hp->VK->Prop)(to:TE):TE:=λC H Q=>to C H λx j=>tH K T x j/\r x [] j Q
def TU(K:Ac)(T:String)(r:V->↑V->Hp->VK->Prop)(to:TE)(t:TA):TE:=λC H Q=>to C H λx j=>tH K T x j/\t C j λxs w=>r x xs w Q
variable {o e:Ck}{es:↑Ck}{to:TE}{t:TA}{name:Av}{apos cpos:Hv}{T id:String}{r:V->↑V->Hp->VK->Prop}
theorem C3(G:Pp T)(slot:Slot T name id)(q:Ul (.builtin id)=pure (.type "method_descriptor"))(S:e8 X id r)(f:PE X o to)(W:Gq o name X.env (Ef o X.env)=Ef o X.env:=by rfl)(y:(apos.endLine==cpos.line)=ab:=by rfl):PE X (.Call (.Attribute o name apos) [] [] cpos) (TR X.K T r to):=by
 intro B s C H Q I h;refine wpAny_Call_method0_late W y (aZ (f B s C H _ I h) λv U A=>?_);let⟨x,j,M,l,ty,g⟩:=A;let⟨O,L⟩:=C1 M l ty;exact⟨T,id,G,slot,q,O,L,Lg rfl (PySem.evalArgs_none (S B U C j x [] v [] Q M l .nil g))⟩
theorem TV(G:Pp T)(slot:Slot T name id)(q:Ul (.builtin id)=pure (.type "method_descriptor"))(S:e8 X id r)(f:PE X o to)(m:PA X (e::es) t)(W:Gq o name X.env (Ef o X.env)=Ef o X.env:=by rfl)(u:((Mz cpos (Ci (e::es) X.env)).all (λx=>!x.1)&&(Pa cpos (Lo [] X.env)).all (λx=>x.1.isSome)
  &&decide (↥(e::es)+↥([]:↑Qs)+(if ([]:↑Qs).isEmpty then 0 else 1)<30))=ab:=by rfl)(y:(apos.endLine==cpos.line)=ab:=by rfl)(F:Se X e es:=by rfl)(b:Sb X cpos es:=by rfl):
  PE X (.Call (.Attribute o name apos) (e::es) [] cpos) (TU X.K T r to t):=by
 intro B s C H Q I h;refine wpAny_Call_method_late W u y rfl (aZ (f B s C H _ I h) λv U A=>?_);let⟨x,j,M,l,ty,g⟩:=A;let⟨O,L⟩:=C1 M l ty;refine⟨T,id,G,slot,q,O,L,?_⟩;have p:=m cpos B U C j _ M g;rw[F]at p⊢;refine Lg (by show(ac||(Mz cpos (Ci es X.env)).any (·.1))=ac;rw[b]<;>rfl) (Calls.evalArgs_plain ?_);exact aZ p λus Y N=>by let⟨vs,w,i,R,n⟩:=N;exact S B Y C w x vs v us Q i l R n
end
def qN(X:Cx)(id:String)(r:V->↑V->Hp->VK->Prop):Prop:=
 ∀(af:Pn) (s:Ak) (Z:St) (H:Hp) (x:V) (xs:↑V) (v:Ae) (us:↑Ae) (Q:VK),Inv X af Z H s->RelV x v->a5 xs us->r x xs H Q->
  X.a (call (.builtin id) (v::us)) (EP X af Z Q) X.xe s
theorem a5.one:∀{x:V} {us:↑Ae},a5 [x] us->∃u,us=[u]/\RelV x u:=by
 intro x us h;cases h with
 | cons r t=>cases t;exact⟨_,rfl,r⟩
theorem a5.zero:∀{us:↑Ae},a5 [] us->us=[]
 | _,.nil=>rfl
theorem a5.dropLast(h:a5 xs us):a5 xs.dropLast us.dropLast:=by
 induction h with
 | nil=>exact .nil
 | cons r t E=>
  cases t with
  | nil=>exact .nil
  | cons q t'=>exact .cons r E
theorem a5.rep(h:a5 xs us):∀k:Nat,a5 (Ce k xs).flatten (Ce k us).flatten
 | 0=>.nil
 | k+1=>by
  rw[Ez,Ez,Hk,Hk];exact a5.append h (a5.rep h k)
theorem TX{B:Type}(l:↑B):l.eraseIdx (↥l-1)=l.dropLast:=by
 induction l with
 | nil=>rfl
 | cons a r E=>
  cases r with
  | nil=>rfl
  | cons b r=>
   have e:↥(a::b::r)-1=(↥(b::r)-1)+1:=by
    have O:↥(a::b::r)=↥r+2:=rfl;have L:↥(b::r)=↥r+1:=rfl;lia
   rw[e,List.eraseIdx_cons_succ,E]
   all_goals rfl
theorem foldl_rep(its:↑Ae):∀(k:Nat) (acc:↑Ae),
  Uj (λx1 x2=>x1++x2) acc.toArray (Ce k its.toArray)=(acc++(Ce k its).flatten).toArray
 | 0,acc=>by simp
 | k+1,acc=>by
  have e:acc.toArray++its.toArray=(acc++its).toArray:=by simp
  have T:(acc++its)++(Ce k its).flatten=acc++(Ce (k+1) its).flatten:=by
   rw[Ez,Hk,Bx]
  rw[<-T,<-foldl_rep its k (acc++its),<-e,Ez,Gf]
section
variable {X:Cx}{af:Pn}{Z:St}{H:Hp}{s:Ak}{l b:Am}{xs ys zs:↑V}
theorem Inv.lset{its its':↑Ae}{n:Nat}{f:Array Ae->Array Ae}{t':Nat}(I:Inv X af Z H s)(o:H l=aa (.lst xs))(e:s.heap.get? l=aa (lO its.toArray n))(hf:f its.toArray=its'.toArray)(c:a5 ys its')(hz:↥ys<=Au):
  Inv X af Z (aL H l (.lst ys)) {s with heap:=s.heap.update l (Nb f),toks:=t'}:=by
 have q:=PySem.IsL.update e f;rw[hf]at q;refine I.write (x:=l) (e:=l) (by rw[o];exact trivial) (.inl rfl) (λd u Y W=>(Ja s.heap (Nb f) (Ca Y)).trans W) ⟨_,q⟩ ?_;exact⟨hz,its',_,c,q⟩
theorem Inv.lnew{t':Nat}(I:Inv X af Z H s)(c:a5 ys its)(hz:↥ys<=Au):
  Inv X af Z (aL H ⇑s (.lst ys)) {s with heap:=s.heap.push (lO its.toArray),toks:=t'}:=
 I.laid (λ_ _ q=>Af _ q) (Ai _) ⟨hz,its,0,c,Az _ rfl⟩
theorem Inv.fresh(I:Inv X af Z H s):H ⇑s=ae:=I.hok.fresh (Ai _)
theorem Inv.lstM(I:Inv X af Z H s)(o:H l=aa (.lst xs)):↥xs<=Au/\∃(its:↑Ae) (n:Nat),a5 xs its/\↥xs=↥its/\s.heap.get? l=aa (lO its.toArray n):=by
 let⟨z,its,n,r,e⟩:=I.hok l _ o;exact⟨z,its,n,r,↥r,e⟩
theorem C4{n:Nat}(h:n<=Au):Jo n=ac:=by
 unfold Jo;exact We (by lia)
end
section
variable {X:Cx}
def rAppend:V->↑V->Hp->VK->Prop:=λx vs H Q=>∃l xs y,x=.ref l/\vs=[y]/\H l=aa (.lst xs)/\↥xs<Au/\Q .non (aL H l (.lst (xs++[y])))
theorem C5:qN X "list.append" rAppend:=by
 intro af s Z H x vs v us Q I G U h;let⟨l,xs,y,rfl,rfl,o,hz,q⟩:=h;cases G;let⟨u,rfl,ru⟩:=U.one;let⟨z,its,n,r,hl,e⟩:=I.lstM o;refine Kf F.slot_list_append ⟨_,e,rfl⟩ F.entry_list_append (F.args_list_append_2 _ _) (PySem.list_append l its.toArray n u (by rw[Bi];lia)) ⟨e,?_⟩;refine⟨.non,_,I.lset (its':=its++[u]) o e (by simp) (r.append (.cons ru .nil)) ?_,rfl,q⟩;rw[Aj,Co];lia
def rExtend:V->↑V->Hp->VK->Prop:=λx vs H Q=>∃l b xs zs,x=.ref l/\vs=[.ref b]/\H l=aa (.lst xs)/\H b=aa (.lst zs)/\↥xs+↥zs<=Au/\Q .non (aL H l (.lst (xs++zs)))
theorem C6:qN X "list.extend" rExtend:=by
 intro af s Z H x vs v us Q I G U h;let⟨l,b,xs,zs,rfl,rfl,o,d,hz,q⟩:=h;cases G;let⟨u,rfl,ru⟩:=U.one;cases ru;let⟨z,its,n,r,hl,e⟩:=I.lstM o;let⟨N,t,a,R,g,T⟩:=I.lstM d;have hsz:its.toArray.size+t.toArray.size<=Au:=by rw[Bi,Bi];lia
 have c:¬(!its.toArray.isEmpty&&Jo (its.toArray.size+t.toArray.size))=ab:=by
  rw[C4 hsz,Bool.and_false];exact Bc
 refine Kf F.slot_list_extend ⟨_,e,rfl⟩ F.entry_list_extend (F.args_list_extend_2 _ _)
  (AutoSeq1.list_extend_list_list_0 l its.toArray n b t.toArray a c (by rw[Bi];lia) (by lia)) ⟨e,T,?_⟩
 refine⟨.non,_,I.lset (its':=its++t) o e (by simp) (r.append R) ?_,rfl,q⟩;rw[Aj];lia
def rPopQ:V->↑V->Hp->VK->Prop:=λx vs H Q=>∃l xs y,x=.ref l/\vs=[]/\H l=aa (.lst xs)/\xs[↥xs-1]? = aa y/\Q y (aL H l (.lst xs.dropLast))
theorem TY:qN X "list.pop" rPopQ:=by
 intro af s Z H x vs v us Q I G U h;let⟨l,xs,y,rfl,rfl,o,K,q⟩:=h;cases G;have b:=U.zero;subst b;let⟨z,its,n,r,hl,e⟩:=I.lstM o;let⟨u,W,ru⟩:=r.get K;have a:its.toArray[its.toArray.size-1]? = aa u:=by
  show its.toArray[↥its-1]? = aa u;rw[<-Fd,<-hl];exact W
 refine Kf Pj ⟨_,e,rfl⟩ F.entry_list_pop (F.args_list_pop_1 _) (MeetsSeq.list_pop_last l its.toArray n u a (by rw[Bi];lia)) ⟨e,?_⟩;refine⟨y,_,I.lset (its':=its.dropLast) o e ?_ r.dropLast ?_,ru,q⟩
 .show its.toArray.eraseIdxIfInBounds (its.toArray.size-1)=its.dropLast.toArray;rw[Bi,List.eraseIdxIfInBounds_toArray,TX]
 .rw[List.length_dropLast];lia
def TZ:R2:=λx y H Q=>∃l b xs zs,x=.ref l/\y=.ref b/\H l=aa (.lst xs)/\H b=aa (.lst zs)/\↥xs+↥zs<=Au/\∀p,H p=ae->Q (.ref p) (aL H p (.lst (xs++zs)))
theorem T4:bB X (Eh .Add) TZ:=by
 intro af s Z H x y v u Q I G S h;let⟨l,b,xs,zs,rfl,rfl,o,d,hz,q⟩:=h;cases G;cases S;let⟨z,its,n,r,hl,e⟩:=I.lstM o;let⟨N,t,a,R,g,T⟩:=I.lstM d;refine PySem.P.add_list e T ?_ (by rw[Bi,Bi];lia);have B:its.toArray++t.toArray=(its++t).toArray:=by simp
 rw[B];exact⟨.ref _,_,I.lnew (t':=s.toks) (r.append R) (by rw[Aj];lia),rfl,q _ I.fresh⟩
def T5:R2:=λx y H Q=>∃l k xs,x=.ref l/\y=.int k/\H l=aa (.lst xs)/\-(2 ^ 63)<=k/\k<2 ^ 63/\↥xs*k.toNat<=Au/\
 ∀p,H p=ae->Q (.ref p) (aL H p (.lst (Ce k.toNat xs).flatten))
theorem T6{B:Type}(xs:↑B)(k:Nat):(Ce k xs).flatten.length=k*↥xs:=by
 induction k with
 | zero=>simp
 | succ k E=>rw[Ez,Hk,Aj,E,Tq,Tt]
theorem T7:bB X (Eh .Mult) T5:=by
 intro af s Z H x y v u Q I rx ry h;let⟨l,k,xs,rfl,rfl,hH,h1,h2,hz,q⟩:=h;cases rx;let⟨t,rfl⟩:=ry;let⟨z,its,n,r,hl,e⟩:=I.lstM hH;have hlen:its.toArray.size*k.toNat<=Au:=by rw[Bi,<-hl];exact hz
 have hcap:¬its.toArray.size*k.toNat > (2 ^ 63-1)/8:=by
  have:(Au:Nat)<=(2 ^ 63-1)/8:=by decide
  lia
 have hfit:¬(!Builtin.List.listFitsIndex k)=ab:=by
  rw[fitsIndex_both h1 h2];exact Bc
 have hlong:¬Jo (its.toArray.size*k.toNat)=ab:=by
  rw[C4 hlen];exact Bc
 have hnew:Uj (λx1 x2=>x1++x2) #[] (Ce (if its.toArray.isEmpty=ab then 0 else k.toNat) its.toArray)=(Ce k.toNat its).flatten.toArray:=by
  have f0:∀m:Nat,Uj (λx1 x2=>x1++x2) #[] (Ce m its.toArray)=(Ce m its).flatten.toArray:=λm=>by
   have:=foldl_rep its m [];rw[Jc]at this;exact this
  rw[f0];cases its with
  | nil=>simp
  | cons a r'=>rw[Vy (by simp)]
 refine wpAny_binaryOp_repeat_ref (T:="list") (U:="int") ∅ ⟨_,e,rfl⟩ (λs'=>Vi s' k t) noFill_list_mul F.fills_int_mul F.slot_int_rmul repeat_list F.slot_int_index.lookup
  (Kf F.slot_int_rmul (Vi s k t) F.entry_int_rmul (F.args_int_rmul_2 _ _) (int___rmul___int_list k t l its.toArray n)
   ⟨e,rfl,⟨_,e,rfl⟩,Kf F.slot_list_mul ⟨_,e,rfl⟩ F.entry_list_mul (F.args_list_mul_2 _ _) (AutoListH.list___mul___list_int_3 l its.toArray n k t hfit hcap hlong) ⟨e,?_⟩⟩)
 rw[hnew];exact⟨.ref _,_,I.lnew (t':=s.toks) (r.rep k.toNat) (by rw[T6,Nat.mul_comm];exact hz),rfl,q _ I.fresh⟩
end
section
variable {U:Type}[DecidableEq U]
def fY(kvs:↑(U×V))(k:U):Option V:=(kvs.find? λg=>decide (g.1=k)).map (·.2)
noncomputable def dZ(kvs:↑(U×V))(k:U)(v:V):↑(U×V):=
 if (kvs.any λg=>decide (g.1=k))=ab then kvs.map (λg=>if g.1=k then(g.1,v) else g) else kvs++[(k,v)]
def nR(kvs:↑(U×V))(k:U):↑(U×V):=kvs.filter λg=>decide (g.1≠k)
theorem tI{p:U×V}{r:↑(U×V)}{k:U}(e:p.1=k):fY (p::r) k=aa p.2:=by simp[fY,Cz,e]
theorem tJ{p:U×V}{r:↑(U×V)}{k:U}(e:¬p.1=k):fY (p::r) k=fY r k:=by simp[fY,Cz,e]
theorem C7(k:U):∀kvs:↑(U×V),(kvs.any λg=>decide (g.1=k))=(fY kvs k).isSome
 | []=>rfl
 | p::r=>by
  rw[Fp]
  by_cases e:p.1=k
  .simp only[tI e,Wc e,Bool.true_or,Option.isSome_some]
  .rw[tJ e,We e,Nq];exact C7 k r
theorem oV(kvs:↑(U×V))(k:U)(v:V):↥(dZ kvs k v)<=↥kvs+1:=by
 unfold dZ;split
 .rw[Ab];lia
 .rw[Aj,Bv,Jd];lia
theorem fM.isSome_eq(r:fM o u):o.isSome=u.isSome:=by
 cases o with
 | none=>cases u with
  | none=>rfl
  | some _=>exact Bq r
 | some _=>cases u with
  | none=>exact Bq r
  | some _=>rfl
theorem fM.getD(r:fM o u)(c:RelV d d'):RelV (o.getD d) (u.getD d'):=by
 cases o with
 | none=>cases u with
  | none=>exact c
  | some _=>exact Bq r
 | some _=>cases u with
  | none=>exact Bq r
  | some _=>exact r
theorem KV.val{kvs:↑(U×V)}{vs:↑(U×Ae)}(r:KV kvs vs)(k:U):fM (fY kvs k) (Ry vs k):=by
 unfold KV at r
 induction r with
 | nil=>exact True.intro
 | @cons p q ps qs h t E=>
  let⟨O,L⟩:=h
  by_cases e:p.1=k
  .have g:q.1=k:=O.symm.trans e;have b:Ry (q::qs) k=aa q.2:=by simp[Ry,Cz,g]
   rw[tI e,b];exact L
  .have g:¬q.1=k:=λz=>e (O.trans z);have b:Ry (q::qs) k=Ry qs k:=by simp[Ry,Cz,g]
   rw[tJ e,b];exact E
theorem KV.any(r:KV kvs vs)(k:U):(kvs.any λg=>decide (g.1=k))=vs.any λg=>decide (g.1=k):=by
 unfold KV at r
 induction r with
 | nil=>rfl
 | cons h t E=>rw[Fp,Fp,E,h.1]
theorem KV.repl(r:KV kvs vs)(k:U)(P:RelV y u):
  KV (kvs.map λg=>if g.1=k then(g.1,y) else g) (vs.map λg=>if g.1=k then(g.1,u) else g):=by
 unfold KV at r⊢
 induction r with
 | nil=>exact .nil
 | @cons p q ps qs h t E=>
  rw[Bh,Bh];refine .cons ?_ E;let⟨O,L⟩:=h
  by_cases e:p.1=k
  .rw[Vz e,Vz (O.symm.trans e)];exact⟨O,P⟩
  .rw[Vy e,Vy (λz=>e (O.trans z))];exact⟨O,L⟩
theorem KV.put(r:KV kvs vs)(k:U)(P:RelV y u):KV (dZ kvs k y) (Um vs k u):=by
 unfold dZ Um;rw[r.any k]
 by_cases e:(vs.any λg=>decide (g.1=k))=ab
 .rw[Vz e,Vz e];exact r.repl k P
 .rw[Vy e,Vy e];exact Te r ⟨rfl,P⟩
theorem KV.length(r:KV kvs vs):↥kvs=↥vs:=Dg r
theorem T8(kvs:↑(U×V))(k:U):↥(nR kvs k)<=↥kvs:=Gr _ _
end
theorem jU(r:RelV (kV k) u):(bU P w).is k u=ab:=by
 cases k with
 | inl i=>let⟨t,e⟩:=(show ∃t,u=Value.int i t from r);subst e;exact N2 P w i t
 | inr x=>let⟨t,e⟩:=(show ∃t,u=Value.str x t from r);subst e;exact N3 P w x t
theorem C8:∀{ks:↑aC} {us:↑Ae},a5 (ks.map kV) us->ItemsAre (bU P w) ks us
 | [],_,r=>by rw[Mu]at r;cases r;exact .nil
 | k::ks,_,r=>by
  rw[Bh]at r;cases r with
  | cons h t=>exact .cons (jU h) (C8 t)
abbrev KT(H:Hp):↑(↑aC×V)->↑(↑aC×Am×Ae)->Prop:=Fz λp q=>p.1=q.1/\H q.2.1=aa (.tup (p.1.map kV))/\RelV p.2 q.2.2
theorem KT.val{H:Hp}{kvs:↑(↑aC×V)}{xs:↑(↑aC×Am×Ae)}(r:KT H kvs xs)(k:↑aC):fM (fY kvs k) ((Me xs k).map (·.2)):=by
 induction r with
 | nil=>exact True.intro
 | @cons p q ps qs h t E=>
  let⟨O,_,L⟩:=h
  by_cases e:p.1=k
  .have g:q.1=k:=O.symm.trans e;have b:Me (q::qs) k=aa q.2:=by simp[Me,Cz,g]
   rw[tI e,b];exact L
  .have g:¬q.1=k:=λz=>e (O.trans z);have b:Me (q::qs) k=Me qs k:=by simp[Me,Cz,g]
   rw[tJ e,b];exact E
theorem KT.repl(r:KT H kvs xs)(k:↑aC)(P:RelV y u):
  KT H (kvs.map λg=>if g.1=k then(g.1,y) else g) (xs.map (Vp k u)):=by
 induction r with
 | nil=>exact .nil
 | @cons p q ps qs h t E=>
  rw[Bh,Bh];refine .cons ?_ E;let⟨O,L,h3⟩:=h;unfold Vp
  by_cases e:p.1=k
  .rw[Vz e,Vz (O.symm.trans e)];exact⟨O,L,P⟩
  .rw[Vy e,Vy (λz=>e (O.trans z))];exact⟨O,L,h3⟩
theorem KT.put(r:KT H kvs xs)(k:↑aC)(Z:H b=aa (.tup (k.map kV)))(P:RelV y u):
  KT H (dZ kvs k y) (Ni xs k b u):=by
 have e:(kvs.any λg=>decide (g.1=k))=(Me xs k).isSome:=by
  rw[C7,(r.val k).isSome_eq,La]
 unfold dZ Ni;rw[e]
 by_cases q:(Me xs k).isSome=ab
 .rw[Vz q,Vz q];exact r.repl k P
 .rw[Vy q,Vy q];exact Te r ⟨rfl,Z,P⟩
theorem KT.keeps(r:KT H kvs xs)(ht:∀b ys,H b=aa (.tup ys)->l b=aa (.tup ys)):KT l kvs xs:=
 Paired.mapP r λ_ _ z=>⟨z.1,ht _ _ z.2.1,z.2.2⟩
section
variable {P:Be}{w:Br}{H:Hp}{h:Du}{a:Am}
theorem C9(ok:cS P w H h)(e:Rd H a u):b5 P w H h a u:=e.ok ok
theorem mN(ok:cS P w H h)(e:Rd H a (.dK kvs)):↥kvs<=Au/\(a==Fu)=ac/\∃vs,KV kvs vs/\h.DictOf (bU P w) a vs:=
 show b5 P w H h a (.dK kvs) from C9 ok e
theorem DA(ok:cS P w H h)(e:H a=aa (.dK kvs)):↥kvs<=Au/\(a==Fu)=ac/\∃vs,KV kvs vs/\h.DictOf (bU P w) a vs:=mN ok (.inl e)
theorem i4(ok:cS P w H h)(e:H a=aa (.tup (ks.map kV))):(Ho (bU P w)).is h ks a:=by
 let⟨_,its,r,o,O,L,n,h3⟩:=(show b5 P w H h a (.tup (ks.map kV)) from ok a _ e);exact⟨o,its.toArray,n,O,L,h3,by simpa using C8 r⟩
theorem nS(ok:cS P w H h)(e:Rd H a (.dT kvs)):↥kvs<=Au/\(a==Fu)=ac/\
  ∃xs,KT H kvs xs/\h.DictOfH (Ho (bU P w)) a xs:=by
 let⟨z,y,xs,r,o,es,ep,O,L,h3,D,Y⟩:=(show b5 P w H h a (.dT kvs) from C9 ok e);refine⟨z,y,xs,r,o,es,ep,O,L,h3,D,λx J=>?_,Y⟩;have all:∀{l:↑(↑aC×V)} {m:↑(↑aC×Am×Ae)},KT H l m->∀x∈m,(Ho (bU P w)).is h x.1 x.2.1:=by
  intro l m q
  induction q with
  | nil=>intro x J;exact nomatch J
  | @cons p q ps qs N t E=>
   intro x J;rcases Aw.mp J with e|J
   .subst e;exact i4 ok (by rw[<-N.1];exact N.2.1)
   .exact E x J
 exact all r x J
theorem qO(ok:cS P w H h)(e:H a=aa (.dT kvs)):↥kvs<=Au/\(a==Fu)=ac/\
  ∃xs,KT H kvs xs/\h.DictOfH (Ho (bU P w)) a xs:=nS ok (.inl e)
end
def h9(H:Hp)(a:Am)(y:V)(r:Option V):Prop:=
 (∃kvs k,Rd H a (.dK kvs)/\y=kV k/\r=fY kvs k)\/∃kvs k b,Rd H a (.dT kvs)/\y=.ref b/\H b=aa (.tup (k.map kV))/\r=fY kvs k
def mO(H:Hp)(a:Am)(y v:V)(l:Hp):Prop:=
 (∃kvs k,H a=aa (.dK kvs)/\y=kV k/\↥kvs<Au/\l=aL H a (.dK (dZ kvs k v)))\/
 ∃kvs k b,H a=aa (.dT kvs)/\y=.ref b/\H b=aa (.tup (k.map kV))/\↥kvs<Au/\l=aL H a (.dT (dZ kvs k v))
theorem mO.k{H:Hp}{a:Am}{kvs:↑(aC×V)}{k:aC}{v:V}(e:H a=aa (.dK kvs))(hl:↥kvs<Au):mO H a (kV k) v (aL H a (.dK (dZ kvs k v))):=.inl ⟨kvs,k,e,rfl,hl,rfl⟩
theorem mO.t{H:Hp}{a b:Am}{kvs:↑(↑aC×V)}{k:↑aC}{v:V}(e:H a=aa (.dT kvs))(T:H b=aa (.tup (k.map kV)))(hl:↥kvs<Au):
  mO H a (.ref b) v (aL H a (.dT (dZ kvs k v))):=.inr ⟨kvs,k,b,e,rfl,T,hl,rfl⟩
section
variable {X:Cx}{af:Pn}{Z:St}{H:Hp}{s:Ak}{a:Am}{y v:V}{u r:Ae}{o:Option V}{A:Cw}{E:Ae->Ak->Prop}
theorem Inv.big(I:Inv X af Z H s):Fu<⇑s:=by
 have h:Ed<⇑s:=(I.mod.glob.keeps I.bk).lt;exact Gg ∅ h
theorem T9{Q:Ae->Ak->Prop}(W:A.units+1<Fg)(I:Inv X af Z H s)(g:h9 H a y (aa v))(P:RelV y u)(h:∀L j,Inv X af Z H j->RelV v L->Q L j):
  Bm X.m A (Tc (.ref a) u) Q E s:=by
 rcases g with⟨kvs,k,e,J,l⟩|⟨kvs,k,b,e,J,T,l⟩
 .subst J;let⟨z,hd,vs,i,x⟩:=mN I.hok e;let⟨L,hw,c⟩:=fM.some_of (v:=v) (o:=Ry vs k) (by rw[l];exact i.val k);exact wpAny_getItem_of (jU P) x.mapOf hw (h L _ (I.tok _) c)
 .subst J;cases (show u=Value.ref b from P);let⟨z,hd,xs,i,x⟩:=nS I.hok e;let⟨L,hw,c⟩:=fM.some_of (v:=v) (o:=(Me xs k).map (·.2)) (by rw[l];exact i.val k);let⟨p,G,Y⟩:=Ba.mp hw;refine wpAny_getItem_heap (Ft W) (i4 I.hok T) x G ?_;rw[Y];exact h L _ (I.tok _) c
theorem UA{Q:Ae->Ak->Prop}(W:A.units+1<Fg)(I:Inv X af Z H s)(g:h9 H a y o)(P:RelV y u)(h:∀j,Inv X af Z H j->Q (.bool o.isSome) j):
  Bm X.m A (Dk .In u (.ref a)) Q E s:=by
 rcases g with⟨kvs,k,e,J,l⟩|⟨kvs,k,b,e,J,T,l⟩
 .subst J;let⟨z,hd,vs,i,x⟩:=mN I.hok e;refine wpAny_in_of (jU P) hd x.mapOf ?_;rw[<-(i.val k).isSome_eq,<-l];exact h _ (I.tok _)
 .subst J;cases (show u=Value.ref b from P);let⟨z,hd,xs,i,x⟩:=nS I.hok e;refine wpAny_in_heap (Ft W) (i4 I.hok T) hd x ?_;have q:=(i.val k).isSome_eq;rw[La]at q;rw[<-q,<-l];exact h _ (I.tok _)
theorem UB{Q:Ae->Ak->Prop}(W:A.units+1<Fg)(I:Inv X af Z H s)(g:h9 H a y o)(P:RelV y u)(h:∀j,Inv X af Z H j->Q (.bool (!o.isSome)) j):
  Bm X.m A (Dk .NotIn u (.ref a)) Q E s:=by
 rcases g with⟨kvs,k,e,J,l⟩|⟨kvs,k,b,e,J,T,l⟩
 .subst J;let⟨z,hd,vs,i,x⟩:=mN I.hok e;refine wpAny_notIn_of (jU P) hd x.mapOf ?_;rw[<-(i.val k).isSome_eq,<-l];exact h _ (I.tok _)
 .subst J;cases (show u=Value.ref b from P);let⟨z,hd,xs,i,x⟩:=nS I.hok e;refine wpAny_notIn_heap (Ft W) (i4 I.hok T) hd x ?_;have q:=(i.val k).isSome_eq;rw[La]at q;rw[<-q,<-l];exact h _ (I.tok _)
theorem nT{t':Nat}(I:Inv X af Z H s)(d:qH (H a))(F:Ek a s.heap h')(Y:∃q,h'.get? a=aa q)(new:b5 X.prog X.w (aL H a ob) h' a ob):
  Inv X af Z (aL H a ob) {s with heap:=h',toks:=t'}:=
 I.write (x:=a) (e:=a) d (.inl rfl) (λb q W z=>(F.2 b W).trans z) Y new
theorem DB(z:↥kvs<=Au)(hd:(a==Fu)=ac)(i:KV kvs vs)(x:h'.DictOf (bU P w) a vs):
  b5 P w l h' a (.dK kvs):=⟨z,hd,vs,i,x⟩
theorem UC{Q:Unit->Ak->Prop}(W:A.units+1<Fg)(I:Inv X af Z H s)(g:mO H a y v O)(P:RelV y u)(U:RelV v r)(h:∀j,Inv X af Z O j->Q () j):
  Bm X.m A (Vo (.ref a) u r) Q E s:=by
 rcases g with⟨kvs,k,e,J,l,d⟩|⟨kvs,k,b,e,J,T,l,d⟩
 .subst J d;let⟨z,hd,vs,i,x⟩:=DA I.hok e;have hz:↥vs<=Au:=by rw[<-↥i];exact z
  have hl:↥(dZ kvs k v)<=Au:=by have:=oV kvs k v;lia
  refine wpAny_setItem_pairs (hsz:=hz) (jU P) x λh' t F=>h _ ?_;have V:∃q,h'.get? a=aa q:=let ⟨q,_,_,N,_⟩:=t;⟨q,N⟩;exact nT I (by rw[e];exact True.intro) F V (DB hl hd (i.put k U) t)
 .subst J d;cases (show u=Value.ref b from P);let⟨z,hd,xs,i,x⟩:=qO I.hok e;have hz:↥xs<=Au:=by rw[<-Dg i];exact z
  have hl:↥(dZ kvs k v)<=Au:=by have:=oV kvs k v;lia
  refine wpAny_setItem_heap (hsz:=hz) (Ft W) (i4 I.hok T) x λh' t F=>h _ ?_;let⟨q,es,ep,N,L,h3,D,_,Y⟩:=t;refine nT I (by rw[e];exact True.intro) F ⟨q,N⟩ ⟨hl,hd,_,(i.put k T U).keeps λc ys K=>?_,q,es,ep,N,L,h3,D,Y⟩;rw[bD (sO K e (λz=>nomatch z))];exact K
end
section
variable {X:Cx}{af:Pn}{Z:St}{H:Hp}{s:Ak}{a:Am}{kvs:↑(aC×V)}{k:aC}{u:Ae}{A:Cw}{E:Ae->Ak->Prop}
theorem UD{Q:Ae->Ak->Prop}(I:Inv X af Z H s)(e:Rd H a (.dK kvs))(h:∀t j,Inv X af Z H j->Q (.int ↥kvs t) j):Bm X.m A (call (.builtin "len") [.ref a]) Q E s:=by
 let⟨z,hd,vs,i,x⟩:=mN I.hok e;refine call_len_dict hd x (by rw[<-↥i];rw[Ke]at z;lia) ?_;rw[<-↥i];exact h _ _ (I.tok _)
end
theorem UE(I:Inv X af Z H s)(g:h9 H a y o):s.TypeIs (.ref a) "dict":=by
 rcases g with⟨kvs,k,e,_,_⟩|⟨kvs,k,b,e,_,_,_⟩
 .let⟨_,_,vs,_,x⟩:=mN I.hok e;exact x.typeIs
 .let⟨_,_,xs,_,x⟩:=nS I.hok e;exact x.typeIs
theorem DC(h:Du)(Z:Fu<h.objs.size):b5 P w H (h.push {cls:=.type "dict",data:=.dict #[]}) h.objs.size (.dK []):=
 ⟨Cs _,beq_eq_false_iff_ne.mpr (Ca (Bn Z)),[],.nil,Heap.DictOf.new h⟩
theorem DD(h:Du)(Z:Fu<h.objs.size):b5 P w H (h.push {cls:=.type "dict",data:=.dict #[]}) h.objs.size (.dT []):=
 ⟨Cs _,beq_eq_false_iff_ne.mpr (Ca (Bn Z)),[],.nil,_,#[],0,Az _ rfl,⟨rfl,rfl,rfl⟩,rfl,rfl,Eo⟩
def UG:TE:=λ_ H Q=>∀p,H p=ae->Q (.ref p) (aL H p (.dK []))
def UH:TE:=λ_ H Q=>∀p,H p=ae->Q (.ref p) (aL H p (.dT []))
section
variable {X:Cx}{pos:Hv}
theorem UI:PE X (.Dict [] [] pos) UG:=λaf s Z H Q I h=>
 Sl ⟨.ref ⇑s,_,I.laid (a:=⇑s) (o:=.dK []) (t':=s.toks) (λ_ _ q=>Af _ q) (Ai _) (DC s.heap I.big),rfl,h _ (I.hok.fresh (Ai _))⟩
theorem UJ:PE X (.Dict [] [] pos) UH:=λaf s Z H Q I h=>
 Sl ⟨.ref ⇑s,_,I.laid (a:=⇑s) (o:=.dT []) (t':=s.toks) (λ_ _ q=>Af _ q) (Ai _) (DD s.heap I.big),rfl,h _ (I.hok.fresh (Ai _))⟩
end
def tK:↑(TE×TE)->St->Hp->(↑(V×V)->Hp->Prop)->Prop
 | [],_,H,Q=>Q [] H
 | (tk,D)::r,Z,H,Q=>tk Z H λx j=>D Z j λy w=>tK r Z w λps K=>Q ((x,y)::ps) K
abbrev VV:↑(V×V)->↑(Ae×Ae)->Prop:=Fz λp q=>RelV p.1 q.1/\RelV p.2 q.2
def tL(X:Cx)(pos:Hv)(keys:↑(Option Ck))(b:↑Ck)(d:↑(TE×TE)):Prop:=
 ∀(af:Pn) (s:Ak) (Z:St) (H:Hp) (Q:↑(V×V)->Hp->Prop),Inv X af Z H s->tK d Z H Q->
  X.a (evalPairs (pairTrees keys b X.env pos)) (λvs j=>∃ps l,Inv X af Z l j/\VV ps vs/\Q ps l) X.xe s
theorem DE:tL X pos [] [] []:=λaf s Z H Q I h=>pairTrees_nil_walk ⟨[],H,I,.nil,h⟩
theorem DF(hk:PE X k tk)(c:PE X v D)(T:tL X pos ks vs d):
  tL X pos (aa k::ks) (v::vs) ((tk,D)::d):=λaf s Z H Q I h=>
 pairTrees_cons_walk (aZ (hk af s Z H _ I h) λu U ⟨x,j,M,G,g⟩=>aZ (c af U Z j _ M g) λJ Y ⟨y,w,S,P,n⟩=>
  aZ (T af Y Z w _ S n) λws N C=>by let⟨ps,K,O,i,L⟩:=C;exact⟨(x,y)::ps,K,O,.cons ⟨G,P⟩ i,L⟩)
noncomputable def qP(kvs more:↑(aC×V)):↑(aC×V):=more.foldl (λacc g=>dZ acc g.1 g.2) kvs
theorem KV.merge:∀{more:↑(aC×V)} {rs:↑(aC×Ae)} {kvs:↑(aC×V)} {vs:↑(aC×Ae)},KV more rs->KV kvs vs->KV (qP kvs more) (merged vs rs):=by
 intro more rs kvs vs r;unfold KV at r
 induction r generalizing kvs vs with
 | nil=>intro q;exact q
 | @cons p q ps qs h t E=>
  intro f;have e:KV (dZ kvs p.1 p.2) (Um vs q.1 q.2):=by
   have:=f.put p.1 h.2;rw[<-h.1];exact this
  exact E e
theorem DG:∀(more kvs:↑(aC×V)),↥(qP kvs more)<=↥kvs+↥more
 | [],kvs=>by show ↥kvs<=↥kvs+0;lia
 | p::r,kvs=>by
  have O:=DG r (dZ kvs p.1 p.2);have L:=oV kvs p.1 p.2;show(qP (dZ kvs p.1 p.2) r).length<=_;rw[Bv];lia
theorem DH:∀{kvs:↑(aC×V)} {ws:↑(Ae×Ae)},VV (kvs.map λg=>(kV g.1,g.2)) ws->∃rs,Carries (bU P w) ws rs/\KV kvs rs
 | [],_,r=>by rw[Mu]at r;cases r;exact⟨[],True.intro,.nil⟩
 | p::kvs,_,r=>by
  rw[Bh]at r;cases r with
  | @cons a b J bs h t=>
   let⟨rs,c,q⟩:=DH (P:=P) (w:=w) t;let⟨Q,U⟩:=b;exact⟨(p.1,U)::rs,⟨jU h.1,rfl,c⟩,.cons ⟨rfl,h.2⟩ q⟩
def UK(d:↑(TE×TE)):TE:=λZ H Q=>∀p,H p=ae->tK d Z (aL H p (.dK [])) λps w=>w p=aa (.dK [])/\∃kvs:↑(aC×V),ps=kvs.map (λg=>(kV g.1,g.2))/\↥kvs<=15/\Q (.ref p) (aL w p (.dK (qP [] kvs)))
theorem UL(h:tL X pos keys b d)(L:keys.all (·.isSome)=ab)(hl:↥keys=↥b)(J:keys≠[])(g:↥keys<=15):PE X (.Dict keys b pos) (UK d):=by
 intro af s Z H Q I q;have hn:=I.hok.fresh (Ai ⇑s);have M:=I.laid (a:=⇑s) (o:=.dK []) (h':=s.heap.push {cls:=.type "dict",data:=.dict #[]}) (t':=s.toks) (λ_ _ q=>Af _ q) (Ai _) (DC s.heap I.big);refine wpAny_Dict_walk (knd:=bU X.prog X.w) L hl J g (aZ (h af _ Z _ _ M (q _ hn)) λws Y A=>?_);let⟨ps,p,S,i,e,kvs,ep,y,n⟩:=A;subst ep;let⟨rs,c,rk⟩:=DH (P:=X.prog) (w:=X.w) i;let⟨z,hd,j,f,x⟩:=DA S.hok e;cases f;refine⟨rs,c,x,λh' t F=>⟨.ref ⇑s,_,?_,rfl,n⟩⟩;have hz:↥(qP [] kvs)<=Au:=by
  have O:=DG kvs [];rw[Jd]at O;rw[Ke];lia
 have W:∃q,h'.get? ⇑s=aa q:=let ⟨q,_,_,hq,_⟩:=t;⟨q,hq⟩;exact nT S (by rw[e];exact True.intro) F W (DB hz hd (rk.merge .nil) t)
section
variable {X:Cx}{af:Pn}{Z:St}{H:Hp}{s:Ak}{a:Am}{y d:V}{u r:Ae}{o:Option V}{A:Cw}{E:Ae->Ak->Prop}
theorem DI{Q:Ae->Ak->Prop}(W:A.units+1<Fg)(I:Inv X af Z H s)(g:h9 H a y o)(P:RelV y u)(h:∀L j,Inv X af Z H j->RelV (o.getD .non) L->Q L j):
  Bm X.m A (call (.builtin "dict.get") [.ref a,u]) Q E s:=by
 rcases g with⟨kvs,k,e,J,l⟩|⟨kvs,k,b,e,J,T,l⟩
 .subst J;let⟨z,hd,vs,i,x⟩:=mN I.hok e;refine Jj Lk x.typeIs Kx (PySem.F.args_dict_get_2 _ _) (meets_dict_get (bU X.prog X.w) a (jU P) hd) ⟨_,x.mapOf,h _ _ (I.tok _) ?_⟩;rw[l];exact(i.val k).getD rfl
 .subst J;cases (show u=Value.ref b from P);let⟨z,hd,xs,i,x⟩:=nS I.hok e;refine Jj Lk x.typeIs Kx (PySem.F.args_dict_get_2 _ _) (meetsH_dict_get (Ho (bU X.prog X.w)) a b hd) ⟨Ft W,k,xs,i4 I.hok T,x,h _ _ (I.tok _) ?_⟩;rw[l];exact(i.val k).getD rfl
theorem DJ{Q:Ae->Ak->Prop}(W:A.units+1<Fg)(I:Inv X af Z H s)(g:h9 H a y o)(P:RelV y u)(c:RelV d r)(h:∀L j,Inv X af Z H j->RelV (o.getD d) L->Q L j):
  Bm X.m A (call (.builtin "dict.get") [.ref a,u,r]) Q E s:=by
 rcases g with⟨kvs,k,e,J,l⟩|⟨kvs,k,b,e,J,T,l⟩
 .subst J;let⟨z,hd,vs,i,x⟩:=mN I.hok e;refine Jj Lk x.typeIs Kx (PySem.F.args_dict_get_3 _ _ _) (meets_dict_get_default (bU X.prog X.w) a (jU P) hd r) ⟨_,x.mapOf,h _ _ (I.tok _) ?_⟩;rw[l];exact(i.val k).getD c
 .subst J;cases (show u=Value.ref b from P);let⟨z,hd,xs,i,x⟩:=nS I.hok e;refine Jj Lk x.typeIs Kx (PySem.F.args_dict_get_3 _ _ _) (meetsH_dict_get_default (Ho (bU X.prog X.w)) a b hd r) ⟨Ft W,k,xs,i4 I.hok T,x,h _ _ (I.tok _) ?_⟩;rw[l];exact(i.val k).getD c
end
end L2
namespace Att
open PySem.W PySem.Calls
theorem UM:∀(ns:↑Int) (vs:↑Ae),WellAll P h vs (ns.map WData.int)->Ux vs ns:=by
 intro ns
 induction ns with
 | nil=>
  intro vs w;rw[Mu]at w;cases w;exact .nil
 | cons n ns E=>
  intro vs w;rw[Bh]at w;cases w with
  | cons a b=>
   cases a;exact .cons _ _ (E _ b)
theorem UN{l:OpenLaw}{n:Nat}(hn:l.most=aa n){P:So}{h:Du}{args:↑WData}{vals:↑Ae}(e:l.row.toRowW.claim.pre args=ab)(K:WellAll P h vals args):
  ∃a vs ns,vals=[Value.ref a]/\args=[WData.list (ns.map WData.int)]/\h.get? a=aa {cls:=.type "list",data:=.seq vs.toArray}/\Ux vs ns/\↥ns<=n:=by
 have b:WShape.hasAll [] args [.list .int]=ab:=(pre_splitW e).1;have hc:l.pre.holds [] {args:=args} = ab:=(pre_splitW e).2;let⟨d,r,rfl,O,L⟩:=hasAllW_cons b;obtain rfl:=hasAllW_nil L;let⟨xs,rfl,h3⟩:=hasW_list O;let⟨ns,rfl⟩:=items_int h3;have T:↥ns<=n:=by
  unfold OpenLaw.pre at hc;have m:(WTm.not (.lt (.lit (.int (n:Int))) (.len (.arg 0)))).holds [] {args:=[.list (ns.map .int)]} = ab:=by
   have m:=(holds_andW hc).1;rw[hn]at m;exact m
  have Y:=condW_of m (w_not (w_lt w_lit (w_len_list (w_arg rfl))));rw[Ab]at Y;refine Nat.le_of_not_lt λq=>?_;have A:(n:Int)<((↥ns:Nat):Int):=by lia
  first
   | (rw[Wc A]at Y;exact absurd Y ∅)
   | (simp at Y;lia)
 cases K with
 | cons u J=>
  cases J;cases u with
  | list f C=>exact⟨_,_,ns,rfl,rfl,f,UM ns _ C,T⟩
theorem UO(l:OpenLaw)(args:↑WData):l.row.toRowW.claim.post args (.bool ab) args=ab:=
 postW_of (r:=l.row.toRowW) (X:=(ab==ab))
  (show WShape.has [] (.bool ab) .bool=ab by first|rfl|decide|simp[WShape.has,WShape.arms,WShape.armsAll])
  (show(WTm.eq .res (.lit (.bool ab))).value [] {args:=args,res:=aa (.bool ab),after:=args} = aa (.bool (ab==ab)) from w_eq_bool (w_res rfl) w_lit) rfl
theorem attach_call{l:OpenLaw}{n:Nat}{q:Be}{loose:↑Av}{XP:(Av->Option Ae)->Du->Prop}{YP:Br->Du->Prop}{d:DefRec}(hn:l.most=aa n)(O:d.params.defaults=[])(call:∀(w:Br) (s₀ y:Ak) (mg E:Av->Option Ae) (fa:Am) (o:Ms) (I B z:Ae) (a:Am) (vs:↑Ae) (ns:↑Int),
   Ground q loose [] XP w s₀ mg E y.heap->YP w y.heap->
   y.heap.get? fa=aa o->o.data=.func (docDef d.name d.params d.body d.scope I B z)->y.heap.CodeRec B d.name->mg d.name=aa (.ref fa)->
   y.heap.get? a=aa {cls:=.type "list",data:=.seq vs.toArray}->Ux vs ns->↥ns<=n->y.gens = #[]->
   Mp (De l.prog w) Rz (.call (.ref fa) ⟨[.ref a],[]⟩) (λr j=>r=.ok (.ret (.bool ab))/\OldK y.heap j.heap/\j.os=y.os/\Pr j.gens) y):
  WalkO q loose XP YP l.row.toRowW d [] (λf vs=>Ub f vs):=by
 intro w s₀ y mg E G Y fa o I B z dV kV U hd p H Q hg args vals J e b g K BZ;obtain rfl:dV=.none:=Dflts.none H O;obtain rfl:kV=.none:=Dflts.noKw H;let⟨a,vs,ns,rfl,rfl,i,c,T⟩:=UN hn e K;refine enter_call (Pm (call w s₀ y mg E fa o I B z a vs ns G Y U (fd_plain hd) p Q i c T hg) λr j N=>?_);let⟨rfl,L,h3,m⟩:=N;exact⟨.inl ⟨.bool ab,.bool ab,[],rfl,λ_=>rfl,.bool ab,UO l _,λ_=>⟨List.Pairwise.nil,λ_ S=>(nomatch S)⟩⟩,L,h3,m⟩
end Att
namespace L2
theorem UP:∀{vs:↑Ae} {ns:↑Int},Ux vs ns->a5 (ns.map V.int) vs:=by
 intro vs ns h
 induction h with
 | nil=>exact .nil
 | cons n t h E=>exact .cons ⟨t,rfl⟩ E
def tM(H:Hp):Prop:=∀b,H b=ae\/∃o xs,H b=aa (.frz o (.lst xs))
theorem UQ{P:Be}{w:Br}{K:Ac}{mg mb:Av->Option Ae}{CX:kE}{k:Nat}{fa a:Am}{fd:Ff}{x:Av}{sp:Sp}{s1:Ak}{vs:↑Ae}{ns:↑Int}(KX:K.In s1.heap)(hns:s1.heap.Ns Ed mg)(hb:s1.heap.Ns Vm mb)(hbb:∀x:Av,x≠"__name__"->mb x=Cu x)(hlim:s1.heap.NoLimit)(hg:s1.gens = #[])(ha:s1.heap.get? a=aa (lO vs.toArray))(hi:Ux vs ns)(hl:↥ns<=Au)(hr:cQ k Rz)(F:∀base:Du,K.In base->base.Ns Ed mg->hW P w K mg base CX k fa fd [x] sp)(hbind:∀(s:Ak) (u:Ae),Tg s fd ⟨[u],[]⟩ [(x,u)])(hsp:∀H:Hp,tM H->bN K H a (ns.map V.int)->sp [.ref a] H (λv _=>v=.bl ab) λ_ _ _=>False)(hCX:∀H e s',CX [] H s1 (λ_ _ _=>False) e s'->False):
  Mp (De P w) Rz (.call (.ref fa) ⟨[.ref a],[]⟩) (λr s'=>r=.ok (.ret (.bool ab))/\OldK s1.heap s'.heap/\s'.os=s1.os/\Pr s'.gens) s1:=by
 have rv:=UP hi;have lenV:=↥hi;have core:∀H:Hp,tM H->bN K H a (ns.map V.int)->cS P w H s1.heap->(∀b,H b≠ae->b=a)->(H a≠ae->K.lookup a=ae)->
   Mp (De P w) Rz (.call (.ref fa) ⟨[.ref a],[]⟩) (λr s'=>r=.ok (.ret (.bool ab))/\OldK s1.heap s'.heap/\s'.os=s1.os/\Pr s'.gens) s1:=by
  intro H hO hS hok hA hK;have base_of:∀{b:Am} {o:Ms},s1.heap.get? b=aa o->H b=ae->(lC s1.heap H).get? b=aa o:=λe n=>N5 e n;have noA:∀{b:Am} {o:Ms} {es:Array Eg} {ep:Nat},s1.heap.get? b=aa o->o.data=.dict es ep->H b=ae:=λ{b o es ep} e d=>by
   cases q:H b with
   | none=>rfl
   | some u=>
    have e':b=a:=hA b (by rw[q];simp);subst e';rw[ha]at e;cases e;have d':Data.seq vs.toArray _=Data.dict es ep:=d;cases d'
  have nsK:∀{b:Am} {m:Av->Option Ae},s1.heap.Ns b m->(lC s1.heap H).Ns b m:=λ{b m} ⟨o,es,ep,e,d,r⟩=>⟨o,es,ep,base_of e (noA e d),d,r⟩
  have hKb:K.In (lC s1.heap H):=λb o e=>base_of (KX b o e) (by
   cases q:H b with
   | none=>rfl
   | some u=>
    have e':b=a:=hA b (by rw[q];simp);subst e';rw[hK (by rw[q];simp)]at e;cases e)
  have hM:Mod K mg (lC s1.heap H):=⟨hKb,nsK hns,⟨mb,nsK hb,hbb⟩,let ⟨mc,h1,h2⟩:=hlim;⟨mc,nsK h1,h2⟩⟩;have e0:nQ P w K mg (lC s1.heap H) Rz [] s1 H:=⟨rfl,hM,λb o e=>N6 e,Om (N4 _ _),trivial,λb hb=>absurd (show b∈([]:↑Am) from hb) (by simp),hok,.of_eq hg⟩;refine Pm ((F _ hKb (nsK hns)).run Rz [] s1 H ⟨[.ref a],[]⟩ [.ref a] [.ref a] _ _ hr e0 (hbind s1 (.ref a)) (.cons rfl .nil) (hsp H hO hS)) λr s' h=>?_;cases r with
  | error e=>exact(hCX H e s' h).elim
  | ok fl=>
   cases fl with
   | next=>exact Bq h
   | brk=>exact Bq h
   | cont=>exact Bq h
   | ret u=>
    let⟨v,H',os,bare,un,hok',r',q⟩:=h;have q':v=.bl ab:=q;subst q';obtain rfl:u=Value.bool ab:=r';refine⟨rfl,OldK.of_keep λb o e=>?_,os,bare⟩;cases q:H b with
    | none=>exact un.keep b o e q (by intro z;exact absurd (show b∈([]:↑Am) from z) (by simp)) (by simp)
    | some u=>
     rcases hO b with z|⟨ob,xs,z⟩
     .rw[q]at z;cases z
     .have z2:=un.frzs b ob _ z;let⟨e1,_⟩:=hok b _ z;let⟨e2,_⟩:=hok' b _ z2;rw[e]at e1;cases e1;exact e2
 cases hk:K.lookup a with
 | some o=>
  have e:=KX a o hk;rw[ha]at e;cases e;refine core (λ_=>ae) (λ_=>.inl rfl) (.inr ⟨_,vs.toArray,_,hk,rfl,rfl,rfl,by rw[Bi,lenV];exact hl,by simpa using rv⟩) (λb u z=>by have z':(ae:Option HO)=aa u:=z;cases z') (λb z=>absurd rfl z) λz=>absurd rfl z
 | none=>
  refine core (λb=>if b=a then aa (.frz (lO vs.toArray) (.lst (ns.map V.int))) else ae) (λb=>?_) (.inl (.inr ⟨(lO vs.toArray),Vz rfl⟩)) (λb u z=>?_) (λb z=>?_) λ_=>hk
  .by_cases hb:b=a
   .exact .inr ⟨_,_,Vz hb⟩
   .exact .inl (Vy hb)
  .by_cases hb:b=a
   .have z':=(Vz hb).symm.trans z;cases z';subst hb;exact⟨ha,by rw[Ab];exact hl,vs,_,rv,ha⟩
   .have z':=(Vy hb).symm.trans z;cases z'
  .by_cases hb:b=a
   .exact hb
   .exact absurd (Vy hb) z
theorem UR{l:Qy}{n k:Nat}{q:Be}{loose:↑Av}{XP:(Av->Option Ae)->Du->Prop}{YP:Br->Du->Prop}{d:DefRec}{K:So->Ac}{CX:Br->kE}{sp:Br->Sp}{x:Av}(hn:l.most=aa n)(m:n<=Au)(O:d.params.defaults=[])(D:cQ k Rz)(L:∀(w:Br) (h:Du),YP w h->(K w.params).In h)(F:∀(w:Br) (mg:Av->Option Ae) (fa:Am) (h:Du),(K w.params).In h->h.Ns Ed mg->mg d.name=aa (.ref fa)->
   ∃fd:Ff,(∀(s:Ak) (u:Ae),Tg s fd ⟨[u],[]⟩ [(x,u)])/\
    ∀base:Du,(K w.params).In base->base.Ns Ed mg->hW l.prog w (K w.params) mg base (CX w) k fa fd [x] (sp w))(C:∀(w:Br) (H:Hp) (a:Am) (ns:↑Int),↥ns<=n->tM H->bN (K w.params) H a (ns.map V.int)->sp w [.ref a] H (λv _=>v=.bl ab) λ_ _ _=>False)(J:∀(w:Br) (H:Hp) (s:Ak) (e:Ae) (j:Ak),CX w [] H s (λ_ _ _=>False) e j->False):
  PySem.W.WalkO q loose XP YP l.row.toRowW d [] (λf vs=>Ub f vs):=by
 refine Att.attach_call hn O λw s₀ y mg P fa o I B z a vs ns G Y U hd p Q i c A hg=>?_;have r:=L w _ Y;let⟨fd,Z,E⟩:=F w mg fa _ r G.T.g Q;exact UQ r G.T.g G.T.b G.T.builtins G.T.nolimit hg i c (Ap A m) D E Z (λH t M=>C w H a ns A t M) λH e j=>J w H y e j
abbrev eD:kE:=λ_ _ _ _ _ _=>False
abbrev E0:XK:=λ_ _ _=>False
theorem oW:mK eD X E0:=λ_ _ _ _ _ _ _ h=>h.elim
structure jH(K:Ac)(x qual:Av)(st:Jy)(f:Am)(fd:Ff):Prop where
 ex:∃(oc:Ae) (od:Option Am) (kV doc pm:Ae) (an:Option Am) (cdv ct:Ae) (osl:Array (Option Ae)),
  fd=Gb x qual (jF st) (gD st) (dP st) .none kV doc pm an cdv ct/\K.lookup f=aa ⟨oc,od,.func fd,osl⟩/\Kw K cdv qual=ab
 kp:Gj K (.ref f)=ab
section
variable {P:Be}{w:Br}{K:Ac}{mg:Av->Option Ae}{base:Du}
theorem jH.ok{x g:Av}{st:Jy}{f:Am}{fd:Ff}{N ps:↑Av}{k:Nat}{sp:Sp}(F:jH K x g st f fd)(S:mL N ps (dP st))(len:∀vs H Q E,sp vs H Q E->↥vs=↥ps)(m:∀(i:Ae) (A:Cw) (outer:↑Env) (s:Ak) (H:Hp) (vs:↑V) (Q:VK) (E:XK),cQ k (A.deeper (Ma g (dP st) ⇑s f i))->sp vs H Q E->
   ∃t,fN (kF eD P w K mg base N g (dP st) f i A outer s H E).nox (gD st) t/\t {nx:=λ_ l=>Q .non l,rt:=Q} (start N vs) H):hW P w K mg base eD (k+1) f fd ps sp:=by
 let⟨a,j,kV,z,I,d,i,ct,b,rfl,y,p⟩:=F.ex;refine R1 y p S len λA outer s H vs Q E T C=>?_;let⟨t,h,q⟩:=m i A outer s H vs Q E T C;exact⟨t,h.nox,q⟩
theorem jH.binds{x g:Av}{st:Jy}{f:Am}{fd:Ff}{ps:↑Av}(F:jH K x g st f fd)(h:∀(kV z I:Ae) (d:Option Am) (i ct:Ae) (us:↑Ae),↥us=↥ps->bindArgs (Gb x g (jF st) (gD st) (dP st) .none kV z I d i ct) ⟨us,[]⟩=pure (ps.zip us)):Binds K fd ps []:=by
 let⟨a,j,kV,z,I,d,i,ct,b,rfl,y,p⟩:=F.ex;exact .all (h kV z I d i ct)
theorem oX{x g:Av}{st:Jy}{f:Am}{a:Ae}{j d:Option Am}{b:Array (Option Ae)}{kV z I i ct:Ae}(l:K.lookup f=aa ⟨a,j,.func (Gb x g (jF st) (gD st) (dP st) .none kV z I d i ct),b⟩)(c:Kw K i g=ab)(k:Gj K (.ref f)=ab):jH K x g st f (Gb x g (jF st) (gD st) (dP st) .none kV z I d i ct):=⟨⟨a,j,kV,z,I,d,i,ct,b,rfl,l,c⟩,k⟩
end
theorem DK{k:Nat}(T:cQ k A):A.units+1<Fg:=Gh (Hm (by decide:1<=64) _) T.units
section
variable {X:Cx}
theorem US:cR X (.builtin "len") (λxs H Q=>∃a kvs,xs=[V.ref a]/\H a=aa (.dK kvs)/\Q (.int ↥kvs) H):=by
 intro af s Z H xs us Q I r h;let⟨a,kvs,rfl,m,q⟩:=h;let⟨u,rfl,ru⟩:=vals1 r;cases ru;exact UD I (.inl m) λt j F=>⟨.int ↥kvs,H,F,⟨t,rfl⟩,q⟩
end
theorem UT{A B:Prop}(h:B):if ac=ab then A else B:=by
 rw[Vy Bc];exact h
theorem UU{A B:Prop}(h:A):if ab=ab then A else B:=by
 rw[Vz rfl];exact h
end L2
set_option maxHeartbeats 4000000
namespace L2
structure kI where
 cl:↑(Av×Am)
 s:Ak
 H:Hp
 fp:↑Am
 C:Am
noncomputable def dS(X:Cx)(sc:Le)(N':↑Av)(B:kI):Cx where
 prog:=X.prog
 w:=X.w
 K:=X.K
 mg:=X.mg
 base:=X.base
 A:=X.A
 N:=N'
 s₀:=B.s
 H₀:=B.H
 env:=compEnvC sc B.cl B.C X.env
 outer:=X.stack
 stack:=X.stack
 ex:=B.fp
 fn:=λ_=>ac
 calm:=X.calm
 pn:=[]
 xe:=λ_ _=>False
noncomputable def gG(cells:↑(Av×Am)):↑(Av×Kg)->↑(Av×Am)->↑(Av×Am)
 | [],acc=>acc
 | (n,k)::r,acc=>if k=.free then gG cells r ((n,(cells.lookup n).getD 0)::acc) else gG cells r acc
theorem DL{scope:Le}{env:Env}(h:∀y∈scope.names,y.2=.free->∃c,env.cells.lookup y.1=aa c):Vl scope env=pure (gG env.cells scope.names []):=by
 have key:∀(names:↑(Av×Kg)) (acc:↑(Av×Am)),(∀y∈names,y.2=.free->∃c,env.cells.lookup y.1=aa c)->
   (forIn names acc λ(x:Av×Kg) (cs:↑(Av×Am))=>(if (x.2==NameKind.free)=ab then(do let a <-cellOf env x.1;pure (ForInStep.yield ((x.1,a)::cs))) else pure (ForInStep.yield cs):Sx (ForInStep (↑(Av×Am)))))=(pure (gG env.cells names acc):Sx _):=by
  intro names
  induction names with
  | nil=>intro acc _;rfl
  | cons y r ih=>
   intro acc hy;let⟨n,k⟩:=y;rw[Ko]
   by_cases hk:k=.free
   .subst hk;let⟨c,hc⟩:=hy (n,.free) Bl rfl;have e1:cellOf env n=(pure c:Sx Am):=by
     unfold cellOf;rw[show env.cells.lookup n=aa c from hc]
    simp only[beq_self_eq_true,if_true,e1,pure_bind];rw[ih _ λz hz=>hy z (Bj _ hz)];simp only[gG,if_true];rw[show env.cells.lookup n=aa c from hc];rfl
   .have hb:(k==NameKind.free)=ac:=by simpa using hk
    simp only[hb,Fm,if_false,pure_bind];rw[ih _ λz hz=>hy z (Bj _ hz)];simp only[gG,Vy hk]
 have e:Vl scope env=((forIn scope.names [] λ(x:Av×Kg) (cs:↑(Av×Am))=>(if (x.2==NameKind.free)=ab then(do let a <-cellOf env x.1;pure (ForInStep.yield ((x.1,a)::cs))) else pure (ForInStep.yield cs):Sx (ForInStep (↑(Av×Am)))))>>=λcs=>pure cs):=by
  unfold Vl;rfl
 rw[e,key _ _ h,pure_bind]
theorem xJ:∀{names:↑(Av×Kg)} {acc:↑(Av×Am)},(∀y∈names,y.2=.free->∃c,cells.lookup y.1=aa c)->
  (∀x c,acc.lookup x=aa c->cells.lookup x=aa c)->(gG cells names acc).lookup x=aa c->cells.lookup x=aa c
 | [],acc,_,m,e=>m x c e
 | (n,k)::r,acc,K,m,e=>by
  have T:∀y∈r,y.2=.free->∃c,cells.lookup y.1=aa c:=λz hz=>K z (Bj _ hz);unfold gG at e
  by_cases hk:k=.free
  .subst hk;rw[Vz rfl]at e;let⟨d,hd⟩:=K (n,.free) Bl rfl;have hd:cells.lookup n=aa d:=hd;refine xJ T (λz b q=>?_) e;rw[Ea]at q
   by_cases hz:z=n
   .subst hz;rw[beq_self_eq_true,hd]at q;rw[hd];exact q
   .have:(z==n)=ac:=beq_eq_false_iff_ne.mpr hz;rw[this]at q;exact m z b q
  .rw[Vy hk]at e;exact xJ T m e
theorem tN:∀{names:↑(Av×Kg)} {acc:↑(Av×Am)},((x,NameKind.free)∈names\/∃c,acc.lookup x=aa c)->∃c,(gG cells names acc).lookup x=aa c
 | [],acc,h=>by
  rcases h with h|h
  .cases h
  .exact h
 | (n,k)::r,acc,h=>by
  unfold gG
  by_cases hk:k=.free
  .subst hk;rw[Vz rfl];refine tN ?_
   by_cases J:x=n
   .subst J;right;rw[Ea,beq_self_eq_true];exact⟨_,rfl⟩
   .have Z:(x==n)=ac:=beq_eq_false_iff_ne.mpr J;rcases h with h|⟨c,h⟩
    .rcases Aw.mp h with e|h
     .cases e;exact absurd rfl J
     .exact .inl h
    .right;rw[Ea,Z];exact⟨c,h⟩
  .rw[Vy hk];refine tN ?_;rcases h with h|h
   .rcases Aw.mp h with e|h
    .cases e;exact absurd rfl hk
    .exact .inl h
   .exact .inr h
structure nU(N':↑Av)(sc osc:Le):Prop where
 kind:sc.kind=.function
 nd:N'.Nodup
 nocell:∀y∈sc.names,y.2≠.cell
 loc:∀y∈sc.names,y.2=.local->sc.names.lookup y.1=aa .local
 free:∀y∈sc.names,y.2=.free->osc.names.lookup y.1=aa .cell\/osc.names.lookup y.1=aa .free
noncomputable def nV(N':↑Av)(sc a:Le):Bool:=
 decide (sc.kind=.function)&&decide N'.Nodup&&sc.names.all (λy=>decide (y.2≠.cell))&&sc.names.all (λy=>decide (y.2=.local->sc.names.lookup y.1=aa .local)) &&
  sc.names.all (λy=>decide (y.2=.free->a.names.lookup y.1=aa .cell\/a.names.lookup y.1=aa .free))
theorem nU.of(h:nV N' sc a=ab):nU N' sc a:=by
 unfold nV at h;simp only[Dn]at h;obtain⟨⟨⟨⟨O,L⟩,h3⟩,m⟩,Y⟩:=h;exact⟨Wa O,Wa L,λy K=>Wa (Gy.mp h3 y K),λy K=>Wa (Gy.mp m y K),λy K=>Wa (Gy.mp Y y K)⟩
noncomputable def cmap(js:↑(Option Nat))(Z:St):St:=js.map λo=>o.bind λj=>(Z[j]?).join
noncomputable def fG(N' N:↑Av)(sc:Le):↑(Option Nat)->↑Av->Bool
 | [],[]=>ab
 | none::js,_::r=>fG N' N sc js r
 | some j::js,x::r=>decide (N[j]? = aa x)&&decide (sc.names.lookup x=aa .free)&&fG N' N sc js r
 | _,_=>ac
theorem xK:∀{js:↑(Option Nat)} {r:↑Av},fG N' N sc js r=ab->↥js=↥r
 | [],[],_=>rfl
 | none::js,_::r,h=>by
  have:=xK (js:=js) (r:=r) h;simp[this]
 | some j::js,x::r,h=>by
  unfold fG at h;rw[Dn]at h;have:=xK (js:=js) (r:=r) h.2;simp[this]
 | [],_::_,h=>by simp[fG]at h
 | none::_,[],h=>by simp[fG]at h
 | some _::_,[],h=>by simp[fG]at h
theorem xM:∀{js:↑(Option Nat)} {r:↑Av} {i j:Nat} {x:Av},fG N' N sc js r=ab->js[i]? = aa (aa j)->r[i]? = aa x->N[j]? = aa x/\sc.names.lookup x=aa .free
 | [],[],i,j,x,_,e,_=>by simp at e
 | none::js,_::r,0,j,x,h,e,_=>by simp at e
 | none::js,_::r,i+1,j,x,h,e,T=>xM (js:=js) (r:=r) (i:=i) h (by simpa using e) (by simpa using T)
 | some k::js,y::r,0,j,x,h,e,T=>by
  unfold fG at h;rw[Dn,Dn]at h;simp at e T;subst e;subst T;exact⟨Wa h.1.1,Wa h.1.2⟩
 | some k::js,y::r,i+1,j,x,h,e,T=>by
  unfold fG at h;rw[Dn,Dn]at h;exact xM (js:=js) (r:=r) (i:=i) h.2 (by simpa using e) (by simpa using T)
 | [],_::_,_,_,_,h,_,_=>by simp[fG]at h
 | none::_,[],_,_,_,h,_,_=>by simp[fG]at h
 | some _::_,[],_,_,_,h,_,_=>by simp[fG]at h
theorem xN{env:Env}{x:Av}:∀{names:↑(Av×Kg)},(∀y∈names,y.2≠.cell)->
  (((names.map λ(n,k)=>if (k==NameKind.free&&env.scope.kind==.function&&env.kindOf n==aa .cell) then(n,NameKind.cell) else(n,k)).lookup x=aa .cell\/
    (names.map λ(n,k)=>if (k==NameKind.free&&env.scope.kind==.function&&env.kindOf n==aa .cell) then(n,NameKind.cell) else(n,k)).lookup x=aa .free)↔names.lookup x=aa .free)
 | [],_=>by simp
 | (n,k)::r,h=>by
  have E:=@xN env x r λy K=>h y (Bj _ K);have hk:k≠.cell:=h (n,k) Bl;rw[Bh];dsimp only
  by_cases J:(x==n)=ab
  .by_cases hc:(k==NameKind.free&&env.scope.kind==.function&&env.kindOf n==aa .cell)=ab
   .rw[Vz hc];simp only[Ea,J];have:k=.free:=by
     rw[Dn,Dn]at hc;exact beq_iff_eq.mp hc.1.1
    simp[this]
   .rw[Vy hc];simp only[Ea,J];constructor
    .rintro(e|e)
     .cases e;exact absurd rfl hk
     .exact e
    .intro e;exact .inr e
  .have J:(x==n)=ac:=by simpa using J
   by_cases hc:(k==NameKind.free&&env.scope.kind==.function&&env.kindOf n==aa .cell)=ab
   .rw[Vz hc];simp only[Ea,J];exact E
   .rw[Vy hc];simp only[Ea,J];exact E
theorem xO:∀{names:↑(Av×Kg)},names.lookup x=aa k->(x,k)∈names:=λh=>Il h
section
variable {X:Cx}{sc:Le}{N':↑Av}{js:↑(Option Nat)}{af:Pn}{Z:St}{H H1:Hp}{s:Ak}{fp:↑Am}{C:Am}
theorem xQ(S:nU N' sc X.env.scope)(I:Inv X af Z H s):∀y∈sc.names,y.2=.free->∃c,X.env.cells.lookup y.1=aa c:=λy K hk=>
 I.ok.has y.1 (S.free y K hk)
theorem UW(S:nU N' sc X.env.scope)(hj:fG N' X.N sc js N'=ab)(I:Inv X af Z H s)(hf:∀b∈fp,gU X af H b)(f:∀b∈fp,∃o,s.heap.get? b=aa o){tk:Nat}{m:Av->Option Ae}(E:⇑s<=C)(keep:∀b o,s.heap.get? b=aa o->O.get? b=aa o)(un:Un (iK X.stack) fp H H1 s.heap O)(hok:cS X.prog X.w H1 O)(hn:O.Ns C m)(B:H1 C=ae):
  Inv (dS X sc N' ⟨gG X.env.cells sc.names [],s,H,fp,C⟩) [] (cmap js Z) H1 {s with heap:=O,toks:=tk}:=by
 have cs:=xQ S I;have sub:∀x c,(gG X.env.cells sc.names []).lookup x=aa c->X.env.cells.lookup x=aa c:=λx c e=>xJ cs (λ_ _ z=>by simp at z) e;refine⟨⟨I.ok.mod,S.kind,I.ok.glob,I.ok.blt,E,λx y c D T=>I.ok.inj x y c (sub x c D) (sub y c T),λx J=>?_,λ_ _ h _=>absurd (show ac=ab from h) Bc,I.ok.hd,I.ok.frames,.inl rfl,λb W=>?_,I.bs,Ap I.ok.bsz I.sz,λb o e W=>?_,λb W L=>?_,I.stack,I.stkFree⟩,
  rfl,I.bare,un,⟨m,hn,λi x v D T P=>?_⟩,λx c e=>?_,B,λx c e=>?_,λp G=>absurd (show p∈([]:↑(Am×Ms)) from G) (by simp),hok,?_⟩
 .have q:sc.names.lookup x=aa .free:=(xN (env:=X.env) S.nocell).mp J;exact tN (.inl (xO q))
 .let⟨o,e⟩:=f b W;exact⟨Bn (Cb (Bd e) E),λx c q=>(hf b W).2.2.2.2.1 x c (sub x c q)⟩
 .rcases(hf b W).2.2.2.1 with z|z
  .exact I.ok.noex b o e z
  .exact absurd (Cb (Bd e) (Ap I.ok.bsz z)) (Km _)
 .rcases Aw.mp (I.stkSub b L) with z|z
  .exact(hf b W).2.1 z
  .exact(hf b W).2.2.1 z
 .
  have D:N'[i]? = aa x:=D;unfold cmap at T;rw[Ay]at T;cases g:js[i]? with
  | none=>rw[g]at T;cases T
  | some o=>
   rw[g]at T;cases o with
   | none=>cases T
   | some j=>
    let⟨t,d⟩:=xM hj g D;have T:(Z[j]?).join=aa v:=by simpa using T
    have M:Z[j]? = aa (aa v):=by
     cases q:Z[j]? with
     | none=>rw[q]at T;cases T
     | some z=>rw[q]at T;simpa using T
    let⟨m0,n,Q⟩:=I.loc;have kx:=S.free _ (xO d) rfl;let⟨u,r,l⟩:=Q j x v t M (kx.elim (λz=>.inr (.inl z)) λz=>.inr (.inr z));refine⟨u,r,.inr ⟨(xN (env:=X.env) S.nocell).mpr d,?_⟩⟩;rcases l with⟨k,_⟩|⟨_,c,K,hc⟩
    .have k:X.env.scope.names.lookup x=aa .local:=k;rcases kx with z|z
     .rw[k]at z;cases z
     .rw[k]at z;cases z
    .let⟨Y,F⟩:=tN (cells:=X.env.cells) (acc:=[]) (.inl (xO d));have:Y=c:=Ct ((sub x Y F).symm.trans K);subst this;let⟨a,U,hd⟩:=hc;exact⟨Y,F,a,keep _ _ U,hd⟩
 .let⟨v,a,U,hd⟩:=I.cell x c (sub x c e);exact⟨v,a,keep _ _ U,hd⟩
 .let⟨v,a,U,hd⟩:=I.cell x c (sub x c e);have A:c∉fp:=λz=>(hf c z).2.2.2.2.1 x c (sub x c e) rfl;exact un.free c a U (I.freeC x c (sub x c e)) A
 .show(cmap js Z).length=↥N';unfold cmap;rw[Ab];exact xK hj
end
section
variable {prog:Be}{w:Br}{A:Cw}{R:To->Ak->Prop}{s:Ak}
theorem UX(I:Nat->Ak->Prop)(e:∀n s,I n s->Bm (De prog w) A (Hy it) (λr y=>match r with
   | none=>R (.ok .next) y
   | some v=>Bm (De prog w) A (Px b it v) (λ_ s₀=>Bm (De prog w) A (Oh b env v) (λ_ L=>
     Bm (De prog w) A (forIn ifs ab λc r=>if r=ab then do let ok <-Uq c env (Ef c env);pure (ForInStep.yield ok) else pure (ForInStep.yield r)) (λok a=>
      if ok=ab then Bm (De prog w) A (Ef elt env) (λx d=>
       Bm (De prog w) A (call (.builtin "list.append") [acc,x]) (λ_ g=>∃m,m<n/\I m g) (λ_ _=>False) d) (λ_ _=>False) a
      else ∃m,m<n/\I m a) (λ_ _=>False) L) (λ_ _=>False) s₀) (λ_ _=>False) y) (λ_ _=>False) s)(n:Nat)(h:I n s):
  Mp (De prog w) A (.compLoop (.ListComp elt [⟨b,iter,ifs,0⟩] M pos) 0 it acc env) R s:=by
 refine codeAny_loop rfl I (λn s j=>?_) n h;show Bm _ A ((compTurn (.ListComp elt [⟨b,iter,ifs,0⟩] M pos) 0 it acc env).onRaise (λx=>do noteFrame x env;theTreesLotGoes x)) _ _ s;refine wpAny_noted ?_;rw[compTurn_list];refine Aa (Rf (Aa (Iw (e n s j) (λr y F=>?_) λ_ _ h'=>h'.elim)));cases r with
 | none=>exact Ah F
 | some v=>
  refine Aa (Iw F (λ_ s₀ h₀=>?_) λ_ _ h'=>h'.elim);refine Aa (Iw h₀ (λ_ L k=>Aa (Iw k (λok a f=>?_) λ_ _ h'=>h'.elim)) λ_ _ h'=>h'.elim);cases ok with
  | false=>exact Ah ⟨rfl,f⟩
  | true=>
   exact Aa (Aa (Iw f (λx d i=>Aa (Iw i (λ_ g l=>Ah (Ah ⟨rfl,l⟩)) λ_ _ h'=>h'.elim)) λ_ _ h'=>h'.elim))
end
def iM(X:Cx)(ifs:↑Ck)(t:TT):Prop:=
 ∀(af:Pn) (s:Ak) (Z:St) (H:Hp) (Q:Bool->Hp->Prop),Inv X af Z H s->t Z H Q->
  X.a (forIn ifs ab λc r=>if r=ab then do let ok <-Uq c X.env (Ef c X.env);pure (ForInStep.yield ok) else pure (ForInStep.yield r)) (TP X af Z Q) X.xe s
def UY:TT:=λ_ H Q=>Q ab H
theorem UZ:iM X [] UY:=λ_ _ _ H _ I h=>wpAny_tests_nil ⟨H,I,h⟩
theorem U0(h:PT X c t):iM X [c] t:=λaf s Z H Q I hw=>wpAny_tests_one (h af s Z H Q I hw)
def xR(J:It)(g:TG)(tt:TT)(te:TE)(p:Am)(σ₀:St)(H1:Hp)(Q:VK):Prop:=
 ∃W:Nat->Nat->St->↑V->Hp->Prop,(∃m,W 0 m σ₀ [] (aL H1 p (.lst [])))/\∀i m O acc H,W i m O acc H->
  (J.stop i H/\Q (.ref p) H)\/(J.go i H/\∃N:St->↑V->Hp->Prop,(∀a f l,N a f l->∃q,q<m/\W (i+1) q a f l)/\∀x l,J.yld i H x l->g x O l λa w=>tt a w λb K=>
   if b=ab then te a K λy o=>o p=aa (.lst acc)/\↥acc<Au/\N a (acc++[y]) (aL o p (.lst (acc++[y])))
   else N a acc K)
def xS(wi:TI)(g:kI->TG)(tt:kI->TT)(te:kI->TE)(js:↑(Option Nat)):TE:=λZ H Q=>wi Z H λJ H1=>∀p,H1 p=ae->∀B:kI,xR J (g B) (tt B) (te B) p (cmap js Z) H1 Q
section
variable {X:Cx}{sc:Le}{N':↑Av}{js:↑(Option Nat)}{tg iter elt:Ck}{ifs:↑Ck}{pos:Hv}{wi:TI}{g:kI->TG}{tt:kI->TT}{te:kI->TE}
theorem DM(S:nU N' sc X.env.scope)(hj:fG N' X.N sc js N'=ab)(hc:X.calm=ab)(hg:∀B,PG (dS X sc N' B) tg (g B))(ht:∀B,iM (dS X sc N' B) ifs (tt B))(he:∀B,PE (dS X sc N' B) elt (te B)){tn:Nat->Du->Prop}(I:Inv X af Z H s)(T:i0 X.prog X.w X.K tg J fp it tn)(st:tn 0 s.heap)(hf:∀b∈fp,gU X af H b)(hw:∀p,H p=ae->∀B:kI,xR J (g B) (tt B) (te B) p (cmap js Z) H Q){E:Ae->Ak->Prop}{RR:Ae->Am->To->Ak->Prop}(hRR:∀p C H' s' m,Inv X af Z H' s'->gU X af H' C->s'.heap.Ns C m->Q (.ref p) H'->RR (.ref p) C (.ok .next) s'):
  X.a (newList []) (λacc s₃=>X.a (newFunctionEnv sc X.env.globals (gG X.env.cells sc.names []) [] X.env.qual ae .none (aa X.env)) (λcenv s₄=>
   Mp X.m X.A (.compStart (.ListComp elt [⟨tg,iter,ifs,0⟩] sc pos) 0 (.ref it) acc {cenv with scope:=relabel sc X.env}) (RR acc cenv.locals) s₄) E s₃) E s:=by
 refine Ds (wpAny_newFunctionEnv S.nocell (by intro y hy;simp at hy) (λh1 hns1 hsb1=>?_) S.kind);dsimp only at hns1 hsb1⊢;generalize hH2:s.heap.push {cls:=.type "list",dict:=ae,data:=.seq ([]:↑Ae).toArray} = H2 at hns1 hsb1⊢;have hC:H2.objs.size=⇑s+1:=by rw[<-hH2,Es]
 have hDC:⇑s≠H2.objs.size:=by rw[hC];exact Bn (Gz _)
 have hCle:⇑s<=H2.objs.size:=by rw[hC];exact Hi _
 have below:∀b,b<⇑s->b≠H2.objs.size:=λb hb=>by rw[hC];exact Bn (Np hb)
 have old:∀b o,s.heap.get? b=aa o->h1.get? b=aa o:=λb o e=>hsb1.extBut b o (below b (Bd e)) (Af _ (hH2▸Af _ e));have hacc:h1.get? ⇑s=aa {cls:=.type "list",dict:=ae,data:=.seq ([]:↑Ae).toArray}:=hsb1.extBut _ _ hDC (Af _ (hH2▸Az _ rfl));have hp0:H ⇑s=ae:=I.hok.fresh (Ai _);have newO:b5 X.prog X.w (aL H ⇑s (.lst [])) h1 ⇑s (.lst []):=⟨Cs _,[],_,.nil,hacc⟩;have hok1:cS X.prog X.w (aL H ⇑s (.lst [])) h1:=I.hok.laid old (Ai _) newO;have un1:Un (iK X.stack) fp H (aL H ⇑s (.lst [])) s.heap h1:=Un.laid old (Ai _) hp0;have fC:(aL H ⇑s (.lst [])) H2.objs.size=ae:=by rw[bD (Ca hDC)];exact I.hok.fresh hCle
 have IB:=UW (tk:=s.toks+↥([]:↑(Av×Ae))) S hj I hf (λb hb=>let ⟨o,e,_⟩:=T.obj 0 _ st b hb;⟨o,e⟩) hCle old un1 hok1 hns1 fC;obtain⟨W,⟨m0,w0⟩,turn⟩:=hw _ hp0 ⟨gG X.env.cells sc.names [],s,H,fp,H2.objs.size⟩;have st1:tn 0 h1:=T.keep _ _ _ st λb _ o e=>old b o e;have loop:∀s₃:Ak,s₃ = {s with heap:=h1,toks:=s.toks+↥([]:↑(Av×Ae))}->
   Mp X.m X.A (.compLoop (.ListComp elt [⟨tg,iter,ifs,0⟩] sc pos) 0 (.ref it) (.ref ⇑s) (compEnvC sc (gG X.env.cells sc.names []) H2.objs.size X.env))
    (RR (.ref ⇑s) H2.objs.size) s₃:=by
  rintro s₃ rfl;generalize hB:(⟨gG X.env.cells sc.names [],s,H,fp,H2.objs.size⟩:kI)=B at turn w0 IB;have eB:compEnvC sc (gG X.env.cells sc.names []) H2.objs.size X.env=(dS X sc N' B).env:=by subst hB;rfl
  have exB:(dS X sc N' B).ex=fp:=by subst hB;rfl
  rw[eB];have stat:∀{σ':St} {H':Hp} {s':Ak},Inv (dS X sc N' B) [] σ' H' s'->(∀b∈fp,H' b=ae)->∀b∈fp,gU (dS X sc N' B) [] H' b:=λ{σ' H' s'} J' hn b hb=>by
   refine⟨hn b hb,(J'.ok.exf b (by rw[exB];exact hb)).1,J'.ok.exfs b (by rw[exB];exact hb),.inl (by rw[exB];exact hb),(J'.ok.exf b (by rw[exB];exact hb)).2,λp hp=>absurd (show p∈([]:↑(Am×Ms)) from hp) (by simp)⟩
  have fp0:∀b∈fp,(aL H ⇑s (.lst [])) b=ae:=λb hb=>by
   let⟨o,e,_⟩:=T.obj 0 _ st b hb;rw[bD (Bn (Bd e))];exact(hf b hb).1
  refine UX (λn s'=>∃i σ' acc H',Inv (dS X sc N' B) [] σ' H' s'/\tn i s'.heap/\(∀b∈fp,H' b=ae)/\W i n σ' acc H') ?_ m0 ⟨0,_,[],_,IB,st1,fp0,w0⟩;rintro n s3 ⟨i,σ3,acc,H3,I3,st3,fr3,w3⟩;rcases turn i n σ3 acc H3 w3 with⟨stop,qn⟩|⟨go,N,hN,step⟩
  .refine aZ (T.done (dS X sc N' B) rfl rfl rfl hc i [] s3 σ3 H3 (λ_ _=>False) I3 (stat I3 fr3) st3 stop) λr s4 z0=>?_;let⟨hr,I4⟩:=z0;subst hr;let⟨m4,hn4,_⟩:=I4.loc;have u4:Un (iK X.stack) fp H H3 s.heap s4.heap:=by have:=I4.base;subst hB;exact this
   have o4:s4.os=s.os:=by have:=I4.os;subst hB;exact this
   have c4:(dS X sc N' B).env.locals=H2.objs.size:=by subst hB;rfl
   have hIX:Inv X af Z H3 s4:=I.call' (ch:=fp) o4 u4 I4.hok I4.bare λb hb=>⟨(hf b hb).2.2.2.1,(hf b hb).2.1,(hf b hb).2.2.2.2.1,(hf b hb).2.2.2.2.2⟩
   exact hRR _ _ H3 s4 m4 hIX (I.fpOk hCle (by rw[<-c4];exact I4.free)) (by rw[<-c4];exact hn4) qn
  .refine aZ (T.item (dS X sc N' B) rfl rfl rfl hc i [] s3 σ3 H3 (λ_ _=>False) I3 (stat I3 fr3) st3 go) λr s4 z1=>?_;let⟨u,hr,h4⟩:=z1;subst hr;refine aZ h4 λ_ s5 z2=>?_;let⟨x,H5,I5,r5,y5,st5,fr5⟩:=z2;have I5':=I5.pinned (stat I5 fr5) (T.obj _ _ st5);refine aZ (hg B _ s5 σ3 H5 x u _ I5' r5 (step x H5 y5)) λ_ s6 z3=>?_;let⟨σ6,H6,I6,q6⟩:=z3;refine aZ (ht B _ s6 σ6 H6 _ I6 q6) λok s7 z4=>?_;let⟨H7,I7,q7⟩:=z4;have again:∀{H8:Hp} {s8:Ak} {acc':↑V},Inv (dS X sc N' B) ([]++qJ fp s5.heap) σ6 H8 s8->(∃m',m'<n/\W (i+1) m' σ6 acc' H8)->∃m,m<n/\∃i σ' acc H',Inv (dS X sc N' B) [] σ' H' s8/\tn i s8.heap/\(∀b∈fp,H' b=ae)/\W i m σ' acc H':=
    λ{H8 s8 acc'} I8 ⟨m',hm,w8⟩=>by
     refine⟨m',hm,i+1,σ6,acc',H8,I8.unpinned,T.keep _ _ _ st5 λb hb o e=>(I8.pin (b,o) (Bo _ (Bo _ (sY hb e)))).1,λb hb=>?_,w8⟩;let⟨o,e,d⟩:=T.obj _ _ st5 b hb;exact(I8.pin (b,o) (Bo _ (Bo _ (sY hb e)))).2.1
   cases ok with
   | false=>
    rw[Vy Bc]at q7;rw[Vy Bc];exact again I7 (hN _ _ _ q7)
   | true=>
    rw[Vz rfl]at q7;rw[Vz rfl];refine aZ (he B _ s7 σ6 H7 _ I7 q7) λy s8 z5=>?_;let⟨z,H8,I8,r8,hp8,hl8,q8⟩:=z5;exact aZ (C5 _ s8 σ6 H8 (.ref ⇑s) [z] (.ref ⇑s) [y] (λ_ H9=>N σ6 (acc++[z]) H9) I8 rfl (.cons r8 .nil) ⟨_,acc,z,rfl,rfl,hp8,hl8,q8⟩) λ_ s9 z6=>by let⟨_,H9,I9,_,q9⟩:=z6;exact again I9 (hN _ _ _ q9)
 exact codeAny_compStart_list (loop _ rfl) (T.self _ 0 _ _ _ st1 (loop _ rfl))
theorem U1(N':↑Av)(js:↑(Option Nat))(hi:PI X tg iter wi)(hg:∀B,PG (dS X sc N' B) tg (g B))(ht:∀B,iM (dS X sc N' B) ifs (tt B))(Y:∀B,PE (dS X sc N' B) elt (te B))(d:nV N' sc X.env.scope=ab:=by kernel_rfl)(hj:fG N' X.N sc js N'=ab:=by kernel_rfl)(hc:X.calm=ab:=by rfl)(F:∀x,Iq iter X.env x=pure x:=by intro _;rfl):PE X (.ListComp elt [⟨tg,iter,ifs,0⟩] sc pos) (xS wi g tt te js):=by
 intro af s Z H Q I h;have S:=nU.of d;rw[eval_ListComp];refine wpAny_comprehension_free (use:=ae) rfl F (DL (xQ S I)) S.kind S.loc (aZ (hi af s Z H _ I h) λc y v=>aZ v λa L k=>?_);let⟨it,fp,M,J,w,e,i,T,n,O,hw⟩:=k;subst e;refine DM (RR:=λacc C=>compPost X.m X.A X.xe ae (EP X af Z Q) acc C) S hj hc hg ht Y i T n O hw ?_;intro p C l j m V r hn q;refine⟨m,hn,λh' u=>⟨.ref p,l,?_,rfl,q⟩⟩;exact V.turned (t':=j.toks) (λb o W e=>(u.2 b W).trans e) r.1 r.2.1 r.2.2.2.1 r.2.2.2.2.1 r.2.2.2.2.2
theorem DN{i:Nat}(t:X.N.Nodup)(W:X.N[i]? = aa x)(f:Loc X.env.scope x)(N':↑Av)(js:↑(Option Nat))(hi:PI X tg iter wi)(hg:∀B,PG (dS X sc N' B) tg (g B))(ht:∀B,iM (dS X sc N' B) ifs (tt B))(K:∀B,PE (dS X sc N' B) elt (te B))(S0:nV N' sc X.env.scope=ab:=by kernel_rfl)(hj:fG N' X.N sc js N'=ab:=by kernel_rfl)(hc:X.calm=ab:=by rfl)(R:Mg (.ListComp elt [⟨tg,iter,ifs,0⟩] sc pos) (aa (.Name x G)) c.line X.env=pure ab:=by rfl)(hf:Fy X x:=by first|exact .inl rfl|exact .inr rfl|assumption)(F:∀x,Iq iter X.env x=pure x:=by intro _;rfl):PS X (.Assign [.Name x G] (.ListComp elt [⟨tg,iter,ifs,0⟩] sc pos) c) (sW (xS wi g tt te js) (w5 i)):=by
 intro af s Z H D I h;have S:=nU.of S0;rw[exec_Assign_Name_used _ _ _ _ R];refine Aa (Rf (Aa ?_));show Bm _ X.A (do let _ <-comprehension (.ListComp elt [⟨tg,iter,ifs,0⟩] sc pos) sc X.env _ (newList []) ac (Ef iter X.env) (aa (Oh (.Name x G) X.env))) _ _ s;refine Aa (Iw (wpAny_comprehension_free (use:=aa (Oh (.Name x G) X.env)) (Q:=λ_ j=>SP X af D .next j) rfl F (DL (xQ S I)) S.kind S.loc
  (aZ (hi af s Z H _ I h) λxv y d=>aZ d λitv L k=>?_)) (λ_ j Y=>Ah (Ah Y)) λ_ _ e=>e)
 let⟨it,fp,M,J,w,e,P,T,n,O,hw⟩:=k;subst e;refine DM (RR:=λacc C=>compPost X.m X.A X.xe (aa (Oh (.Name x G) X.env)) (λ_ j=>SP X af D .next j) acc C) S hj hc hg ht K P T n O hw ?_;intro p C l j m V r hn q;show Bm _ X.A (Oh (.Name x G) X.env (.ref p)) _ _ _;refine wpAny_assign_Name (B1 V t W f (v:=.ref p) rfl (λU I'' ⟨a,sb,E⟩=>?_) hf);have hCa:C≠a:=by
  rcases E with e|e
  .rw[e];exact r.2.1
  .exact λz=>r.2.2.2.2.1 x a e z.symm
 refine⟨m,hn.sameBut sb hCa,λh' u=>⟨_,l,?_,q⟩⟩;exact I''.turned (t':=U.toks) (λb o N e=>(u.2 b N).trans e) r.1 r.2.1 r.2.2.2.1 r.2.2.2.2.1 r.2.2.2.2.2
end
section
variable {g:TG}{tt:TT}{te:TE}{p:Am}{σ₀:St}{H1:Hp}{Q:VK}
theorem U2(n:Nat)(r:Nat->St->↑V->Hp->Prop)(P:r 0 σ₀ [] (aL H1 p (.lst [])))(hd:∀Z acc H,r n Z acc H->J.stop n H/\Q (.ref p) H)(F:∀i Z acc H,i<n->r i Z acc H->J.go i H/\∀x l,J.yld i H x l->g x Z l λa w=>tt a w λb c=>
   if b=ab then te a c λy o=>o p=aa (.lst acc)/\↥acc<Au/\r (i+1) a (acc++[y]) (aL o p (.lst (acc++[y]))) else r (i+1) a acc c):xR J g tt te p σ₀ H1 Q:=by
 refine⟨λi m Z acc H=>m=n-i/\i<=n/\r i Z acc H,⟨n,by simp,Cs _,P⟩,?_⟩;rintro i m Z acc H ⟨rfl,hi,q⟩
 by_cases Y:i<n
 .let⟨hg,K⟩:=F i Z acc H Y q;exact .inr ⟨hg,r (i+1),λa f l A=>⟨n-(i+1),by lia,rfl,Y,A⟩,K⟩
 .have e:i=n:=by lia
  subst e;exact .inl (hd Z acc H q)
end
section
variable {X:Cx}
theorem DO{i:Int}(h:i.natAbs<2 ^ 4096):Builtin.Int.intBits i<=2 ^ 20:=by
 unfold Builtin.Int.intBits;split
 .exact Cs _
 .rename_i J;have hn:i.natAbs≠0:=by
   intro z;have:i=0:=Int.natAbs_eq_zero.mp z;rw[this]at J;exact J rfl
  have:i.natAbs.log2<4096:=(Uc hn).mpr h;have e:(2:Nat) ^ 20=1048576:=by decide
  lia
def tO(i j:Int):Prop:=i.natAbs<2 ^ 4096/\j.natAbs<2 ^ 4096
theorem U3:bB X (Eh .Mult) (rI tO λi j=>.int (i*j)):=oR λ_ _ _ _ _ _ _ hc q=>mul_int q (IntMulOk.of_bits (DO hc.1) (DO hc.2))
def DP(i j:Int):Prop:=0<j/\j<2 ^ 4096
theorem U4:bB X (Eh .FloorDiv) (rI DP λi j=>.int (i/j)):=oR λi j _ _ _ _ _ hc q=>by
 refine floordiv_int (by have:=hc.1;lia) ?_ (.inl (PyProof.noPylong_of_log2 ?_))
 .rw[Int.fdiv_eq_ediv_of_nonneg _ (Int.le_of_lt hc.1)];exact q
 .have J:j.natAbs≠0:=by have:=hc.1;lia
  have O:j.natAbs<2 ^ 4096:=by
   have a:=hc.1;have b:=hc.2;lia
  have:=(Uc J).mpr O;lia
theorem U5:bB X (Eh .Mult) (λx y H Q=>∃z n,x=.str z/\y=.int n/\↥z<=16/\-(2 ^ 63)<=n/\n<=1048576/\Q (.str (Iu z n)) H):=by
 intro af s Z H x y v u Q I G P h;let⟨z,n,rfl,rfl,O,L,h3,q⟩:=h;let⟨t,rfl⟩:=G;let⟨t',rfl⟩:=P;exact SB.mul (mulOk_of 16 1048576 O h3 L ∅ ∅) λt' k=>⟨.str _,H,I.tok _,⟨_,rfl⟩,q⟩
theorem U6:e8 X "str.upper" (λx vs H Q=>∃z,x=.str z/\vs=[]/\↥z<=5592405/\Q (.str (Rp z)) H):=by
 intro af s Z H x xs v us Q I G U h;let⟨z,rfl,rfl,hz,q⟩:=h;let⟨t,rfl⟩:=G;have:=U.zero;subst this;exact SC.upper (fit_upper hz) ⟨.str _,H,I.tok _,⟨_,rfl⟩,q⟩
theorem U7:e8 X "str.partition" (λx vs H Q=>∃z y,x=.str z/\vs=[.str y]/\(↥y==0)=ac/\↥z<=Au/\
  ∀p,H p=ae->Q (.ref p) (aL H p (.tup [.str (Dj z y).1,.str (Dj z y).2.1,.str (Dj z y).2.2]))):=by
 intro af s Z H x xs v us Q I G U h;let⟨z,y,rfl,rfl,K,hz,q⟩:=h;let⟨t,rfl⟩:=G;let⟨u,rfl,ru⟩:=U.one;let⟨t',rfl⟩:=ru;refine Kf F.slot_str_partition (Vh _ _ _) F.entry_str_partition (F.args_str_partition_2 _ _) (meets_str_partition z y t t' K hz) ?_;have A:=q ⇑s (I.hok.fresh (Ai _));have fin:∀(a b c:Av) (d f g:Uu) (tk:Nat),Q (.ref ⇑s) (aL H ⇑s (.tup [.str a,.str b,.str c]))->
   EP X af Z Q (.ref ⇑s) {s with toks:=tk,heap:=s.heap.push {cls:=.type "tuple",data:=.seq [.str a d,.str b f,.str c g].toArray}}:=λa b c d f g tk k=>
  ⟨.ref ⇑s,_,I.laid (o:=.tup [.str a,.str b,.str c]) (t':=tk) (λb o e=>Af _ e) (Ai _)
   ⟨by show 3<=Au;decide,[.str a d,.str b f,.str c g],.cons ⟨_,rfl⟩ (.cons ⟨_,rfl⟩ (.cons ⟨_,rfl⟩ .nil)),⟨_,Az _ rfl,rfl,_,rfl⟩⟩,rfl,k⟩
 unfold Dj at A
 revert A
 cases Jw z y 0 ↥z 1 with
 | nil=>intro A;exact fin _ _ _ _ _ _ _ A
 | cons i r=>intro A;exact fin _ _ _ _ _ _ _ A
theorem all_range{bs:↑Bool}:(Cp ↥bs).all (λi=>bs.getD i ac)=bs.all id:=by
 induction bs with
 | nil=>rfl
 | cons b r E=>
  rw[Bv,List.range_succ_eq_map,Kk,Of,Kk];have:((λi=>(b::r).getD i ac) ∘ Nat.succ)=λi=>r.getD i ac:=by
   funext i;simp[Uz]
  rw[this,E];simp
theorem any_range{bs:↑Bool}:(Cp ↥bs).any (λi=>bs.getD i ac)=bs.any id:=by
 induction bs with
 | nil=>rfl
 | cons b r E=>
  rw[Bv,List.range_succ_eq_map,Fp,Mv,Fp];have:((λi=>(b::r).getD i ac) ∘ Nat.succ)=λi=>r.getD i ac:=by
   funext i;simp[Uz]
  rw[this,E];simp
theorem tP(g:Bool)(hc:X.calm=ab):cR X (.builtin (cond g "any" "all")) (λxs H Q=>∃(p:Am) (bs:↑Bool),xs=[.ref p]/\bN X.K H p (bs.map V.bl)/\Q (.bl (cond g (bs.any id) (bs.all id))) H):=by
 cases g
 all_goals
  intro af s Z H xs us Q I r h;let⟨p,bs,rfl,N,q⟩:=h;let⟨u,rfl,ru⟩:=vals1 r;cases ru;let⟨its,U,pl,hz⟩:=I.list N;have Y:p<⇑s:=by let⟨_,e,_⟩:=pl.isList;exact Bd e
  first
   | refine call_all_walk (Ly pl.isList ?_)
   | refine call_any_walk (Ly pl.isList ?_)
  have D:X.A.in1.handled=ae:=I.ok.hd hc;refine⟨⇑s,[⇑s,p],[⇑s],its.toArray.size,(λi v=>its.toArray[i]? = aa v),_,(λi=>bs.getD i ac),rfl,Ua D ⇑s p (Bn Y) its.toArray,
   ⟨⟨_,Az _ rfl,rfl,rfl⟩,pl.isList.push _⟩,?_,λh' tk hk=>?_⟩
  .intro i v j d l c a;have k:its[i]? = aa v:=by simpa using c
   have hi:i<↥its:=(An.mp k).1;have hl:=↥U;rw[Ab]at hl;have S:bs[i]? = aa (bs.getD i ac):=by
    have f:i<↥bs:=by lia
    simp[Uz,Bg f]
   let⟨u,W,ru⟩:=U.get (i:=i) (x:=.bl (bs.getD i ac)) (by rw[Ay,S];rfl);rw[k]at W;cases W;cases (show v=Value.bool (bs.getD i ac) from ru);exact Ah a
  .have hl:=↥U;rw[Ab]at hl;rw[Bi,<-hl]
   first
    | rw[all_range]
    | rw[any_range]
   first
    | refine⟨.bl (bs.all id),H,?_,rfl,q⟩
    | refine⟨.bl (bs.any id),H,?_,rfl,q⟩
   exact I.kept (t':=tk) λb o T=>hk b o (λz=>by
    have:b=⇑s:=by simpa using z
    exact absurd (Bd T) (by rw[this];exact Km _)) (Af _ T)
theorem U8:cR X (.builtin "isinstance") (λxs H Q=>∃x T t b,xs=[x,.ty T]/\iL X.K H x t/\Kv X.K t (.type T)=aa b/\Q (.bl b) H):=by
 intro af s Z H xs us Q I r h;let⟨x,T,t,b,rfl,ty,e,q⟩:=h;let⟨u,L,rfl,ru,c⟩:=vals2 r;cases (show L=Value.type T from c);exact RK I ru ty e λtk=>⟨.bl b,H,I.tok _,rfl,q⟩
def xT(z:Av):It:=⟨λi _=>i<z.cps.size,λi H x l=>l=H/\∃c,z.cps.toList[i]? = aa c/\x=.str ⟨#[c]⟩,λi _=>z.cps.size<=i⟩
theorem DQ{P:Be}{w:Br}{K:Ac}{x:Av}{G:Hv}(z:Av)(it:Am)(ty:String)(a:Uu)(nx:∀(A:Cw) (s:Ak) (i c:Nat) (Q:Option Ae->Ak->Prop) (E:Ae->Ak->Prop),s.heap.IsStrIter it ty z a i->z.cps[i]? = aa c->
   (∀h',h'.IsStrIter it ty z a (i+1)->Ek it s.heap h'->Q (aa (.str ⟨#[c]⟩ s.toks)) {s with heap:=h',toks:=s.toks+1})->Bm (De P w) A (Hy (.ref it)) Q E s)(en:∀(A:Cw) (s:Ak) (i:Nat) (Q:Option Ae->Ak->Prop) (E:Ae->Ak->Prop),A.handled=ae->s.heap.IsStrIter it ty z a i->z.cps[i]? = ae->
   (∀h',Ph it s.heap h'->Q ae {s with heap:=h'})->Bm (De P w) A (Hy (.ref it)) Q E s)(d:∀(A:Cw) (i:Nat) (s:Ak) (Q:Ae->Ak->Prop) (E:Ae->Ak->Prop),s.heap.IsStrIter it ty z a i->Q (.ref it) s->Bm (De P w) A (Rn (.ref it)) Q E s):
  i0 P w K (.Name x G) (xT z) [it] it (λi h=>h.IsStrIter it ty z a i) where
 mem:=by simp
 obj:=λi h st b Y=>by
  have e:b=it:=by simpa using Y
  subst e;let⟨o,f,_,hd⟩:=st;exact⟨o,f,λv q=>by rw[hd]at q;cases q⟩
 keep:=λi h h' st k=>by
  let⟨o,f,r⟩:=st;exact⟨o,k it (by simp) o f,r⟩
 item:=by
  intro X R hw n hc i af s Z H E I hf st hg;subst R hw n;let⟨f0,C,O,L,j,S⟩:=hf it (by simp);have hi:z.cps[i]? = aa z.cps[i]:=Array.getElem?_eq_getElem hg;refine nx X.A s i _ _ _ st hi λh' m sb=>?_;have M:Inv X af Z H {s with heap:=h',toks:=s.toks+1}:=I.turned (λb o Y e=>(sb.2 b Y).trans e) f0 C L j S;exact⟨_,rfl,Ah ⟨.str ⟨#[z.cps[i]]⟩,H,M,⟨_,rfl⟩,⟨rfl,z.cps[i],by rw[Fd];exact hi,rfl⟩,m,λb Y=>(hf b Y).1⟩⟩
 done:=by
  intro X R hw n hc i af s Z H E I hf st hg;subst R hw n;let⟨f0,C,O,L,j,S⟩:=hf it (by simp);have g:z.cps.size<=i:=hg;exact en X.A s i _ _ (I.ok.hd hc) st (Array.getElem?_eq_none g) λh' T=>⟨rfl,I.turned (t':=s.toks) (λb o Y e=>T b o Y e) f0 C L j S⟩
 self:=d
theorem DR{E:Ae->Ak->Prop}(S:l≠it):∀(n i:Nat) (s:Ak) (Q:↑Ae->Ak->Prop),s.heap.IsListIter it l i->s.heap.IsList l items->i+n<=items.size->
  (∀h',h'.IsListIter it l (i+n)->Ek it s.heap h'->Q ((items.toList.drop i).take n) {s with heap:=h'})->Bm (De prog w) A (draw (.ref it) n) Q E s
 | 0,i,s,Q,p,_,_,H=>by
  show Bm _ _ (pure []) Q E s;exact Ah (by simpa using H s.heap p (Heap.SameBut.refl ..))
 | n+1,i,s,Q,p,ht,r,H=>by
  have Y:i<items.size:=by lia
  show Bm _ _ (Hy (.ref it)>>=_) Q E s;refine Aa (wpAny_pyNext_list_item p ht (x:=items[i]) (by simp[Y]) λv d c=>?_);refine Aa (Dq (DR S n (i+1) _ _ d (ht.extBut c.extBut S) (by lia) λk a b=>Ah ?_));have hd:items.toList.drop i=items[i]::items.toList.drop (i+1):=by simp[Fw,Y]
  have:=H k (by rw[show i+(n+1)=i+1+n by lia];exact a) (c.trans b);rw[hd,List.take_succ_cons]at this;exact this
theorem U9{prog:Be}{w:Br}{A:Cw}{E:Ae->Ak->Prop}{s:Ak}{t:Am}{items:Array Ae}{a:↑(Bool×(Ae->Sx Unit))}{Q:Unit->Ak->Prop}(hh:A.handled=ae)(ht:s.heap.IsList t items)(hn:↥a=items.size)(g:a.findIdx? (·.1)=ae)(h:∀h',Ph ⇑s s.heap h'->Bm (De prog w) A (assignInOrder (a.map (·.2)) items.toList) Q E {s with heap:=h'}):
  Bm (De prog w) A (unpack (.ref t) a) Q E s:=by
 have Y:t≠⇑s:=by let⟨o,f,_⟩:=ht;exact Bn (Bd f)
 unfold unpack;rw[hn,g];refine Aa (Dq ?_);unfold unpackItems;refine Aa ?_;unfold notIterableAtAll;refine Aa (Gu ht.typeIs F.slot_list_iter.lookup ?_);refine Ah ?_;simp only[Fm,if_false];refine Aa (Dq (Ly ht ?_));refine Aa (Dq (DR Y items.size 0 _ _ ⟨_,Az _ rfl,rfl,rfl⟩ (ht.push _) (by lia) λv d c=>?_));have L:List.take items.size (List.drop 0 items.toList)=items.toList:=by
  rw[List.drop_zero];exact Oe (by simp)
 rw[L];rw[Vy (by simp)];have i:v.IsList t items:=(ht.push _).extBut c.extBut Y;refine Aa (Dq (wpAny_pyNext_list_end hh d i (by simp) λk j=>?_));simp only[Option.isSome_none,Fm,if_false];refine Ah (h k λb o Z e=>j b o Z (c.extBut b o Z (Af _ e)))
def VA(K:Ac)(n:Nat)(t:jT):TG:=λv Z H Q=>∃a xs,v=.ref a/\bN K H a xs/\↥xs=n/\t xs Z H Q
theorem DS{k:Nat}{n:Nat}(hc:X.calm=ab)(h:iZ X es t)(hn:↥(Ih es X.env)=n:=by rfl)(y:(Ih es X.env).findIdx? (·.1)=ae:=by rfl):PG X (.Tuple es k pos) (VA X.K n t):=by
 intro af s Z H v u Q I r hw;let⟨a,xs,D,N,hl,hw⟩:=hw;subst D;cases r;let⟨its,U,ht,hz⟩:=I.list N;rw[PyProof.Rows.assign_Tuple];refine Aa (Rf (U9 (I.ok.hd hc) ht.isList (by simp[hn,<-hl,↥U]) y λh' J=>?_));have M:Inv X af Z H {s with heap:=h'}:=I.kept (t':=s.toks) λb o e=>J b o (Bn (Bd e)) e;exact h af _ Z H xs _ Q M (by simpa using U) hw
end
abbrev gH:Av:="ABCDEFGHIJKLMNOPQRSTUVWXYZ"
abbrev mP:Av:="0123456789"
abbrev kJ:Av:="abcdefghijklmnopqrstuvwxyz"
def cs(z:Av):↑Nat:=z.cps.toList
def lH(z g:Av):Bool:=(!decide (V.str z=V.str ""))&&(cs z).all λc=>decide (c∈cs g)
noncomputable def bV(z:Av):Bool:=(decide (V.str (Dj z "_").2.1=V.str "")||lH (Dj z "_").2.2 mP)&&lH (Dj z "_").1 gH
theorem xU(h:cs x=cs y):x=y:=by
 let⟨x⟩:=x;let⟨y⟩:=y;exact congrArg Str.mk (Array.toList_inj.mp h)
theorem qQ(x:Av):↥(cs x)=↥x:=by unfold cs Str.length;simp
theorem oY(x y:Av):cs (x++y)=cs x++cs y:=by
 show(x.cps++y.cps).toList=_;rw[Pq];rfl
theorem DT:cs "" = []:=by decide +kernel
theorem DU(z:Av):decide (V.str z=V.str "")=decide (cs z=[]):=by
 by_cases h:z = ""
 .subst h;simp[DT]
 .rw[We (λe=>h (V.str.inj e)),We];intro e;exact h (xU (e.trans DT.symm))
theorem qR(z g:Av):lH z g=(!decide (cs z=[])&&(cs z).all λc=>decide (c∈cs g)):=by unfold lH;rw[DU]
theorem DV:("_" : Av)=⟨#[95]⟩:=by decide +kernel
theorem DW:cs "_" = [95]:=by decide +kernel
theorem DX(h:95∉cs z):Dj z "_" = (z,Rq,Rq):=by
 rw[DV];rcases partition_whole z ⟨#[95]⟩ with⟨e,_⟩|⟨i,_,hi,_⟩
 .exact e
 .exact absurd ((mem_iff_at z 95).mpr ⟨i,hi⟩) h
theorem DY(z:Av)(i j:Nat):cs (Ow z i j)=((cs z).drop i).take (j-i):=by
 show(z.cps.extract i j).toList=_;rw[Array.toList_extract];rfl
theorem VB(e:cs z=cs a++95::cs b)(h:95∉cs a):Dj z "_" = (a,("_" : Av),b):=by
 have hz:↥z=↥(cs a)+1+↥(cs b):=by
  rw[<-qQ,e,Aj,Bv];lia
 rw[DV];rcases partition_whole z ⟨#[95]⟩ with⟨_,hn⟩|⟨i,G,hi,hn⟩
 .have S:95∈cs z:=by rw[e];simp
  let⟨j,hj⟩:=(mem_iff_at z 95).mp S;exact absurd hj (hn j)
 .have O:(cs z)[i]? = aa 95:=(StrLaws.subAt_one z 95 i).mp hi;have L:∀k,k<i->(cs z)[k]?≠aa 95:=λk hk q=>hn k hk ((StrLaws.subAt_one z 95 k).mpr q);have f:i=↥(cs a):=by
   rcases Nat.lt_trichotomy i ↥(cs a) with q|q|q
   .rw[e,Ng q]at O;exact absurd (Ao O) h
   .exact q
   .refine absurd ?_ (L ↥(cs a) q);rw[e,Hx (Ai _)];simp
  rw[G];have B:Ow z 0 i=a:=by
   apply xU;rw[DY,List.drop_zero,e,f,Ts,Rt];rfl
  have T:Ow z (i+↥(⟨#[95]⟩:Av)) ↥z=b:=by
   apply xU;have E:↥(⟨#[95]⟩:Av)=1:=rfl;rw[DY,E,e,f,hz];have d:(cs a++95::cs b).drop (↥(cs a)+1)=cs b:=by
    rw[Rl];simp
   rw[d];have:↥(cs a)+1+↥(cs b)-(↥(cs a)+1)=↥(cs b):=by lia
   rw[this,Bw]
  rw[B,T]
theorem VC(J:cs z≠[])(h:∀c∈cs z,c∈cs gH):bV z=ab:=by
 have d:95∉cs z:=λm=>absurd (h _ m) (by decide +kernel);unfold bV;rw[DX d];dsimp only;rw[DU];have e:cs Rq=[]:=by decide +kernel
 simp only[e,decide_true,Bool.true_or,Su];rw[qR,We J,Gy.mpr λc hc=>Wc (h c hc)];rfl
theorem VD(e:cs z=cs a++95::cs b)(J:cs a≠[])(h:∀c∈cs a,c∈cs gH)(O:cs b≠[])(L:∀c∈cs b,c∈cs mP):bV z=ab:=by
 have d:95∉cs a:=λm=>absurd (h _ m) (by decide +kernel);unfold bV;rw[VB e d,qR,qR];rw[We J,Gy.mpr λc hc=>Wc (h c hc),We O,Gy.mpr λc hc=>Wc (L c hc)];simp
theorem xV(J:cs z≠[])(h:∀c∈cs z,c∈cs kJ):bV z=ac:=by
 have d:95∉cs z:=λm=>absurd (h _ m) (by decide +kernel);unfold bV;rw[DX d,qR,qR];have hh:((cs z).all λc=>decide (c∈cs gH))=ac:=by
  cases hz:cs z with
  | nil=>exact absurd hz J
  | cons c r=>
   have hc:c∈cs kJ:=h c (by rw[hz];simp);have hn:c∉cs gH:=by
    have key:∀c∈cs kJ,c∉cs gH:=by decide +kernel
    exact key c hc
   rw[Kk,We hn,Pk]
 rw[hh];simp
theorem DZ{m:Nat}:(∀c∈cs (Bz (toString ((m:Nat):Int))),c∈cs mP)/\cs (Bz (toString ((m:Nat):Int)))≠[]:=by
 have e:=PySem.W.KIN.signs_num m;have e:cs (Bz (toString ((m:Nat):Int)))=(Ij 10 m).map Uk:=e;constructor
 .intro c hc;rw[e]at hc;let⟨ch,hch,rfl⟩:=Ar.mp hc;have hd:ch.isDigit=ab:=Nat.isDigit_of_mem_toDigits ∅ ∅ hch;have:48<=ch.toNat/\ch.toNat<=57:=by
   unfold Char.isDigit at hd;simp only[Dn,decide_eq_true_eq]at hd;exact⟨hd.1,hd.2⟩
  have key:∀k,48<=k->k<=57->k∈cs mP:=by
   intro k h1 h2;have:k=48\/k=49\/k=50\/k=51\/k=52\/k=53\/k=54\/k=55\/k=56\/k=57:=by lia
   rcases this with h|h|h|h|h|h|h|h|h|h<;>subst h<;>decide +kernel
  exact key _ this.1 this.2
 .rw[e];intro z;have:Ij 10 m=[]:=Py.mp z;have hl:0<↥(Ij 10 m):=by
   by_cases h:m<10
   .rw[Nz h];simp
   .have hm:m % 10<10:=Nat.mod_lt m ∅;have t:Ij 10 (m/10)++Ij 10 (m % 10)=Ij 10 (10*(m/10)+m % 10):=Nat.toDigits_append_toDigits ∅ (by lia) hm;rw[Nat.div_add_mod]at t;rw[<-t,Nz hm];simp
  rw[this]at hl;exact absurd hl (by simp)
def Below(d s:Int):Prop:=0<=d/\d<s
abbrev Drawn:↑Int->↑Int->Prop:=Fz Below
theorem VE{a k:Int}(J:0<=a)(O:a<10 ^ 40)(L:0<=k)(h3:k<=1000):(a*48271+3 ^ 60*(k+1)*(k+1)+k).natAbs<2 ^ 200:=by
 have P:(3:Int) ^ 60=42391158275216203514294433201:=by decide
 have D:(10:Int) ^ 40=10000000000000000000000000000000000000000:=by decide
 have T:(2:Nat) ^ 200=1606938044258990275541962092341162602522202993782792835301376:=by decide
 rw[P,T];rw[D]at O;have m1:(k+1)*(k+1)<=1001*1001:=Int.mul_le_mul (by lia) (by lia) (by lia) (by lia);have m0:0<=(k+1)*(k+1):=Int.mul_nonneg (by lia) (by lia);rw[Int.mul_assoc];generalize (k+1)*(k+1)=q at m1 m0;lia
theorem D0{i j:Int}{m n:Nat}(hi:i.natAbs<2 ^ m)(hj:j.natAbs<2 ^ n):(i*j).natAbs<2 ^ (m+n):=by
 rw[Int.natAbs_mul,Nat.pow_add];exact Nat.mul_lt_mul'' hi hj
theorem VF{i j:Int}{m:Nat}(hi:i.natAbs<2 ^ m)(hj:j.natAbs<2 ^ m):(i+j).natAbs<2 ^ (m+1):=by
 rw[Nat.pow_succ,Nat.mul_two];exact Gh (Int.natAbs_add_le i j) (Nat.add_lt_add hi hj)
theorem tQ{i:Nat}{m n:Nat}(h:i<2 ^ m)(S:m<=n):i<2 ^ n:=Cb h (Jt ∅ S)
section
variable {X:Cx}
def D4(d:Nx):Prop:=d.canLay0=ab/\d.depth<=60
theorem oZ:∀{xs:↑V} {us:↑Ae},↥xs=↥us->(∀(j:Nat) (u:Ae),us[j]? = aa u->∃x,xs[j]? = aa x/\RelV x u)->a5 xs us
 | [],[],_,_=>.nil
 | [],_::_,h,_=>by simp at h
 | _::_,[],h,_=>by simp at h
 | x::xs,u::us,h,k=>by
  let⟨y,e,r⟩:=k 0 u rfl;simp at e;subst e;exact .cons r (oZ (by simpa using h) λj v c=>by
   let⟨y,e,r⟩:=k (j+1) v (by simpa using c);exact⟨y,by simpa using e,r⟩)
theorem xW:∀{kvs:↑(aC×V)} {vs:↑(aC×Ae)} {j:Nat} {k:aC} {x:Ae},KV kvs vs->vs[j]? = aa (k,x)->∃v,kvs[j]? = aa (k,v)
 | _,_,_,_,_,.nil,e=>by simp at e
 | _,_,0,_,_,.cons (a:=p) r _,e=>by
  simp at e;subst e;exact⟨p.2,by let⟨a,b⟩:=p;cases r.1;rfl⟩
 | _,_,j+1,k,x,.cons _ t,e=>by
  let⟨v,q⟩:=xW (j:=j) (k:=k) (x:=x) t (by simpa using e);exact⟨v,by simpa using q⟩
theorem tR(h:nO k v=ab):RelV (kV k) v:=by
 rcases kC h with⟨i,t,rfl,rfl⟩|⟨x,t,rfl,rfl⟩
 .exact⟨t,rfl⟩
 .exact⟨t,rfl⟩
theorem VG(hc:X.calm=ab):cR X (.type "list") (λxs H Q=>∃d kvs,xs=[.ref d]/\H d=aa (.dK kvs)/\∀l,H l=ae->Q (.ref l) (aL H l (.lst (kvs.map λg=>kV g.1)))):=by
 intro B s C H xs us Q I r h;let⟨d,kvs,rfl,hd,q⟩:=h;let⟨u,rfl,ru⟩:=vals1 r;cases ru;let⟨hz,S,vs,T,E⟩:=(show b5 X.prog X.w H s.heap d (.dK kvs) from I.hok d _ hd);let⟨ep,m⟩:=E.dictAt;have hl:=↥T;refine PySem.W.kdl_call (PySem.W.kdl_dict (knd:=bU X.prog X.w) (kvs:=vs) (ep:=ep) S) (I.ok.hd hc) m (by rw[<-hl];exact hz) λh' tk f Y hk M N=>?_;refine⟨.ref ⇑s,_,I.laid (o:=.lst (kvs.map λg=>kV g.1)) (t':=tk) hk (Ai _) ⟨by rw[Ab];exact hz,f.toList,Y,?_,by rw[He];exact M⟩,rfl,q _ (I.hok.fresh (Ai _))⟩;refine oZ (by have O:=N.1;have L:↥f.toList=f.size:=Ey;have h3:↥(kvs.map λg=>kV g.1)=↥kvs:=Ab ..;lia) λj v c=>?_;let⟨k,x,J,a⟩:=N.2 j v (by rw[<-Fd];exact c);let⟨y,K⟩:=xW T J;exact⟨kV k,by rw[Ay,K];rfl,tR a⟩
theorem D5{n:Nat}(i:Nat)(h:i≠0):n+i≠n:=by lia
theorem gJ{n a:Nat}(i:Nat)(h:a<n):a≠n+i:=by lia
theorem qS{n a:Nat}(h:a<n):a≠n:=by lia
theorem D6{n:Nat}(i:Nat):n<=n+i:=by lia
theorem D7:Cu "zip" = aa (.type "zip"):=by decide +kernel
end
section
variable {X:Cx}
def xX(K:Ac)(a:Am)(xs:↑V):It:=
 ⟨λi H=>bN K H a xs/\i<↥xs,
   λi H x l=>∃p u,xs[i]? = aa u/\H p=ae/\x=.ref p/\l=aL H p (.tup [.int (i:Nat),u]),
   λi H=>bN K H a xs/\↥xs<=i⟩
theorem Inv.laidT{B:Pn}{C:St}{H:Hp}{s:Ak}{fp:↑Am}{d:Du}{tk:Nat}{xs:↑V}{its:↑Ae}(I:Inv X B C H s)(hf:∀b∈fp,gU X B H b)(j:∀q o,q∉fp->s.heap.get? q=aa o->d.get? q=aa o)(hz:↥xs<=Au)(U:a5 xs its)(l:d.get? ⇑s=aa {cls:=.type "tuple",data:=.seq its.toArray}):
  Inv X B C (aL H ⇑s (.tup xs)) {s with heap:=d,toks:=tk}:=by
 have y:H ⇑s=ae:=I.hok.fresh (Ai _);have A:∀q∈fp,H q=ae:=λq N=>(hf q N).1;refine I.step (g':=s.gens) (d':=s.drawn) (t':=tk) (ch:=fp) (λq N=>⟨(hf q N).2.2.2.1,(hf q N).2.1,(hf q N).2.2.2.2.1,(hf q N).2.2.2.2.2⟩)
  (λq o _ _ hc e _=>j q o hc e) (λq o _ _ hc e _=>⟨o.slots,j q o hc e⟩) (λq o _ e n=>by rw[bD (Bn (Bd e))];exact n)
  (λq o hc e=>⟨o,j q o hc e⟩) (λq g e=>by rw[bD (eO e y)];exact e) (λq o g e=>by rw[bD (eO e y)];exact e) (λq ps e=>⟨#[],by rw[bD (eO e y),e];simp⟩) (λm S=>?_) ?_ I.bare
 .let⟨o,es,ep,f,r⟩:=S;exact⟨o,es,ep,j _ o (λz=>absurd rfl (hf _ z).2.1) f,r⟩
 .intro q o e
  by_cases N:q=⇑s
  .subst N;rw[b8]at e;cases e;exact⟨hz,its,U,⟨_,l,rfl,_,rfl⟩⟩
  .rw[bD N]at e;refine(I.hok q o e).stay (λt L ht k=>j t L (λz=>?_) k) (λt k=>by rw[bD (eO k y)];exact k) λt g k=>by rw[bD (eO k y)];exact k
   have G:=A t z;rcases ht with rfl|ht
   .rw[G]at e;cases e
   .rw[G]at ht;cases ht
theorem Inv.turnedT{B:Pn}{C:St}{H:Hp}{s:Ak}{fp:↑Am}{d:Du}{tk:Nat}(I:Inv X B C H s)(hf:∀b∈fp,gU X B H b)(j:∀q o,q∉fp->s.heap.get? q=aa o->d.get? q=aa o):Inv X B C H {s with heap:=d,toks:=tk}:=by
 have A:∀q∈fp,H q=ae:=λq N=>(hf q N).1;refine I.step (g':=s.gens) (d':=s.drawn) (t':=tk) (ch:=fp) (λq N=>⟨(hf q N).2.2.2.1,(hf q N).2.1,(hf q N).2.2.2.2.1,(hf q N).2.2.2.2.2⟩)
   (λq o _ _ hc e _=>j q o hc e) (λq o _ _ hc e _=>⟨o.slots,j q o hc e⟩) (λq o _ e n=>n)
   (λq o hc e=>⟨o,j q o hc e⟩) (λq g e=>e) (λq o g e=>e) (λq ps e=>⟨#[],by rw[e];simp⟩) (λm S=>?_) ?_ I.bare
 .let⟨o,es,ep,f,r⟩:=S;exact⟨o,es,ep,j _ o (λz=>absurd rfl (hf _ z).2.1) f,r⟩
 .intro q o e;refine(I.hok q o e).stay (λt L ht k=>j t L (λz=>?_) k) (λt k=>k) λt g k=>k;have G:=A t z;rcases ht with rfl|ht
  .rw[G]at e;cases e
  .rw[G]at ht;cases ht
theorem VH{P:Be}{w:Br}{K:Ac}{es:↑Ck}{kx:Nat}{G:Hv}(a e it:Am)(xs:↑V)(S:e≠it):
  i0 P w K (.Tuple es kx G) (xX K a xs) [e,it] e (λi h=>(∃old,IsEnum h e it (i:Nat) old)/\h.IsListIter it a i) where
 mem:=by simp
 obj:=λi h st c hc=>by
  obtain⟨⟨old,O⟩,⟨n,m,_,L⟩⟩:=st;simp only[Aw,Ew,or_false]at hc;rcases hc with rfl|rfl
  .exact⟨_,O,λv q=>by cases q⟩
  .exact⟨_,m,λv q=>by rw[L]at q;cases q⟩
 keep:=λi h h' st k=>by
  obtain⟨⟨old,O⟩,⟨n,m,t⟩⟩:=st;exact⟨⟨old,k e (by simp) _ O⟩,⟨n,k it (by simp) _ m,t⟩⟩
 item:=by
  intro X R hw Q hc i B s C H E I hf st hg;subst R hw Q;obtain⟨⟨old,O⟩,m⟩:=st;let⟨r,hi⟩:=hg;let⟨its,U,pl,hz⟩:=I.list r;let⟨u,W,ru⟩:=U.get (Bg hi);refine wpAny_pyNext_enum_item O m pl.isList (x:=u) (by simpa using W) S λh' f Z D T hk=>?_;refine⟨_,rfl,wpAny_letOwnedTupleGo_enum f λd g sb=>?_⟩;have y:H ⇑s=ae:=I.hok.fresh (Ai _);have b:e<⇑s:=Bd O;have Y:it<⇑s:=by let⟨_,q,_⟩:=m;exact Bd q
  have j:∀q o,q∉[e,it]->s.heap.get? q=aa o->d.get? q=aa o:=λq o N eq=>by
   simp only[Aw,Ew,or_false,not_or]at N;exact(sb.2 q N.1).trans (hk q o N.1 N.2 eq)
  have l:d.get? ⇑s=aa {cls:=.type "tuple",data:=.seq [.int (i:Nat) s.toks,u].toArray}:=(sb.2 _ (Cq b)).trans D;have M:Inv X B C (aL H ⇑s (.tup [.int (i:Nat),xs[i]])) {s with heap:=d,toks:=s.toks+1}:=I.laidT (its:=[.int (i:Nat) s.toks,u]) hf j (by show 2<=Au;decide) (.cons ⟨_,rfl⟩ (.cons ru .nil)) l;refine⟨.ref ⇑s,_,M,rfl,⟨⇑s,xs[i],Bg hi,y,rfl,rfl⟩,⟨⟨u,by rw[Sf];exact g⟩,Z.extBut sb.extBut S.symm⟩,λq N=>?_⟩;rw[bD]
  .exact(hf q N).1
  .intro eq;subst eq;simp only[Aw,Ew,or_false]at N;rcases N with q|q
   .exact Cq b q
   .exact Cq Y q
 done:=by
  intro X R hw Q hc i B s C H E I hf st hg;subst R hw Q;obtain⟨⟨old,O⟩,m⟩:=st;let⟨r,p⟩:=hg;let⟨its,U,pl,hz⟩:=I.list r;have F:=↥U;refine wpAny_pyNext_enum_end (I.ok.hd hc) O m pl.isList (by simp;lia) λh' hk=>⟨rfl,?_⟩
  exact I.turnedT (tk:=s.toks) hf λq o N eq=>hk q o (λz=>N (by simp[z])) eq
 self:=λ_ _ _ _ _ st h=>by
  obtain⟨⟨old,O⟩,_⟩:=st;exact Od O h
def VI(K:Ac)(d:TA):TI:=λC H R=>d C H λvs j=>∃a xs,vs=[.ref a]/\bN K j a xs/\R (xX K a xs) j
theorem VJ{a:Ck}{d:TA}{p pos:Hv}{es:↑Ck}{kx:Nat}{G:Hv}(hg:Gl X "enumerate")(S:X.mg "enumerate" = ae)(m:PA X [a] d)(F:Ci [a] X.env=[(ac,Ef a X.env)]:=by rfl):
  PI X (.Tuple es kx G) (.Call (.Name "enumerate" p) [a] [] pos) (VI X.K d):=by
 intro B s C H R I h;refine Vr (gE I hg S boot_enumerate (Cd (aZ (m pos B s C H _ I h) λus U A=>?_) F rfl));let⟨vs,j,M,l,g⟩:=A;let⟨a,xs,rfl,r,q⟩:=g;let⟨u,rfl,ru⟩:=vals1 l;cases ru;let⟨its,n,pl,hz⟩:=M.list r;refine call_enumerate_list pl.isList λh' W P f k=>?_;refine Od W ?_;refine⟨⇑U+1,[⇑U+1,⇑U],_,_,j,rfl,M.kept (t':=U.toks) k,VH a _ _ xs (D5 1 ∅),⟨⟨_,W⟩,P⟩,λq N=>?_,q⟩;have b:⇑U<=q:=by
  simp only[Aw,Ew,or_false]at N;rcases N with e|e
  .rw[e];exact D6 1
  .rw[e];exact Ai _
 exact M.fpOk b (M.hok.fresh b)
end
section
variable {prog:Be}{w:Br}{A:Cw}{E:Ae->Ak->Prop}{s:Ak}
inductive nW(prog:Be)(w:Br)(hh:Du)(A0:Cw):↑Ae->↑Int->Nat->Prop
 | nil:nW prog w hh A0 [] [] 0
 | cons {v:Ae} {vs:↑Ae} {i:Int} {is:↑Int} {d n:Nat} (h:∀(E:Ae->Ak->Prop) (s:Ak) (Q:Int->Ak->Prop),s.heap=hh->Q i {s with toks:=s.toks+d}->Bm (De prog w) A0 (pyHash v) Q E s) (t:nW prog w hh A0 vs is n):nW prog w hh A0 (v::vs) (i::is) (d+n)
theorem VL{a:Am}{o:Ms}{items:Array Ae}{n m:Nat}{is:↑Int}{Q:Int->Ak->Prop}(W:A.units<Fg)(f:s.heap.get? a=aa o)(O:o.cls=.type "tuple")(hd:o.data=.seq items n)(hi:nW prog w s.heap A.in1 items.toList is m)(h:Q (Vj (El is)) {s with toks:=s.toks+(m+1)}):Bm (De prog w) A (pyHash (.ref a)) Q E s:=by
 have I:s.TypeIs (.ref a) "tuple":=⟨o,f,O⟩;unfold pyHash
 first|unfold pyHashByItsType|skip
 first|refine Aa (wpAny_cRoomFor_or (.inr W) ?_)|skip
 refine Aa (Gu I Kh.lookup ?_);rw[Vy (by rw[beq_builtin_none];exact Bc)];refine Aa (Gu I Kh.lookup ?_);refine Aa (wpAny_callSpecialIfBoundUnlessNone?_slot I Kh (Cr Kh I PySem.F.entry_tuple_hash ?_ (PySem.F.args_tuple_hash_1 _)));refine Aa (Ah ?_);refine Aa (Ig f hd ?_);refine Aa ?_;rw[<-Ks];refine Kl _
  (λrest (b:Array Int) j=>∃done left k y,is=done++left/\nW prog w s.heap A.in1 rest left y/\b.toList=done/\j = {s with toks:=s.toks+k}/\k+y=m)
  _ ?_ ?_ _ _ ⟨[],is,0,m,rfl,hi,rfl,rfl,by lia⟩
 .rintro x rest b j ⟨done,left,k,y,rfl,hl,Z,rfl,hk⟩;cases hl with
  | @cons _ _ i c d D J e=>
   refine Aa (J _ _ _ rfl ?_)
   first
    | exact Ah ⟨done++[i],c,k+d,D,by simp,e,by simp[Z],by simp[Kn],by lia⟩
    | exact Aa (Ah (Ah ⟨done++[i],c,k+d,D,by simp,e,by simp[Z],by simp[Kn],by lia⟩))
 .rintro b j ⟨done,left,k,y,rfl,hl,Z,rfl,hk⟩;cases hl;rw[Bs]at h;dsimp only;rw[Z];have u:k=m:=by lia
  subst u;refine wpAny_ret_mkInt ?_;unfold Vj at h
  by_cases T:(decide (-(2:Int) ^ 63<=El done)&&decide (El done<2 ^ 63))=ab
  .rw[Vz T]at h;show Bm _ _ (if (decide (-(2:Int) ^ 63<=El done)&&decide (El done<2 ^ 63))=ab then _ else _) Q E _;rw[Vz T];exact Ah (by simpa [Kn] using h)
  .rw[Vy T]at h;show Bm _ _ (if (decide (-(2:Int) ^ 63<=El done)&&decide (El done<2 ^ 63))=ab then _ else _) Q E _;rw[Vy T];exact Aa (Iv (Ah (by simpa [Kn] using h)))
inductive lI(prog:Be)(w:Br)(hh:Du)(A0:Cw):↑Ae->↑Ae->Bool->Prop
 | nil:lI prog w hh A0 [] [] ab
 | cons {u v:Ae} {us vs:↑Ae} {b c:Bool} (h:∀(E:Ae->Ak->Prop) (s:Ak) (Q:Bool->Ak->Prop),s.heap=hh->Q b s->Bm (De prog w) A0 (eqBool u v) Q E s) (t:lI prog w hh A0 us vs c):lI prog w hh A0 (u::us) (v::vs) (b&&c)
theorem lI.len{b:Bool}(h:lI prog w hh A0 us vs b):↥us=↥vs:=by
 induction h with
 | nil=>rfl
 | cons _ _ E=>simp[E]
theorem VM{H nb:Nat}{r:Bool}{Q:Bool->Ak->Prop}(W:A.units<Fg)(d:s.heap.get? a=aa y)(B:y.cls=.type "tuple")(z:y.data=.seq xs H)(m:s.heap.get? b=aa ob)(C:ob.cls=.type "tuple")(o:ob.data=.seq ys nb)(hi:lI prog w s.heap A.in1 xs.toList ys.toList r)(same:a=b->r=ab)(h:Q r s):Bm (De prog w) A (eqBool (.ref a) (.ref b)) Q E s:=by
 have t:s.TypeIs (.ref a) "tuple":=⟨y,d,B⟩;have x:s.TypeIs (.ref b) "tuple":=⟨ob,m,C⟩;unfold eqBool
 try with_reducible refine Dq ?_
 show Bm _ _ (if (Value.ref a==Value.ref b)=ab then _ else _) Q E s
 by_cases k:(Value.ref a==Value.ref b)=ab
 .rw[Vz k];have e:a=b:=by have:=eq_of_beq k;injection this
  rw[same e]at h;exact Aa (Iv (Ah h))
 .rw[Vy k];refine Aa (Nh (op:=.Eq) t x Lj (Cr Lj t PySem.F.entry_tuple_eq ?_ (PySem.F.args_tuple_eq_2 _ _)) W);show Bm _ _ (Vk (.ref b) (.type "tuple")>>=_) _ _ s;refine Aa (Fx x Js ?_);simp only[Bool.not_true,Fm,if_false];refine Aa (Ig d z ?_);refine Aa (Ig m o ?_);refine Aa ?_;refine Kl _
   (λrest q j=>q.1=ae/\j=s/\∃us vs c,rest=List.zip us vs/\lI prog w s.heap A.in1 us vs c/\c=r)
   _ ?_ ?_ _ _ ⟨rfl,rfl,xs.toList,ys.toList,r,rfl,hi,rfl⟩
  .rintro⟨u,v⟩ rest q j ⟨N,rfl,us,vs,c,hz,Z,rfl⟩;cases Z with
   | nil=>simp at hz
   | @cons M X i p l S J f=>
    simp only[Kt,Fh,Prod.mk.injEq]at hz;obtain⟨⟨rfl,rfl⟩,rfl⟩:=hz;refine Aa (J _ _ _ rfl ?_);cases l with
    | true=>
     simp only[Bool.not_true,Fm,if_false];exact Ah ⟨rfl,rfl,i,p,S,rfl,f,by rw[Su]⟩
    | false=>
     simp only[Bool.not_false,if_true];rw[Pk]at h;exact Aa (Ah (Ah (Ah ⟨_,rfl,(λe=>nomatch e),Hn h⟩)))
  .rintro⟨g,n⟩ j ⟨N,rfl,us,vs,c,hz,Z,rfl⟩;simp only at N;subst N;refine Ah ?_;have hsz:(xs.size==ys.size)=ab:=by
    have:=hi.len;simp at this;simpa using this
   have hc:c=ab:=by
    cases Z with
    | nil=>rfl
    | cons _ _=>simp at hz
   subst hc;refine⟨_,rfl,(λe=>nomatch e),?_⟩;show Bm _ _ (truthOfDropped (.bool (xs.size==ys.size))) Q E _;rw[hsz];exact Hn h
theorem VN{K:Type}[DecidableEq K]{knd:KeyKind prog w K}{m:Nat}{ks:↑K}{a:Am}{Q:Bool->Ak->Prop}(hk:IsTupleKey knd s.heap ks a)(h:Q ab s):Bm (De prog w) A (Vu (m+1) (.ref a)) Q E s:=by
 have I:=hk.typeIs;let⟨o,items,n,f,O,hd,hi⟩:=hk;unfold Vu;refine Aa (Gu I Lj.lookup ?_)
 try dsimp only
 refine Aa (Fx I Js ?_);rw[Vy ∅]
 try dsimp only
 refine Aa (Fe f hd (Aa ?_));show Bm _ _ (forIn items _ _) _ _ _;rw[<-Ks];refine Kl _ (λrest q j=>q.1=ae/\j=s/\∀v∈rest,Tj v=ab) _ ?_ ?_ _ _ ⟨rfl,rfl,hi.byValue⟩
 .rintro v rest q j ⟨N,rfl,L⟩;rw[eqIsQuiet_byValue _ (L v Bl)];refine Aa (Ah ?_);rw[Vy ∅];exact Ah ⟨rfl,rfl,λu b=>L u (Bj _ b)⟩
 .rintro⟨g,B⟩ j ⟨N,rfl,_⟩;simp only at N;subst N;exact Ah h
end
abbrev bQ:=aC×↑aC
section
variable {prog:Be}{w:Br}
def tS(prog:Be)(w:Br)(tl:↑Int)(h:Du)(x:bQ)(a:Am):Prop:=
 ∃o items n v G ts,h.get? a=aa o/\o.cls=.type "tuple"/\o.data=.seq items n/\items.toList=v::.ref G::ts/\(bU prog w).is x.1 v=ab/\IsTupleKey (bU prog w) h x.2 G/\ItemsAre (bU prog w) (tl.map Sum.inl) ts
noncomputable def VO(prog:Be)(w:Br)(tl:↑Int)(x:bQ):Int:=Vj (El ((bU prog w).hash x.1::tupleKeyHash (bU prog w) x.2::tl.map λi=>(bU prog w).hash (Sum.inl i)))
theorem D8:∀{tl:↑Int} {ts:↑Ae},ItemsAre (bU prog w) (tl.map Sum.inl) ts->nW prog w hh A ts (tl.map λi=>(bU prog w).hash (Sum.inl i)) ↥tl
 | [],_,h=>by cases h;exact .nil
 | i::tl,_,h=>by
  cases h with
  | @cons _ v _ vs O t=>
   have:=nW.cons (A0:=A) (hh:=hh) (d:=1) (λE s Q _ q=>(bU prog w).pyHash O q) (D8 t);rw[Bv,Tt];exact this
theorem D9:∀{tl:↑Int} {ts us:↑Ae},ItemsAre (bU prog w) (tl.map Sum.inl) ts->ItemsAre (bU prog w) (tl.map Sum.inl) us->lI prog w hh A ts us ab
 | [],_,_,h,h'=>by cases h;cases h';exact .nil
 | i::tl,_,_,h,h'=>by
  cases h with
  | @cons _ v _ vs O t=>
   cases h' with
   | @cons _ X _ p a t'=>exact lI.cons (b:=ab) (λE s Q _ q=>(bU prog w).eqBool O a (by rw[Wc rfl];exact q)) (D9 t t')
theorem tS.inj(J:tS prog w tl h x a)(K:tS prog w tl h y a):x=y:=by
 let⟨o,items,n,v,G,ts,D,_,P,l,p,H,_⟩:=J;let⟨U,M,R,X,b,c,C,_,L,j,S,d,_⟩:=K;obtain rfl:o=U:=Ct (D.symm.trans C);rw[P]at L;injection L with g1 _;subst g1;rw[l]at j;simp only[Fh,Value.ref.injEq]at j;let⟨rfl,rfl,rfl⟩:=j;exact Pe ((bU prog w).inj _ _ _ p S) (H.inj d)
def jI(prog:Be)(w:Br)(tl:↑Int):HeapKind prog w bQ where
 is:=tS prog w tl
 hash:=VO prog w tl
 draws:=λx=>(1+((↥x.2+1)+↥tl))+1
 room:=λA=>A.units+1<Fg
 inj:=λJ K=>J.inj K
 keeps:=λ{h h' k a d o es ep} x f hd F=>by
  let⟨U,items,n,v,G,ts,D,T,P,l,p,H,e7⟩:=x;have S:a≠d:=by
   rintro rfl;obtain rfl:U=o:=Ct (D.symm.trans f);rw[hd]at P;exact nomatch P
  exact⟨U,items,n,v,G,ts,(F.2 a S).trans D,T,P,l,p,H.keeps f hd F,e7⟩
 pyHash:=λ{A E s k a Q} W hk h=>by
  let⟨o,items,n,v,G,ts,D,T,P,l,p,H,e7⟩:=hk;have hu1:A.in1.units<Fg:=W;refine VL (Lm W) D T P (m:=1+((↥k.2+1)+↥tl)) (is:=(bU prog w).hash k.1::tupleKeyHash (bU prog w) k.2::tl.map λi=>(bU prog w).hash (Sum.inl i)) ?_ h;rw[l];refine .cons (d:=1) (λE j Q' _ q=>(bU prog w).pyHash p q) (.cons (d:=↥k.2+1) (λE j Q' es q=>?_) (D8 e7));exact wpAny_pyHash_tuple hu1 (by rw[es];exact H) q
 eqBool:=λ{A E s x y a b Q} W J K h=>by
  have same:a=b->x=y:=λe=>by subst e;exact J.inj K
  let⟨o,items,n,v,G,ts,D,T,P,l,p,H,e7⟩:=J;let⟨U,M,R,X,pa',ts',C,O,V,t,Y,f6,f7⟩:=K;have hu1:A.in1.units<Fg:=W;have Z:(decide (x.1=y.1)&&(decide (x.2=y.2)&&ab))=decide (x=y):=by
   rw[Bool.and_true,Ee,Dn,decide_eq_true_eq,decide_eq_true_eq,decide_eq_true_eq,Prod.ext_iff]
  refine VM (Lm W) D T P C O V (r:=decide (x.1=y.1)&&(decide (x.2=y.2)&&ab)) ?_ (λe=>by rw[Z,same e];simp) (by rw[Z];exact h);rw[l,t];refine .cons (λE j Q' _ q=>(bU prog w).eqBool p Y q) (.cons (λE j Q' es q=>?_) (D9 e7 f7));exact wpAny_eqBool_tuple hu1 (by rw[es];exact H) (by rw[es];exact f6) q
 quiet:=λ{A E s k a Q} hk h=>by
  let⟨o,items,n,v,G,ts,D,T,P,l,p,H,e7⟩:=hk;have I:s.TypeIs (.ref a) "tuple":=⟨o,D,T⟩;unfold Vu;refine Aa (Gu I Lj.lookup ?_)
  try dsimp only
  refine Aa (Fx I Js ?_);rw[Vy ∅]
  try dsimp only
  refine Aa (Fe D P (Aa ?_));show Bm _ _ (forIn items _ _) _ _ _;rw[<-Ks];refine Kl _ (λrest q j=>q.1=ae/\j=s/\∀u∈rest,Tj u=ab\/u=.ref G) _ ?_ ?_ _ _ ⟨rfl,rfl,λu W=>?_⟩
  .rintro u rest q j ⟨N,rfl,L⟩;have next:∀z∈rest,Tj z=ab\/z=.ref G:=λz hu'=>L z (Bj _ hu');rcases L u Bl with c|rfl
   .rw[eqIsQuiet_byValue _ c];refine Aa (Ah ?_);rw[Vy ∅];exact Ah ⟨rfl,rfl,next⟩
   .refine Aa (VN H ?_);rw[Vy ∅];exact Ah ⟨rfl,rfl,next⟩
  .rintro⟨g,B⟩ j ⟨N,rfl,_⟩;simp only at N;subst N;exact Ah h
  .rw[l]at W;rcases Aw.mp W with rfl|W
   .exact .inl ((bU prog w).byValue _ _ p)
   .rcases Aw.mp W with rfl|W
    .exact .inr rfl
    .exact .inl (e7.byValue u W)
end
section
open PySem.W
section
variable {prog:Be}{w:Br}{A:Cw}{E:Ae->Ak->Prop}{s:Ak}
theorem tT(v:Bool){i ep:Nat}{Q:Option Ae->Ak->Prop}(p:cond v (s.heap.IsValIter it d i es.size ep) (s.heap.IsKeyIter it d i es.size ep))(c:s.heap.get? d=aa j)(C:j.data=.dict es ep)(hi:i<es.size)(H:∀h',cond v (h'.IsValIter it d (i+1) es.size ep) (h'.IsKeyIter it d (i+1) es.size ep)->Ek it s.heap h'->Q (aa (cond v es[i].val es[i].key)) {s with heap:=h'}):Bm (De prog w) A (Hy (.ref it)) Q E s:=by
 cases v
 all_goals
  dsimp only[cond]at p H⊢;have I:=p.typeIs;let⟨o,f,hc,hd⟩:=id p;have g:¬((Value.ref d==Value.none)=ab):=Bc
  first
   | have up:(s.heap.update it (Sz (·.setIfInBounds 1 (Hr ((i:Int)+1))))).IsKeyIter it d (i+1) es.size ep:=
    ⟨_,Gs _ f (Pc (Jb hd _)),(Ra ..).trans hc,by rw[Jb hd];simp[Hr]⟩
   | have up:(s.heap.update it (Sz (·.setIfInBounds 1 (Hr ((i:Int)+1))))).IsValIter it d (i+1) es.size ep:=
    ⟨_,Gs _ f (Pc (Jb hd _)),(Ra ..).trans hc,by rw[Jb hd];simp[Hr]⟩
  have a:=up.typeIs (s:={s with heap:=s.heap.update it (Sz (·.setIfInBounds 1 (Hr ((i:Int)+1))))});unfold Hy
  first
   | refine Aa (Hj (Cy (name:=Bz "__next__") I Ge (Cr Ge I PySem.F.entry_dict_keyiterator_next ?_ (PySem.F.args_dict_keyiterator_next_1 _))))
   | refine Aa (Hj (Cy (name:=Bz "__next__") I Fv (Cr Fv I PySem.F.entry_dict_valueiterator_next ?_ (PySem.F.args_dict_valueiterator_next_1 _))))
  refine Aa (Ah (Aa (Aa ?_)))
  first
   | refine Aa (Jg I (Ah ?_))|refine Aa (Ld I (Ah ?_))
   | refine Aa (Jf I (Ah ?_))|refine Aa (Lc I (Ah ?_))
  refine Aa (wpAny_fieldsOf f hd ?_)
  first
   | rw[show Gp "dict_keyiterator" = ac by decide]
   | rw[show Gp "dict_valueiterator" = ac by decide]
  rw[Vy Bc];show Bm _ _ (if (Value.ref d==Value.none)=ab then _ else _) _ _ _;rw[Vy g];refine Aa (Ah (Aa (Im c C ?_)));rw[Vy (by simp)];refine Aa (Ah (Aa (Pw c C ?_)));rw[Vy (by simp)];refine Ah ?_;simp only[show ¬((i:Int)<0) by lia,if_false,Dl,Array.getElem?_eq_getElem hi];refine Aa ?_
  first
   | refine Aa (Jg I (Ah ?_))|refine Aa (Ld I (Ah ?_))
   | refine Aa (Jf I (Ah ?_))|refine Aa (Lc I (Ah ?_))
  first
   | refine Aa (wpAny_isOneOf_keyiter I ?_)
   | refine Aa (Qc I ?_)
  show Bm _ _ (setField (.ref it) 1 (Hr ((i:Int)+1))>>=_) _ _ _
  first
   | refine Aa (Nr f hd (by simp) (Aa (Dq (Aa (wpAny_isOneOf_keyiter a ?_)))))
   | refine Aa (Nr f hd (by simp) (Aa (Dq (Aa (Qc a (Aa (Qc a ?_)))))))
  first
   | show Bm _ _ (pure es[i].key) _ _ _
   | show Bm _ _ (pure es[i].val) _ _ _
  exact Ah (Ah ⟨_,rfl,Ah (H _ up (Gi ..))⟩)
theorem tU(v:Bool){i ep:Nat}{Q:Option Ae->Ak->Prop}(hh:A.handled=ae)(p:cond v (s.heap.IsValIter it d i es.size ep) (s.heap.IsKeyIter it d i es.size ep))(c:s.heap.get? d=aa j)(C:j.data=.dict es ep)(hi:es.size<=i)(H:∀h',Ph it s.heap h'->Q ae {s with heap:=h'}):Bm (De prog w) A (Hy (.ref it)) Q E s:=by
 cases v
 all_goals
  dsimp only[cond]at p H⊢;have I:=p.typeIs;let⟨o,f,hc,hd⟩:=id p;have g:¬((Value.ref d==Value.none)=ab):=Bc;unfold Hy
  first
   | refine Aa (Hj (Cy (name:=Bz "__next__") I Ge (Cr Ge I PySem.F.entry_dict_keyiterator_next ?_ (PySem.F.args_dict_keyiterator_next_1 _))))
   | refine Aa (Hj (Cy (name:=Bz "__next__") I Fv (Cr Fv I PySem.F.entry_dict_valueiterator_next ?_ (PySem.F.args_dict_valueiterator_next_1 _))))
  refine Aa (Ah (Aa (Aa ?_)))
  first
   | refine Aa (Jg I (Ah ?_))|refine Aa (Ld I (Ah ?_))
   | refine Aa (Jf I (Ah ?_))|refine Aa (Lc I (Ah ?_))
  refine Aa (wpAny_fieldsOf f hd ?_)
  first
   | rw[show Gp "dict_keyiterator" = ac by decide]
   | rw[show Gp "dict_valueiterator" = ac by decide]
  rw[Vy Bc];show Bm _ _ (if (Value.ref d==Value.none)=ab then _ else _) _ _ _;rw[Vy g];refine Aa (Ah (Aa (Im c C ?_)));rw[Vy (by simp)];refine Aa (Ah (Aa (Pw c C ?_)));rw[Vy (by simp)];refine Ah ?_;simp only[show ¬((i:Int)<0) by lia,if_false,Dl,Array.getElem?_eq_none hi];refine Aa ?_
  first
   | refine Aa (Jg I (Ah ?_))|refine Aa (Ld I (Ah ?_))
   | refine Aa (Jf I (Ah ?_))|refine Aa (Lc I (Ah ?_))
  show Bm _ _ (setField (.ref it) 0 .none>>=_) _ _ _;refine Aa (Nr f hd (by simp) ?_);show Bm _ _ (Uo (.type "StopIteration") []>>=_) _ _ _;refine Aa ?_;simp only[Uo,newTuple];refine Aa (Ds (Aa (m:=Lz _ _) (Kd (a:=Value.none) (by first|rfl|(simp only[Lz];rfl)) (Ds ?_ (by size_fits)))) (by size_fits));simp only[raiseNew];refine Aa (Tv ?_);rw[show A.in1.handled=ae from hh];refine Aa (Ah (Va ?_));refine Aa (Fx (T:="StopIteration") (b:=ab) ⟨_,Az _ rfl,rfl⟩ Ql ?_);exact Ah (H _ (((Gi ..).extBut.push _).push _))
theorem VP(hh:A.handled=ae)(I d:Am)(S:d≠I)(es:Array Eg)(ep:Nat):
  Walks prog w A I [I,d] [I] es.size (λi v=>∃e,es[i]? = aa e/\v=e.key) (λi h=>h.IsKeyIter I d i es.size ep/\∃j,h.get? d=aa j/\j.data=.dict es ep) where
 sub:=λb Z=>by simp at Z;simp[Z]
 frame:=λ_ _ _ st hk=>⟨st.1.at λo e=>hk I (by simp) o e,let ⟨j,O,L⟩:=st.2;⟨j,hk d (by simp) j O,L⟩⟩
 item:=λi s Q E hi st H=>by
  let⟨j,O,L⟩:=st.2;refine tT ac st.1 O L hi λh' a u=>?_;exact H _ h' s.toks ⟨es[i],by simp[hi],rfl⟩ ⟨a,j,u.extBut d j S O,L⟩ λb o Z e=>u.extBut b o (λh=>Z (by simp[h])) e
 done:=λs Q E st H=>by
  let⟨j,O,L⟩:=st.2;exact tU ac hh st.1 O L (Ai _) λh' f=>H h' s.toks λb o Z e=>f b o (λh=>Z (by simp[h])) e
 self:=λ_ _ _ _ st H=>Qj st.1 H
theorem VQ(hh:A.handled=ae)(I d:Am)(S:d≠I)(es:Array Eg)(ep:Nat):
  Walks prog w A I [I,d] [I] es.size (λi v=>∃e,es[i]? = aa e/\v=e.val) (λi h=>h.IsValIter I d i es.size ep/\∃j,h.get? d=aa j/\j.data=.dict es ep) where
 sub:=λb Z=>by simp at Z;simp[Z]
 frame:=λ_ _ _ st hk=>⟨st.1.at λo e=>hk I (by simp) o e,let ⟨j,O,L⟩:=st.2;⟨j,hk d (by simp) j O,L⟩⟩
 item:=λi s Q E hi st H=>by
  let⟨j,O,L⟩:=st.2;refine tT ab st.1 O L hi λh' a u=>?_;exact H _ h' s.toks ⟨es[i],by simp[hi],rfl⟩ ⟨a,j,u.extBut d j S O,L⟩ λb o Z e=>u.extBut b o (λh=>Z (by simp[h])) e
 done:=λs Q E st H=>by
  let⟨j,O,L⟩:=st.2;exact tU ab hh st.1 O L (Ai _) λh' f=>H h' s.toks λb o Z e=>f b o (λh=>Z (by simp[h])) e
 self:=λ_ _ _ _ st H=>wpAny_pyIter_valiter st.1 H
def gK(h:Du)(a:Am)(es:Array Eg)(ep:Nat):Prop:=∃o,h.get? a=aa o/\o.ExactDict/\o.data=.dict es ep
theorem gK.typeIs{ep:Nat}(h:gK s.heap d es ep):s.TypeIs (.ref d) "dict":=let ⟨o,ho,hc,_⟩:=h;⟨o,ho,hc.1⟩
theorem gK.at{ep:Nat}(x:gK h d es ep)(e:∀o,h.get? d=aa o->h'.get? d=aa o):gK h' d es ep:=let ⟨o,ho,r⟩:=x;⟨o,e o ho,r⟩
theorem gK.lt{ep:Nat}(x:gK h d es ep):d<h.objs.size:=let ⟨_,ho,_⟩:=x;Bd ho
theorem tV{d:Am}{es:Array Eg}{ep:Nat}{Q:Ae->Ak->Prop}(hd:(d==Fu)=ac)(S:gK s.heap d es ep)(H:Q (.ref ⇑s) {s with heap:=s.heap.push {cls:=.type "dict_keyiterator",data:=.fields #[.ref d,.int 0 0,.int es.size 0,.int ep 0]}}):Bm (De prog w) A (Rn (.ref d)) Q E s:=by
 have I:=S.typeIs;let⟨o,f,hc,a⟩:=S;refine Rx I PySem.F.slot_dict_iter (Cr PySem.F.slot_dict_iter I PySem.F.entry_dict_iter ?_ (PySem.F.args_dict_iter_1 _));unfold Ha.«dict.__iter__»;refine Aa ?_;unfold Builtin.Dict.dictSlotNone;refine Aa (Hc I (Ah ?_));show Bm _ _ (Kr d>>=_) _ _ _;unfold Kr;rw[Vy (by rw[hd];exact Bc)];refine Aa (Ah (Aa (Im f a (Aa (Pw f a ?_)))));refine Aa (Ds (Ah ⟨_,rfl,"dict_keyiterator",_,⟨_,Az _ rfl,rfl⟩,Ge.lookup,?_⟩));simpa [Hr] using H
theorem VR{ep:Nat}{Q:Ae->Ak->Prop}(c:s.heap.IsValuesView v d)(S:gK s.heap d es ep)(H:Q (.ref ⇑s) {s with heap:=s.heap.push {cls:=.type "dict_valueiterator",data:=.fields #[.ref d,.int 0 0,.int es.size 0,.int ep 0]}}):Bm (De prog w) A (Rn (.ref v)) Q E s:=by
 have I:=c.typeIs;let⟨p,b,g,e⟩:=id c;let⟨o,f,hc,a⟩:=S;refine Rx I PySem.F.slot_dict_values_iter (Cr PySem.F.slot_dict_values_iter I PySem.F.entry_dict_values_iter ?_ (PySem.F.args_dict_values_iter_1 _));unfold Ha.«dict_values.__iter__»;refine Aa (Ah (Aa ?_));unfold Builtin.Dict_items.dictOf;refine Aa (Dv b e (x:=.ref d) rfl (Ah (Aa ?_)));unfold Builtin.Dict_items.newIterator;refine Aa (Im f a (Aa (Pw f a ?_)));simp only[show Gp "dict_valueiterator" = ac by decide,Fm,if_false];refine Ds (Ah ⟨_,rfl,"dict_valueiterator",_,⟨_,Az _ rfl,rfl⟩,Fv.lookup,?_⟩);simpa [Hr] using H
theorem EA{ep:Nat}(lo:(d==Fu)=ac):KdlSrc prog w "dict" d d es.size (λi v=>∃e,es[i]? = aa e/\v=e.key) (λh=>gK h d es ep) where
 type:=λ_ S=>S.typeIs
 there:=λ_ S=>⟨S.lt,S.lt⟩
 keep:=λ_ _ S hk=>S.at λo e=>hk d (.inl rfl) o e
 notList:=by decide
 notTuple:=by decide
 hint:=λ_ _ _ _ S N=>kdl_hint_dict S.typeIs N
 iter:=λ_ _ hh S=>⟨_,_,(λ_ _ N=>tV lo S N),VP hh _ d (Bn S.lt) es ep,⟨⟨_,Az _ rfl,rfl,rfl⟩,let ⟨o,ho,_,hd⟩:=S;⟨o,Af _ ho,hd⟩⟩⟩
theorem VS{ep:Nat}:KdlSrc prog w "dict_values" r d es.size (λi v=>∃e,es[i]? = aa e/\v=e.val) (λh=>h.IsValuesView r d/\gK h d es ep) where
 type:=λ_ S=>S.1.typeIs
 there:=λ_ S=>⟨let ⟨_,ho,_⟩:=S.1;Bd ho,S.2.lt⟩
 keep:=λ_ _ S hk=>⟨let ⟨o,ho,x⟩:=S.1;⟨o,hk r (.inl rfl) o ho,x⟩,S.2.at λo e=>hk d (.inr rfl) o e⟩
 notList:=by decide
 notTuple:=by decide
 hint:=λ_ _ _ _ S N=>kdl_hint_values S.1.typeIs N
 iter:=λ_ _ hh S=>⟨_,_,(λ_ _ N=>VR S.1 S.2 N),VQ hh _ d (Bn S.2.lt) es ep,⟨⟨_,Az _ rfl,rfl,rfl⟩,let ⟨o,ho,_,hd⟩:=S.2;⟨o,Af _ ho,hd⟩⟩⟩
end
end
end L2
namespace PySem
namespace Rv
open L2
theorem VT:TypeCalled "reversed" "reversed.__new__" "object.__init__":=
 ⟨by decide +kernel,by decide +kernel,⟨_,_,F.mro_reversed⟩,madeBy_type F.mro_reversed F.lookup_reversed_new (by decide +kernel),by decide +kernel,F.sub_reversed_self,
  .of (owner:="object") (n:="__init__") (by rw[Hq,Fi];kernel_rfl) (by decide +kernel) (by decide +kernel) (by decide +kernel) (by first|exact .inl (by decide +kernel)|exact .inr (by decide +kernel)) (by rw[Nt];kernel_rfl)⟩
theorem VU:Mf (.type "tuple") "__reversed__" = pure ae:=by rw[Hq,Fi];kernel_rfl
def rvObj(t:Am)(i:Int):Ms:={cls:=.type "reversed",data:=.fields #[.ref t,Hr i]}
theorem VW(t:Am)(items:Array Ae):
  Meets (Ha.«reversed.__new__» ⟨[.type "reversed",.ref t],[]⟩) (λ_ R s=>s.heap.IsTuple t items/\items.size<=Au/\
   ∀n,R (.ok (.ret (.ref ⇑s))) {s with toks:=n,heap:=s.heap.push (rvObj t ((items.size:Int)-1))}):=
 .of_wp λprog w A R s h=>by
  let⟨G,g,d,tk,os⟩:=s;let⟨ht,hz,h⟩:=h;have q:=Heap.IsTuple.typeIs (s:=⟨G,g,d,tk,os⟩) ht;unfold Ha.«reversed.__new__»;refine Aa (Kd (newClass_reversed _) (by
   dsimp only;refine Aa (Kd (a:=()) rfl (Aa (Kd (a:=()) (by first|rfl|kernel_rfl) ?_)))
   try dsimp only
   refine Aa (Gu q VU (Aa ?_))
   wp_delta
   refine Aa (Fx (T:="tuple") (b:=ac) q (by rw[Nt];kernel_rfl) ?_)
   try dsimp only
   rw[Vy ∅];refine Aa (Gu q F.slot_tuple_getitem.lookup ?_);generalize c:("tuple.__getitem__" : String)=id0;dsimp only;rw[Vz (by subst c;decide +kernel)];refine Ah ?_;rw[Vy ∅];refine Aa (len_tuple (s:=⟨G,g,d,tk,os⟩) (t:=t) (items:=items) ht (by have:=lG;lia) (Aa (Kd (a:=aa (items.size:Int)) rfl (Aa (m:=Builtin.SmallTypes.newRecord _ _) ?_))));unfold Builtin.SmallTypes.newRecord;dsimp only;exact Ds (Ah ⟨_,rfl,h _⟩) (by first|size_fits|decide)))
section
variable {prog:Be}{w:Br}{A:Cw}{E:Ae->Ak->Prop}{s:Ak}
theorem call_rev{Q:Ae->Ak->Prop}(ht:s.heap.IsTuple t items)(hz:items.size<=Au)(h:∀n,Q (.ref ⇑s) {s with toks:=n,heap:=s.heap.push (rvObj t ((items.size:Int)-1))}):Bm (De prog w) A (call (.type "reversed") [.ref t]) Q E s:=
 Ut VT ∅ (F.typeCall_reversed_1 _) (F.newCall_reversed_1 _) (λobj=>Qh obj _) F.entry_reversed_new (VW t items) ⟨ht,hz,λn=>⟨⟨_,Az _ rfl,rfl⟩,h n⟩⟩
theorem qT:Slot "reversed" "__next__" "reversed.__next__":=
 .of (owner:="reversed") (n:="__next__") (by rw[Hq,Fi];kernel_rfl) (by decide +kernel) (by decide +kernel) (by decide +kernel) (by first|exact .inl (by decide +kernel)|exact .inr (by decide +kernel)) (by rw[Nt];kernel_rfl)
theorem EB:Slot "reversed" "__iter__" "reversed.__iter__":=
 .of (owner:="reversed") (n:="__iter__") (by rw[Hq,Fi];kernel_rfl) (by decide +kernel) (by decide +kernel) (by decide +kernel) (by first|exact .inl (by decide +kernel)|exact .inr (by decide +kernel)) (by rw[Nt];kernel_rfl)
theorem EC:Vd table "reversed.__next__" = aa Ha.«reversed.__next__»:=entryFor_of_tree (by kernel_rfl)
theorem VX:Vd table "reversed.__iter__" = aa Ha.«dict_keyiterator.__iter__»:=
 entryFor_alias (id':="dict_keyiterator.__iter__") (by kernel_rfl) (by first|rfl|decide +kernel) (by decide +kernel) (by kernel_rfl)
theorem ED:Manifest.owners.lookup (String.ofList ['d','e','s','r','e','v','e','r'].reverse)=aa Manifest.sig_reversed:=by kernel_rfl
theorem EE(a:Ae):argsOk "reversed.__next__" ⟨[a],[]⟩:=by
 unfold argsOk;rw[signature?_of (id:="reversed.__next__") (n:=['_','_','t','x','e','n','_','_']) (o:=['d','e','s','r','e','v','e','r']) (by kernel_rfl) ED]
 kernel_rfl
theorem VY(a:Ae):argsOk "reversed.__iter__" ⟨[a],[]⟩:=by
 unfold argsOk;rw[signature?_of (id:="reversed.__iter__") (n:=['_','_','r','e','t','i','_','_']) (o:=['d','e','s','r','e','v','e','r']) (by kernel_rfl) ED]
 kernel_rfl
abbrev IsRv(h:Du)(a t:Am)(i:Int):Prop:=h.get? a=aa {cls:=.type "reversed",dict:=ae,data:=.fields #[.ref t,Hr i],slots:=#[]}
theorem nX{i:Int}(x:IsRv s.heap a t i):s.TypeIs (.ref a) "reversed":=⟨_,x,rfl⟩
theorem next_item{a t:Am}{i:Nat}{items:Array Ae}{x:Ae}{Q:Option Ae->Ak->Prop}(T:IsRv s.heap a t i)(ht:s.heap.IsTuple t items)(J:items[i]? = aa x)(hi:(i:Int)<2 ^ 63)(H:∀h' tk,IsRv h' a t ((i:Int)-1)->Ek a s.heap h'->Q (aa x) {s with heap:=h',toks:=tk}):Bm (De prog w) A (Hy (.ref a)) Q E s:=by
 unfold Hy;refine Aa (Hj (Cy (name:=Bz "__next__") (nX T) qT (Cr qT (nX T) EC ?_ (EE _))));unfold Ha.«reversed.__next__»;refine Aa (Kd (a:=(Value.ref a,[])) rfl ?_);dsimp only;refine Aa (Dv T rfl (x:=.ref t) rfl (Aa (Dv T rfl (x:=Hr (i:Int)) rfl ?_)));show Bm _ _ (if (i:Int)<0 then _ else _) _ _ _;rw[Vy (by lia)];refine Aa (Gu ht.typeIs F.slot_tuple_getitem.lookup ?_);rw[Vy ∅];have Y:i<items.size:=(Hu.mp J).1;have b:gV items.size (i:Int)=aa i:=by unfold gV;rw[Vz (by lia),Vz (by lia),Dl]
 refine Aa (wpAny_mkInt (Aa (Hj (getItem_tuple (j:=i) (x:=x) ht (by lia) hi (xG b).1 J ?_))));dsimp only;refine Aa (Dv (s:={s with toks:=s.toks+1}) T rfl (x:=Hr (i:Int)) rfl ?_);exact Aa (Fs (s:={s with toks:=s.toks+1}) T (by simp) λO l sb=>Ah ⟨x,rfl,Ah (H O _ l sb)⟩)
theorem next_end{a t:Am}{Q:Option Ae->Ak->Prop}(hh:A.handled=ae)(D:IsRv s.heap a t (-1))(H:∀h',Ph a s.heap h'->Q ae {s with heap:=h'}):Bm (De prog w) A (Hy (.ref a)) Q E s:=by
 unfold Hy;refine Aa (Hj (Cy (name:=Bz "__next__") (nX D) qT (Cr qT (nX D) EC ?_ (EE _))));unfold Ha.«reversed.__next__»;refine Aa (Kd (a:=(Value.ref a,[])) rfl ?_);dsimp only;refine Aa (Dv D rfl (x:=.ref t) rfl (Aa (Dv D rfl (x:=Hr (-1)) rfl ?_)));show Bm _ _ (if (-1:Int)<0 then _ else _) _ _ _;rw[Vz ∅];refine Aa (Iv (Aa ?_))
 wp_delta
 refine Aa (Fs D (by simp) λO l f=>Fs l (by simp) λL R d=>Aa ?_);unfold Jn;refine Aa (m:=Uo (.type "StopIteration") []) ?_;simp only[Uo,newTuple];refine Aa (Ds (Aa (m:=Lz _ _) (Kd (a:=Value.none) (by first|rfl|(simp only[Lz];rfl)) (Ds ?_ (by size_fits)))) (by size_fits));simp only[raiseNew];refine Aa (Tv ?_);rw[show A.in1.handled=ae from hh];refine Aa (Ah (Va (Aa ?_)));refine Fx (T:="StopIteration") (b:=ab) ⟨_,Az _ rfl,rfl⟩ Ql (Ah (H _ λc o hc e=>?_));exact Af _ (Af _ (d.extBut _ _ hc (f.extBut _ _ hc e)))
theorem iter_self{i:Int}{Q:Ae->Ak->Prop}(T:IsRv s.heap a t i)(h:Q (.ref a) s):Bm (De prog w) A (Rn (.ref a)) Q E s:=by
 refine Rx (nX T) EB (Cr EB (nX T) VX ?_ (VY _));show Bm _ _ (ret (.ref a)) _ _ s;exact Ah ⟨_,rfl,"reversed",_,nX T,qT.lookup,h⟩
end
end Rv
end PySem
namespace L2
section
variable {X:Cx}{a:Ck}{ta:TA}{p p2 pos pos2:Hv}
theorem VZ(r:a5 xs its)(h:Qt (λi v=>its.toArray[its.toArray.size-1-i]? = aa v) acc its.toArray.size):a5 xs.reverse acc.toList:=by
 have hl:=↥r;have m:acc.size=↥its:=by simpa using h.1
 have a:↥acc.toList=acc.size:=Ey;refine oZ (by rw[Ej];lia) λj v c=>?_;have k:acc[j]? = aa v:=by rw[<-Fd];exact c
 have hj:j<acc.size:=(Hu.mp k).1;have e:=h.2 j v k;have g:its[↥its-1-j]? = aa v:=by simpa using e
 have Y:↥its-1-j<↥xs:=by lia
 let⟨u,W,ru⟩:=r.get (Bg Y);rw[g]at W;cases W;refine⟨xs[↥its-1-j],?_,ru⟩;rw[Lp (by lia),Bg (by lia)];congr 2;lia
theorem EF:Cu "reversed" = aa (.type "reversed"):=by decide +kernel
theorem V0:Cu "list" = aa (.type "list"):=by decide +kernel
end
end L2
namespace PySem
namespace Zt
open L2
section
variable {prog:Be}{w:Br}{A:Cw}{E:Ae->Ak->Prop}{s:Ak}
theorem V1{O:Type}{Q:O->Ak->Prop}(hh:A.handled=ae)(hE:∀h' e,(∀c o,s.heap.get? c=aa o->h'.get? c=aa o)->(∃o,h'.get? e=aa o/\o.cls=.type "StopIteration")->E (.ref e) {s with heap:=h'}):
  Bm (De prog w) A (Jn:Sx O) Q E s:=by
 unfold Jn;refine Aa (m:=Uo (.type "StopIteration") []) ?_;simp only[Uo,newTuple];refine Aa (Ds (Aa (m:=Lz _ _) (Kd (a:=Value.none) (by first|rfl|(simp only[Lz];rfl)) (Ds ?_ (by size_fits)))) (by size_fits));simp only[raiseNew];refine Aa (Tv ?_);rw[hh];refine Aa (Ah (Va (hE _ _ (λc o e=>Af _ (Af _ e)) ⟨_,Az _ rfl,rfl⟩)))
structure eV(prog:Be)(w:Br)(i l:Am)(xs:Array Ae)(St:Nat->Du->Prop):Prop where
 keep:∀k h h',St k h->(∀c,c=i\/c=l->∀o,h.get? c=aa o->h'.get? c=aa o)->St k h'
 there:∀k h,St k h->i<h.objs.size
 item:∀(A:Cw) (E:Ae->Ak->Prop) (s:Ak) (k:Nat) (x:Ae) (Q:Ae->Ak->Prop),St k s.heap->xs[k]? = aa x->(∀h',St (k+1) h'->Ek i s.heap h'->Q x {s with heap:=h'})->
  Bm (De prog w) A (Dh (.ref i)) Q E s
 stop:∀(A:Cw) (E:Ae->Ak->Prop) (s:Ak) (k:Nat) (Q:Ae->Ak->Prop),A.handled=ae->St k s.heap->xs[k]? = ae->
  (∀h' e,Ph i s.heap h'->(∃o,h'.get? e=aa o/\o.cls=.type "StopIteration")->E (.ref e) {s with heap:=h'})->Bm (De prog w) A (Dh (.ref i)) Q E s
theorem EG(i l:Am)(S:l≠i)(xs:Array Ae):eV prog w i l xs (λk h=>h.IsListIter i l k/\h.IsList l xs) where
 keep:=λk h h' x hk=>⟨x.1.at λo e=>hk i (.inl rfl) o e,x.2.at λo e=>hk l (.inr rfl) o e⟩
 there:=λk h x=>by let⟨_,e,_⟩:=x.1;exact Bd e
 item:=λA E s k x Q st J H=>wpAny_nextOf_list_item st.1 st.2 J λh' a b=>H h' ⟨a,st.2.at λo e=>(b.2 l S).trans e⟩ b
 stop:=λA E s k Q hh st J Y=>wpAny_nextOf_list_end hh st.1 st.2 J λh' e a b=>Y h' e a b
theorem side_tuple(i l:Am)(hne:l≠i)(xs:Array Ae):eV prog w i l xs (λk h=>h.IsTupleIter i l k/\h.IsTuple l xs) where
 keep:=λk h h' x hk=>by
  obtain⟨⟨o,e,r⟩,⟨u,g,q⟩⟩:=x;exact⟨⟨o,hk i (.inl rfl) o e,r⟩,⟨u,hk l (.inr rfl) u g,q⟩⟩
 there:=λk h x=>by let⟨_,e,_⟩:=x.1;exact Bd e
 item:=λA E s k x Q st hx hQ=>by
  obtain⟨⟨o,ho,hc,hd⟩,⟨u,hu,hcu,n,hdu⟩⟩:=st;have ty:s.TypeIs (.ref i) "tuple_iterator":=⟨o,ho,hc⟩;unfold Dh;refine Aa (Cy (name:=Bz "__next__") ty Kb (Cr Kb ty F.entry_tuple_iterator_next ?_ (F.args_tuple_iterator_next_1 _)));show Bm _ _ (Rh (.ref i) 0>>=λq=>_) _ _ _;refine Aa (Dv ho hd (x:=.ref l) rfl ?_);show Bm _ _ (if (Value.ref l==Value.none)=ab then _ else _) _ _ s;rw[Vy (show ¬(Value.ref l==Value.none)=ab from λz=>nomatch z)];show Bm _ _ (Rh (.ref i) 1>>=λq=>_) _ _ _;refine Aa (Dv ho hd (x:=.int k 0) rfl ?_);show Bm _ _ (seqItems? (.ref l)>>=λq=>_) _ _ _;refine Aa (Fe hu hdu ?_);simp only[Dl,hx];refine Aa (Nr ho hd (by simp) (Ah ⟨x,rfl,Ah (hQ _ ⟨⟨_,Gs _ ho (Pc (Jb hd _)),(Ra ..).trans hc,?_⟩,⟨u,?_,hcu,n,hdu⟩⟩ (Gi ..))⟩))
  .rw[Jb hd];simp[Hr]
  .exact(Ja _ _ (Ca hne)).trans hu
 stop:=λA E s k Q hh st hx hE=>by
  obtain⟨⟨o,ho,hc,hd⟩,⟨u,hu,hcu,n,hdu⟩⟩:=st;have ty:s.TypeIs (.ref i) "tuple_iterator":=⟨o,ho,hc⟩;unfold Dh;refine Aa (Cy (name:=Bz "__next__") ty Kb (Cr Kb ty F.entry_tuple_iterator_next ?_ (F.args_tuple_iterator_next_1 _)));show Bm _ _ (Rh (.ref i) 0>>=λq=>_) _ _ _;refine Aa (Dv ho hd (x:=.ref l) rfl ?_);show Bm _ _ (if (Value.ref l==Value.none)=ab then _ else _) _ _ s;rw[Vy (show ¬(Value.ref l==Value.none)=ab from λz=>nomatch z)];show Bm _ _ (Rh (.ref i) 1>>=λq=>_) _ _ _;refine Aa (Dv ho hd (x:=.int k 0) rfl ?_);show Bm _ _ (seqItems? (.ref l)>>=λq=>_) _ _ _;refine Aa (Fe hu hdu ?_);simp only[Dl,hx];refine Aa (Iv (Aa (Nr ho hd (by simp) (V1 hh λh' e hk he=>hE h' e (λc q hc' g=>hk c q ((Ja _ _ (Ca hc')).trans g)) he))))
structure Apart(z TI TO i1 i2 l1 l2:Am):Prop where
 nd : [z,TI,TO,i1,i2].Nodup
 a:l1≠z/\l1≠TI/\l1≠TO/\l1≠i1/\l1≠i2
 b:l2≠z/\l2≠TI/\l2≠TO/\l2≠i1/\l2≠i2
variable {z TI TO i1 i2 l1 l2:Am}{xs ys:Array Ae}{S1 S2:Nat->Du->Prop}
theorem item{k:Nat}{Q:Ae->Ak->Prop}(D:Apart z TI TO i1 i2 l1 l2)(r:eV prog w i1 l1 xs S1)(h:eV prog w i2 l2 ys S2)(hz:Qn s.heap z TI TO .none)(hI:Ia s.heap TI (.ref i1) (.ref i2))(hO:Ia s.heap TO a b)(O:S1 k s.heap)(L:S2 k s.heap)(J:xs[k]? = aa x)(K:ys[k]? = aa y)(H:∀h',Qn h' z TI TO (Hr ⇑s)->Ia h' TO x y->S1 (k+1) h'->S2 (k+1) h'->Ia h' ⇑s x y->(∀c o,c≠z->c≠TO->c≠i1->c≠i2->s.heap.get? c=aa o->h'.get? c=aa o)->Q (.ref ⇑s) {s with heap:=h'}):
  Bm (De prog w) A (Ha.«zip.__next__» ⟨[.ref z],[]⟩) (λfin j=>∃v,fin=.done (.ret v)/\Q v j) E s:=by
 have nd:=D.nd;simp only[Cj,Aw,Em,or_false,not_or,not_false_eq_true,Eo,and_true]at nd;obtain⟨⟨zI,zO,C,G⟩,⟨IO,M,i⟩,⟨O1,O2⟩,n12⟩:=nd;let⟨T,aI,aO,p,Z⟩:=D.a;let⟨bz,bI,bO,I,b2⟩:=D.b;show Bm _ _ (Rh (.ref z) 2>>=λq=>_) _ _ _;refine Aa (Dv hz rfl (x:=.bool ac) rfl ?_);show Bm _ _ (Rh (.ref z) 3>>=λq=>_) _ _ _;refine Aa (Dv hz rfl (x:=.ref TI) rfl (Aa (Fe hI rfl ?_)));show Bm _ _ (Dc (.ref z)>>=λq=>_) _ _ _;refine Aa ?_;unfold Dc;refine Aa (Dv hz rfl (x:=.none) rfl (Ah ?_));simp only[if_true];refine Aa (Iv (Aa (Dv hz rfl (x:=.ref TO) rfl (Aa (Fs hz (by simp) λW g U=>Aa ?_)))));simp only[Lu,List.zipIdx_nil,Ko,Pg];have B:∀c,c=i1\/c=l1->c≠z/\c≠TO/\c≠i2:=λc hc=>by
  rcases hc with rfl|rfl
  .exact⟨Ca C,Ca O1,n12⟩
  .exact⟨T,aO,Z⟩
 have F:∀c,c=i2\/c=l2->c≠z/\c≠TO/\c≠i1:=λc hc=>by
  rcases hc with rfl|rfl
  .exact⟨Ca G,Ca O2,Ca n12⟩
  .exact⟨bz,bO,I⟩
 refine Aa (Aa (Rg ?_));show Bm _ _ (Dh (.ref i1)>>=λq=>_) _ _ _;refine Aa (r.item _ _ {s with heap:=W} k x _ (r.keep k _ _ O λc hc o e=>U.extBut c o (B c hc).1 e) J λP d Y=>Ah ?_);have t:Ia P TO a b:=Y.extBut _ _ O1 (U.extBut _ _ (Ca zO) hO);refine Aa (Fe t rfl (Aa (Qi t λf o3 N=>Aa (Qk (Ah ?_)))))
 replace o3:Ia f TO x b:=o3
 refine Aa (Aa (Rg ?_));show Bm _ _ (Dh (.ref i2)>>=λq=>_) _ _ _;refine Aa (h.item _ _ {s with heap:=f} k y _ (h.keep k _ _ L λc hc o e=>N.extBut c o (F c hc).2.1 (Y.extBut c o (F c hc).2.2 (U.extBut c o (F c hc).1 e))) K λg4 t4 s4=>Ah ?_);have n:Ia g4 TO x b:=s4.extBut _ _ O2 o3;refine Aa (Fe n rfl (Aa (Qi n λg5 X s5=>Aa (Qk (Ah (Ah ?_))))))
 replace X:Ia g5 TO x y:=X
 refine Aa (Fe X rfl (Aa (wpAny_newTuple ?_)));have size5:g5.objs.size=⇑s:=by rw[s5.1,s4.1,N.1,Y.1,U.1]
 have z5:Qn g5 z TI TO .ellipsis:=s5.extBut _ _ zO (s4.extBut _ _ G (N.extBut _ _ zO (Y.extBut _ _ C g)));have lz:z<g5.objs.size:=Bd z5;refine Aa (m:=Builtin.SmallTypes.ownedTupleHandOut _ _) ?_;unfold Builtin.SmallTypes.ownedTupleHandOut;have z6:Qn (g5.push {cls:=.type "tuple",data:=.seq #[x,y]}) z TI TO .ellipsis:=Af _ z5;refine Aa (Fs z6 (by simp) λg7 z7 s7=>Fs z7 (by simp) λg8 z8 s8=>Ah ⟨_,rfl,?_⟩);have up:∀c o,c≠z->g5.get? c=aa o->g8.get? c=aa o:=λc o hc e=>s8.extBut _ _ hc (s7.extBut _ _ hc (Af _ e));have t8:Ia g8 g5.objs.size x y:=s8.extBut _ _ (Cq lz) (s7.extBut _ _ (Cq lz) (Az _ rfl));have l:S1 (k+1) g8:=r.keep _ _ _ d λc hc o e=>up c o (B c hc).1 (s5.extBut _ _ (B c hc).2.1 (s4.extBut _ _ (B c hc).2.2 (N.extBut _ _ (B c hc).2.1 e)));have R:S2 (k+1) g8:=h.keep _ _ _ t4 λc hc o e=>up c o (F c hc).1 (s5.extBut _ _ (F c hc).2.1 e);show Q (.ref g5.objs.size) _
 replace z8:Qn g8 z TI TO (Hr g5.objs.size):=z8
 rw[size5]at z8 t8⊢;exact H g8 z8 (up _ _ (Ca zO) X) l R t8 λc o S u V c4 e=>up c o S (s5.extBut _ _ u (s4.extBut _ _ c4 (N.extBut _ _ u (Y.extBut _ _ V (U.extBut _ _ S e)))))
theorem stop{k:Nat}{Q:Fin->Ak->Prop}(hh:A.handled=ae)(D:Apart z TI TO i1 i2 l1 l2)(r:eV prog w i1 l1 xs S1)(I:eV prog w i2 l2 ys S2)(hz:Qn s.heap z TI TO .none)(T:Ia s.heap TI (.ref i1) (.ref i2))(hO:Ia s.heap TO a b)(O:S1 k s.heap)(L:S2 k s.heap)(hend:xs[k]? = ae\/ys[k]? = ae)(hE:∀h' e,(∀c o,c≠z->c≠TO->c≠i1->c≠i2->s.heap.get? c=aa o->h'.get? c=aa o)->(∃o,h'.get? e=aa o/\o.cls=.type "StopIteration")->E (.ref e) {s with heap:=h'}):
  Bm (De prog w) A (Ha.«zip.__next__» ⟨[.ref z],[]⟩) Q E s:=by
 have nd:=D.nd;simp only[Cj,Aw,Em,or_false,not_or,not_false_eq_true,Eo,and_true]at nd;obtain⟨⟨zI,zO,C,R⟩,⟨IO,M,i⟩,⟨O1,O2⟩,n12⟩:=nd;let⟨m,aI,aO,y,d⟩:=D.a;let⟨bz,bI,bO,l,G⟩:=D.b;have B:∀c,c=i1\/c=l1->c≠z:=λc hc=>by rcases hc with rfl|rfl;exact Ca C;exact m
 have F:∀c,c=i2\/c=l2->c≠z/\c≠TO/\c≠i1:=λc hc=>by
  rcases hc with rfl|rfl
  .exact⟨Ca R,Ca O2,Ca n12⟩
  .exact⟨bz,bO,l⟩
 show Bm _ _ (Rh (.ref z) 2>>=λq=>_) _ _ _;refine Aa (Dv hz rfl (x:=.bool ac) rfl ?_);show Bm _ _ (Rh (.ref z) 3>>=λq=>_) _ _ _;refine Aa (Dv hz rfl (x:=.ref TI) rfl (Aa (Fe T rfl ?_)));show Bm _ _ (Dc (.ref z)>>=λq=>_) _ _ _;refine Aa ?_;unfold Dc;refine Aa (Dv hz rfl (x:=.none) rfl (Ah ?_));simp only[if_true];refine Aa (Iv (Aa (Dv hz rfl (x:=.ref TO) rfl (Aa (Fs hz (by simp) λW g U=>Aa ?_)))));simp only[Lu,List.zipIdx_nil,Ko,Pg];refine Aa (Aa (Rg ?_));show Bm _ _ (Dh (.ref i1)>>=λq=>_) _ _ _;cases J:xs[k]? with
 | none=>
  refine Aa (r.stop _ _ {s with heap:=W} k _ hh (r.keep k _ _ O λc hc o e=>U.extBut c o (B c hc) e) J λP e Y Z=>?_);let⟨oe,ge,ce⟩:=Z;have n:Qn P z TI TO .ellipsis:=Y _ _ C g;have ez:e≠z:=λu=>by subst u;rw[n]at ge;cases ge;simp at ce
  exact Fs n (by simp) λf _ N=>hE f e (λc o S _ V _ u=>N.extBut _ _ S (Y _ _ V (U.extBut _ _ S u))) ⟨oe,N.extBut _ _ ez ge,ce⟩
 | some x=>
  have K:ys[k]? = ae:=by rcases hend with h|h;rw[J]at h;cases h;exact h
  refine Aa (r.item _ _ {s with heap:=W} k x _ (r.keep k _ _ O λc hc o e=>U.extBut c o (B c hc) e) J λP v Y=>Ah ?_);have t:Ia P TO a b:=Y.extBut _ _ O1 (U.extBut _ _ (Ca zO) hO);refine Aa (Fe t rfl (Aa (Qi t λf p N=>Aa (Qk (Ah ?_)))));refine Aa (Aa (Rg ?_));show Bm _ _ (Dh (.ref i2)>>=λq=>_) _ _ _;refine Aa (I.stop _ _ {s with heap:=f} k _ hh (I.keep k _ _ L λc hc o e=>N.extBut c o (F c hc).2.1 (Y.extBut c o (F c hc).2.2 (U.extBut c o (F c hc).1 e))) K λH e s4 Z=>?_);let⟨oe,ge,ce⟩:=Z;have q4:Qn H z TI TO .ellipsis:=s4 _ _ R (N.extBut _ _ zO (Y.extBut _ _ C g));have ez:e≠z:=λu=>by subst u;rw[q4]at ge;cases ge;simp at ce
  exact Fs q4 (by simp) λg5 _ s5=>hE g5 e (λc o S X V j u=>s5.extBut _ _ S (s4 _ _ j (N.extBut _ _ X (Y.extBut _ _ V (U.extBut _ _ S u))))) ⟨oe,s5.extBut _ _ ez ge,ce⟩
end
end Zt
end PySem
namespace PySem
namespace Zt
open L2
section
variable {prog:Be}{w:Br}{A:Cw}{E:Ae->Ak->Prop}{s:Ak}{z TI TO i1 i2 l1 l2:Am}{xs ys:Array Ae}{S1 S2:Nat->Du->Prop}
theorem next_item{k:Nat}{Q:Option Ae->Ak->Prop}(D:Apart z TI TO i1 i2 l1 l2)(r:eV prog w i1 l1 xs S1)(n:eV prog w i2 l2 ys S2)(hz:Qn s.heap z TI TO .none)(j:Ia s.heap TI (.ref i1) (.ref i2))(t:Ia s.heap TO a b)(O:S1 k s.heap)(L:S2 k s.heap)(J:xs[k]? = aa x)(K:ys[k]? = aa y)(H:∀h',Qn h' z TI TO (Hr ⇑s)->Ia h' TO x y->S1 (k+1) h'->S2 (k+1) h'->Ia h' ⇑s x y->(∀c o,c≠z->c≠TO->c≠i1->c≠i2->s.heap.get? c=aa o->h'.get? c=aa o)->Q (aa (.ref ⇑s)) {s with heap:=h'}):
  Bm (De prog w) A (Hy (.ref z)) Q E s:=by
 have ty:s.TypeIs (.ref z) "zip":=⟨_,hz,rfl⟩;unfold Hy;exact Aa (Hj (Cy (name:=Bz "__next__") ty Ik (Cr Ik ty Ov (item D r n hz j t O L J K λh' S u V g f Z=>Ah (H h' S u V g f Z)) (Ny _))))
theorem next_stop{k:Nat}{Q:Option Ae->Ak->Prop}(hh:A.handled=ae)(D:Apart z TI TO i1 i2 l1 l2)(r:eV prog w i1 l1 xs S1)(n:eV prog w i2 l2 ys S2)(hz:Qn s.heap z TI TO .none)(j:Ia s.heap TI (.ref i1) (.ref i2))(t:Ia s.heap TO a b)(O:S1 k s.heap)(L:S2 k s.heap)(h:xs[k]? = ae\/ys[k]? = ae)(H:∀h',(∀c o,c≠z->c≠TO->c≠i1->c≠i2->s.heap.get? c=aa o->h'.get? c=aa o)->Q ae {s with heap:=h'}):Bm (De prog w) A (Hy (.ref z)) Q E s:=by
 have ty:s.TypeIs (.ref z) "zip":=⟨_,hz,rfl⟩;unfold Hy;refine Aa (Hj (Cy (name:=Bz "__next__") ty Ik (Cr Ik ty Ov (stop hh D r n hz j t O L h λh' e hk ⟨o,f,hc⟩=>?_) (Ny _))));exact Aa (Fx (T:="StopIteration") (b:=ab) ⟨o,f,hc⟩ Ql (Ah (H _ hk)))
end
noncomputable abbrev zh1(h:Du)(a:Am):Du:=h.push {cls:=.type "tuple_iterator",data:=.fields #[.ref a,.int 0 0]}
noncomputable abbrev zh2(h:Du)(a b:Am):Du:=(zh1 h a).push {cls:=.type "tuple_iterator",data:=.fields #[.ref b,.int 0 0]}
noncomputable abbrev zh3(h:Du)(a b:Am):Du:=(zh2 h a b).push {cls:=.type "tuple",data:=.seq #[.ref h.objs.size,.ref (zh1 h a).objs.size]}
noncomputable abbrev zh4(h:Du)(a b:Am):Du:=(zh3 h a b).push {cls:=.type "tuple",data:=.seq #[.none,.none]}
noncomputable abbrev zh5(h:Du)(a b:Am):Du:=(zh4 h a b).push {cls:=.type "zip",data:=.fields #[.none,.bool ac,.bool ac,.ref (zh2 h a b).objs.size,.ref (zh3 h a b).objs.size]}
theorem meets_new(a b:Am)(xs ys:Array Ae):
  Meets (Ha.«zip.__new__» ⟨[.type "zip",.ref a,.ref b],[]⟩) (λ_ R s=>s.heap.IsTuple a xs/\s.heap.IsTuple b ys/\R (.ok (.ret (.ref (zh4 s.heap a b).objs.size))) {s with heap:=zh5 s.heap a b}):=
 .of_wp λprog w A R s h=>by
  let⟨G,g,d,tk,os⟩:=s;let⟨ta,f,h⟩:=h;have z:=sub_zip;have i:Qv (Td ⟨G,g,d,tk,os⟩) a xs:=ta;have c:Qv (Td ⟨G.push {cls:=.type "tuple_iterator",data:=.fields #[.ref a,.int 0 0]},g,d,tk,os⟩) b ys:=by
   let⟨o,e,r⟩:=(show G.IsTuple b ys from f);exact⟨o,Af _ e,r⟩
  wp_walk using Ji i,Ji c
  exact⟨_,rfl,h⟩
end Zt
end PySem
namespace L2
def tW(K:Ac)(a b:Am)(xs ys:↑V):It:=
 ⟨λi H=>bL K H a xs/\bL K H b ys/\i<↥xs/\i<↥ys,
   λi H x H'=>∃p u v,xs[i]? = aa u/\ys[i]? = aa v/\H p=ae/\x=.ref p/\H'=aL H p (.tup [u,v]),
   λi H=>bL K H a xs/\bL K H b ys/\(↥xs<=i\/↥ys<=i)⟩
theorem V2{P:Be}{w:Br}{K:Ac}{es:↑Ck}{kx:Nat}{px:Hv}(a b z TI TO i1 i2:Am)(xs ys:↑V)(D:Zt.Apart z TI TO i1 i2 a b):
  i0 P w K (.Tuple es kx px) (tW K a b xs ys) [z,TI,TO,i1,i2] z (λi h=>Qn h z TI TO .none/\Ia h TI (.ref i1) (.ref i2)/\(∃c d,Ia h TO c d)/\h.IsTupleIter i1 a i/\h.IsTupleIter i2 b i) where
 mem:=by simp
 obj:=λi h st c hc=>by
  obtain⟨O,L,⟨p,q,h3⟩,⟨n,m,_,d4⟩,⟨A,Y,_,d5⟩⟩:=st;simp only[Aw,Ew,or_false]at hc;rcases hc with rfl|rfl|rfl|rfl|rfl
  .exact⟨_,O,λv g=>nomatch g⟩
  .exact⟨_,L,λv g=>nomatch g⟩
  .exact⟨_,h3,λv g=>nomatch g⟩
  .exact⟨_,m,λv g=>by rw[d4]at g;cases g⟩
  .exact⟨_,Y,λv g=>by rw[d5]at g;cases g⟩
 keep:=λi h h' st k=>by
  obtain⟨O,L,⟨p,q,h3⟩,⟨n,m,r4⟩,⟨A,Y,r5⟩⟩:=st;exact⟨k z (by simp) _ O,k TI (by simp) _ L,⟨p,q,k TO (by simp) _ h3⟩,⟨n,k i1 (by simp) _ m,r4⟩,⟨A,k i2 (by simp) _ Y,r5⟩⟩
 item:=by
  intro X F hw Q hc i B s C H E I hf st hg;subst F hw Q;obtain⟨O,L,⟨c,d,h3⟩,m,Y⟩:=st;let⟨hqa,hqb,hi,hj⟩:=hg;let⟨its,U,pl,hz⟩:=I.tuple hqa;let⟨t,rv2,pl2,hz2⟩:=I.tuple hqb;let⟨u,W,ru⟩:=U.get (Bg hi);let⟨v,G,rvv⟩:=rv2.get (Bg hj);refine Zt.next_item D (Zt.side_tuple i1 a D.a.2.2.2.1 its.toArray) (Zt.side_tuple i2 b D.b.2.2.2.2 t.toArray) O L h3 ⟨m,pl⟩ ⟨Y,pl2⟩ (x:=u) (y:=v) (by simpa using W) (by simpa using G) λh' f c2 T c4 c5 hk=>?_;refine⟨_,rfl,wpAny_letOwnedTupleGo_zip f λJ z' sb=>?_⟩;have nd:=D.nd;simp only[Cj,Aw,Em,or_false,not_or,not_false_eq_true,Eo,and_true]at nd;obtain⟨⟨zI,zO,S,R⟩,⟨IO,I1',I2'⟩,⟨O1,O2⟩,n12⟩:=nd;have Z:H ⇑s=ae:=I.hok.fresh (Ai _);have ltz:z<⇑s:=Bd O;have j:∀q o,q∉[z,TI,TO,i1,i2]->s.heap.get? q=aa o->J.get? q=aa o:=λq o N e=>by
   simp only[Aw,Ew,or_false,not_or]at N;exact(sb.2 q N.1).trans (hk q o N.1 N.2.2.1 N.2.2.2.1 N.2.2.2.2 e)
  have l:J.get? ⇑s=aa {cls:=.type "tuple",data:=.seq [u,v].toArray}:=(sb.2 _ (Cq ltz)).trans c5;have M:Inv X B C (aL H ⇑s (.tup [xs[i],ys[i]])) {s with heap:=J,toks:=s.toks}:=I.laidT (its:=[u,v]) hf j (by show 2<=Au;decide) (.cons ru (.cons rvv .nil)) l;have low:∀q∈[z,TI,TO,i1,i2],q<⇑s:=λq N=>by
   simp only[Aw,Ew,or_false]at N;rcases N with rfl|rfl|rfl|rfl|rfl
   .exact ltz
   .exact Bd L
   .exact Bd h3
   .let⟨_,e,_⟩:=m;exact Bd e
   .let⟨_,e,_⟩:=Y;exact Bd e
  refine⟨.ref ⇑s,_,M,rfl,⟨⇑s,xs[i],ys[i],Bg hi,Bg hj,Z,rfl,rfl⟩,⟨z',(sb.2 _ (Ca zI)).trans (hk _ _ (Ca zI) IO I1' I2' L),⟨u,v,(sb.2 _ (Ca zO)).trans c2⟩,?_,?_⟩,λq N=>?_⟩
  .let⟨o,e,r⟩:=T.1;exact⟨o,(sb.2 _ (Ca S)).trans e,r⟩
  .let⟨o,e,r⟩:=c4.1;exact⟨o,(sb.2 _ (Ca R)).trans e,r⟩
  .rw[bD (Bn (low q N))];exact(hf q N).1
 done:=by
  intro X F hw Q hc i B s C H E I hf st hg;subst F hw Q;obtain⟨O,L,⟨c,d,h3⟩,m,Y⟩:=st;let⟨hqa,hqb,hij⟩:=hg;let⟨its,U,pl,hz⟩:=I.tuple hqa;let⟨t,rv2,pl2,hz2⟩:=I.tuple hqb;have l1:=↥U;have l2:=↥rv2;refine Zt.next_stop (I.ok.hd hc) D (Zt.side_tuple i1 a D.a.2.2.2.1 its.toArray) (Zt.side_tuple i2 b D.b.2.2.2.2 t.toArray) O L h3 ⟨m,pl⟩ ⟨Y,pl2⟩ (hij.elim (λq=>.inl (by simp;lia)) λq=>.inr (by simp;lia)) λh' hk=>⟨rfl,?_⟩
  exact I.turnedT (tk:=s.toks) hf λq o N e=>hk q o (λy=>N (by simp[y])) (λy=>N (by simp[y])) (λy=>N (by simp[y])) (λy=>N (by simp[y])) e
 self:=λ_ _ _ _ _ st h=>Sj st.1 h
theorem EH(n:Nat): [n+4,n+2,n+3,n,n+1].Nodup:=by
 simp only[Cj,Aw,Em,or_false,not_or,not_false_eq_true,Eo,and_true];lia
theorem EI{n q:Nat}(h:q∈[n+4,n+2,n+3,n,n+1]):n<=q:=by
 simp only[Aw,Ew,or_false]at h;lia
section
variable {X:Cx}
theorem V3{B:Pn}{U:Ak}{C:St}{H1:Hp}{R:It->Hp->Prop}{a b:Am}{xs ys:↑V}{es:↑Ck}{kx:Nat}{G:Hv}(M:Inv X B C H1 U)(r:bL X.K H1 a xs)(f:bL X.K H1 b ys)(q:R (tW X.K a b xs ys) H1):
  X.a (call (.type "zip") [.ref a,.ref b]) (λv U=>X.a (Rn v) (sX X B C (.Tuple es kx G) R) X.xe U) X.xe U:=by
 let⟨its,n,pl,hz⟩:=M.tuple r;let⟨t,h,d,x⟩:=M.tuple f;have z:a<⇑U:=by let⟨_,e,_⟩:=(show U.heap.IsTuple a its.toArray from pl);exact Bd e
 have i:b<⇑U:=by let⟨_,e,_⟩:=(show U.heap.IsTuple b t.toArray from d);exact Bd e
 have Y:(Zt.zh1 U.heap a).objs.size=⇑U+1:=Es ..;have k:(Zt.zh2 U.heap a b).objs.size=⇑U+2:=by rw[Es,Y]
 have j:(Zt.zh3 U.heap a b).objs.size=⇑U+3:=by rw[Es,k]
 have y:(Zt.zh4 U.heap a b).objs.size=⇑U+4:=by rw[Es,j]
 have g:∀c o,U.heap.get? c=aa o->(Zt.zh5 U.heap a b).get? c=aa o:=λc o e=>Af _ (Af _ (Af _ (Af _ (Af _ e))));have p:(Zt.zh5 U.heap a b).get? (Zt.zh4 U.heap a b).objs.size=aa _:=Az _ rfl;have l:(Zt.zh5 U.heap a b).get? (Zt.zh3 U.heap a b).objs.size=aa _:=Af _ (Az _ rfl);have P:(Zt.zh5 U.heap a b).get? (Zt.zh2 U.heap a b).objs.size=aa _:=Af _ (Af _ (Az _ rfl));have T:(Zt.zh5 U.heap a b).get? (Zt.zh1 U.heap a).objs.size=aa _:=Af _ (Af _ (Af _ (Az _ rfl)));have D:(Zt.zh5 U.heap a b).get? ⇑U=aa _:=Af _ (Af _ (Af _ (Af _ (Az _ rfl))));refine Ut F.called_zip ∅ (F.typeCall_zip_2 _ _) (F.newCall_zip_2 _ _) (λobj=>F.args_object_init_3 obj _ _) F.entry_zip_new (Zt.meets_new a b its.toArray t.toArray) ⟨pl,d,⟨_,p,rfl⟩,?_⟩;refine Sj p ?_;rw[k,j,y]at p;rw[Y,k]at P;rw[j]at l;rw[Y]at T;rw[y];refine⟨⇑U+4,[⇑U+4,⇑U+2,⇑U+3,⇑U,⇑U+1],_,_,H1,rfl,M.kept (t':=U.toks) g,
  V2 a b (⇑U+4) (⇑U+2) (⇑U+3) ⇑U (⇑U+1) xs ys ⟨EH _,⟨gJ 4 z,gJ 2 z,gJ 3 z,qS z,gJ 1 z⟩,⟨gJ 4 i,gJ 2 i,gJ 3 i,qS i,gJ 1 i⟩⟩,⟨p,P,⟨_,_,l⟩,⟨_,D,rfl,rfl⟩,⟨_,T,rfl,rfl⟩⟩,λq N=>M.fpOk (EI N) (M.hok.fresh (EI N)),q⟩
def V4(K:Ac)(ta:TA):TI:=λC H R=>ta C H λvs H1=>∃a b xs ys,vs=[.ref a,.ref b]/\bL K H1 a xs/\bL K H1 b ys/\R (tW K a b xs ys) H1
theorem V5{kx:Nat}(hg:Gl X "zip")(S:X.mg "zip" = ae)(m:PA X [a,b] ta)(F:Ci [a,b] X.env=[(ac,Ef a X.env),(ac,Ef b X.env)]:=by rfl)(D:Ci [b] X.env=[(ac,Ef b X.env)]:=by rfl):
  PI X (.Tuple es kx G) (.Call (.Name "zip" p) [a,b] [] pos) (V4 X.K ta):=by
 intro B s C H R I h;refine Vr (gE I hg S D7 (Cd (aZ (m pos B s C H _ I h) λus U ⟨vs,H1,M,l,g⟩=>?_) (by rw[F,D]) (by rw[D];rfl)));let⟨a,b,xs,ys,rfl,O,L,q⟩:=g;let⟨u,v,rfl,ru,Z⟩:=vals2 l;cases ru;cases Z;exact V3 M O L q
end
section
variable {X:Cx}
theorem EJ:∀{vs:↑Ae} {ks:↑Av},↥vs=↥ks->(∀(j:Nat) v,vs[j]? = aa v->∃x t,ks[j]? = aa x/\v=.str x t)->StrsAre vs ks
 | [],[],_,_=>.nil
 | [],_::_,e,_=>by simp at e
 | _::_,[],e,_=>by simp at e
 | v::vs,k::ks,e,h=>by
  let⟨x,t,O,rfl⟩:=h 0 v rfl;cases (show k=x by simpa using O);exact .cons k t (EJ (by simpa using e) λj v c=>by simpa using h (j+1) v (by simpa using c))
theorem EK:∀{vs:↑Ae} {ss:↑Av},StrsAre vs ss->a5 (ss.map V.str) vs
 | _,_,.nil=>.nil
 | _,_,.cons y t r=>.cons ⟨t,rfl⟩ (EK r)
theorem V6(hc:X.calm=ab):cR X (.builtin "sorted") (λxs H Q=>∃(d:Am) (kvs:↑(aC×V)) (ks:↑Av),xs=[.ref d]/\H d=aa (.dK kvs)/\kvs.map Eb=ks.map Sum.inr/\↥ks<64/\
  ∀ss:↑Av,ss.Perm ks->∀p,H p=ae->Q (.ref p) (aL H p (.lst (ss.map V.str)))):=by
 intro B s C H xs us Q I r h;let⟨d,kvs,ks,rfl,hd,hks,R,q⟩:=h;let⟨u,rfl,ru⟩:=vals1 r;cases ru;let⟨hz,S,vs,G,E⟩:=(show b5 X.prog X.w H s.heap d (.dK kvs) from I.hok d _ hd);let⟨ep,F⟩:=E.dictAt;have hl:=↥G;have hkl:↥kvs=↥ks:=by have:=congrArg Ky hks;simpa using this
 refine Calls.call_function_entry kind_sorted plain_sorted entry_sorted (args_sorted1 _) ?_;unfold Ha.«sorted»;refine Aa (m:=checkCount "sorted" 1 1 _) (Ah (Aa (PySem.W.kdu_collect (A:=X.A.in1) (PySem.W.kdl_dict (knd:=bU X.prog X.w) (kvs:=vs) (ep:=ep) S) (I.ok.hd hc) F (by rw[<-hl];exact hz) λh' tk acc hk N=>?_)));have hsz:↥acc.toList=↥ks:=by have O:=N.1;have L:↥acc.toList=acc.size:=Ey;lia
 have i:StrsAre acc.toList ks:=EJ hsz λj v c=>by
  let⟨k,x,J,a⟩:=N.2 j v (by rw[<-Fd];exact c);let⟨y,K⟩:=xW G J;have D:(kvs.map Eb)[j]? = aa k:=by rw[Ay,K];rfl
  rw[hks,Ay]at D;let⟨z,P,rfl⟩:=Ba.mp D;let⟨t,e⟩:=(show RelV (kV (Sum.inr z)) v from tR a);exact⟨z,t,P,e⟩
 have M:Inv X B C H {s with heap:=h',toks:=tk}:=I.kept (t':=tk) hk;refine Aa (wpAny_newList ?_ (by rw[hsz];lia));have f:(h'.push (seqObj "list" acc.toList.toArray 0)).get? h'.objs.size=aa (seqObj "list" acc.toList.toArray 0):=Az _ rfl;refine Aa (Dq (Cr slot_list_sort ⟨_,f,rfl⟩ entry_list_sort (list_sort_treeK strKind_oneLt f i.keysOf (λv1 v2 rest e=>keyKind_strs (by rw[<-e];exact i)) (by rw[hsz];exact R) λl g n=>⟨_,rfl,?_⟩) (args_list_sort _)));let⟨ss,O,L,h3⟩:=sorted_out_str i g n;let⟨e,Z⟩:=sortedHeap_at (out:=(arrOf l).map (·.2)) f;have T:↥ss=↥ks:=L.length_eq;refine Ah ⟨_,rfl,.ref h'.objs.size,_,M.laid (o:=.lst (ss.map V.str)) (t':=tk) (λb o U=>?_) (Ai _) ⟨by rw[Ab];exact Ap (Ht (by lia:↥ss<64)) ∅,((arrOf l).map (·.2)).toList,e,EK O,by rw[He];exact Z⟩,rfl,q ss L _ M.fresh⟩;have Y:b<h'.objs.size:=Bd U;exact(sortedHeap_old (Bn Y) (by rw[Es];exact Np Y)).trans (Af _ U)
end
abbrev NX(es:↑(bQ×Am×V))(xs:↑(bQ×Am×Ae)):Prop:=Fz (λp q=>p.1=q.1/\p.2.1=q.2.1/\RelV p.2.2 q.2.2) es xs
def dG(P:Be)(w:Br)(tl:↑Int)(a:Am)(es:↑(bQ×Am×V))(h:Du):Prop:=
 ∃o J ep xs,h.get? a=aa o/\o.ExactDict/\o.data=.dict J ep/\J.toList=xs.map (Ro (jI P w tl))/\NX es xs/\(xs.map (·.1)).Nodup/\↥xs<=Au/\(a==Fu)=ac
theorem dG.stay(x:dG P w tl a es O)(k:∀o,O.get? a=aa o->L.get? a=aa o):dG P w tl a es L:=by
 let⟨o,J,ep,xs,e,r⟩:=x;exact⟨o,J,ep,xs,k o e,r⟩
theorem dG.ok(x:dG P w tl a es h):b5 P w H h a (.ext (dG P w tl a es)):=
 ⟨x,let ⟨o,_,_,_,e,_⟩:=x;⟨o,e⟩,λO L y k=>y.stay k⟩
def iA(P:Be)(w:Br)(tl:↑Int)(a:Am)(es:↑(bQ×Am×V))(o:Ms)(h:Du):Prop:=h.get? a=aa o/\dG P w tl a es h
theorem iA.ok(x:iA P w tl a es o h):b5 P w H h a (.ext (iA P w tl a es o)):=
 ⟨x,⟨o,x.1⟩,λO L y k=>⟨k _ y.1,y.2.stay k⟩⟩
def V7(o:Ms)(es:↑(bQ×Am×V)):Prop:=∃J ep,o.data=.dict J ep/\J.size=↥es/\∀(j:Nat) (e:Eg),J[j]? = aa e->∃z:bQ×Am×V,es[j]? = aa z/\e.key=.ref z.2.1
def iB(H:Hp)(tl:↑Int)(x:bQ)(b:Am):Prop:=∃G,H b=aa (.tup (kV x.1::.ref G::tl.map V.int))/\H G=aa (.tup (x.2.map kV))
theorem EL:∀{tl:↑Int} {us:↑Ae},a5 (tl.map V.int) us->ItemsAre (bU P w) (tl.map Sum.inl) us
 | [],_,h=>by cases h;exact .nil
 | i::tl,_,h=>by
  cases h with
  | cons r t=>
   let⟨tk,rfl⟩:=r;exact .cons (jU (k:=Sum.inl i) ⟨tk,rfl⟩) (EL t)
theorem iB.is(hok:cS P w H h)(n:iB H tl x b):(jI P w tl).is h x b:=by
 let⟨G,D,T⟩:=n;let⟨_,its,r,o,O,L,m,h3⟩:=(show b5 P w H h b (.tup (kV x.1::.ref G::tl.map V.int)) from hok b _ D);cases r with
 | @cons _ v _ vs l U=>
  cases U with
  | @cons _ z _ a R f=>
   cases (show z=Value.ref G from R);exact⟨o,_,m,v,G,a,O,L,h3,by simp,jU l,i4 hok T,EL f⟩
abbrev SV:=L2.St
inductive W where
 | non|bl (b:Bool)|int (i:Int)|str (x:Av)|ty (n:String)|tup (ws:↑W)|rl (ws:↑W)|sc (ws:↑W)|ref (a:Am)
 | dk (kvs:↑(aC×W))|dt (kvs:↑(↑aC×W))|fk (kvs:↑(aC×W))|ft (kvs:↑(↑aC×W))
inductive MO where
 | lst (ws:↑W)|dK (kvs:↑(aC×W))|dT (kvs:↑(↑aC×W))|fix (vs:↑V)|ins (C dx:Am) (fs:↑(Av×W))|dn (P:Be) (w:Br) (tl:↑Int) (kvs:↑(bQ×W))|vw (d:Am)|dh (P:Be) (w:Br) (tl:↑Int) (kvs:↑(bQ×W)) (o:Ms)
abbrev Mm:=Am->Option MO
noncomputable def zjZ(pos:Hv):Option Am->Array Ae
 | none=>#[]
 | some c=>#[Hr pos.line,Hr pos.col,.ref c]
def put(M:Mm)(a:Am)(o:MO):Mm:=λb=>if b=a then aa o else M b
def del(M:Mm)(a:Am):Mm:=λb=>if b=a then ae else M b
theorem aJ{M:Mm}{a:Am}{o:MO}:put M a o a=aa o:=by unfold put;rw[Vz rfl]
theorem aY{M:Mm}{a b:Am}{o:MO}(h:b≠a):put M a o b=M b:=by unfold put;rw[Vy h]
theorem b7:put (put M a o) a u=put M a u:=by
 funext b;unfold put;split<;>rfl
theorem i5(h:M a=ae):del (put M a o) a=M:=by
 funext b;unfold del put;split
 .rename_i e;rw[e,h]
 .rfl
theorem pA{M:Mm}{a:Am}:del M a a=ae:=by unfold del;rw[Vz rfl]
theorem jV{M:Mm}{a b:Am}(h:b≠a):del M a b=M b:=by unfold del;rw[Vy h]
theorem mQ(h:a≠b):put (put M a o) b u=put (put M b u) a o:=by
 funext c;unfold put
 by_cases O:c=b
 .by_cases L:c=a
  .exact absurd (L.symm.trans O) h
  .rw[Vz O,Vy L,Vz O]
 .by_cases L:c=a
  .rw[Vy O,Vz L,Vz L]
  .rw[Vy O,Vy L,Vy L,Vy O]
theorem xY(h:M a=aa o):put M a o=M:=by
 funext b;unfold put;split
 .rename_i e;rw[e,h]
 .rfl
def Sub(M M':Mm):Prop:=∀a o,M a=aa o->M' a=aa o
theorem Sub.refl(M:Mm):Sub M M:=λ_ _ h=>h
theorem aW:Sub M M:=Sub.refl M
theorem Sub.trans(a:Sub M M1)(b:Sub M1 M2):Sub M M2:=λc o h=>b c o (a c o h)
theorem Sub.new(h:M a=ae):Sub M (put M a o):=λb u e=>by
 rw[aY (λz=>by rw[z,h]at e;cases e)];exact e
theorem Sub.put(h:Sub M M'):Sub (put M a o) (put M' a o):=λb u e=>by
 unfold L2.put at e⊢;split at e
 .rename_i z;rw[Vz z];exact e
 .rename_i z;rw[Vy z];exact h b u e
theorem Sub.del:Sub (del M a) M:=λb u e=>by
 unfold L2.del at e;split at e
 .cases e
 .exact e
theorem Sub.non(h:Sub M M')(e:M' a=ae):M a=ae:=by
 cases q:M a with
 | none=>rfl
 | some o=>rw[h a o q]at e;cases e
def lJ(K:Ac)(H:Hp)(a:Am)(xs:↑V):Prop:=
 (∃o,H a=aa (.frz o (.lst xs)))\/
  ∃(o:Ms) (its:Array Ae) (n:Nat),K.lookup a=aa o/\o.cls=.type "list"/\o.dict=ae/\o.data=.seq its n/\its.size<=Au/\a5 xs its.toList
theorem lJ.sq{K:Ac}{H:Hp}{a:Am}{xs:↑V}(h:lJ K H a xs):bN K H a xs:=by
 rcases h with⟨o,h⟩|h
 .exact .inl (.inr ⟨o,h⟩)
 .exact .inr h
mutual
inductive AV(K:Ac)(H:Hp)(M:Mm):V->W->Prop
 | non:AV K H M .non .non
 | bl (b:Bool):AV K H M (.bl b) (.bl b)
 | int (i:Int):AV K H M (.int i) (.int i)
 | str (x:Av):AV K H M (.str x) (.str x)
 | ty (n:String):AV K H M (.ty n) (.ty n)
 | tup {a:Am} {xs:↑V} {ws:↑W}:H a=aa (.tup xs)->aK K H M xs ws->AV K H M (.ref a) (.tup ws)
 | sc {a:Am} {xs:↑V} {ws:↑W}:lJ K H a xs->aK K H M xs ws->AV K H M (.ref a) (.sc ws)
 | rl {a:Am} {xs:↑V} {ws:↑W}:H a=aa (.lst xs)->M a=ae->aK K H M xs ws->AV K H M (.ref a) (.rl ws)
 | ref (a:Am):AV K H M (.ref a) (.ref a)
 | dk {a:Am} {ks:↑(aC×V)} {kvs:↑(aC×W)}:H a=aa (.dK ks)->M a=ae->ks.map Eb=kvs.map Eb->aK K H M (ks.map Kj) (kvs.map Kj)->AV K H M (.ref a) (.dk kvs)
 | dt {a:Am} {ks:↑(↑aC×V)} {kvs:↑(↑aC×W)}:H a=aa (.dT ks)->M a=ae->ks.map Eb=kvs.map Eb->aK K H M (ks.map Kj) (kvs.map Kj)->AV K H M (.ref a) (.dt kvs)
 | fk {a:Am} {o:Ms} {ks:↑(aC×V)} {kvs:↑(aC×W)}:H a=aa (.frz o (.dK ks))->ks.map Eb=kvs.map Eb->aK K H M (ks.map Kj) (kvs.map Kj)->AV K H M (.ref a) (.fk kvs)
 | ft {a:Am} {o:Ms} {ks:↑(↑aC×V)} {kvs:↑(↑aC×W)}:H a=aa (.frz o (.dT ks))->ks.map Eb=kvs.map Eb->aK K H M (ks.map Kj) (kvs.map Kj)->AV K H M (.ref a) (.ft kvs)
inductive aK(K:Ac)(H:Hp)(M:Mm):↑V->↑W->Prop
 | nil:aK K H M [] []
 | cons {v:V} {vs:↑V} {w:W} {ws:↑W}:AV K H M v w->aK K H M vs ws->aK K H M (v::vs) (w::ws)
end
abbrev bS(K:Ac)(H:Hp)(M:Mm)(b:Type):↑(b×V)->↑(b×W)->Prop:=Fz λp q=>p.1=q.1/\AV K H M p.2 q.2
theorem nY{K:Ac}{H:Hp}{M:Mm}{b:Type}:∀{ks:↑(b×V)} {kvs:↑(b×W)},ks.map Eb=kvs.map Eb->aK K H M (ks.map Kj) (kvs.map Kj)->bS K H M b ks kvs
 | [],[],_,_=>.nil
 | [],_::_,e,_=>by simp at e
 | _::_,[],e,_=>by simp at e
 | p::ps,q::qs,e,h=>by
  rw[Bh,Bh]at e h;rw[Fh]at e;cases h with
  | cons x r=>exact .cons ⟨e.1,x⟩ (nY e.2 r)
theorem bS.keys{K:Ac}{H:Hp}{M:Mm}{b:Type}{ks:↑(b×V)}{kvs:↑(b×W)}(h:bS K H M b ks kvs):ks.map Eb=kvs.map Eb:=by
 induction h with
 | nil=>rfl
 | cons r _ E=>rw[Bh,Bh,E,r.1]
theorem bS.vals{K:Ac}{H:Hp}{M:Mm}{b:Type}{ks:↑(b×V)}{kvs:↑(b×W)}(h:bS K H M b ks kvs):aK K H M (ks.map Kj) (kvs.map Kj):=by
 induction h with
 | nil=>exact .nil
 | cons r _ E=>exact .cons r.2 E
def AO(K:Ac)(H:Hp)(M:Mm)(a:Am):MO->Prop
 | .lst ws=>∃vs,H a=aa (.lst vs)/\aK K H M vs ws
 | .dK kvs=>∃ks,H a=aa (.dK ks)/\bS K H M aC ks kvs
 | .dT kvs=>∃ks,H a=aa (.dT ks)/\bS K H M (↑aC) ks kvs
 | .fix vs=>H a=aa (.lst vs)
 | .ins C s fs=>∃i,H a=aa (.ins C s i)/\bS K H M Av i fs
 | .dn P w tl kvs=>∃es,H a=aa (.ext (dG P w tl a es))/\Fz (λ(e:bQ×Am×V) (p:bQ×W)=>e.1=p.1/\iB H tl e.1 e.2.1/\AV K H M e.2.2 p.2) es kvs
 | .vw d=>H a=aa (.ext λh=>h.IsValuesView a d)
 | .dh P w tl kvs o=>∃es,H a=aa (.ext (iA P w tl a es o))/\V7 o es/\Fz (λ(e:bQ×Am×V) (p:bQ×W)=>e.1=p.1/\iB H tl e.1 e.2.1/\AV K H M e.2.2 p.2) es kvs
def AM(K:Ac)(H:Hp)(M:Mm):Prop:=∀a o,M a=aa o->AO K H M a o
structure Kp(H:Hp)(M:Mm)(H':Hp)(M':Mm):Prop where
 fr:∀a o,M a=ae->H a=aa o->H' a=aa o/\M' a=ae
 dom:∀a o,M a=aa o->∃u,H' a=aa u
structure Go(H:Hp)(M:Mm)(H':Hp)(M':Mm):Prop where
 ht:∀b xs,H b=aa (.tup xs)->H' b=aa (.tup xs)
 hf:∀b o u,H b=aa (.frz o u)->H' b=aa (.frz o u)
 hl:∀b o,M b=ae->H b=aa o->H' b=aa o/\M' b=ae
section
variable {K:Ac}{H H' H1 H2:Hp}{M M' M1 M2:Mm}{a:Am}
theorem AO.has(h:AO K H M a o):∃u,H a=aa u:=by
 cases o with
 | lst ws=>let⟨vs,e,_⟩:=h;exact⟨_,e⟩
 | dK kvs=>let⟨ks,e,_⟩:=h;exact⟨_,e⟩
 | dT kvs=>let⟨ks,e,_⟩:=h;exact⟨_,e⟩
 | fix vs=>exact⟨_,h⟩
 | ins C dx fs=>let⟨gs,e,_⟩:=h;exact⟨_,e⟩
 | dn P w tl kvs=>let⟨gs,e,_⟩:=h;exact⟨_,e⟩
 | vw d=>exact⟨_,h⟩
 | dh P w tl kvs o=>let⟨gs,e,_⟩:=h;exact⟨_,e⟩
theorem AM.nonM(Y:AM K H M)(h:H a=ae):M a=ae:=by
 cases q:M a with
 | none=>rfl
 | some o=>let⟨u,e⟩:=(Y a o q).has;rw[h]at e;cases e
theorem AM.noTup(am:AM K H M)(h:H a=aa (.tup xs)):M a=ae:=by
 cases q:M a with
 | none=>rfl
 | some o=>
  have:=am a o q;cases o with
  | lst ws=>let⟨vs,e,_⟩:=this;rw[h]at e;cases e
  | dK kvs=>let⟨ks,e,_⟩:=this;rw[h]at e;cases e
  | dT kvs=>let⟨ks,e,_⟩:=this;rw[h]at e;cases e
  | fix vs=>have e:H a=aa (.lst vs):=this;rw[h]at e;cases e
  | ins C dx fs=>let⟨gs,e,_⟩:=this;rw[h]at e;cases e
  | dn P w tl kvs=>let⟨gs,e,_⟩:=this;rw[h]at e;cases e
  | vw d=>have e:H a=aa (.ext λh=>h.IsValuesView a d):=this;rw[h]at e;cases e
  | dh P w tl kvs o=>let⟨gs,e,_⟩:=this;rw[h]at e;cases e
theorem AM.noFrz(am:AM K H M)(h:H a=aa (.frz ob u)):M a=ae:=by
 cases q:M a with
 | none=>rfl
 | some o=>
  have:=am a o q;cases o with
  | lst ws=>let⟨vs,e,_⟩:=this;rw[h]at e;cases e
  | dK kvs=>let⟨ks,e,_⟩:=this;rw[h]at e;cases e
  | dT kvs=>let⟨ks,e,_⟩:=this;rw[h]at e;cases e
  | fix vs=>have e:H a=aa (.lst vs):=this;rw[h]at e;cases e
  | ins C dx fs=>let⟨gs,e,_⟩:=this;rw[h]at e;cases e
  | dn P w tl kvs=>let⟨gs,e,_⟩:=this;rw[h]at e;cases e
  | vw d=>have e:H a=aa (.ext λh=>h.IsValuesView a d):=this;rw[h]at e;cases e
  | dh P w tl kvs o=>let⟨gs,e,_⟩:=this;rw[h]at e;cases e
theorem Kp.refl(Y:AM K H M):Kp H M H M:=⟨λa o h e=>⟨e,h⟩,λa o h=>(Y a o h).has⟩
theorem Kp.trans(x:Kp H M H1 M1)(y:Kp H1 M1 H2 M2):Kp H M H2 M2 where
 fr:=λa o h e=>by
  let⟨D,d⟩:=x.fr a o h e;exact y.fr a o d D
 dom:=λa o h=>by
  let⟨u,e⟩:=x.dom a o h;cases q:M1 a with
  | none=>exact⟨u,(y.fr a u q e).1⟩
  | some s=>exact y.dom a s q
theorem Kp.sub(x:Kp H M H1 M1)(h:Sub M2 M1):Kp H M H1 M2 where
 fr:=λa o n e=>⟨(x.fr a o n e).1,h.non (x.fr a o n e).2⟩
 dom:=x.dom
theorem Kp.go(Y:AM K H M)(k:Kp H M H' M'):Go H M H' M':=⟨λb xs e=>(k.fr b _ (Y.noTup e) e).1,λb o u e=>(k.fr b _ (Y.noFrz e) e).1,k.fr⟩
theorem Go.sub(h:Sub M' M):Go H M H M':=⟨λ_ _ e=>e,λ_ _ _ e=>e,λb o n e=>⟨e,h.non n⟩⟩
theorem AV.go(g:Go H M H' M')(h:AV K H M v w):AV K H' M' v w:=AV.rec (motive_1:=λv w _=>AV K H' M' v w) (motive_2:=λvs ws _=>aK K H' M' vs ws) .non .bl .int .str .ty (λe _ q=>.tup (g.ht _ _ e) q) (λe _ q=>.sc (e.elim (λz=>.inl (z.elim λo q=>⟨o,g.hf _ _ _ q⟩)) .inr) q) (λe n _ q=>.rl (g.hl _ _ n e).1 (g.hl _ _ n e).2 q) .ref
  (λe n c _ q=>.dk (g.hl _ _ n e).1 (g.hl _ _ n e).2 c q) (λe n c _ q=>.dt (g.hl _ _ n e).1 (g.hl _ _ n e).2 c q) (λe c _ q=>.fk (g.hf _ _ _ e) c q) (λe c _ q=>.ft (g.hf _ _ _ e) c q) .nil (λ_ _ x r=>.cons x r) h
theorem aK.go(g:Go H M H' M')(h:aK K H M vs ws):aK K H' M' vs ws:=aK.rec (motive_1:=λv w _=>AV K H' M' v w) (motive_2:=λvs ws _=>aK K H' M' vs ws) .non .bl .int .str .ty (λe _ q=>.tup (g.ht _ _ e) q) (λe _ q=>.sc (e.elim (λz=>.inl (z.elim λo q=>⟨o,g.hf _ _ _ q⟩)) .inr) q) (λe n _ q=>.rl (g.hl _ _ n e).1 (g.hl _ _ n e).2 q) .ref
  (λe n c _ q=>.dk (g.hl _ _ n e).1 (g.hl _ _ n e).2 c q) (λe n c _ q=>.dt (g.hl _ _ n e).1 (g.hl _ _ n e).2 c q) (λe c _ q=>.fk (g.hf _ _ _ e) c q) (λe c _ q=>.ft (g.hf _ _ _ e) c q) .nil (λ_ _ x r=>.cons x r) h
theorem bS.go{b:Type}{ks:↑(b×V)}{kvs:↑(b×W)}(g:Go H M H' M')(h:bS K H M b ks kvs):bS K H' M' b ks kvs:=Paired.mapP h λp q z=>⟨z.1,z.2.go g⟩
theorem AO.go{o:MO}(g:Go H M H' M')(e:H' a=H a)(h:AO K H M a o):AO K H' M' a o:=by
 cases o with
 | lst ws=>let⟨vs,e1,r⟩:=h;exact⟨vs,by rw[e];exact e1,r.go g⟩
 | dK kvs=>let⟨vs,e1,r⟩:=h;exact⟨vs,by rw[e];exact e1,r.go g⟩
 | dT kvs=>let⟨vs,e1,r⟩:=h;exact⟨vs,by rw[e];exact e1,r.go g⟩
 | fix vs=>exact e.trans h
 | ins C dx fs=>let⟨gs,e1,r⟩:=h;exact⟨gs,by rw[e];exact e1,r.go g⟩
 | dn P w tl kvs=>let⟨gs,e1,r⟩:=h;exact⟨gs,by rw[e];exact e1,Paired.mapP r λp q z=>⟨z.1,let ⟨pa,n1,n2⟩:=z.2.1;⟨pa,g.ht _ _ n1,g.ht _ _ n2⟩,z.2.2.go g⟩⟩
 | vw d=>exact e.trans h
 | dh P w tl kvs o=>let⟨gs,e1,z0,r⟩:=h;exact⟨gs,by rw[e];exact e1,z0,Paired.mapP r λp q z=>⟨z.1,let ⟨pa,n1,n2⟩:=z.2.1;⟨pa,g.ht _ _ n1,g.ht _ _ n2⟩,z.2.2.go g⟩⟩
theorem AM.sub(Y:AM K H M')(h:Sub M M'):AM K H M:=λa o e=>(Y a o (h a o e)).go (Go.sub h) rfl
theorem AV.sub(h:Sub M' M)(x:AV K H M v w):AV K H M' v w:=x.go (Go.sub h)
theorem aK.sub(h:Sub M' M)(x:aK K H M v w):aK K H M' v w:=x.go (Go.sub h)
theorem AV.kp(Y:AM K H M)(k:Kp H M H' M')(h:AV K H M v w):AV K H' M' v w:=h.go (k.go Y)
theorem aK.kp(Y:AM K H M)(k:Kp H M H' M')(h:aK K H M vs ws):aK K H' M' vs ws:=h.go (k.go Y)
theorem aK.length:∀{vs:↑V} {ws:↑W},aK K H M vs ws->↥vs=↥ws
 | _,_,.nil=>rfl
 | _,_,.cons _ r=>by simp[aK.length r]
theorem aK.append:∀{vs us:↑V} {ws g:↑W},aK K H M vs ws->aK K H M us g->aK K H M (vs++us) (ws++g)
 | _,_,_,_,.nil,s=>s
 | _,_,_,_,.cons x r,s=>.cons x (aK.append r s)
theorem aK.getW:∀{vs:↑V} {ws:↑W} {i:Nat} {w:W},aK K H M vs ws->ws[i]? = aa w->∃v,vs[i]? = aa v/\AV K H M v w
 | _,_,_,_,.nil,e=>by simp at e
 | _,_,0,_,.cons x _,e=>by simp at e;subst e;exact⟨_,rfl,x⟩
 | _,_,i+1,w,.cons _ r,e=>by
  let⟨v,O,L⟩:=aK.getW (i:=i) (w:=w) r (by simpa using e);exact⟨v,by simpa using O,L⟩
theorem aK.getV:∀{vs:↑V} {ws:↑W} {i:Nat} {v:V},aK K H M vs ws->vs[i]? = aa v->∃w,ws[i]? = aa w/\AV K H M v w
 | _,_,_,_,.nil,e=>by simp at e
 | _,_,0,_,.cons x _,e=>by simp at e;subst e;exact⟨_,rfl,x⟩
 | _,_,i+1,v,.cons _ r,e=>by
  let⟨w,O,L⟩:=aK.getV (i:=i) (v:=v) r (by simpa using e);exact⟨w,by simpa using O,L⟩
theorem aK.set(x:AV K H M v w):∀{vs:↑V} {ws:↑W} (i:Nat),aK K H M vs ws->aK K H M (vs.set i v) (ws.set i w)
 | _,_,_,.nil=>.nil
 | _,_,0,.cons _ t=>.cons x t
 | _,_,i+1,.cons q t=>.cons q (aK.set x i t)
theorem aK.take:∀{vs:↑V} {ws:↑W} (n:Nat),aK K H M vs ws->aK K H M (vs.take n) (ws.take n)
 | _,_,0,_=>by simp;exact .nil
 | _,_,_+1,.nil=>.nil
 | _,_,n+1,.cons x t=>.cons x (aK.take n t)
theorem aK.drop:∀{vs:↑V} {ws:↑W} (n:Nat),aK K H M vs ws->aK K H M (vs.drop n) (ws.drop n)
 | _,_,0,h=>h
 | _,_,_+1,.nil=>.nil
 | _,_,n+1,.cons _ t=>aK.drop n t
theorem aK.reverse(h:aK K H M vs ws):aK K H M vs.reverse ws.reverse:=by
 induction vs generalizing ws with
 | nil=>cases h;exact .nil
 | cons v vs E=>
  cases h with
  | cons x r=>rw[Nm,Nm];exact(E r).append (.cons x .nil)
theorem aK.dropLast(h:aK K H M vs ws):aK K H M vs.dropLast ws.dropLast:=by
 rw[List.dropLast_eq_take,List.dropLast_eq_take,↥h];exact h.take _
theorem aK.flatRep(h:aK K H M vs ws):∀n:Nat,aK K H M (Ce n vs).flatten (Ce n ws).flatten
 | 0=>.nil
 | n+1=>by
  rw[Ez,Ez,Hk,Hk];exact h.append (aK.flatRep h n)
theorem aK.int(is:↑Int):aK K H M (is.map V.int) (is.map W.int):=by
 induction is with
 | nil=>exact .nil
 | cons i r E=>exact .cons (.int i) E
theorem EM(G:H p=ae)(F:∀b,b≠p->M b=ae->M' b=ae):Go H M (aL H p u) M':=
 ⟨λb xs e=>by rw[bD (eO e G)];exact e,λb o x e=>by rw[bD (eO e G)];exact e,λb o n e=>⟨by rw[bD (eO e G)];exact e,F b (eO e G) n⟩⟩
theorem EN(G:H p=ae):Go H M (aL H p u) (put M p o):=EM G λb ne n=>by rw[aY ne];exact n
theorem go_same(G:H p=ae):Go H M (aL H p u) M:=EM G λb ne n=>n
theorem AM.laid(Y:AM K H M)(G:H p=ae)(h:AO K (aL H p u) (put M p o) p o):AM K (aL H p u) (put M p o)/\Kp H M (aL H p u) (put M p o):=by
 refine⟨λa x e=>?_,λa x h e=>⟨?_,?_⟩,λa x h=>?_⟩
 .by_cases m:a=p
  .subst m;rw[aJ]at e;cases e;exact h
  .rw[aY m]at e;exact(Y a x e).go (EN G) (bD m)
 .rw[bD (eO e G)];exact e
 .rw[aY (eO e G)];exact h
 .let⟨y,e⟩:=(Y a x h).has;exact⟨y,by rw[bD (eO e G)];exact e⟩
theorem EO:Go H (put M p o) H (put M p u):=⟨λ_ _ e=>e,λ_ _ _ e=>e,λb x n e=>⟨e,by
 have ne:b≠p:=λz=>by rw[z,aJ]at n;cases n
 rw[aY ne]at n⊢;exact n⟩⟩
theorem AM.tup{p:Am}{u:HO}(Y:AM K H M)(G:H p=ae):AM K (aL H p u) M/\Kp H M (aL H p u) M:=by
 refine⟨λa x e=>?_,λa x h e=>⟨?_,h⟩,λa x h=>?_⟩
 .have ne:a≠p:=λz=>by rw[z,Y.nonM G]at e;cases e
  exact(Y a x e).go (go_same G) (bD ne)
 .rw[bD (eO e G)];exact e
 .let⟨y,e⟩:=(Y a x h).has;exact⟨y,by rw[bD (eO e G)];exact e⟩
theorem nZ(Y:AM K H M)(hl:M l=aa c):Go H M (aL H l u) (put M l o):=
 ⟨λb xs e=>by rw[bD (λz=>by rw[<-z,Y.noTup e]at hl;cases hl)];exact e,λb ob x e=>by rw[bD (λz=>by rw[<-z,Y.noFrz e]at hl;cases hl)];exact e,
   λb x n e=>by
  have ne:b≠l:=λz=>by rw[<-z,n]at hl;cases hl
  rw[bD ne,aY ne];exact⟨e,n⟩⟩
theorem AM.write(Y:AM K H M)(hl:M l=aa c)(h:AO K (aL H l u) (put M l o) l o):AM K (aL H l u) (put M l o)/\Kp H M (aL H l u) (put M l o):=by
 refine⟨λa x e=>?_,λa x h e=>?_,λa x h=>?_⟩
 .by_cases m:a=l
  .subst m;rw[aJ]at e;cases e;exact h
  .rw[aY m]at e;exact(Y a x e).go (nZ Y hl) (bD m)
 .have:a≠l:=λz=>by rw[z,hl]at h;cases h
  rw[bD this,aY this];exact⟨e,h⟩
 .by_cases m:a=l
  .subst m;exact⟨u,b8⟩
  .let⟨y,e⟩:=(Y a x h).has;exact⟨y,by rw[bD m];exact e⟩
theorem AM.lst(Y:AM K H M){ws:↑W}(h:M a=aa (.lst ws)):∃vs,H a=aa (.lst vs)/\aK K H M vs ws:=Y a _ h
theorem aK.newT(G:H p=ae)(h:aK K H M vs ws):aK K (aL H p u) M vs ws:=h.go (go_same G)
theorem aK.newL(G:H p=ae)(h:aK K H M vs ws):aK K (aL H p u) (put M p o) vs ws:=h.go (EN G)
theorem aK.wr(Y:AM K H M)(hl:M l=aa c)(h:aK K H M vs ws):aK K (aL H l u) (put M l o) vs ws:=h.go (nZ Y hl)
theorem AV.wr(Y:AM K H M)(hl:M l=aa c)(h:AV K H M v w):AV K (aL H l u) (put M l o) v w:=h.go (nZ Y hl)
end
abbrev S3:=↑(Option W)
abbrev K3:=W->Mm->Prop
abbrev aR:=S3->Mm->K3->Prop
abbrev dE:=S3->Mm->(Bool->Mm->Prop)->Prop
abbrev c0:=S3->Mm->(↑W->Mm->Prop)->Prop
abbrev R3:=W->W->Mm->K3->Prop
structure D3 where
 nx:S3->Mm->Prop
 rt:K3
 bk:S3->Mm->Prop:=λ_ _=>False
 ct:S3->Mm->Prop:=λ_ _=>False
abbrev aE:=D3->S3->Mm->Prop
def AS(K:Ac)(H:Hp)(M:Mm):SV->S3->Prop:=Fz λp l=>∀w,l=aa w->∃v,p=aa v/\AV K H M v w
section
variable {K:Ac}{H H':Hp}{M M':Mm}
theorem AS.kp(Y:AM K H M)(k:Kp H M H' M')(h:AS K H M Z U):AS K H' M' Z U:=
 Paired.mapP h λp l z w e=>by let⟨v,D,r⟩:=z w e;exact⟨v,D,r.kp Y k⟩
theorem AS.sub(g:Sub M' M)(h:AS K H M Z U):AS K H M' Z U:=
 Paired.mapP h λp l z w e=>by let⟨v,D,r⟩:=z w e;exact⟨v,D,r.sub g⟩
theorem AS.get:∀{Z:SV} {U:S3} {i:Nat},AS K H M Z U->U[i]? = aa (aa w)->∃v,Z[i]? = aa (aa v)/\AV K H M v w
 | _,_,_,.nil,e=>by simp at e
 | _,_,0,.cons r _,e=>by
  simp at e;let⟨v,O,L⟩:=r w e;exact⟨v,by rw[O];rfl,L⟩
 | _,_,i+1,.cons _ t,e=>by
  let⟨v,O,L⟩:=AS.get (i:=i) t (by simpa using e);exact⟨v,by simpa using O,L⟩
theorem AS.set(r:AV K H M v w):∀{Z:SV} {U:S3} (i:Nat),AS K H M Z U->AS K H M (Z.set i (aa v)) (U.set i (aa w))
 | _,_,_,.nil=>.nil
 | _,_,0,.cons _ t=>.cons (λx e=>⟨v,rfl,by cases e;exact r⟩) t
 | _,_,i+1,.cons q t=>.cons q (AS.set r i t)
theorem AS.nones:∀n:Nat,AS K H M (Ce n ae) (Ce n ae)
 | 0=>.nil
 | n+1=>.cons (λ_ e=>nomatch e) (AS.nones n)
theorem AS.start(h:aK K H M vs ws)(n:Nat):AS K H M (vs.map aa++Ce n ae) (ws.map aa++Ce n ae):=by
 induction vs generalizing ws with
 | nil=>cases h;exact AS.nones n
 | cons v vs E=>
  cases h with
  | cons x r=>exact .cons (λw e=>⟨v,rfl,by cases e;exact x⟩) (E r)
end
def Up(K:Ac)(H:Hp)(M:Mm)(R:K3)(Q:VK):Prop:=∀v H' w M',Kp H M H' M'->AM K H' M'->AV K H' M' v w->R w M'->Q v H'
def up(K:Ac)(t:aR):TE:=λZ H Q=>∃U M R,AS K H M Z U/\AM K H M/\t U M R/\Up K H M R Q
def kK(K:Ac)(t:dE):TT:=λZ H Q=>∃(U:S3) (M:Mm) (R:Bool->Mm->Prop),AS K H M Z U/\AM K H M/\t U M R/\∀b H' M',Kp H M H' M'->AM K H' M'->R b M'->Q b H'
def pB(K:Ac)(t:c0):TA:=λZ H Q=>∃(U:S3) (M:Mm) (R:↑W->Mm->Prop),AS K H M Z U/\AM K H M/\t U M R/\∀vs H' ws M',Kp H M H' M'->AM K H' M'->aK K H' M' vs ws->R ws M'->Q vs H'
def iN(K:Ac)(H:Hp)(M:Mm)(R:S3->Mm->Prop)(Q:SV->Hp->Prop):Prop:=∀O H' v M',Kp H M H' M'->AM K H' M'->AS K H' M' O v->R v M'->Q O H'
structure qU(K:Ac)(H:Hp)(M:Mm)(D:D3)(E:lE):Prop where
 nx:iN K H M D.nx E.nx
 rt:Up K H M D.rt E.rt
 bk:iN K H M D.bk E.bk
 ct:iN K H M D.ct E.ct
def qV(K:Ac)(t:aE):TS:=λE Z H=>∃U M D,AS K H M Z U/\AM K H M/\t D U M/\qU K H M D E
section
variable {K:Ac}{H H1:Hp}{M M1:Mm}
theorem Up.kp(h:Up K H M R Q)(k:Kp H M H1 M1):Up K H1 M1 R Q:=λv H' w M' y Y av r=>h v H' w M' (k.trans y) Y av r
theorem iN.kp{R:S3->Mm->Prop}{Q:SV->Hp->Prop}(h:iN K H M R Q)(k:Kp H M H1 M1):iN K H1 M1 R Q:=λv H' w M' y Y av r=>h v H' w M' (k.trans y) Y av r
theorem qU.kp(h:qU K H M D E)(k:Kp H M H1 M1):qU K H1 M1 D E:=⟨h.nx.kp k,h.rt.kp k,h.bk.kp k,h.ct.kp k⟩
theorem Up.at(h:Up K H M R Q)(Y:AM K H M)(av:AV K H M v w)(r:R w M):Q v H:=h v H w M (Kp.refl Y) Y av r
end
@[irreducible] def lK(p:Am)(M:Mm)(R:K3):Prop:=(∃ws,M p=aa (.lst ws)/\R (.rl ws) (del M p))\/(∃kvs,M p=aa (.dK kvs)/\R (.dk kvs) (del M p))\/(∃kvs,M p=aa (.dT kvs)/\R (.dt kvs) (del M p))\/R (.ref p) M
def frz:W->Mm->K3->Prop
 | .ref p,M,R=>lK p M R
 | w,M,R=>R w M
theorem Up.frz{K:Ac}{H:Hp}{M:Mm}{R:K3}{Q:VK}(h:Up K H M R Q):Up K H M (λw M'=>frz w M' R) Q:=λv H' w M' k Y av r=>by
 have c:=av;cases av<;>first|exact h _ _ _ _ k Y c r|skip
 case ref p=>
  have r:lK p M' R:=r;unfold lK at r;rcases r with⟨ws,e,r⟩|⟨kvs,e,r⟩|⟨kvs,e,r⟩|r
  .let⟨vs,f,q⟩:=Y.lst e;exact h _ _ _ _ (k.sub Sub.del) (Y.sub Sub.del) (.rl f pA (q.sub Sub.del)) r
  .let⟨ks,f,q⟩:=Y _ _ e;exact h _ _ _ _ (k.sub Sub.del) (Y.sub Sub.del) (.dk f pA q.keys (q.vals.sub Sub.del)) r
  .let⟨ks,f,q⟩:=Y _ _ e;exact h _ _ _ _ (k.sub Sub.del) (Y.sub Sub.del) (.dt f pA q.keys (q.vals.sub Sub.del)) r
  .exact h _ _ _ _ k Y (.ref p) r
theorem ER(G:M p=ae)(r:R (.rl ws) M):lK p (put M p (.lst ws)) R:=by unfold lK;exact .inl ⟨ws,aJ,by rw[i5 G];exact r⟩
theorem ES(G:M p=ae)(r:R (.dk kvs) M):lK p (put M p (.dK kvs)) R:=by unfold lK;exact .inr (.inl ⟨kvs,aJ,by rw[i5 G];exact r⟩)
theorem V8(G:M p=ae)(r:R (.dt kvs) M):lK p (put M p (.dT kvs)) R:=by unfold lK;exact .inr (.inr (.inl ⟨kvs,aJ,by rw[i5 G];exact r⟩))
def aP(ws:↑W)(M:Mm)(R:K3):Prop:=∀p,M p=ae->R (.ref p) (put M p (.lst ws))
def iO(kvs:↑(aC×W))(M:Mm)(R:K3):Prop:=∀p,M p=ae->R (.ref p) (put M p (.dK kvs))
def jW(kvs:↑(↑aC×W))(M:Mm)(R:K3):Prop:=∀p,M p=ae->R (.ref p) (put M p (.dT kvs))
theorem aP.frz{M:Mm}{ws:↑W}{R:K3}(r:R (.rl ws) M):aP ws M λw M'=>L2.frz w M' R:=λp G=>ER G r
theorem iO.frz{M:Mm}{kvs:↑(aC×W)}{R:K3}(r:R (.dk kvs) M):iO kvs M λw M'=>L2.frz w M' R:=λp G=>ES G r
theorem jW.frz{M:Mm}{kvs:↑(↑aC×W)}{R:K3}(r:R (.dt kvs) M):jW kvs M λw M'=>L2.frz w M' R:=λp G=>V8 G r
abbrev bJ(t:aR):aR:=λU M R=>t U M λw M'=>frz w M' R
def V9(K:Ac)(H:Hp)(M:Mm)(v:V):W->Prop
 | .non=>v=.non
 | .bl b=>v=.bl b
 | .int i=>v=.int i
 | .str x=>v=.str x
 | .ty n=>v=.ty n
 | .tup ws=>∃a xs,v=.ref a/\H a=aa (.tup xs)/\aK K H M xs ws
 | .sc ws=>∃a xs,v=.ref a/\lJ K H a xs/\aK K H M xs ws
 | .rl ws=>∃a xs,v=.ref a/\H a=aa (.lst xs)/\M a=ae/\aK K H M xs ws
 | .ref a=>v=.ref a
 | .dk kvs=>∃a ks,v=.ref a/\H a=aa (.dK ks)/\M a=ae/\bS K H M aC ks kvs
 | .dt kvs=>∃a ks,v=.ref a/\H a=aa (.dT ks)/\M a=ae/\bS K H M (↑aC) ks kvs
 | .fk kvs=>∃a ks,v=.ref a/\(∃o,H a=aa (.frz o (.dK ks)))/\bS K H M aC ks kvs
 | .ft kvs=>∃a ks,v=.ref a/\(∃o,H a=aa (.frz o (.dT ks)))/\bS K H M (↑aC) ks kvs
section
variable {K:Ac}{H:Hp}{M:Mm}{v:V}{vs:↑V}{w:W}{ws:↑W}{C:Prop}
theorem AV.inv(h:AV K H M v w):V9 K H M v w:=by
 cases h
 case non|bl|int|str|ty|ref=>rfl
 case tup|sc=>rename_i e q;exact⟨_,_,rfl,e,q⟩
 case rl=>rename_i e n q;exact⟨_,_,rfl,e,n,q⟩
 case dk|dt=>rename_i e n z q;exact⟨_,_,rfl,e,n,nY z q⟩
 case fk|ft=>rename_i e z q;exact⟨_,_,rfl,⟨_,e⟩,nY z q⟩
theorem AV.tupE(h:AV K H M v (.tup ws))(c:∀a xs,v=.ref a->H a=aa (.tup xs)->aK K H M xs ws->C):C:=
 let ⟨a,xs,e,f,q⟩:=h.inv;c a xs e f q
theorem AV.scE(h:AV K H M v (.sc ws))(c:∀a xs,v=.ref a->lJ K H a xs->aK K H M xs ws->C):C:=
 let ⟨a,xs,e,f,q⟩:=h.inv;c a xs e f q
theorem AV.rlE(h:AV K H M v (.rl ws))(c:∀a xs,v=.ref a->H a=aa (.lst xs)->aK K H M xs ws->C):C:=
 let ⟨a,xs,e,f,_,q⟩:=h.inv;c a xs e f q
theorem aK.nil_(h:aK K H M vs []):vs=[]:=by cases h;rfl
theorem aK.one(h:aK K H M vs [w]):∃v,vs=[v]/\AV K H M v w:=by
 cases h with
 | cons x r=>rw[r.nil_];exact⟨_,rfl,x⟩
theorem aK.oneE(h:aK K H M vs [w])(c:∀v,vs=[v]->AV K H M v w->C):C:=h.one.elim λv h=>c v h.1 h.2
theorem aK.two(h:aK K H M vs [w,z]):∃v u,vs=[v,u]/\AV K H M v w/\AV K H M u z:=by
 cases h with
 | cons x r=>let⟨u,rfl,y⟩:=r.one;exact⟨_,_,rfl,x,y⟩
theorem AM.lstE(Y:AM K H M)(e:M a=aa (.lst ws))(c:∀xs,H a=aa (.lst xs)->aK K H M xs ws->C):C:=(Y.lst e).elim λv h=>c v h.1 h.2
theorem iP(e:vs=[x])(f:x=y):vs=[y]:=by rw[e,f]
end
theorem up.el{K:Ac}{H:Hp}{Z:SV}{C:Prop}{t:aR}{Q:VK}(h:up K t Z H Q)(c:∀U M R,AS K H M Z U->AM K H M->t U M R->Up K H M R Q->C):C:=by let⟨U,M,R,a,b,h,k⟩:=h;exact c U M R a b h k
theorem kK.el{K:Ac}{H:Hp}{Z:SV}{C:Prop}{t:dE}{Q:Bool->Hp->Prop}(h:kK K t Z H Q)(c:∀U M R,AS K H M Z U->AM K H M->t U M R->(∀b H' M',Kp H M H' M'->AM K H' M'->R b M'->Q b H')->C):C:=by let⟨U,M,R,a,b,h,k⟩:=h;exact c U M R a b h k
theorem pB.el{K:Ac}{H:Hp}{Z:SV}{C:Prop}{t:c0}{Q:↑V->Hp->Prop}(h:pB K t Z H Q)(c:∀U M R,AS K H M Z U->AM K H M->t U M R->(∀vs H' ws M',Kp H M H' M'->AM K H' M'->aK K H' M' vs ws->R ws M'->Q vs H')->C):C:=by let⟨U,M,R,a,b,h,k⟩:=h;exact c U M R a b h k
theorem qV.el{K:Ac}{H:Hp}{Z:SV}{C:Prop}{t:aE}{E:lE}(h:qV K t E Z H)(c:∀U M D,AS K H M Z U->AM K H M->t D U M->qU K H M D E->C):C:=by let⟨U,M,D,a,b,h,k⟩:=h;exact c U M D a b h k
section
variable {X:Cx}
theorem PE.weak(h:PE X e t)(k:∀Z H Q,t' Z H Q->t Z H Q):PE X e t':=λaf s Z H Q I q=>h af s Z H Q I (k Z H Q q)
theorem PT.weak(h:PT X e t)(k:∀Z H Q,t' Z H Q->t Z H Q):PT X e t':=λaf s Z H Q I q=>h af s Z H Q I (k Z H Q q)
theorem PW.weak(h:PW X e t)(k:∀Z H Q,t' Z H Q->t Z H Q):PW X e t':=λd af s Z H Q I q=>h d af s Z H Q I (k Z H Q q)
theorem PA.weak(h:PA X es t)(k:∀Z H Q,t' Z H Q->t Z H Q):PA X es t':=λpos af s Z H Q I q=>h pos af s Z H Q I (k Z H Q q)
theorem PS.weak{st:PySem.Stmt}{t t':TS}(h:PS X st t)(k:∀D Z H,t' D Z H->t D Z H):PS X st t':=λaf s Z H D I q=>h af s Z H D I (k D Z H q)
theorem fN.weak{st:List PySem.Stmt}{t t':TS}(h:fN X st t)(k:∀D Z H,t' D Z H->t D Z H):fN X st t':=λaf s Z H D I q=>h af s Z H D I (k D Z H q)
theorem PO.weak(h:PO X e t)(k:∀Z H Q,t' Z H Q->t Z H Q):PO X e t':=λaf s Z H Q I q=>h af s Z H Q I (k Z H Q q)
theorem iM.weak(h:iM X es t)(k:∀Z H Q,t' Z H Q->t Z H Q):iM X es t':=λaf s Z H Q I q=>h af s Z H Q I (k Z H Q q)
end
abbrev E3(X:Cx)(e:Ck)(t:aR):Prop:=PE X e (up X.K t)
abbrev T3(X:Cx)(e:Ck)(t:dE):Prop:=PT X e (kK X.K t)
abbrev W3(X:Cx)(e:Ck)(t:dE):Prop:=PW X e (kK X.K t)
abbrev A3(X:Cx)(es:↑Ck)(t:c0):Prop:=PA X es (pB X.K t)
def cJ(K:Ac)(r:R3):R2:=λx y H Q=>∃t l M R,AM K H M/\AV K H M x t/\AV K H M y l/\r t l M R/\Up K H M R Q
def ET(K:Ac)(r:W->Mm->K3->Prop):V->Hp->VK->Prop:=λx H Q=>∃t M R,AM K H M/\AV K H M x t/\r t M R/\Up K H M R Q
def e9(K:Ac)(r:↑W->Mm->K3->Prop):↑V->Hp->VK->Prop:=λxs H Q=>∃ws M R,AM K H M/\aK K H M xs ws/\r ws M R/\Up K H M R Q
def jJ(K:Ac)(r:W->↑W->Mm->K3->Prop):V->↑V->Hp->VK->Prop:=λx xs H Q=>∃t ws M R,AM K H M/\AV K H M x t/\aK K H M xs ws/\r t ws M R/\Up K H M R Q
section
variable {X:Cx}{a b c:Ck}{ta tb tc:aR}{pos:Hv}
def so{B:Type}:Option B->(B->Prop)->Prop
 | some a,Q=>Q a
 | none,_=>False
theorem so.el{B:Type}{o:Option B}{Q:B->Prop}(h:so o Q):∃a,o=aa a/\Q a:=by
 cases o
 .exact h.elim
 .exact⟨_,rfl,h⟩
theorem so.of{B:Type}{o:Option B}{a:B}{Q:B->Prop}(e:o=aa a)(h:Q a):so o Q:=by subst e;exact h
abbrev lL:W->(Bool->Prop)->Prop
 | .bl k,Q=>Q k
 | _,_=>False
theorem lL.el{Q:Bool->Prop}(h:lL w Q):∃k,w=.bl k/\Q k:=by cases w<;>first|exact⟨_,rfl,h⟩|exact h.elim
abbrev sz:↑W->Prop->Prop
 | [],Q=>Q
 | [_],Q=>Q
 | [_,_],Q=>Q
 | [_,_,_],Q=>Q
 | [_,_,_,_],Q=>Q
 | ws,Q=>↥ws<=Au/\Q
theorem sz.el{Q:Prop}(h:sz ws Q):↥ws<=Au/\Q:=by
 unfold sz at h;split at h
 case h_6=>exact h
 all_goals exact⟨Ap (by simp) (show 4<=Au by decide),h⟩
abbrev dH(i:Nat):aR:=λU M R=>match U[i]? with
 | some (aa w)=>R w M
 | _=>False
theorem WA{i:Nat}(h:dH i U M R):∃w,U[i]? = aa (aa w)/\R w M:=by
 unfold dH at h;split at h
 .exact⟨_,‹_›,h⟩
 .exact h.elim
abbrev vC(w:W):aR:=λ_ M R=>R w M
theorem v(i:Nat)(t:X.N[i]? = aa x:=by rfl)(c:sQ X.env.scope x:=by first|exact Or.inl rfl|exact Or.inr (Or.inl rfl)|exact Or.inr (Or.inr rfl))(hd:Db x:=by decide)(p:(x==("__classdict__" : Av))=ac:=by decide):E3 X (.Name x pos) (dH i):=(B3 t c hd p).weak λZ H Q A=>by
 let⟨U,M,R,J,Y,h,k⟩:=A;let⟨w,e,r⟩:=WA h;let⟨v,D,av⟩:=J.get e;exact⟨v,D,k.at Y av r⟩
theorem WB{i j pos}:E3 X (.Constant (.int i) j pos) (vC (.int i)):=N8.weak λZ H Q A=>A.el λU M R J Y r k=>k.at Y (.int i) r
theorem WC{b j pos}:E3 X (.Constant (.bool b) j pos) (vC (.bl b)):=N9.weak λZ H Q A=>A.el λU M R J Y r k=>k.at Y (.bl b) r
theorem WD{x j pos}:E3 X (.Constant (.str x) j pos) (vC (.str x)):=OA.weak λZ H Q A=>A.el λU M R J Y r k=>k.at Y (.str x) r
theorem qW{x:Av}{y:V}{w:W}{u:Ae}{pos:Hv}(hg:Gl X x)(S:X.mg x=aa u)(r:RelV y u)(hw:∀H M,AV X.K H M y w)(hd:Db x:=by decide):E3 X (.Name x pos) (vC w):=
 (OB hg S r hd).weak λZ H Q A=>A.el λU M R J Y r k=>k.at Y (hw H M) r
theorem xZ{x:Av}{y:V}{w:W}{u:Ae}{pos:Hv}(hg:Gl X x)(S:X.mg x=ae)(c:Cu x=aa u)(r:RelV y u)(hw:∀H M,AV X.K H M y w)(hn:x≠"__name__":=by decide)(hd:Db x:=by decide):E3 X (.Name x pos) (vC w):=
 (OC hg S c r hn hd).weak λZ H Q A=>A.el λU M R J Y r k=>k.at Y (hw H M) r
theorem WE(m:E3 X a ta):E3 X a (bJ ta):=m.weak λZ H Q A=>A.el λU M R J Y h k=>⟨U,M,_,J,Y,h,k.frz⟩
abbrev aH(r:R3)(ta tb:aR):aR:=λU M R=>ta U M λx M1=>tb U M1 λy f=>r x y f R
abbrev aG:=dH 0
abbrev aM:=dH 1
abbrev aT:=dH 2
abbrev a7:=dH 3
abbrev a9:=dH 4
abbrev b9:=dH 5
abbrev cF:=dH 6
abbrev cT:=dH 7
abbrev eI:=dH 8
abbrev gX:=dH 9
abbrev qX:=dH 10
abbrev tX:=dH 11
abbrev yA:=dH 12
abbrev vI(i:Int):=vC (.int i)
abbrev a6:=vI 0
abbrev a8:=vI 1
abbrev kL:=vI 2
abbrev jX:=vI 3
theorem tY{K:Ac}{r:R3}{Z:SV}{H:Hp}{Q:VK}(h:up K (aH r ta tb) Z H Q):qL (cJ K r) (up K ta) (up K tb) Z H Q:=by
 let⟨U,M,R,J,Y,h,k⟩:=h;refine⟨U,M,_,J,Y,h,λx H1 t M1 B P N O=>⟨U,M1,_,J.kp Y B,P,O,λy w l f F E S L=>?_⟩⟩;exact⟨t,l,f,R,E,N.kp P F,S,L,(k.kp B).kp F⟩
theorem WG(f:bB X (Eh op) (cJ X.K r))(m:E3 X a ta)(Z:E3 X b tb):E3 X (.BinOp a op b pos) (aH r ta tb):=(QB f m Z).weak λ_ _ _ h=>tY h
theorem WH(ho:bB X (Dk op) (cJ X.K r))(ha:E3 X a ta)(hb:E3 X b tb)(hm:Mq op b=ac:=by first|exact B9 _|with_unfolding_all rfl):E3 X (.Compare a [op] [b] pos) (aH r ta tb):=(QY ho ha hb hm).weak λ_ _ _ h=>tY h
abbrev bK(t:aR):dE:=λU M Q=>t U M λw M'=>lL w λk=>Q k M'
theorem AV.bl_inv{K:Ac}{H:Hp}{M:Mm}{v:V}{k:Bool}(h:AV K H M v (.bl k)):v=.bl k:=by cases h;rfl
theorem WI{op:Vf}{r:R3}(f:bB X (Dk op) (cJ X.K r))(m:E3 X a ta)(W:E3 X b tb)(S:Mq op b=ac:=by first|exact B9 _|with_unfolding_all rfl):T3 X (.Compare a [op] [b] pos) (bK (aH r ta tb)):=
 (QZ f m W S).weak λZ H Q A=>A.el λU M R J Y h k=>tY ⟨U,M,_,J,Y,h,λv H' w M' y t av h=>by
  let⟨c,rfl,r⟩:=h.el;exact⟨c,av.bl_inv,k c H' M' y t r⟩⟩
abbrev kM(r:W->Mm->K3->Prop)(ta:aR):aR:=λU M R=>ta U M λx M1=>r x M1 R
theorem WJ{op:UnaryOp}{r:W->Mm->K3->Prop}(f:qK X (Vn op) (ET X.K r))(m:E3 X a ta):E3 X (.UnaryOp op a pos) (kM r ta):=
 (QC f m).weak λZ H Q A=>A.el λU M R J Y h k=>⟨U,M,_,J,Y,h,λx H1 t M1 B P N O=>⟨t,M1,R,P,N,O,k.kp B⟩⟩
def qY:W->Mm->(Bool->Mm->Prop)->Prop
 | .non,M,Q=>Q ac M
 | .bl b,M,Q=>Q b M
 | .int i,M,Q=>Q (i !=0) M
 | .str y,M,Q=>↥y<=Au/\Q ((↥y:Int) !=0) M
 | .tup ws,M,Q=>Q (!ws.isEmpty) M
 | .rl ws,M,Q=>Q (!ws.isEmpty) M
 | .sc ws,M,Q=>Q (!ws.isEmpty) M
 | .dk kvs,M,Q=>Q (!kvs.isEmpty) M
 | .ref p,M,Q=>(∃ws,M p=aa (.lst ws)/\Q (!ws.isEmpty) M)\/∃kvs,M p=aa (.dK kvs)/\Q (!kvs.isEmpty) M
 | _,_,_=>False
abbrev dQ(t:aR):dE:=λU M Q=>t U M λw M'=>qY w M' Q
theorem aK.empty{K:Ac}{H:Hp}{M:Mm}{vs:↑V}{ws:↑W}(h:aK K H M vs ws):(!ws.isEmpty) = !vs.isEmpty:=by cases h<;>rfl
theorem WK(m:E3 X a ta)(W:∀whole,Uq a X.env whole=(do let v <-whole;Qo a.pos;Jv [v] (truthy v)):=by intro _;rfl):T3 X a (dQ ta):=
 (Q3 m W).weak λZ H Q A=>A.el λU M R J Y h k=>⟨U,M,_,J,Y,h,λv H' w M' E t av r=>by
  cases av with
  | non=>exact⟨ac,rfl,k _ _ _ E t r⟩
  | bl b=>exact⟨b,rfl,k _ _ _ E t r⟩
  | int i=>exact⟨_,rfl,k _ _ _ E t r⟩
  | str y=>exact⟨_,⟨r.1,rfl⟩,k _ _ _ E t r.2⟩
  | ty n=>exact Bq r
  | tup e q=>exact⟨_,.inr (.inl ⟨_,bL.of e,q.empty⟩),k _ _ _ E t r⟩
  | rl e n q=>exact⟨_,.inl ⟨_,bN.of e,q.empty⟩,k _ _ _ E t r⟩
  | sc e q=>exact⟨_,.inl ⟨_,e.sq,q.empty⟩,k _ _ _ E t r⟩
  | @dk a ks kvs e n c q=>exact⟨!kvs.isEmpty,.inr (.inr ⟨_,e,by have:=nY c q;cases this<;>rfl⟩),k _ _ _ E t r⟩
  | dt e n c q=>exact Bq r
  | fk e c q=>exact Bq r
  | ft e c q=>exact Bq r
  | ref p=>
   rcases r with⟨ws,e,r⟩|⟨kvs,e,r⟩
   .let⟨vs,D,q⟩:=t.lst e;exact⟨_,.inl ⟨_,bN.of D,q.empty⟩,k _ _ _ E t r⟩
   .let⟨ks,D,q⟩:=t _ _ e;exact⟨!kvs.isEmpty,.inr (.inr ⟨_,D,by cases q<;>rfl⟩),k _ _ _ E t r⟩⟩
abbrev iQ(t u:dE):dE:=λU M Q=>t U M λc M1=>if c=ab then u U M1 Q else Q ac M1
abbrev kN(t u:dE):dE:=λU M Q=>t U M λc M1=>if c=ab then Q ab M1 else u U M1 Q
abbrev kO(t:dE):dE:=λU M Q=>t U M λc M1=>Q (!c) M1
variable {tA tB':dE}{rest:↑Ck}
theorem WL(m:T3 X a tA):W3 X (.BoolOp .And [a] pos) tA:=OG m
theorem WM(m:T3 X a tA):W3 X (.BoolOp .Or [a] pos) tA:=OH m
theorem WN(m:T3 X a tA)(W:W3 X (.BoolOp .And (b::rest) pos) tB'):W3 X (.BoolOp .And (a::b::rest) pos) (iQ tA tB'):=
 (OI m W).weak λZ H Q A=>A.el λU M R J Y h k=>⟨U,M,_,J,Y,h,λc H1 M1 B P O=>by
  cases c with
  | true=>exact⟨U,M1,R,J.kp Y B,P,O,λb H' M' y t r=>k b H' M' (B.trans y) t r⟩
  | false=>exact k ac H1 M1 B P O⟩
theorem WO(m:T3 X a tA)(W:W3 X (.BoolOp .Or (b::rest) pos) tB'):W3 X (.BoolOp .Or (a::b::rest) pos) (kN tA tB'):=
 (OJ m W).weak λZ H Q A=>A.el λU M R J Y h k=>⟨U,M,_,J,Y,h,λc H1 M1 B P O=>by
  cases c with
  | true=>exact k ab H1 M1 B P O
  | false=>exact⟨U,M1,R,J.kp Y B,P,O,λb H' M' y t r=>k b H' M' (B.trans y) t r⟩⟩
theorem WQ(m:T3 X a tA):T3 X (.UnaryOp .Not a pos) (kO tA):=
 (OL m).weak λZ H Q A=>A.el λU M R J Y h k=>⟨U,M,_,J,Y,h,λc H1 M1 B P O=>k (!c) H1 M1 B P O⟩
abbrev tZ(ta tb:aR):aR:=λU M R=>ta U M λx M1=>lL x λc=>if c=ab then tb U M1 R else R (.bl ac) M1
abbrev n4(ta tb:aR):aR:=λU M R=>ta U M λx M1=>lL x λc=>if c=ab then R (.bl ab) M1 else tb U M1 R
theorem WR{op}(h:E3 X a ta):E3 X (.BoolOp op [a] pos) ta:=OO h
theorem v_and(m:E3 X a ta)(W:E3 X (.BoolOp .And (b::rest) pos) tb):E3 X (.BoolOp .And (a::b::rest) pos) (tZ ta tb):=
 (OP m W).weak λZ H Q A=>A.el λU M R J Y h k=>⟨U,M,_,J,Y,h,λx H1 t M1 B P N h=>by
  let⟨c,rfl,O⟩:=h.el;refine⟨c,N.bl_inv,?_⟩;cases c with
  | true=>exact⟨U,M1,R,J.kp Y B,P,O,k.kp B⟩
  | false=>exact(k.kp B).at P (.bl ac) O⟩
theorem v_or(m:E3 X a ta)(W:E3 X (.BoolOp .Or (b::rest) pos) tb):E3 X (.BoolOp .Or (a::b::rest) pos) (n4 ta tb):=
 (OQ m W).weak λZ H Q A=>A.el λU M R J Y h k=>⟨U,M,_,J,Y,h,λx H1 t M1 B P N h=>by
  let⟨c,rfl,O⟩:=h.el;refine⟨c,N.bl_inv,?_⟩;cases c with
  | true=>exact(k.kp B).at P (.bl ab) O
  | false=>exact⟨U,M1,R,J.kp Y B,P,O,k.kp B⟩⟩
abbrev yB(t:dE)(ta tb:aR):aR:=λU M R=>t U M λc M1=>if c=ab then ta U M1 R else tb U M1 R
theorem WS(hc:T3 X c tA)(m:E3 X a ta)(W:E3 X b tb):E3 X (.IfExp c a b pos) (yB tA ta tb):=
 (OS hc m W).weak λZ H Q A=>A.el λU M R J Y h k=>⟨U,M,_,J,Y,h,λc H1 M1 B P O=>by
  cases c with
  | true=>exact⟨U,M1,R,J.kp Y B,P,O,k.kp B⟩
  | false=>exact⟨U,M1,R,J.kp Y B,P,O,k.kp B⟩⟩
abbrev aB:c0:=λ_ M R=>R [] M
abbrev aA(ta:aR)(a:c0):c0:=λU M R=>ta U M λx M1=>a U M1 λxs f=>R (x::xs) f
variable {e:Ck}{es:↑Ck}{te:aR}{t:c0}
theorem qZ:A3 X [] aB:=RO.weak λZ H Q A=>A.el λU M R J Y h k=>k [] H [] M (Kp.refl Y) Y .nil h
theorem pC(m:E3 X e te)(T:A3 X es t)(F:Se X e es:=by rfl):A3 X (e::es) (aA te t):=
 (RP m T F).weak λZ H Q A=>A.el λU M R J Y h k=>⟨U,M,_,J,Y,h,λx H1 p M1 B P N O=>⟨U,M1,_,J.kp Y B,P,O,λxs w ws f S E d L=>
  k (x::xs) w (p::ws) f (B.trans S) E (.cons (N.kp P S) d) L⟩⟩
abbrev bA(t:c0):aR:=λU M R=>t U M λws M1=>sz ws (R (.tup ws) M1)
abbrev fH(t:c0):aR:=λU M R=>t U M λws M1=>sz ws (aP ws M1 R)
theorem laidT{K:Ac}{H:Hp}{M:Mm}{R:K3}{Q:VK}{p:Am}{xs:↑V}{ws:↑W}(Y:AM K H M)(k:Up K H M R Q)(G:H p=ae)(N:aK K H M xs ws)(r:R (.tup ws) M):Q (.ref p) (aL H p (.tup xs)):=by
 let⟨E,F⟩:=Y.tup (u:=.tup xs) G;exact k _ _ _ _ F E (.tup b8 (N.newT G)) r
theorem gL{K:Ac}{H:Hp}{M:Mm}{R:K3}{Q:VK}{p:Am}{xs:↑V}{ws:↑W}(Y:AM K H M)(k:Up K H M R Q)(G:H p=ae)(N:aK K H M xs ws)(r:∀p,M p=ae->R (.ref p) (put M p (.lst ws))):Q (.ref p) (aL H p (.lst xs)):=by
 let⟨E,F⟩:=Y.laid (o:=.lst ws) (u:=.lst xs) G ⟨xs,b8,N.newL G⟩;exact k _ _ _ _ F E (.ref p) (r p (Y.nonM G))
theorem rA{K:Ac}{H:Hp}{M:Mm}{R:K3}{Q:VK}{l:Am}{xs:↑V}{ws b:↑W}{y:V}{w:W}(Y:AM K H M)(k:Up K H M R Q)(hl:M l=aa (.lst b))(N:aK K H M xs ws)(S:AV K H M y w)(r:R w (put M l (.lst ws))):Q y (aL H l (.lst xs)):=by
 let⟨E,F⟩:=Y.write (o:=.lst ws) (u:=.lst xs) hl ⟨xs,b8,N.wr Y hl⟩;exact k _ _ _ _ F E (S.wr Y hl) r
theorem WT{x1}(h:A3 X es t):E3 X (.Tuple es x1 pos) (bA t):=
 (RU h).weak λZ H Q A=>A.el λU M R J Y h k=>⟨U,M,_,J,Y,h,λxs H1 ws M1 B P d r=>⟨by rw[↥d];exact r.el.1,λp G=>laidT P (k.kp B) G d r.el.2⟩⟩
theorem WU(h:A3 X es t):E3 X (.List es pos) (fH t):=
 (CI h).weak λZ H Q A=>A.el λU M R J Y h k=>⟨U,M,_,J,Y,h,λxs H1 ws M1 B P d r=>⟨by rw[↥d];exact r.el.1,λp G=>gL P (k.kp B) G d r.el.2⟩⟩
abbrev bH(r:↑W->Mm->K3->Prop)(t:c0):aR:=λU M R=>t U M λws M1=>r ws M1 R
variable {x:Av}{p:Hv}{id T:String}{r:↑W->Mm->K3->Prop}
theorem EU{K:Ac}{Z:SV}{H:Hp}{Q:VK}(h:up K (bH r t) Z H Q):xF (e9 K r) (pB K t) Z H Q:=by
 let⟨U,M,R,J,Y,h,k⟩:=h;exact⟨U,M,_,J,Y,h,λxs H1 ws M1 B P d O=>⟨ws,M1,R,P,d,O,k.kp B⟩⟩
theorem rB(hc:cR X (.builtin id) (e9 X.K r))(hg:Gl X x)(S:X.mg x=ae)(c:Cu x=aa (.builtin id))(m:A3 X (e::es) t)(hn:x≠"__name__":=by decide)(o:Db x:=by decide)(F:Se X e es:=by rfl)(a:Sb X pos es:=by rfl):E3 X (.Call (.Name x p) (e::es) [] pos) (bH r t):=(R4 hc hg S c m hn o F a).weak λ_ _ _ h=>EU h
theorem lM(hc:cR X (.type T) (e9 X.K r))(hg:Gl X x)(S:X.mg x=ae)(c:Cu x=aa (.type T))(m:A3 X (e::es) t)(hn:x≠"__name__":=by decide)(o:Db x:=by decide)(F:Se X e es:=by rfl)(a:Sb X pos es:=by rfl):E3 X (.Call (.Name x p) (e::es) [] pos) (bH r t):=(R5 hc hg S c m hn o F a).weak λ_ _ _ h=>EU h
abbrev aV:=↑W->Mm->K3->Prop
def eW(K:Ac)(sp:aV):Sp:=λvs H Q _=>∃ws M R,AM K H M/\aK K H M vs ws/\sp ws M R/\Up K H M R Q
variable {k:Nat}{f:Am}{fd:Ff}{ps:↑Av}{sp:aV}
abbrev aS(sp:aV)(t:c0):aR:=λU M R=>t U M λws M1=>sp ws M1 R
theorem EV{K:Ac}{Z:SV}{H:Hp}{Q:VK}(h:up K (aS sp t) Z H Q):CJ (eW K sp) [] E0 (pB K t) Z H Q:=by
 let⟨U,M,R,J,Y,h,k⟩:=h;exact⟨U,M,_,J,Y,h,λxs H1 ws M1 B P d O=>⟨ws,M1,R,P,by rw[Bs];exact d,O,k.kp B⟩⟩
theorem n5(F:X.f eD k f fd ps (eW X.K sp))(T:cQ k X.A)(hg:Gl X x)(S:X.mg x=aa (.ref f))(hk:Gj X.K (.ref f)=ab)(Z:Binds X.K fd ps [])(m:A3 X (e::es) t)(o:Db x:=by decide)(Y:Se X e es:=by rfl)(a:Sb X pos es:=by rfl):
  E3 X (.Call (.Name x p) (e::es) [] pos) (aS sp t):=(RV F T hg S hk Z .nil oW m o Y a).weak λ_ _ _ h=>EV h
def jY(T:String):W->Mm->Prop
 | .str _,_=>T = "str"
 | .int _,_=>T = "int"
 | .rl _,_=>T = "list"
 | .sc _,_=>T = "list"
 | .dk _,_=>T = "dict"
 | .dt _,_=>T = "dict"
 | .fk _,_=>T = "dict"
 | .ft _,_=>T = "dict"
 | .ref p,M=>(T = "list"/\∃ws,M p=aa (.lst ws))\/(T = "dict"/\((∃kvs,M p=aa (.dK kvs))\/∃kvs,M p=aa (.dT kvs)))
 | _,_=>False
theorem EW{K:Ac}{H:Hp}{M:Mm}{v:V}{w:W}(Y:AM K H M)(av:AV K H M v w)(h:jY T w M):tH K T v H:=by
 cases av with
 | str y=>exact h
 | int i=>exact h
 | rl e n q=>exact .inl ⟨h,_,bN.of e⟩
 | sc e q=>exact .inl ⟨h,_,e.sq⟩
 | dk e n c q=>exact .inr (.inr (.inl ⟨h,.inl ⟨_,.inl e⟩⟩))
 | dt e n c q=>exact .inr (.inr (.inl ⟨h,.inr ⟨_,.inl e⟩⟩))
 | ref p=>
  rcases h with⟨e,ws,h⟩|⟨e,h⟩
  .let⟨vs,D,_⟩:=Y.lst h;exact .inl ⟨e,vs,bN.of D⟩
  .refine .inr (.inr (.inl ⟨e,?_⟩));rcases h with⟨kvs,h⟩|⟨kvs,h⟩
   .let⟨ks,D,_⟩:=Y _ _ h;exact .inl ⟨ks,.inl D⟩
   .let⟨ks,D,_⟩:=Y _ _ h;exact .inr ⟨ks,.inl D⟩
 | non=>exact h.elim
 | bl b=>exact h.elim
 | ty n=>exact h.elim
 | tup e q=>exact h.elim
 | fk e c q=>exact .inr (.inr (.inl ⟨h,.inl ⟨_,.inr ⟨_,e⟩⟩⟩))
 | ft e c q=>exact .inr (.inr (.inl ⟨h,.inr ⟨_,.inr ⟨_,e⟩⟩⟩))
variable {o:Ck}{to:aR}{name:Av}{apos cpos:Hv}{rm:W->↑W->Mm->K3->Prop}
abbrev mR(T:String)(r:W->↑W->Mm->K3->Prop)(to:aR):aR:=λU M R=>to U M λx M1=>jY T x M1/\r x [] M1 R
abbrev cN(T:String)(r:W->↑W->Mm->K3->Prop)(to:aR)(t:c0):aR:=λU M R=>to U M λx M1=>jY T x M1/\t U M1 λxs f=>r x xs f R
theorem EX(G:Pp T)(slot:Slot T name id)(q:Ul (.builtin id)=pure (.type "method_descriptor"))(S:e8 X id (jJ X.K rm))(f:E3 X o to)(W:Gq o name X.env (Ef o X.env)=Ef o X.env:=by rfl)(y:(apos.endLine==cpos.line)=ab:=by rfl):E3 X (.Call (.Attribute o name apos) [] [] cpos) (mR T rm to):=
 (C3 G slot q S f W y).weak λZ H Q A=>A.el λU M R J Y h k=>⟨U,M,_,J,Y,h,λx H1 t M1 B P N ⟨ty,O⟩=>⟨EW P N ty,t,[],M1,R,P,N,.nil,O,k.kp B⟩⟩
theorem mS(G:Pp T)(slot:Slot T name id)(q:Ul (.builtin id)=pure (.type "method_descriptor"))(S:e8 X id (jJ X.K rm))(f:E3 X o to)(m:A3 X (e::es) t)(W:Gq o name X.env (Ef o X.env)=Ef o X.env:=by rfl)(u:((Mz cpos (Ci (e::es) X.env)).all (λx=>!x.1)&&(Pa cpos (Lo [] X.env)).all (λx=>x.1.isSome)
  &&decide (↥(e::es)+↥([]:↑Qs)+(if ([]:↑Qs).isEmpty then 0 else 1)<30))=ab:=by rfl)(y:(apos.endLine==cpos.line)=ab:=by rfl)(F:Se X e es:=by rfl)(b:Sb X cpos es:=by rfl):
  E3 X (.Call (.Attribute o name apos) (e::es) [] cpos) (cN T rm to t):=
 (TV G slot q S f m W u y F b).weak λZ H Q A=>A.el λU M R J Y h k=>⟨U,M,_,J,Y,h,λx H1 p M1 B P N ⟨ty,O⟩=>⟨EW P N ty,U,M1,_,J.kp Y B,P,O,λxs w ws c i E d L=>
  ⟨p,ws,c,R,E,N.kp P i,d,L,(k.kp B).kp i⟩⟩⟩
end
section
variable {X:Cx}
theorem mT{f:Ae->Ae->Sx Ae}(J:bB X f r)(h:∀x y H Q M R,AM X.K H M->Up X.K H M R Q->∀t l,c t l M R->AV X.K H M x t->AV X.K H M y l->r x y H Q):bB X f (cJ X.K c):=
 λaf s Z H x y v u Q I G P A=>by let⟨t,l,M,R,Y,N,S,O,k⟩:=A;exact J af s Z H x y v u Q I G P (h x y H Q M R Y k t l O N S)
theorem WV(J:jG X r)(h:∀x y H Q M R,AM X.K H M->Up X.K H M R Q->∀t l,c t l M R->AV X.K H M x t->AV X.K H M y l->r x y H Q):jG X (cJ X.K c):=
 λd b af s Z H x y v u Q I G P ⟨t,l,M,R,Y,N,S,O,k⟩=>J d b af s Z H x y v u Q I G P (h x y H Q M R Y k t l O N S)
theorem yC{r:↑V->Hp->VK->Prop}{c:↑W->Mm->K3->Prop}(J:cR X f r)(h:∀xs H Q M R,AM X.K H M->Up X.K H M R Q->∀ws,c ws M R->aK X.K H M xs ws->r xs H Q):cR X f (e9 X.K c):=
 λaf s Z H xs us Q I rs A=>by let⟨ws,M,R,Y,N,O,k⟩:=A;exact J af s Z H xs us Q I rs (h xs H Q M R Y k ws O N)
abbrev yD:R3
 | .int i,.int j,M,R=>R (.int (i+j)) M
 | .tup xs,.tup ys,M,R=>xs≠[]/\↥xs+↥ys<=Au/\R (.tup (xs++ys)) M
 | .ref a,.ref b,M,R=>∃xs ys,M a=aa (.lst xs)/\M b=aa (.lst ys)/\↥xs+↥ys<=Au/\aP (xs++ys) M R
 | .rl xs,.ref b,M,R=>∃ys,M b=aa (.lst ys)/\↥xs+↥ys<=Au/\aP (xs++ys) M R
 | .ref a,.rl ys,M,R=>∃xs,M a=aa (.lst xs)/\↥xs+↥ys<=Au/\aP (xs++ys) M R
 | .rl xs,.rl ys,M,R=>↥xs+↥ys<=Au/\aP (xs++ys) M R
 | _,_,_,_=>False
def lN(M:Mm):W->↑W->Prop
 | .ref a,ws=>M a=aa (.lst ws)
 | .rl ws,g=>ws=g
 | _,_=>False
theorem mU{K:Ac}{H:Hp}{M:Mm}{v:V}{w:W}{ws:↑W}(Y:AM K H M)(h:AV K H M v w)(e:lN M w ws):∃a xs,v=.ref a/\H a=aa (.lst xs)/\aK K H M xs ws:=by
 cases w<;>first|exact Bq e|skip
 case ref a=>exact Y.lstE e λxs f q=>⟨_,_,h.inv,f,q⟩
 case rl zs=>exact h.rlE λa xs D f q=>⟨_,_,D,f,by rw[<-show zs=ws from e];exact q⟩
theorem WW{P:W->W->Prop}(S:∀i j,R (.int (i+j)) M->P (.int i) (.int j))(u:∀xs ys,xs≠[]/\↥xs+↥ys<=Au/\R (.tup (xs++ys)) M->P (.tup xs) (.tup ys))(V:∀x y xs ys,lN M x xs->lN M y ys->↥xs+↥ys<=Au->aP (xs++ys) M R->P x y):∀x y,yD x y M R->P x y:=by
 intro x y h;cases x<;>first|exact Bq h|(cases y<;>first|exact Bq h|skip)
 case int.int=>exact S _ _ h
 case tup.tup=>exact u _ _ h
 case ref.ref=>let⟨xs,ys,e,f,l,r⟩:=h;exact V _ _ _ _ e f l r
 case rl.ref=>let⟨ys,f,l,r⟩:=h;exact V _ _ _ _ rfl f l r
 case ref.rl=>let⟨xs,e,l,r⟩:=h;exact V _ _ _ _ e rfl l r
 case rl.rl=>exact V _ _ _ _ rfl rfl h.1 h.2
theorem EY:bB X (Eh .Add) (cJ X.K yD):=mT (QE.or (SO.or T4)) λx y H Q M R Y k=>WW
 (λi j h N S=>.inl ⟨i,j,N.inv,S.inv,k.at Y (.int _) h⟩)
 (λxs ys h N S=>N.tupE λa us D C g=>S.tupE λb vs T U n=>.inr (.inl ⟨a,b,us,vs,D,T,bL.of C,bL.of U,
  λz=>h.1 (Fl.mp (by rw[<-↥g,z];rfl)),by rw[↥g,↥n];exact h.2.1,
  λz=>k.at Y (by rw[<-D];exact N) (by rw[<-Bs xs,<-Fl.mp (show ↥ys=0 by rw[<-↥n,z];rfl)];exact h.2.2),
  λ_ p G=>laidT Y k G (g.append n) h.2.2⟩))
 (λt d xs ys O L l r N S=>.inr (.inr (by
  let⟨a,us,D,C,g⟩:=mU Y N O;let⟨b,vs,T,U,n⟩:=mU Y S L;exact⟨a,b,us,vs,D,T,C,U,by rw[↥g,↥n];exact l,λp G=>gL Y k G (g.append n) r⟩)))
abbrev pD(C:Int->Int->Prop)(g:Int->Int->W):R3
 | .int i,.int j,M,R=>C i j/\R (g i j) M
 | _,_,_,_=>False
theorem WX{C:Int->Int->Prop}{g:Int->Int->W}{P:W->W->Prop}(c:∀i j,C i j/\R (g i j) M->P (.int i) (.int j))(x y:W)(h:pD C g x y M R):P x y:=by
 cases x<;>first|exact Bq h|(cases y<;>first|exact Bq h|exact c _ _ h)
theorem t5{f:Ae->Ae->Sx Ae}{C:Int->Int->Prop}{g:Int->Int->V}{g':Int->Int->W}(J:bB X f (rI C g))(hg:∀H M i j,AV X.K H M (g i j) (g' i j)):bB X f (cJ X.K (pD C g')):=
 mT J λx y H Q M R Y k=>WX λi j h N S=>⟨i,j,N.inv,S.inv,h.1,k.at Y (hg H M i j) h.2⟩
abbrev mV(g:Int->Int->W):R3
 | .int i,.int j,M,R=>R (g i j) M
 | _,_,_,_=>False
theorem WY{g:Int->Int->W}{P:W->W->Prop}(c:∀i j,R (g i j) M->P (.int i) (.int j))(x y:W)(h:mV g x y M R):P x y:=by
 cases x<;>first|exact Bq h|(cases y<;>first|exact Bq h|exact c _ _ h)
theorem pE{f:Ae->Ae->Sx Ae}{g:Int->Int->V}{g':Int->Int->W}(J:bB X f (kD g))(hg:∀H M i j,AV X.K H M (g i j) (g' i j)):bB X f (cJ X.K (mV g')):=
 mT J λx y H Q M R Y k=>WY λi j h N S=>⟨i,j,N.inv,S.inv,k.at Y (hg H M i j) h⟩
abbrev kP:R3:=mV λi j=>.int (i-j)
theorem WZ:bB X (Eh .Sub) (cJ X.K kP):=pE QF λ_ _ _ _=>.int _
abbrev iR:R3:=pD DP λi j=>.int (i/j)
theorem W0:bB X (Eh .FloorDiv) (cJ X.K iR):=t5 U4 λ_ _ _ _=>.int _
abbrev fP:R3:=pD (λ_ j=>0<j) λi j=>.int (i % j)
theorem W4:bB X (Eh .Mod) (cJ X.K fP):=t5 QH λ_ _ _ _=>.int _
abbrev i6:R3:=pD oS λi j=>.int (i ^ j.toNat)
theorem W5:bB X (Eh .Pow) (cJ X.K i6):=t5 QI λ_ _ _ _=>.int _
abbrev EZ:R3:=pD (λ_ j=>0<=j) λi j=>.int (i/2 ^ j.toNat)
theorem W6:bB X (Eh .RShift) (cJ X.K EZ):=t5 QJ λ_ _ _ _=>.int _
abbrev E1:R3:=mV λi j=>.int (Builtin.bitAnd i j)
theorem W7:bB X (Eh .BitAnd) (cJ X.K E1):=pE QK λ_ _ _ _=>.int _
abbrev E2:R3
 | .int i,.int j,M,R=>(oT i j\/tO i j)/\R (.int (i*j)) M
 | .ref a,.int n,M,R=>∃xs,M a=aa (.lst xs)/\-(2 ^ 63)<=n/\n<2 ^ 63/\↥xs*n.toNat<=Au/\aP (Ce n.toNat xs).flatten M R
 | .rl xs,.int n,M,R=>-(2 ^ 63)<=n/\n<2 ^ 63/\↥xs*n.toNat<=Au/\aP (Ce n.toNat xs).flatten M R
 | _,_,_,_=>False
theorem W8{P:W->W->Prop}(S:∀i j,(oT i j\/tO i j)/\R (.int (i*j)) M->P (.int i) (.int j))(V:∀x n xs,lN M x xs->-(2 ^ 63)<=n/\n<2 ^ 63/\↥xs*n.toNat<=Au/\aP (Ce n.toNat xs).flatten M R->P x (.int n)):∀x y,E2 x y M R->P x y:=by
 intro x y h;cases x<;>first|exact Bq h|(cases y<;>first|exact Bq h|skip)
 case int.int=>exact S _ _ h
 case ref.int=>let⟨xs,e,h⟩:=h;exact V _ _ _ e h
 case rl.int=>exact V _ _ _ rfl h
theorem W9:bB X (Eh .Mult) (cJ X.K E2):=mT (QG.or (U3.or T7)) λx y H Q M R Y k=>W8
 (λi j h N S=>h.1.elim (λz=>.inl ⟨i,j,N.inv,S.inv,z,k.at Y (.int _) h.2⟩) λz=>.inr (.inl ⟨i,j,N.inv,S.inv,z,k.at Y (.int _) h.2⟩))
 (λt n xs O h N S=>.inr (.inr (by
  let⟨a,us,D,C,g⟩:=mU Y N O;exact⟨a,n,us,D,S.inv,C,h.1,h.2.1,by rw[↥g];exact h.2.2.1,λp G=>gL Y k G (g.flatRep _) h.2.2.2⟩)))
abbrev kQ:W->Mm->K3->Prop
 | .int i,M,R=>R (.int (-i)) M
 | _,_,_=>False
theorem XA:qK X (Vn .USub) (ET X.K kQ):=by
 rintro af s Z H x v Q I G ⟨t,M,R,Y,N,h,k⟩;cases t<;>first|exact Bq h|skip
 case int i=>exact QM af s Z H _ v Q I G ⟨i,N.inv,k.at Y (.int _) h⟩
abbrev lP:R3:=mV λi j=>.bl (decide (i<j))
theorem yE:bB X (Dk .Lt) (cJ X.K lP):=pE QS λ_ _ _ _=>.bl _
abbrev yF:R3:=mV λi j=>.bl (decide (i<=j))
theorem yG:bB X (Dk .LtE) (cJ X.K yF):=pE QT λ_ _ _ _=>.bl _
abbrev t6:R3:=mV λi j=>.bl (decide (j<i))
theorem E4:bB X (Dk .Gt) (cJ X.K t6):=pE QU λ_ _ _ _=>.bl _
abbrev yH:R3:=mV λi j=>.bl (decide (j<=i))
theorem E5:bB X (Dk .GtE) (cJ X.K yH):=pE QV λ_ _ _ _=>.bl _
mutual
inductive Snap(M:Mm):W->Nx->Prop
 | non:Snap M .non .none
 | bl (b:Bool):Snap M (.bl b) (.bool b)
 | int (i:Int):Snap M (.int i) (.int i)
 | str (x:Av):Snap M (.str x) (.str x)
 | tup {ws:↑W} {ds:↑Nx}:i7 M ws ds->Snap M (.tup ws) (.tuple ds)
 | rl {ws:↑W} {ds:↑Nx}:i7 M ws ds->Snap M (.rl ws) (.list ds)
 | ref {a:Am} {ws:↑W} {ds:↑Nx}:M a=aa (.lst ws)->i7 M ws ds->Snap M (.ref a) (.list ds)
inductive i7(M:Mm):↑W->↑Nx->Prop
 | nil:i7 M [] []
 | cons {w:W} {ws:↑W} {d:Nx} {ds:↑Nx}:Snap M w d->i7 M ws ds->i7 M (w::ws) (d::ds)
end
section
variable {af:Pn}{Z:SV}{H:Hp}{s:Ak}{M:Mm}
theorem i7.reads(I:Inv X af Z H s)(Y:AM X.K H M)(h:i7 M ws Q):∀{vs:↑V} {us:↑Ae},aK X.K H M vs ws->a5 vs us->∃J,ReadsAll s.heap us Q J:=
 i7.rec (motive_1:=λw d _=>∀{v:V} {u:Ae},AV X.K H M v w->RelV v u->∃J,Reads s.heap u d J) (motive_2:=λws Q _=>∀{vs:↑V} {us:↑Ae},aK X.K H M vs ws->a5 vs us->∃J,ReadsAll s.heap us Q J)
  (λav r=>by rw[show _=_ from av.inv]at r;rw[show _=_ from r];exact⟨_,.none⟩)
  (λb _ _ av r=>by rw[show _=_ from av.inv]at r;rw[show _=_ from r];exact⟨_,.bool b⟩)
  (λi _ _ av r=>by rw[show _=_ from av.inv]at r;exact r.elim λt r=>by rw[r];exact⟨_,.int i t⟩)
  (λx _ _ av r=>by rw[show _=_ from av.inv]at r;exact r.elim λt r=>by rw[r];exact⟨_,.str x t⟩)
  (λ_ E _ _ av r=>av.tupE λa xs e f q=>by
   rw[e]at r;rw[show _=_ from r];obtain⟨its,U,⟨o,D,T,n,P⟩,_⟩:=I.tuple (bL.of f);exact(E q U).elim λJ z=>⟨_,.tuple D T P (by simpa using z)⟩)
  (λ_ E _ _ av r=>av.rlE λa xs e f q=>by
   rw[e]at r;rw[show _=_ from r];let⟨its,U,pl,_⟩:=I.list (bN.of f);let⟨o,D,T,n,P⟩:=pl.isList;exact(E q U).elim λJ z=>⟨_,.list D T P (by simpa using z)⟩)
  (λF _ E _ _ av r=>Y.lstE F λvs f q=>by
   rw[show _=_ from av.inv]at r;rw[show _=_ from r];let⟨its,U,pl,_⟩:=I.list (bN.of f);let⟨o,D,T,n,P⟩:=pl.isList;exact(E q U).elim λJ z=>⟨_,.list D T P (by simpa using z)⟩)
  (λav r=>by cases av;cases r;exact⟨_,.nil⟩)
  (λ_ _ c A _ _ av r=>by
   cases av with
   | cons a b=>
    cases r with
    | cons l R=>exact(c a l).elim λx g=>(A b R).elim λy B=>⟨_,.cons g B⟩) h
theorem Snap.reads(I:Inv X af Z H s)(Y:AM X.K H M){w:W}{d:Nx}{v:V}{u:Ae}(h:Snap M w d)(av:AV X.K H M v w)(r:RelV v u):∃J,Reads s.heap u d J:=
 (i7.reads I Y (.cons h .nil) (.cons av .nil) (.cons r .nil)).elim λ_ z=>by
  cases z with
  | cons q _=>exact⟨_,q⟩
end
@[irreducible] def mW(neg:Bool)(x y:W)(M:Mm)(R:K3):Prop:=∃c a,Snap M x c/\Snap M y a/\D4 c/\D4 a/\R (.bl (if neg then !PyData.eqv c a else Mr c a)) M
def cV(neg:Bool):R3
 | .int i,.int j,M,R=>R (.bl (if neg then !decide (i=j) else decide (i=j))) M
 | .str i,.str j,M,R=>R (.bl (if neg then !decide (i=j) else decide (i=j))) M
 | .bl i,.bl j,M,R=>R (.bl (if neg then !decide (i=j) else decide (i=j))) M
 | x,y,M,R=>mW neg x y M R
theorem E6{i j:Int}:decide (V.int i=V.int j)=decide (i=j):=by rw[Ee];simp
theorem t7:decide (V.str i=V.str j)=decide (i=j):=by rw[Ee];simp
theorem E7{i j:Bool}:decide (V.bl i=V.bl j)=decide (i=j):=by rw[Ee];simp
theorem E8{n:Bool}{P:W->W->Prop}(S:∀i j,R (.bl (if n then !decide (i=j) else decide (i=j))) M->P (.int i) (.int j))(u:∀i j,R (.bl (if n then !decide (i=j) else decide (i=j))) M->P (.str i) (.str j))(V:∀i j,R (.bl (if n then !decide (i=j) else decide (i=j))) M->P (.bl i) (.bl j))(g:∀x y,mW n x y M R->P x y)(x y:W)(h:cV n x y M R):P x y:=by
 cases x<;>first|exact g _ _ h|(cases y<;>first|exact S _ _ h|exact u _ _ h|exact V _ _ h|exact g _ _ h)
theorem sV(e:x=i)(f:y=j)(h:tB i j=ab):tB x y=ab:=by rw[e,f];exact h
theorem dV{i j:V}{x y:V}{b:Bool}{Q:Bool->Prop}(e:x=i)(f:y=j)(h:decide (i=j)=b)(q:Q b):Q (decide (x=y)):=by rw[e,f,h];exact q
theorem XB(W:X.A.units+64<Fg):bB X (Dk .Eq) (cJ X.K (mW ac)):=by
 rintro af s Z H x y v u Q I G P ⟨t,l,M,R,Y,N,S,h,k⟩;unfold mW at h;let⟨c,a,m,V,fa,z,q⟩:=h;let⟨J,i⟩:=m.reads I Y N G;let⟨bs,rb⟩:=V.reads I Y S P;exact SeqAt.compareEq_reads i rb fa.1 z.1 (Gh (Hm (Ap (Mi _ _) (Ap fa.2 ∅)) _) W) ⟨.bl _,H,I,rfl,k.at Y (.bl _) q⟩
theorem XC(W:X.A.units+64<Fg):bB X (Dk .NotEq) (cJ X.K (mW ab)):=by
 rintro af s Z H x y v u Q I G P ⟨t,l,M,R,Y,N,S,h,k⟩;unfold mW at h;let⟨c,a,m,V,fa,z,q⟩:=h;let⟨J,i⟩:=m.reads I Y N G;let⟨bs,rb⟩:=V.reads I Y S P;exact SeqAt.compareNe_reads i rb fa.1 z.1 (Gh (Hm (Ap (Mi _ _) (Ap fa.2 ∅)) _) W) ⟨.bl _,H,I,rfl,k.at Y (.bl _) q⟩
theorem E9(W:X.A.units+64<Fg):bB X (Dk .Eq) (cJ X.K (cV ac)):=mT (QP.or (XB W)) λx y H Q M R Y k=>E8
 (λi j h N S=>.inl ⟨sV N.inv S.inv rfl,dV (Q:=λb=>Q (.bl b) H) N.inv S.inv E6 (k.at Y (.bl _) h)⟩)
 (λi j h N S=>.inl ⟨sV N.inv S.inv rfl,dV (Q:=λb=>Q (.bl b) H) N.inv S.inv t7 (k.at Y (.bl _) h)⟩)
 (λi j h N S=>.inl ⟨sV N.inv S.inv rfl,dV (Q:=λb=>Q (.bl b) H) N.inv S.inv E7 (k.at Y (.bl _) h)⟩)
 (λt l h N S=>.inr ⟨t,l,M,R,Y,N,S,h,k⟩)
theorem FA(W:X.A.units+64<Fg):bB X (Dk .NotEq) (cJ X.K (cV ab)):=mT (QQ.or (XC W)) λx y H Q M R Y k=>E8
 (λi j h N S=>.inl ⟨sV N.inv S.inv rfl,dV (Q:=λb=>Q (.bl !b) H) N.inv S.inv E6 (k.at Y (.bl _) h)⟩)
 (λi j h N S=>.inl ⟨sV N.inv S.inv rfl,dV (Q:=λb=>Q (.bl !b) H) N.inv S.inv t7 (k.at Y (.bl _) h)⟩)
 (λi j h N S=>.inl ⟨sV N.inv S.inv rfl,dV (Q:=λb=>Q (.bl !b) H) N.inv S.inv E7 (k.at Y (.bl _) h)⟩)
 (λt l h N S=>.inr ⟨t,l,M,R,Y,N,S,h,k⟩)
def wK:aC->W
 | .inl i=>.int i
 | .inr x=>.str x
noncomputable def aQ{U:Type}[DecidableEq U](kvs:↑(U×W))(k:U):Option W:=(kvs.find? λg=>decide (g.1=k)).map (·.2)
noncomputable def bY{U:Type}[DecidableEq U](kvs:↑(U×W))(k:U)(v:W):↑(U×W):=
 if (kvs.any λg=>decide (g.1=k))=ab then kvs.map (λg=>if g.1=k then(g.1,v) else g) else kvs++[(k,v)]
theorem AV.key{K:Ac}{H:Hp}{M:Mm}{v:V}{k:aC}(h:AV K H M v (wK k)):v=kV k:=by
 cases k<;>exact h.inv
theorem aK.keys{K:Ac}{H:Hp}{M:Mm}:∀{vs:↑V} {k:↑aC},aK K H M vs (k.map wK)->vs=k.map kV
 | _,[],h=>by cases h;rfl
 | _,a::r,h=>by
  cases h with
  | cons x y=>rw[x.key,aK.keys y];rfl
section
variable {U:Type}[DecidableEq U]{K:Ac}{H:Hp}{M:Mm}
theorem t9(h:bS K H M U ks kvs)(k:U):(aQ kvs k=ae/\fY ks k=ae)\/∃v w,aQ kvs k=aa w/\fY ks k=aa v/\AV K H M v w:=by
 induction h with
 | nil=>exact .inl ⟨rfl,rfl⟩
 | @cons p q ps qs r t E=>
  by_cases e:p.1=k
  .refine .inr ⟨p.2,q.2,?_,?_,r.2⟩
   .unfold aQ;rw[Cz,Wc (by rw[<-r.1];exact e)];rfl
   .exact tI e
  .have T:¬q.1=k:=by rw[<-r.1];exact e
   have l:aQ (q::qs) k=aQ qs k:=by unfold aQ;rw[Cz,We T]
   rw[l,tJ e];exact E
theorem XD(h:bS K H M U ks kvs)(k:U):(ks.any λg=>decide (g.1=k))=(kvs.any λg=>decide (g.1=k)):=by
 induction h with
 | nil=>rfl
 | cons r t E=>rw[Fp,Fp,E,r.1]
theorem XE{ks:↑(U×V)}{kvs:↑(U×W)}{v:V}{w:W}{k:U}(av:AV K H M v w)(h:bS K H M U ks kvs):bS K H M U (ks.map (λg=>if g.1=k then(g.1,v) else g)) (kvs.map (λg=>if g.1=k then(g.1,w) else g)):=by
 induction h with
 | nil=>exact .nil
 | @cons p q ps qs r t E=>
  rw[Bh,Bh];refine .cons ?_ E
  by_cases e:p.1=k
  .rw[Vz e,Vz (by rw[<-r.1];exact e)];exact⟨r.1,av⟩
  .rw[Vy e,Vy (by rw[<-r.1];exact e)];exact r
theorem XF{ks:↑(U×V)}{kvs:↑(U×W)}{v:V}{w:W}{k:U}(av:AV K H M v w)(h:bS K H M U ks kvs):bS K H M U (ks++[(k,v)]) (kvs++[(k,w)]):=by
 induction h with
 | nil=>exact .cons ⟨rfl,av⟩ .nil
 | cons r t E=>exact .cons r E
theorem rC{ks:↑(U×V)}{kvs:↑(U×W)}{v:V}{w:W}(h:bS K H M U ks kvs)(k:U)(av:AV K H M v w):bS K H M U (dZ ks k v) (bY kvs k w):=by
 unfold dZ bY;rw[XD h k];split
 .exact XE av h
 .exact XF av h
end
def eX(M:Mm):W->W->Option W->Prop
 | .ref a,y,o=>(∃kvs k,M a=aa (.dK kvs)/\y=wK k/\o=aQ kvs k)\/∃kvs k,M a=aa (.dT kvs)/\y=.tup (k.map wK)/\o=aQ kvs k
 | .dk kvs,y,o=>∃k,y=wK k/\o=aQ kvs k
 | .dt kvs,y,o=>∃k,y=.tup (k.map wK)/\o=aQ kvs k
 | .fk kvs,y,o=>∃k,y=wK k/\o=aQ kvs k
 | .ft kvs,y,o=>∃k,y=.tup (k.map wK)/\o=aQ kvs k
 | _,_,_=>False
theorem yI{K:Ac}{H:Hp}{M:Mm}{a:Am}{y:V}{k:aC}{ks:↑(aC×V)}{kvs:↑(aC×W)}(D:Rd H a (.dK ks))(q:bS K H M aC ks kvs)(S:AV K H M y (wK k)):(aQ kvs k=ae/\h9 H a y ae)\/∃v w,aQ kvs k=aa w/\h9 H a y (aa v)/\AV K H M v w:=by
 rw[S.key];rcases t9 q k with⟨E,Z⟩|⟨v,w,E,Z,av⟩
 .exact .inl ⟨E,by rw[<-Z];exact .inl ⟨_,_,D,rfl,rfl⟩⟩
 .exact .inr ⟨v,w,E,by rw[<-Z];exact .inl ⟨_,_,D,rfl,rfl⟩,av⟩
theorem yJ{K:Ac}{H:Hp}{M:Mm}{a:Am}{y:V}{k:↑aC}{ks:↑(↑aC×V)}{kvs:↑(↑aC×W)}(D:Rd H a (.dT ks))(q:bS K H M (↑aC) ks kvs)(S:AV K H M y (.tup (k.map wK))):(aQ kvs k=ae/\h9 H a y ae)\/∃v w,aQ kvs k=aa w/\h9 H a y (aa v)/\AV K H M v w:=
 S.tupE λb xs e T f=>by
  rw[f.keys]at T;rcases t9 q k with⟨E,Z⟩|⟨v,w,E,Z,av⟩
  .exact .inl ⟨E,by rw[<-Z];exact .inr ⟨_,_,_,D,e,T,rfl⟩⟩
  .exact .inr ⟨v,w,E,by rw[<-Z];exact .inr ⟨_,_,_,D,e,T,rfl⟩,av⟩
theorem uA{K:Ac}{H:Hp}{M:Mm}{x y:V}{t l:W}{o:Option W}(Y:AM K H M)(N:AV K H M x t)(S:AV K H M y l)(h:eX M t l o):∃a,x=.ref a/\((o=ae/\h9 H a y ae)\/∃v w,o=aa w/\h9 H a y (aa v)/\AV K H M v w):=by
 cases t<;>first|exact Bq h|skip
 case ref a=>
  rcases h with⟨kvs,k,e,rfl,rfl⟩|⟨kvs,k,e,rfl,rfl⟩
  .let⟨ks,D,q⟩:=Y _ _ e;exact⟨a,N.inv,yI (.inl D) q S⟩
  .let⟨ks,D,q⟩:=Y _ _ e;exact⟨a,N.inv,yJ (.inl D) q S⟩
 all_goals
  let⟨k,rfl,rfl⟩:=h;have N:=N.inv
 case dk=>let⟨a,ks,e,f,_,q⟩:=N;exact⟨a,e,yI (.inl f) q S⟩
 case dt=>let⟨a,ks,e,f,_,q⟩:=N;exact⟨a,e,yJ (.inl f) q S⟩
 case fk=>let⟨a,ks,e,f,q⟩:=N;exact⟨a,e,yI (.inr f) q S⟩
 case ft=>let⟨a,ks,e,f,q⟩:=N;exact⟨a,e,yJ (.inr f) q S⟩
@[irreducible] def mX(a:Am)(y:W)(M:Mm)(R:K3):Prop:=(∃i ws w,y=.int i/\M a=aa (.lst ws)/\bR ws i=aa w/\R w M)\/∃w,eX M (.ref a) y (aa w)/\R w M
theorem jK{i:Int}(h:M a=aa (.lst ws))(e:bR ws i=aa w)(r:R w M):mX a (.int i) M R:=by unfold mX;exact .inl ⟨i,ws,w,rfl,h,e,r⟩
theorem FC(h:eX M (.ref a) y (aa w))(r:R w M):mX a y M R:=by unfold mX;exact .inr ⟨w,h,r⟩
abbrev rD:R3
 | .tup ws,.int i,M,R=>so (bR ws i) λw=>R w M
 | .rl ws,.int i,M,R=>so (bR ws i) λw=>R w M
 | .sc ws,.int i,M,R=>so (bR ws i) λw=>R w M
 | .dk kvs,y,M,R=>∃w,eX M (.dk kvs) y (aa w)/\R w M
 | .dt kvs,y,M,R=>∃w,eX M (.dt kvs) y (aa w)/\R w M
 | .fk kvs,y,M,R=>∃w,eX M (.fk kvs) y (aa w)/\R w M
 | .ft kvs,y,M,R=>∃w,eX M (.ft kvs) y (aa w)/\R w M
 | .str z,.int i,M,R=>↥z<=Au/\so (bR z.cps.toList i) λc=>R (.str ⟨#[c]⟩) M
 | .ref a,y,M,R=>mX a y M R
 | _,_,_,_=>False
abbrev vX:=aH rD
theorem yK{K:Ac}{H:Hp}{M:Mm}{vs:↑V}{ws:↑W}{i:Int}{w:W}(q:aK K H M vs ws)(h:bR ws i=aa w):∃v,bR vs i=aa v/\AV K H M v w:=by
 unfold bR at h⊢;rw[↥q];cases e:gV ↥ws i with
 | none=>rw[e]at h;cases h
 | some j=>
  rw[e]at h;exact q.getW (i:=j) h
theorem XG(W:X.A.units+1<Fg):jG X (λx y H Q=>∃a v,x=.ref a/\h9 H a y (aa v)/\Q v H):=by
 intro d b af s Z H x y v u Q I G P h l;let⟨a,z,rfl,g,q⟩:=h;cases G;exact tail_any (UE I g) PySem.F.slot_dict_getitem.lookup (T9 W I g P λL N O c=>⟨z,H,O,c,q⟩) l
theorem XH{P:W->W->Prop}(S:∀ws i w,bR ws i=aa w->R w M->P (.tup ws) (.int i))(u:∀ws i w,bR ws i=aa w->R w M->P (.sc ws) (.int i))(V:∀x ws i w,lN M x ws->bR ws i=aa w->R w M->P x (.int i))(g:∀z i,↥z<=Au/\(so (bR z.cps.toList i) λc=>R (.str ⟨#[c]⟩) M)->P (.str z) (.int i))(f:∀x y w,eX M x y (aa w)->R w M->P x y)(x y:W)(h:rD x y M R):P x y:=by
 cases x
 case non|bl|int|ty=>exact Bq h
 case dk|dt|fk|ft=>exact h.elim λw h=>f _ _ _ h.1 h.2
 case ref a=>
  have h:mX a y M R:=h;unfold mX at h;exact h.elim (λA=>by let⟨i,ws,w,I,e,T,r⟩:=A;rw[I];exact V _ _ _ _ e T r) λC=>by let⟨w,e,r⟩:=C;exact f _ _ _ e r
 all_goals cases y<;>first|exact Bq h|skip
 case tup.int=>let⟨w,e,r⟩:=so.el h;exact S _ _ _ e r
 case sc.int=>let⟨w,e,r⟩:=so.el h;exact u _ _ _ e r
 case rl.int=>let⟨w,e,r⟩:=so.el h;exact V _ _ _ _ rfl e r
 case str.int=>exact g _ _ h
theorem XI(W:X.A.units+1<Fg):jG X (cJ X.K rD):=WV (SY.or (S4.or (S5.or (XG W)))) λx y H Q M R Y k=>XH
 (λws i w h r N S=>N.tupE λa xs e f q=>let ⟨z,e3,av⟩:=yK q h;.inr (.inl ⟨a,xs,i,z,e,S.inv,bL.of f,e3,k.at Y av r⟩))
 (λws i w h r N S=>N.scE λa xs e f q=>let ⟨z,e3,av⟩:=yK q h;.inl ⟨a,xs,i,z,e,S.inv,f.sq,e3,k.at Y av r⟩)
 (λt ws i w O h r N S=>let ⟨a,xs,e,f,q⟩:=mU Y N O;let ⟨z,e3,av⟩:=yK q h;.inl ⟨a,xs,i,z,e,S.inv,bN.of f,e3,k.at Y av r⟩)
 (λz i h N S=>let ⟨c,e,r⟩:=so.el h.2;.inr (.inr (.inl ⟨z,i,c,N.inv,S.inv,h.1,e,k.at Y (.str _) r⟩)))
 (λt l w g r N S=>.inr (.inr (.inr (by
  let⟨a,e,g⟩:=uA Y N S g;rcases g with⟨z,_⟩|⟨z,L,C,g',av⟩
  .cases z
  .exact⟨a,z,e,g',k.at Y av (by rw[<-Ct C];exact r)⟩))))
variable {a b:Ck}{ta tb:aR}{pos:Hv}
theorem XJ(W:X.A.units+1<Fg)(m:E3 X a ta)(Z:E3 X b tb)(F:CY b:=by exact λ_ _=>rfl):E3 X (.Subscript a b pos) (aH rD ta tb):=(SQ (XI W) m Z F).weak λ_ _ _ h=>tY h
def dX(ws:↑W)(lo hi:Option Int):↑W:=(ws.drop (HT.sIx ↥ws 0 lo)).take (HT.sIx ↥ws ↥ws hi-HT.sIx ↥ws 0 lo)
abbrev FD:W->Option Int->Option Int->Mm->K3->Prop
 | .rl ws,lo,hi,M,R=>aP (dX ws lo hi) M R
 | .sc ws,lo,hi,M,R=>aP (dX ws lo hi) M R
 | .ref a,lo,hi,M,R=>∃ws,M a=aa (.lst ws)/\aP (dX ws lo hi) M R
 | .tup ws,lo,hi,M,R=>¬(HT.sIx ↥ws 0 lo=0/\HT.sIx ↥ws ↥ws hi=↥ws)/\R (.tup (dX ws lo hi)) M
 | _,_,_,_,_=>False
theorem uB{K:Ac}{H:Hp}{M:Mm}{vs:↑V}{ws:↑W}{lo hi:Option Int}(q:aK K H M vs ws):aK K H M (mM vs lo hi) (dX ws lo hi):=by
 unfold mM dX;rw[↥q];exact(q.drop _).take _
def XM(K:Ac)(r:W->Option Int->Option Int->Mm->K3->Prop):V->Option Int->Option Int->Hp->VK->Prop:=λx lo hi H Q=>∃t M R,AM K H M/\AV K H M x t/\r t lo hi M R/\Up K H M R Q
theorem XN:tF X (XM X.K FD):=by
 rintro af s Z H x v c y lo hi sl Q I d F pl z ⟨t,M,R,Y,N,h,k⟩;cases t<;>first|exact Bq h|skip
 case tup ws=>exact N.tupE λa xs e f q=>SM af s Z H _ v c y lo hi sl Q I d F pl z ⟨a,xs,e,bL.of f,by rw[↥q];exact h.1,λp G=>laidT Y k G (uB q) h.2⟩
 case sc ws=>exact N.scE λa xs e f q=>xI af s Z H _ v c y lo hi sl Q I d F pl z ⟨a,xs,e,f.sq,λp G=>gL Y k G (uB q) h⟩
 case rl ws=>exact N.rlE λa xs e f q=>xI af s Z H _ v c y lo hi sl Q I d F pl z ⟨a,xs,e,bN.of f,λp G=>gL Y k G (uB q) h⟩
 case ref a=>
  let⟨ws,e,r⟩:=h;exact Y.lstE e λvs f q=>xI af s Z H _ v c y lo hi sl Q I d F pl z ⟨a,vs,N.inv,bN.of f,λp G=>gL Y k G (uB q) r⟩
abbrev pF:=S3->Mm->(Option Int->Mm->Prop)->Prop
def pG(K:Ac)(t:pF):TO:=λZ H Q=>∃(U:S3) (M:Mm) (R:Option Int->Mm->Prop),AS K H M Z U/\AM K H M/\t U M R/\∀o H' M',Kp H M H' M'->AM K H' M'->R o M'->Q o H'
theorem pG.el{K:Ac}{H:Hp}{Z:SV}{C:Prop}{t:pF}{Q:Option Int->Hp->Prop}(h:pG K t Z H Q)(c:∀U M R,AS K H M Z U->AM K H M->t U M R->(∀o H' M',Kp H M H' M'->AM K H' M'->R o M'->Q o H')->C):C:=by let⟨U,M,R,a,b,h,k⟩:=h;exact c U M R a b h k
abbrev uC:pF:=λ_ M Q=>Q ae M
abbrev yL:W->(Int->Prop)->Prop
 | .int i,Q=>Q i
 | _,_=>False
theorem yL.el{Q:Int->Prop}(h:yL w Q):∃i,w=.int i/\Q i:=by cases w<;>first|exact⟨_,rfl,h⟩|exact h.elim
abbrev kR(t:aR):pF:=λU M Q=>t U M λx M1=>yL x λi=>Q (aa i) M1
theorem XO:PO X ae (pG X.K uC):=SF.weak λZ H Q A=>A.el λU M R J Y h k=>k ae H M (Kp.refl Y) Y h
theorem XQ(h:E3 X a ta):PO X (aa a) (pG X.K (kR ta)):=(SG h).weak λZ H Q A=>A.el λU M R J Y h k=>⟨U,M,_,J,Y,h,λx H1 t M1 B P N h=>by
 let⟨i,e,O⟩:=h.el;subst e;exact⟨i,N.inv,k _ _ _ B P O⟩⟩
def fQ:W->Bool
 | .non=>ab
 | .bl _=>ab
 | .int _=>ab
 | .str _=>ab
 | _=>ac
noncomputable def yM:W->W->Bool
 | .non,.non=>ab
 | .bl a,.bl b=>a==b
 | .bl a,.int b=>(if a then 1 else 0)==b
 | .int a,.bl b=>a==(if b then 1 else 0)
 | .int a,.int b=>a==b
 | .str a,.str b=>a==b
 | _,_=>ac
def inW(x:W)(ws:↑W):Bool:=ws.any λy=>yM y x
theorem AV.flat{K:Ac}{H:Hp}{M:Mm}{v:V}{w:W}(h:AV K H M v w)(f:fQ w=ab):kG v=ab:=by cases h<;>first|rfl|exact f
def yN:W->V
 | .non=>.non
 | .bl b=>.bl b
 | .int i=>.int i
 | .str x=>.str x
 | _=>.non
theorem AV.flv{K:Ac}{H:Hp}{M:Mm}{v:V}{w:W}(h:AV K H M v w)(f:fQ w=ab):v=yN w:=by
 cases w<;>first|exact h.inv|exact absurd f Bc
theorem XR:∀{w z:W},fQ w=ab->fQ z=ab->kH (yN w) (yN z)=yM w z:=by
 intro w z f g;cases w<;>first|exact absurd f Bc|(cases z<;>first|rfl|exact absurd g Bc)
theorem AV.eq{K:Ac}{H:Hp}{M:Mm}{v u:V}{w z:W}(h:AV K H M v w)(L:AV K H M u z)(f:fQ w=ab)(O:fQ z=ab):kH v u=yM w z:=by
 rw[h.flv f,L.flv O];exact XR f O
theorem aK.inn{K:Ac}{H:Hp}{M:Mm}{u:V}{z:W}(hz:AV K H M u z)(a:fQ z=ab):∀{vs:↑V} {ws:↑W},aK K H M vs ws->ws.all fQ=ab->vs.all kG=ab/\inV u vs=inW z ws
 | _,_,.nil,_=>⟨rfl,rfl⟩
 | _,_,.cons x r,f=>by
  rw[Kk,Dn]at f;let⟨O,L⟩:=aK.inn hz a r f.2;refine⟨by rw[Kk,x.flat f.1,O];rfl,?_⟩;unfold inV inW at L⊢;rw[Fp,Fp,L,x.eq hz f.1 a]
def occ(i j:Av):Bool:=!(Jw j i 0 ↥j 1).isEmpty
abbrev cA(neg:Bool):R3
 | .str i,.str j,M,R=>R (.bl (if neg then !occ i j else occ i j)) M
 | x,.tup ws,M,R=>fQ x=ab/\ws.all fQ=ab/\R (.bl (if neg then !inW x ws else inW x ws)) M
 | x,.rl ws,M,R=>fQ x=ab/\ws.all fQ=ab/\R (.bl (if neg then !inW x ws else inW x ws)) M
 | x,.ref a,M,R=>(∃ws,M a=aa (.lst ws)/\fQ x=ab/\ws.all fQ=ab/\R (.bl (if neg then !inW x ws else inW x ws)) M)\/∃o,eX M (.ref a) x o/\R (.bl (if neg then !o.isSome else o.isSome)) M
 | x,.dk kvs,M,R=>∃o,eX M (.dk kvs) x o/\R (.bl (if neg then !o.isSome else o.isSome)) M
 | x,.dt kvs,M,R=>∃o,eX M (.dt kvs) x o/\R (.bl (if neg then !o.isSome else o.isSome)) M
 | x,.fk kvs,M,R=>∃o,eX M (.fk kvs) x o/\R (.bl (if neg then !o.isSome else o.isSome)) M
 | x,.ft kvs,M,R=>∃o,eX M (.ft kvs) x o/\R (.bl (if neg then !o.isSome else o.isSome)) M
 | _,_,_,_=>False
def FE(M:Mm):W->↑W->Prop
 | .tup ws,g=>ws=g
 | x,ws=>lN M x ws
theorem FF{K:Ac}{H:Hp}{M:Mm}{v:V}{w:W}{ws:↑W}(Y:AM K H M)(h:AV K H M v w)(e:FE M w ws):∃a xs,v=.ref a/\(bN K H a xs\/bL K H a xs)/\aK K H M xs ws:=by
 cases w
 case tup zs=>exact h.tupE λa xs D f q=>⟨_,_,D,.inr (bL.of f),by rw[<-show zs=ws from e];exact q⟩
 case ref|rl=>let⟨a,xs,D,f,q⟩:=mU Y h e;exact⟨a,xs,D,.inl (bN.of f),q⟩
 all_goals exact Bq e
theorem FG{n:Bool}{P:W->W->Prop}(S:∀i j,R (.bl (if n then !occ i j else occ i j)) M->P (.str i) (.str j))(u:∀x y ws,FE M y ws->fQ x=ab/\ws.all fQ=ab/\R (.bl (if n then !inW x ws else inW x ws)) M->P x y)(V:∀x y o,eX M y x o->R (.bl (if n then !o.isSome else o.isSome)) M->P x y)(x y:W)(h:cA n x y M R):P x y:=by
 cases y
 case non|bl|int|ty|sc=>exfalso;cases x<;>exact h
 case str=>cases x<;>first|exact Bq h|exact S _ _ h
 case tup=>exact u _ _ _ rfl (by cases x<;>exact h)
 case rl=>exact u _ _ _ rfl (by cases x<;>exact h)
 case ref a=>
  have h:(∃ws,M a=aa (.lst ws)/\fQ x=ab/\ws.all fQ=ab/\R (.bl (if n then !inW x ws else inW x ws)) M)\/∃o,eX M (.ref a) x o/\R (.bl (if n then !o.isSome else o.isSome)) M:=by cases x<;>exact h
  exact h.elim (λ⟨ws,e,h⟩=>u _ _ _ e h) λ⟨o,g,r⟩=>V _ _ _ g r
 case dk kvs=>have h:∃o,eX M (.dk kvs) x o/\R (.bl (if n then !o.isSome else o.isSome)) M:=(by cases x<;>exact h);exact h.elim λo h=>V _ _ _ h.1 h.2
 case dt kvs=>have h:∃o,eX M (.dt kvs) x o/\R (.bl (if n then !o.isSome else o.isSome)) M:=(by cases x<;>exact h);exact h.elim λo h=>V _ _ _ h.1 h.2
 case fk kvs=>have h:∃o,eX M (.fk kvs) x o/\R (.bl (if n then !o.isSome else o.isSome)) M:=(by cases x<;>exact h);exact h.elim λo h=>V _ _ _ h.1 h.2
 case ft kvs=>have h:∃o,eX M (.ft kvs) x o/\R (.bl (if n then !o.isSome else o.isSome)) M:=(by cases x<;>exact h);exact h.elim λo h=>V _ _ _ h.1 h.2
def FH(n:Bool):R2:=λx y H Q=>∃a o,y=.ref a/\h9 H a x o/\Q (.bl (if n then !o.isSome else o.isSome)) H
theorem XS(W:X.A.units+1<Fg):bB X (Dk .In) (FH ac):=by
 rintro af s Z H x y v u Q I G P ⟨a,o,rfl,g,q⟩;cases P;exact UA W I g G λN O=>⟨.bl _,H,O,rfl,q⟩
theorem XT(W:X.A.units+1<Fg):bB X (Dk .NotIn) (FH ab):=by
 rintro af s Z H x y v u Q I G P ⟨a,o,rfl,g,q⟩;cases P;exact UB W I g G λN O=>⟨.bl _,H,O,rfl,q⟩
theorem FI{K:Ac}{H:Hp}{M:Mm}{x y:V}{t l:W}{o:Option W}(Y:AM K H M)(N:AV K H M x t)(S:AV K H M y l)(h:eX M t l o):∃a U,x=.ref a/\h9 H a y U/\U.isSome=o.isSome:=by
 obtain⟨a,e,⟨rfl,g⟩|⟨v,w,rfl,g,_⟩⟩:=uA Y N S h
 .exact⟨a,_,e,g,rfl⟩
 .exact⟨a,_,e,g,rfl⟩
theorem FJ(W:X.A.units+1<Fg):bB X (Dk .In) (cJ X.K (cA ac)):=mT (QW.or (TH.or (XS W))) λx y H Q M R Y k=>FG
 (λi j h N S=>.inl ⟨i,j,N.inv,S.inv,k.at Y (.bl _) h⟩)
 (λt l ws e h N S=>let ⟨a,xs,e1,f,q⟩:=FF Y S e;.inr (.inl ⟨a,xs,e1,f,N.flat h.1,(aK.inn N h.1 q h.2.1).1,by rw[(aK.inn N h.1 q h.2.1).2];exact k.at Y (.bl _) h.2.2⟩))
 (λt l o g r N S=>let ⟨a,o',e,g,z⟩:=FI Y S N g;.inr (.inr ⟨a,o',e,g,by rw[z];exact k.at Y (.bl _) r⟩))
theorem FK(W:X.A.units+1<Fg):bB X (Dk .NotIn) (cJ X.K (cA ab)):=mT (QX.or (TJ.or (XT W))) λx y H Q M R Y k=>FG
 (λi j h N S=>.inl ⟨i,j,N.inv,S.inv,k.at Y (.bl _) h⟩)
 (λt l ws e h N S=>let ⟨a,xs,e1,f,q⟩:=FF Y S e;.inr (.inl ⟨a,xs,e1,f,N.flat h.1,(aK.inn N h.1 q h.2.1).1,by rw[(aK.inn N h.1 q h.2.1).2];exact k.at Y (.bl _) h.2.2⟩))
 (λt l o g r N S=>let ⟨a,o',e,g,z⟩:=FI Y S N g;.inr (.inr ⟨a,o',e,g,by rw[z];exact k.at Y (.bl _) r⟩))
abbrev cP:↑W->Mm->K3->Prop
 | [.tup ws],M,R=>R (.int ↥ws) M
 | [.rl ws],M,R=>R (.int ↥ws) M
 | [.sc ws],M,R=>R (.int ↥ws) M
 | [.dk kvs],M,R=>R (.int ↥kvs) M
 | [.str z],M,R=>↥z<=Au/\R (.int ↥z) M
 | [.ref a],M,R=>(∃ws,M a=aa (.lst ws)/\R (.int ↥ws) M)\/∃kvs,M a=aa (.dK kvs)/\R (.int ↥kvs) M
 | _,_,_=>False
theorem XU{P:↑W->Prop}(S:∀ws,R (.int ↥ws) M->P [.tup ws])(u:∀ws,R (.int ↥ws) M->P [.sc ws])(V:∀x ws,lN M x ws->R (.int ↥ws) M->P [x])(g:∀z,↥z<=Au/\R (.int ↥z) M->P [.str z])(f:∀kvs,R (.int ↥kvs) M->P [.dk kvs])(Z:∀a kvs,M a=aa (.dK kvs)->R (.int ↥kvs) M->P [.ref a])(l:↑W)(h:cP l M R):P l:=by
 match l,h with
 | [.tup _],h=>exact S _ h
 | [.rl _],h=>exact V _ _ rfl h
 | [.sc _],h=>exact u _ h
 | [.dk _],h=>exact f _ h
 | [.str _],h=>exact g _ h
 | [.ref _],h=>exact h.elim (λA=>by let⟨ws,e,r⟩:=A;exact V _ _ e r) λC=>by let⟨ws,e,r⟩:=C;exact Z _ _ e r
theorem XW:cR X (.builtin "len") (e9 X.K cP):=yC (TL.or (TM.or US)) λxs H Q M R Y k=>XU
 (λws h N=>N.oneE λv D av=>av.tupE λa us e f q=>.inl ⟨_,_,iP D e,.inr (bL.of f),by rw[↥q];exact k.at Y (.int _) h⟩)
 (λws h N=>N.oneE λv D av=>av.scE λa us e f q=>.inl ⟨_,_,iP D e,.inl f.sq,by rw[↥q];exact k.at Y (.int _) h⟩)
 (λx ws I h N=>N.oneE λv D av=>let ⟨a,us,e,f,q⟩:=mU Y av I;.inl ⟨_,_,iP D e,.inl (bN.of f),by rw[↥q];exact k.at Y (.int _) h⟩)
 (λz h N=>N.oneE λv D av=>.inr (.inl ⟨z,iP D av.inv,h.1,k.at Y (.int _) h.2⟩))
 (λkvs h N=>N.oneE λv D av=>let ⟨a,ks,e,f,_,q⟩:=av.inv;.inr (.inr ⟨a,ks,iP D e,f,by rw[Dg q];exact k.at Y (.int _) h⟩))
 (λa kvs I h N=>N.oneE λv D av=>let ⟨ks,f,q⟩:=Y _ _ I;.inr (.inr ⟨a,ks,iP D av.inv,f,by rw[Dg q];exact k.at Y (.int _) h⟩))
def uD:↑W->Mm->K3->Prop
 | [.tup ws],M,R=>aP ws M R
 | [.rl ws],M,R=>aP ws M R
 | [.sc ws],M,R=>aP ws M R
 | [.dk kvs],M,R=>aP (kvs.map λg=>wK g.1) M R
 | [.ref a],M,R=>(∃ws,M a=aa (.lst ws)/\aP ws M R)\/∃kvs,M a=aa (.dK kvs)/\aP (kvs.map λg=>wK g.1) M R
 | _,_,_=>False
theorem FL{K:Ac}{H:Hp}{M:Mm}{ks:↑(aC×V)}{kvs:↑(aC×W)}(h:bS K H M aC ks kvs):aK K H M (ks.map λg=>kV g.1) (kvs.map λg=>wK g.1):=by
 induction h with
 | nil=>exact .nil
 | @cons p q ps qs r t E=>
  refine .cons ?_ E;show AV K H M (kV p.1) (wK q.1);rw[r.1];cases q.1 with
  | inl i=>exact .int i
  | inr x=>exact .str x
theorem XX{P:↑W->Prop}(S:∀ws,aP ws M R->P [.tup ws])(u:∀ws,aP ws M R->P [.sc ws])(V:∀x ws,lN M x ws->aP ws M R->P [x])(f:∀kvs:↑(aC×W),aP (kvs.map λg=>wK g.1) M R->P [.dk kvs])(Z:∀a kvs,M a=aa (.dK kvs)->aP (kvs.map λg=>wK g.1) M R->P [.ref a])(l:↑W)(h:uD l M R):P l:=by
 match l,h with
 | [.tup _],h=>exact S _ h
 | [.rl _],h=>exact V _ _ rfl h
 | [.sc _],h=>exact u _ h
 | [.dk _],h=>exact f _ h
 | [.ref _],h=>exact h.elim (λA=>by let⟨ws,e,r⟩:=A;exact V _ _ e r) λC=>by let⟨ws,e,r⟩:=C;exact Z _ _ e r
theorem FN(hc:X.calm=ab):cR X (.type "list") (e9 X.K uD):=yC (TN.or (VG hc)) λxs H Q M R Y k=>XX
 (λws h N=>N.oneE λv D av=>av.tupE λa us e f q=>.inl ⟨_,_,iP D e,.inr (bL.of f),λp G=>gL Y k G q h⟩)
 (λws h N=>N.oneE λv D av=>av.scE λa us e f q=>.inl ⟨_,_,iP D e,.inl f.sq,λp G=>gL Y k G q h⟩)
 (λx ws I h N=>N.oneE λv D av=>let ⟨a,us,e,f,q⟩:=mU Y av I;.inl ⟨_,_,iP D e,.inl (bN.of f),λp G=>gL Y k G q h⟩)
 (λkvs h N=>N.oneE λv D av=>let ⟨a,ks,e,f,_,q⟩:=av.inv;.inr ⟨a,ks,iP D e,f,λp G=>gL Y k G (FL q) h⟩)
 (λa kvs I h N=>N.oneE λv D av=>let ⟨ks,f,q⟩:=Y _ _ I;.inr ⟨a,ks,iP D av.inv,f,λp G=>gL Y k G (FL q) h⟩)
def pH:↑W->Mm->K3->Prop
 | [.tup ws],M,R=>R (.tup ws) M
 | [.rl ws],M,R=>R (.tup ws) M
 | [.ref a],M,R=>∃ws,M a=aa (.lst ws)/\R (.tup ws) M
 | _,_,_=>False
theorem XY{P:↑W->Prop}(S:∀ws,R (.tup ws) M->P [.tup ws])(V:∀x ws,lN M x ws->R (.tup ws) M->P [x])(l:↑W)(h:pH l M R):P l:=by
 match l,h with
 | [.tup _],h=>exact S _ h
 | [.rl _],h=>exact V _ _ rfl h
 | [.ref _],h=>exact h.elim λws h=>V _ _ h.1 h.2
theorem XZ:cR X (.type "tuple") (e9 X.K pH):=yC TQ λxs H Q M R Y k=>XY
 (λws h N=>N.oneE λv D av=>av.tupE λa us e f q=>⟨_,_,iP D e,.inr ⟨bL.of f,k.at Y (by rw[<-e];exact av) h⟩⟩)
 (λx ws I h N=>N.oneE λv D av=>let ⟨a,us,e,f,q⟩:=mU Y av I;⟨_,_,iP D e,.inl ⟨bN.of f,λp G=>laidT Y k G q h⟩⟩)
def yO:↑W->Mm->K3->Prop
 | [.int i],M,R=>i.natAbs.log2<1920/\R (.str (toString i)) M
 | _,_,_=>False
theorem X0:cR X (.type "str") (e9 X.K yO):=by
 rintro af s Z H xs us Q I rs ⟨ws,M,R,Y,d,h,k⟩
 match ws,h with
 | [.int i],h=>
  let⟨v,rfl,av⟩:=d.one;cases av;exact Q6 af s Z H _ us Q I rs ⟨i,rfl,h.1,k.at Y (.str _) h.2⟩
def bools(bs:↑Bool):↑W:=bs.map W.bl
theorem aK.bools{K:Ac}{H:Hp}{M:Mm}:∀{bs:↑Bool} {vs:↑V},aK K H M vs (L2.bools bs)->vs=bs.map V.bl
 | [],_,h=>by cases h;rfl
 | b::r,_,h=>by
  cases h with
  | cons x y=>cases x;rw[aK.bools y];rfl
abbrev uE:↑W->Mm->K3->Prop
 | [.ref a],M,R=>∃bs,M a=aa (.lst (bools bs))/\R (.bl (bs.all id)) M
 | [.rl ws],M,R=>∃bs,ws=bools bs/\R (.bl (bs.all id)) M
 | _,_,_=>False
theorem X1(hc:X.calm=ab):cR X (.builtin "all") (e9 X.K uE):=by
 rintro af s Z H xs us Q I rs ⟨ws,M,R,Y,d,h,k⟩
 match ws,h with
 | [.ref a],h=>
  let⟨v,rfl,av⟩:=d.one;cases av;let⟨bs,e,r⟩:=h;let⟨vs,f,q⟩:=Y.lst e;rw[q.bools]at f;exact tP ac hc af s Z H _ us Q I rs ⟨a,bs,rfl,bN.of f,k.at Y (.bl _) r⟩
 | [.rl ws],h=>
  let⟨v,rfl,av⟩:=d.one;let⟨bs,rfl,r⟩:=h;cases av with
  | rl f _ q=>
   rw[q.bools]at f;exact tP ac hc af s Z H _ us Q I rs ⟨_,bs,rfl,bN.of f,k.at Y (.bl _) r⟩
def dJ:W->↑W->Mm->K3->Prop
 | .ref l,[y],M,R=>∃ws,M l=aa (.lst ws)/\↥ws<Au/\R .non (put M l (.lst (ws++[y])))
 | _,_,_,_=>False
theorem X2:e8 X "list.append" (jJ X.K dJ):=by
 rintro af s Z H x xs v us Q I G rs ⟨t,ws,M,R,Y,N,d,h,k⟩
 match t,ws,h with
 | .ref l,[y],h=>
  let⟨z,rfl,m⟩:=d.one;cases N;let⟨ws,e,hl,r⟩:=h;let⟨vs,f,q⟩:=Y.lst e;exact C5 af s Z H _ _ v us Q I G rs ⟨l,vs,z,rfl,rfl,f,by rw[↥q];exact hl,rA Y k e (q.append (.cons m .nil)) .non r⟩
def yP:W->↑W->Mm->K3->Prop
 | .ref l,[.ref b],M,R=>∃ws g,M l=aa (.lst ws)/\M b=aa (.lst g)/\↥ws+↥g<=Au/\R .non (put M l (.lst (ws++g)))
 | .ref l,[.rl g],M,R=>∃ws,M l=aa (.lst ws)/\↥ws+↥g<=Au/\R .non (put M l (.lst (ws++g)))
 | _,_,_,_=>False
theorem X3:e8 X "list.extend" (jJ X.K yP):=by
 rintro af s Z H x xs v us Q I G rs ⟨t,ws,M,R,Y,N,d,h,k⟩
 match t,ws,h with
 | .ref l,[.ref b],h=>
  let⟨z,rfl,m⟩:=d.one;cases N;cases m;let⟨ws,g,e,T,hl,r⟩:=h;let⟨vs,f,q⟩:=Y.lst e;let⟨a,O,n⟩:=Y.lst T;exact C6 af s Z H _ _ v us Q I G rs ⟨l,b,vs,a,rfl,rfl,f,O,by rw[↥q,↥n];exact hl,rA Y k e (q.append n) .non r⟩
 | .ref l,[.rl g],h=>
  let⟨z,rfl,m⟩:=d.one;cases N;cases m with
  | rl O _ n=>
   let⟨ws,e,hl,r⟩:=h;let⟨vs,f,q⟩:=Y.lst e;exact C6 af s Z H _ _ v us Q I G rs ⟨l,_,vs,_,rfl,rfl,f,O,by rw[↥q,↥n];exact hl,rA Y k e (q.append n) .non r⟩
def n6:W->↑W->Mm->K3->Prop
 | .ref l,[],M,R=>∃ws w,M l=aa (.lst (ws++[w]))/\R w (put M l (.lst ws))
 | _,_,_,_=>False
theorem X4:e8 X "list.pop" (jJ X.K n6):=by
 rintro af s Z H x xs v us Q I G rs ⟨t,ws,M,R,Y,N,d,h,k⟩
 match t,ws,h with
 | .ref l,[],h=>
  cases d;cases N;let⟨ws,w,e,r⟩:=h;let⟨vs,f,q⟩:=Y.lst e;have hl:=↥q;rw[Aj,Co]at hl;let⟨z,hz,m⟩:=q.getW (i:=↥ws) (w:=w) (by simp);refine TY af s Z H _ _ v us Q I G rs ⟨l,vs,z,rfl,rfl,f,by rw[hl];exact hz,rA Y k e ?_ m r⟩;have:=q.dropLast;rw[List.dropLast_concat]at this;exact this
abbrev rE:aR:=λ_ M R=>iO [] M R
abbrev lQ:aR:=λ_ M R=>jW [] M R
theorem X5:E3 X (.Dict [] [] pos) rE:=UI.weak λZ H Q ⟨U,M,R,J,Y,h,k⟩ p G=>by
 let⟨E,F⟩:=Y.laid (o:=.dK []) (u:=.dK []) G ⟨[],b8,.nil⟩;exact k _ _ _ _ F E (.ref p) (h p (Y.nonM G))
theorem X6:E3 X (.Dict [] [] pos) lQ:=UJ.weak λZ H Q ⟨U,M,R,J,Y,h,k⟩ p G=>by
 let⟨E,F⟩:=Y.laid (o:=.dT []) (u:=.dT []) G ⟨[],b8,.nil⟩;exact k _ _ _ _ F E (.ref p) (h p (Y.nonM G))
end
abbrev P3(X:Cx)(st:Jy)(t:aE):Prop:=PS X st (qV X.K t)
abbrev jL(X:Cx)(st:↑Jy)(t:aE):Prop:=fN X st (qV X.K t)
abbrev eQ:=W->S3->Mm->(S3->Mm->Prop)->Prop
abbrev mY:=↑W->S3->Mm->(S3->Mm->Prop)->Prop
def iS(K:Ac)(g:eQ):TG:=λv C H Q=>∃w U M R,AV K H M v w/\AS K H M C U/\AM K H M/\g w U M R/\iN K H M R Q
def pI(K:Ac)(g:mY):jT:=λvs C H Q=>∃ws U M R,aK K H M vs ws/\AS K H M C U/\AM K H M/\g ws U M R/\iN K H M R Q
theorem iS.el{K:Ac}{H:Hp}{m:SV}{C:Prop}{t:eQ}{v:V}{Q:SV->Hp->Prop}(h:iS K t v m H Q)(c:∀w U M R,AV K H M v w->AS K H M m U->AM K H M->t w U M R->iN K H M R Q->C):C:=by let⟨w,U,M,R,a,b,d,h,k⟩:=h;exact c w U M R a b d h k
theorem pI.el{K:Ac}{H:Hp}{m:SV}{C:Prop}{t:mY}{v:↑V}{Q:SV->Hp->Prop}(h:pI K t v m H Q)(c:∀w U M R,aK K H M v w->AS K H M m U->AM K H M->t w U M R->iN K H M R Q->C):C:=by let⟨w,U,M,R,a,b,d,h,k⟩:=h;exact c w U M R a b d h k
section
variable {X:Cx}{pos:Hv}
theorem _root_.L2.PG.weak(h:PG X e t)(k:∀v C H Q,t' v C H Q->t v C H Q):PG X e t':=λB s C H v u Q I r q=>h B s C H v u Q I r (k v C H Q q)
theorem _root_.L2.iZ.weak(h:iZ X e t)(k:∀v C H Q,t' v C H Q->t v C H Q):iZ X e t':=λB s C H v u Q I r q=>h B s C H v u Q I r (k v C H Q q)
theorem iN.at{K:Ac}{H:Hp}{M:Mm}{R:S3->Mm->Prop}{Q:SV->Hp->Prop}(h:iN K H M R Q)(Y:AM K H M){C:SV}{U:S3}(J:AS K H M C U)(r:R U M):Q C H:=h C H U M (Kp.refl Y) Y J r
abbrev aX(i:Nat):eQ:=λw U M R=>R (U.set i (aa w)) M
theorem FO{i:Nat}(t:X.N.Nodup)(hi:X.N[i]? = aa x:=by rfl)(J:Loc X.env.scope x:=by first|exact .inl rfl|exact .inr rfl)(hf:Fy X x:=by first|exact .inl rfl|exact .inr rfl|assumption):PG X (.Name x pos) (iS X.K (aX i)):=
 (PC t hi J hf).weak λv C H Q A=>A.el λw U M R av n Y h k=>k.at Y (n.set av i) h
abbrev fR:mY:=λws U M R=>ws=[]/\R U M
abbrev cL(t:eQ)(u:mY):mY:=λws U M R=>match ws with
 | w::r=>t w U M λv V=>u r v V R
 | []=>False
theorem jZ:iZ X [] (pI X.K fR):=PH.weak λvs C H Q z=>z.el λws U M R av J Y h k=>⟨aK.nil_ (by rw[<-h.1];exact av),k.at Y J h.2⟩
theorem fA{e:Ck}{es:↑Ck}{t:eQ}{u:mY}(O:PG X e (iS X.K t))(L:iZ X es (pI X.K u))(F:(Ih (e::es) X.env).map (·.2)=Oh e X.env::(Ih es X.env).map (·.2):=by rfl):iZ X (e::es) (pI X.K (cL t u)):=
 (PJ O L F).weak λvs C H Q A=>A.el λws U M R av J Y h k=>by
  cases av with
  | nil=>exact Bq h
  | cons x r=>exact⟨_,_,rfl,_,U,M,_,x,J,Y,h,λc l v V y T a h'=>⟨_,v,V,R,r.kp Y y,a,T,h',k.kp y⟩⟩
abbrev fS(n:Nat)(g:mY):eQ:=λw U M R=>match w with
 | .tup ws=>↥ws=n/\g ws U M R
 | .rl ws=>↥ws=n/\g ws U M R
 | .ref a=>∃ws,M a=aa (.lst ws)/\↥ws=n/\g ws U M R
 | _=>False
theorem j0{k:Nat}{n:Nat}(hc:X.calm=ab)(h:iZ X es (pI X.K t))(hn:↥(Ih es X.env)=n:=by rfl)(y:(Ih es X.env).findIdx? (·.1)=ae:=by rfl):PG X (.Tuple es k pos) (iS X.K (fS n t)):=by
 rintro B s C H v u Q I r ⟨w,U,M,R,av,J,Y,hw,V⟩;cases w<;>first|exact Bq hw|skip
 case tup ws=>exact av.tupE λa xs e f q=>PL hc h hn y B s C H _ u Q I r ⟨a,xs,e,bL.of f,by rw[↥q];exact hw.1,_,U,M,R,q,J,Y,hw.2,V⟩
 case rl ws=>exact av.rlE λa xs e f q=>DS hc h hn y B s C H _ u Q I r ⟨a,xs,e,bN.of f,by rw[↥q];exact hw.1,_,U,M,R,q,J,Y,hw.2,V⟩
 case ref a=>exact hw.elim λws hw=>Y.lstE hw.1 λxs f q=>DS hc h hn y B s C H _ u Q I r ⟨a,xs,av.inv,bN.of f,by rw[↥q];exact hw.2.1,_,U,M,R,q,J,Y,hw.2.2,V⟩
abbrev fJ(te:aR)(g:eQ):aE:=λD U M=>te U M λx I=>g x U I D.nx
theorem X7{K:Ac}{te:aR}{g:eQ}{D:lE}{C:SV}{H:Hp}(h:qV K (fJ te g) D C H):sW (up K te) (iS K g) D C H:=by
 let⟨U,M,s,J,Y,h,k⟩:=h;exact⟨U,M,_,J,Y,h,λx j t I B P N O=>⟨t,U,I,s.nx,N,J.kp Y B,P,O,k.nx.kp B⟩⟩
theorem X8(Z:E3 X e te)(hg:PG X tg (iS X.K g))(F:swapsWithSole [tg] e pos.line X.env=pure ac:=by rfl)(hw:swappedStores [tg] e X.env=pure ae:=by rfl)(O:(Ih [tg] X.env).map (·.2)=[Oh tg X.env]:=by rfl):P3 X (.Assign [tg] e pos) (fJ te g):=(PR Z hg F hw O).weak λ_ _ _ h=>X7 h
abbrev aN(i:Nat)(te:aR):aE:=λD U M=>te U M λx I=>D.nx (U.set i (aa x)) I
theorem X9{i:Nat}(t:X.N.Nodup)(Z:E3 X e te)(hi:X.N[i]? = aa x:=by rfl)(J:Loc X.env.scope x:=by first|exact .inl rfl|exact .inr rfl)(F:Mg e (aa (.Name x a)) pos.line X.env=pure ac:=by rfl)(hf:Fy X x:=by first|exact .inl rfl|exact .inr rfl|assumption):
  P3 X (.Assign [.Name x a] e pos) (aN i te):=(PU t hi J Z F hf).weak λD C H A=>A.el λU M s n Y h k=>⟨U,M,_,n,Y,h,λy j l I B P S O=>k.nx _ _ _ _ B P ((n.kp Y B).set S i) O⟩
def rF(o i v:W)(M:Mm)(Q:Mm->Prop):Prop:=match o with
 | .ref a=>(∃ws k j,i=.int k/\M a=aa (.lst ws)/\gV ↥ws k=aa j/\Q (put M a (.lst (ws.set j v))))\/
   (∃kvs k,i=wK k/\M a=aa (.dK kvs)/\↥kvs<Au/\Q (put M a (.dK (bY kvs k v))))\/
   ∃kvs k,i=.tup (k.map wK)/\M a=aa (.dT kvs)/\↥kvs<Au/\Q (put M a (.dT (bY kvs k v)))
 | _=>False
def YA(K:Ac):sS:=λo i v H Q=>∃S wi d M R,AV K H M o S/\AV K H M i wi/\AV K H M v d/\AM K H M/\rF S wi d M R/\∀l V,Kp H M l V->AM K l V->R V->Q l
theorem set_dict(W:X.A.units+1<Fg):sU X (λo i v H Q=>∃a l,o=.ref a/\mO H a i v l/\Q l):=by
 intro B s C H o i v p D u Q I x w U h;let⟨a,l,rfl,d,q⟩:=h;cases x;exact UC W I d w U λt f=>⟨l,f,q⟩
theorem FP{b:Type}[DecidableEq b]{K:Ac}{H:Hp}{M:Mm}{ks:↑(b×V)}{kvs:↑(b×W)}{n:b}{v:V}{d:W}{a:Am}{o:MO}{u:HO}(Y:AM K H M)(e:M a=aa o)(q:bS K H M b ks kvs)(av:AV K H M v d){U:MO}:bS K (aL H a u) (put M a U) b (dZ ks n v) (bY kvs n d):=Paired.mapP (rC q n av) λp q z=>⟨z.1,z.2.wr Y e⟩
theorem YB(W:X.A.units+1<Fg):sU X (YA X.K):=by
 rintro B s C H o i v p D u Q I x w U ⟨S,wi,d,M,R,N,G,av,Y,h,k⟩;cases S<;>first|exact Bq h|skip
 rename_i a;rcases h with⟨ws,n,j,g,e,hj,r⟩|⟨kvs,n,g,e,hl,r⟩|⟨kvs,n,g,e,hl,r⟩
 .rw[g]at G;let⟨vs,f,q⟩:=Y.lst e;let⟨E,F⟩:=Y.write (o:=.lst (ws.set j d)) (u:=.lst (vs.set j v)) e ⟨_,b8,(aK.set av j q).wr Y e⟩;exact S8 B s C H _ _ v p D u Q I x w U ⟨a,vs,n,j,N.inv,G.inv,f,by rw[↥q];exact hj,k _ _ F E r⟩
 .rw[g]at G;let⟨ks,f,q⟩:=Y _ _ e;let⟨E,F⟩:=Y.write (o:=.dK (bY kvs n d)) (u:=.dK (dZ ks n v)) e ⟨_,b8,FP Y e q av⟩;exact set_dict W B s C H _ _ v p D u Q I x w U ⟨a,_,N.inv,by rw[G.key];exact mO.k f (by rw[Dg q];exact hl),k _ _ F E r⟩
 .rw[g]at G;let⟨ks,f,q⟩:=Y _ _ e;let⟨E,F⟩:=Y.write (o:=.dT (bY kvs n d)) (u:=.dT (dZ ks n v)) e ⟨_,b8,FP Y e q av⟩;exact G.tupE λb xs T z c=>set_dict W B s C H _ _ v p D u Q I x w U ⟨a,_,N.inv,by rw[T];exact mO.t f (by rw[<-c.keys];exact z) (by rw[Dg q];exact hl),k _ _ F E r⟩
abbrev gY(to a:aR):eQ:=λw U M R=>to U M λo I=>a U I λi f=>rF o i w f λB=>R U B
theorem w_sub{o i:Ck}{to a:aR}(W:X.A.units+1<Fg)(f:E3 X o to)(hi:E3 X i a)(m:∀v,Oh (.Subscript o i pos) X.env v=(do
   let p <-Jv [v] (Ef o X.env)
   let D <-Jv [v,p] (Ef i X.env)
   Qo pos
   Jv [v,p,D] (Vo p D v)
   release [v,p,D] []):=by intro _;rfl):PG X (.Subscript o i pos) (iS X.K (gY to a)):=
 (PQ f hi (YB W) m).weak λv C H Q d=>d.el λw U M R av J Y h k=>⟨U,M,_,J,Y,h,λo j S I B P N O=>⟨U,I,_,J.kp Y B,P,O,λi z wi c F E G L=>
  ⟨S,wi,w,c,_,N.kp P F,G,(av.kp Y B).kp P F,E,L,λl V y t r=>k _ _ _ _ ((B.trans F).trans y) t (((J.kp Y B).kp P F).kp E y) r⟩⟩⟩
abbrev cB:aE:=λD U M=>D.nx U M
abbrev aF(t u:aE):aE:=λD U M=>t {D with nx:=u D} U M
variable {st:Jy}{rest:↑Jy}{t u:aE}{e:Ck}{te:aR}
theorem YC:jL X [] cB:=OW.weak λD C H A=>A.el λU M s J Y h k=>k.nx.at Y J h
theorem YD(O:P3 X st t)(L:jL X rest u):jL X (st::rest) (aF t u):=(OX O L).weak λD C H A=>A.el λU M s J Y h k=>
 ⟨U,M,_,J,Y,h,⟨λc l v V y T a h'=>⟨v,V,s,a,T,h',k.kp y⟩,k.rt,k.bk,k.ct⟩⟩
theorem YE(O:P3 X st t):jL X [st] t:=OY O
abbrev bZ(te:aR):aE:=λD U M=>te U M λ_ I=>D.nx U I
theorem YF(Z:E3 X e te)(F:Mg e ae pos.line X.env=pure ac:=by rfl):P3 X (.Expr e pos) (bZ te):=(O0 Z F).weak λD C H A=>A.el λU M s J Y h k=>
 ⟨U,M,_,J,Y,h,λv l w V y t av r=>k.nx _ _ _ _ y t (J.kp Y y) r⟩
abbrev bG(te:aR):aE:=λD U M=>te U M D.rt
theorem YG(Z:E3 X e te):P3 X (.Return (aa e) pos) (bG te):=(O4 Z).weak λD C H A=>A.el λU M s J Y h k=>⟨U,M,_,J,Y,h,k.rt⟩
abbrev yQ:aE:=λD _ M=>D.rt .non M
theorem YH:P3 X (.Return ae pos) yQ:=O6.weak λD C H A=>A.el λU M s J Y h k=>k.rt.at Y .non h
abbrev bW(c:dE)(t u:aE):aE:=λD U M=>c U M λb I=>if b=ab then t D U I else u D U I
theorem YI(hc:T3 X c tc)(m:jL X a t)(Z:jL X b u):P3 X (.If c a b pos) (bW tc t u):=(O8 hc m Z).weak λD C H A=>A.el λU M s J Y h k=>
 ⟨U,M,_,J,Y,h,λb j I B P O=>by
  cases b with
  | true=>exact⟨U,I,s,J.kp Y B,P,O,k.kp B⟩
  | false=>exact⟨U,I,s,J.kp Y B,P,O,k.kp B⟩⟩
theorem YJ:P3 X st (λ_ _ _=>False):=PB.weak λD C H A=>A.el λU M s J Y h k=>h.elim
def kS(c:dE)(tb:aE):aE:=λD U M=>∃r:Nat->S3->Mm->Prop,(∃m,r m U M)/\∀m U M,r m U M->
 c U M λb I=>if b=ab then tb {D with nx:=λv V=>∃q o,q<m/\Sub o V/\r q v o,ct:=λv V=>∃q o,q<m/\Sub o V/\r q v o,bk:=D.nx} U I else D.nx U I
theorem YK(G:Ui X.m X.A X.env X.xe)(hc:T3 X c tc)(Z:jL X p tb):P3 X (.While c p [] pos) (kS tc tb):=
 (PX G hc Z).weak λD C H d=>by
  obtain⟨U,M,s,J,Y,⟨r,⟨m,u⟩,h⟩,k⟩:=d;refine⟨λm O l=>∃v V,Kp H M l V/\AM X.K l V/\AS X.K l V O v/\r m v V,⟨m,U,M,Kp.refl Y,Y,J,u⟩,?_⟩;rintro m x j ⟨e,I,B,P,T,i⟩;refine⟨e,I,_,T,P,h m e I i,λb w f F E L=>?_⟩;cases b with
  | false=>exact k.nx _ _ _ _ (B.trans F) E (T.kp P F) L
  | true=>
   have L:tb {s with nx:=λv V=>∃q o,q<m/\Sub o V/\r q v o,ct:=λv V=>∃q o,q<m/\Sub o V/\r q v o,bk:=s.nx} e f:=L;refine⟨λO l=>∃q v V,q<m/\Kp H M l V/\AM X.K l V/\AS X.K l V O v/\r q v V,λO l N=>by let⟨q,v,V,g,n,z,S,W⟩:=N;exact⟨q,g,v,V,n,z,S,W⟩,e,f,_,T.kp P F,E,L,?_⟩;have Q:iN X.K w f (λv V=>∃q o,q<m/\Sub o V/\r q v o) (λO l=>∃q v V,q<m/\Kp H M l V/\AM X.K l V/\AS X.K l V O v/\r q v V):=
    λO l v V y t a R=>by let⟨q,o,g,n,z⟩:=R;exact⟨q,v,o,g,((B.trans F).trans y).sub n,t.sub n,a.sub n,z⟩
   exact⟨Q,(k.rt.kp B).kp F,(k.nx.kp B).kp F,Q⟩
abbrev gM:=S3->Mm->(↑W->(Mm->Prop)->Mm->Prop)->Prop
structure iC(K:Ac)(H0:Hp)(M0:Mm)(J:It)(ws:↑W)(keep:Mm->Prop):Prop where
 go:∀i H M,Kp H0 M0 H M->AM K H M->keep M->i<↥ws->J.go i H
 stop:∀H M,Kp H0 M0 H M->AM K H M->keep M->J.stop ↥ws H
 yld:∀i H M x H',Kp H0 M0 H M->AM K H M->keep M->i<↥ws->J.yld i H x H'->∃w,ws[i]? = aa w/\Kp H M H' M/\AM K H' M/\AV K H' M x w
def fT(K:Ac)(wi:gM):TI:=λC H Q=>∃(U:S3) (M:Mm) (R:↑W->(Mm->Prop)->Mm->Prop),AS K H M C U/\AM K H M/\wi U M R/\∀J l ws keep V,Kp H M l V->AM K l V->iC K l V J ws keep->R ws keep V->Q J l
theorem fT.el{K:Ac}{H:Hp}{m:SV}{C:Prop}{t:gM}{Q:It->Hp->Prop}(h:fT K t m H Q)(c:∀U M R,AS K H M m U->AM K H M->t U M R->(∀J l ws keep V,Kp H M l V->AM K l V->iC K l V J ws keep->R ws keep V->Q J l)->C):C:=by let⟨U,M,R,a,b,h,k⟩:=h;exact c U M R a b h k
theorem _root_.L2.PI.weak{tg iter:Ck}{t t':TI}(h:PI X tg iter t)(k:∀C H R,t' C H R->t C H R):PI X tg iter t':=λB s C H R I q=>h B s C H R I (k C H R q)
@[irreducible] def n8(ws:↑W)(keep:Mm->Prop)(g:eQ)(tb:aE)(D:D3)(U:S3)(M:Mm):Prop:=
 ∃r:Nat->S3->Mm->Prop,r 0 U M/\(∀i U M,i<=↥ws->r i U M->keep M)/\
  (∀i w U M,ws[i]? = aa w->r i U M->g w U M λa f=>tb {D with nx:=λv V=>∃o,Sub o V/\r (i+1) v o,ct:=λv V=>∃o,Sub o V/\r (i+1) v o,bk:=D.nx} a f)/\
  ∀U M,r ↥ws U M->D.nx U M
abbrev cC(wi:gM)(g:eQ)(tb:aE):aE:=λD U M=>wi U M λws keep I=>n8 ws keep g tb D U I
theorem YL(G:Ui X.m X.A X.env X.xe)(hc:X.calm=ab)(hi:PI X tg iter (fT X.K wi))(hg:PG X tg (iS X.K g))(K:jL X p tb)(F:∀x,Iq iter X.env x=pure x:=by intro _;rfl):P3 X (.For tg iter p [] pos) (cC wi g tb):=
 (P8 G hc hi hg K F).weak λD C H d=>d.el λU M D' n Y h k=>by
  refine⟨U,M,_,n,Y,h,λJ j ws keep I B P it hw=>?_⟩;unfold n8 at hw;let⟨r,u,hk,F,hd⟩:=hw;refine⟨λi m O l=>m=↥ws-i/\i<=↥ws/\∃v V,Kp j I l V/\AM X.K l V/\AS X.K l V O v/\r i v V,⟨_,rfl,Cs _,U,I,Kp.refl P,P,n.kp Y B,u⟩,?_⟩;rintro i m σ2 z ⟨rfl,hi,τ2,f,t,E,as2,p2⟩
  by_cases a:i<↥ws
  .refine .inr ⟨it.go i z f t E (hk i τ2 f hi p2) a,λO l=>∃v V,Kp j I l V/\AM X.K l V/\AS X.K l V O v/\r (i+1) v V,λO l q=>⟨↥ws-(i+1),by lia,rfl,a,q⟩,λx R y=>?_⟩;let⟨w,hw,k3,T,N⟩:=it.yld i z f x R t E (hk i τ2 f hi p2) a y;refine⟨w,τ2,f,_,N,as2.kp E k3,T,F i w τ2 f hw p2,λσ4 H4 τ4 M4 k4 am4 as4 S=>⟨τ4,M4,_,as4,am4,S,?_⟩⟩;have b:=((t.trans k3).trans k4);have Q:iN X.K H4 M4 (λv V=>∃o,Sub o V/\r (i+1) v o) (λO l=>∃v V,Kp j I l V/\AM X.K l V/\AS X.K l V O v/\r (i+1) v V):=
    λO l v V c L as' ⟨o,W,s⟩=>⟨v,o,(b.trans c).sub W,L.sub W,as'.sub W,s⟩
   exact⟨Q,k.rt.kp (B.trans b),k.nx.kp (B.trans b),Q⟩
  .have e:i=↥ws:=by lia
   subst e;exact .inl ⟨it.stop z f t E (hk _ τ2 f hi p2),k.nx _ _ _ _ (B.trans t) E as2 (hd τ2 f p2)⟩
theorem yR{keep:Mm->Prop}(r:Nat->S3->Mm->Prop)(J:r 0 U M)(hk:∀i U M,i<=↥ws->r i U M->keep M)(F:∀i w U M,ws[i]? = aa w->r i U M->g w U M λa f=>tb {D with nx:=λv V=>∃o,Sub o V/\r (i+1) v o,ct:=λv V=>∃o,Sub o V/\r (i+1) v o,bk:=D.nx} a f)(hd:∀U M,r ↥ws U M->D.nx U M):n8 ws keep g tb D U M:=by unfold n8;exact⟨r,J,hk,F,hd⟩
variable {tg l a b:Ck}{tl ta tb':aR}
theorem YM{K:Ac}{j:Hp}{m:Mm}{p:Am}{ws:↑W}:iC K j m (oQ K p) ws λM=>M p=aa (.lst ws) where
 go:=λi H M _ Y e hi=>by
  let⟨vs,f,q⟩:=Y.lst e;exact⟨vs,vs[i]'(by rw[↥q];exact hi),bN.of f,by simp⟩
 stop:=λH M _ Y e=>by
  let⟨vs,f,q⟩:=Y.lst e;exact⟨vs,bN.of f,by rw[↥q];exact Ai _⟩
 yld:=λi H M x l _ Y e hi y=>by
  let⟨rfl,y⟩:=y;let⟨vs,f,q⟩:=Y.lst e;let⟨w,hw,av⟩:=q.getV (y vs (bN.of f));exact⟨w,hw,Kp.refl Y,Y,av⟩
theorem FQ{K:Ac}{j:Hp}{m:Mm}{p:Am}{vs:↑V}{ws:↑W}(L:AM K j m)(st:∀H M,Kp j m H M->bN K H p vs)(J:aK K j m vs ws):iC K j m (oQ K p) ws λ_=>True:=by
 refine⟨λi H M k Y _ hi=>⟨vs,vs[i]'(by rw[J.length];exact hi),st H M k,by simp⟩,λH M k Y _=>⟨vs,st H M k,by rw[J.length];exact Ai _⟩,λi H M x l k Y _ hi y=>?_⟩;let⟨rfl,y⟩:=y;let⟨w,hw,av⟩:=(J.kp L k).getV (y vs (st _ M k));exact⟨w,hw,Kp.refl Y,Y,av⟩
theorem YN{K:Ac}{j:Hp}{m:Mm}{p:Am}{vs:↑V}{ws:↑W}(L:AM K j m)(e:lJ K j p vs)(J:aK K j m vs ws):iC K j m (oQ K p) ws λ_=>True:=
 FQ L (λH M k=>by
  refine lJ.sq ?_;rcases e with⟨o,e⟩|e
  .exact .inl ⟨o,(k.fr _ _ (L.noFrz e) e).1⟩
  .exact .inr e) J
theorem YO{K:Ac}{j:Hp}{m:Mm}{p:Am}{vs:↑V}{ws:↑W}(L:AM K j m)(e:j p=aa (.lst vs))(n:m p=ae)(J:aK K j m vs ws):iC K j m (oQ K p) ws λ_=>True:=
 FQ L (λH M k=>bN.of (k.fr _ _ n e).1) J
theorem YQ{K:Ac}{j:Hp}{m:Mm}{p:Am}{vs:↑V}{ws:↑W}(L:AM K j m)(e:j p=aa (.tup vs))(J:aK K j m vs ws):iC K j m (w6 K p) ws λ_=>True:=by
 have st:∀H M,Kp j m H M->bL K H p vs:=λH M k=>bL.of (k.fr _ _ (L.noTup e) e).1;refine⟨λi H M k Y _ hi=>⟨vs,vs[i]'(by rw[J.length];exact hi),st H M k,by simp⟩,λH M k Y _=>⟨vs,st H M k,by rw[J.length];exact Ai _⟩,λi H M x l k Y _ hi y=>?_⟩;let⟨rfl,y⟩:=y;let⟨w,hw,av⟩:=(J.kp L k).getV (y vs (st _ M k));exact⟨w,hw,Kp.refl Y,Y,av⟩
theorem FR{K:Ac}{j:Hp}{m:Mm}{lo:Int}{n:Nat}:iC K j m (qI lo n) ((Cp n).map λi=>W.int (lo+(i:Nat))) λ_=>True where
 go:=λi H M _ Y _ hi=>by show i<n;simpa using hi
 stop:=λH M _ Y _=>by show n<=_;simp
 yld:=λi H M x l _ Y _ hi y=>by
  let⟨rfl,rfl⟩:=y;have hi:i<n:=by simpa using hi
  exact⟨.int (lo+i),by simp[hi],Kp.refl Y,Y,.int _⟩
theorem YR{K:Ac}{j:Hp}{m:Mm}{z:Av}:iC K j m (xT z) (z.cps.toList.map λc=>W.str ⟨#[c]⟩) λ_=>True where
 go:=λi H M _ Y _ hi=>by show i<z.cps.size;simpa using hi
 stop:=λH M _ Y _=>by show z.cps.size<=_;simp
 yld:=λi H M x l _ Y _ hi y=>by
  let⟨rfl,c,hc,rfl⟩:=y;exact⟨.str ⟨#[c]⟩,by rw[Ay,hc];rfl,Kp.refl Y,Y,.str _⟩
def lR(X:Cx)(tg:Ck)(r:V->Hp->(It->Hp->Prop)->Prop):Prop:=
 ∀(B:Pn) (s:Ak) (C:SV) (H:Hp) (x:V) (u:Ae) (R:It->Hp->Prop),Inv X B C H s->RelV x u->r x H R->X.a (Rn u) (sX X B C tg R) X.xe s
theorem yS:lR X tg (λx H R=>∃a,x=.ref a/\(∃xs,bN X.K H a xs)/\R (oQ X.K a) H):=by
 rintro B U C j x u R M l ⟨a,rfl,⟨xs,N⟩,q⟩;cases l;let⟨its,g,p,hz⟩:=M.list N;refine Ly p.isList ?_;refine⟨⇑U,[⇑U],_,_,j,rfl,M.kept (t':=U.toks) λb o e=>Af _ e,PY a _,⟨_,Az _ rfl,rfl,rfl⟩,λb Z=>?_,q⟩;have e:b=⇑U:=by simpa using Z
 subst e;exact M.fpOk (Ai _) (M.hok.fresh (Ai _))
theorem YS:lR X tg (λx H R=>∃a,x=.ref a/\(∃xs,bL X.K H a xs)/\R (w6 X.K a) H):=by
 rintro B U C j x u R M l ⟨a,rfl,⟨xs,N⟩,q⟩;cases l;let⟨its,g,p,hz⟩:=M.tuple N;refine Ji (show U.heap.IsTuple a its.toArray from p) ?_;refine⟨⇑U,[⇑U],_,_,j,rfl,M.kept (t':=U.toks) λb o e=>Af _ e,PZ a _,⟨_,Az _ rfl,rfl,rfl⟩,λb Z=>?_,q⟩;have e:b=⇑U:=by simpa using Z
 subst e;exact M.fpOk (Ai _) (M.hok.fresh (Ai _))
theorem YT:lR X (.Name x G) (λx H R=>∃z,x=.str z/\R (xT z) H):=by
 rintro B U C j x u R M l ⟨z,rfl,q⟩;let⟨t,rfl⟩:=l;have fp:∀b∈[⇑U],gU X B j b:=λb Z=>by
  have e:b=⇑U:=by simpa using Z
  subst e;exact M.fpOk (Ai _) (M.hok.fresh (Ai _))
 cases m:z.cps.all (· < 128)
 .refine wpAny_pyIter_wide m ?_;exact⟨⇑U,[⇑U],_,_,j,rfl,M.kept (t':=U.toks) λb o e=>Af _ e,
   DQ z _ "str_iterator" t (λA s i c Q E a b d=>wpAny_pyNext_wide_item a b d) (λA s i Q E a b c d=>wpAny_pyNext_wide_end a b c d) (λA i s Q E a b=>wpAny_pyIter_striter_wide a b),⟨_,Az _ rfl,rfl,rfl⟩,fp,q⟩
 .refine wpAny_pyIter_ascii m ?_;exact⟨⇑U,[⇑U],_,_,j,rfl,M.kept (t':=U.toks) λb o e=>Af _ e,
   DQ z _ "str_ascii_iterator" t (λA s i c Q E a b d=>wpAny_pyNext_ascii_item a b d) (λA s i Q E a b c d=>wpAny_pyNext_ascii_end a b c d) (λA i s Q E a b=>wpAny_pyIter_striter_ascii a b),⟨_,Az _ rfl,rfl,rfl⟩,fp,q⟩
theorem _root_.L2.PI.of{r:V->Hp->(It->Hp->Prop)->Prop}{tl:TE}(hl:PE X l tl)(T:lR X tg r):PI X tg l (λC H R=>tl C H λx j=>r x j R):=λB s C H R I h=>
 aZ (hl B s C H _ I h) λu U ⟨x,j,M,d,g⟩=>T B U C j x u R M d g
def rG(K:Ac)(r:W->Mm->(↑W->(Mm->Prop)->Mm->Prop)->Prop):V->Hp->(It->Hp->Prop)->Prop:=λx H Q=>∃(t:W) (M:Mm) (R:↑W->(Mm->Prop)->Mm->Prop),AV K H M x t/\AM K H M/\r t M R/\
 ∀J l ws keep I,Kp H M l I->AM K l I->iC K l I J ws keep->R ws keep I->Q J l
abbrev kT:W->Mm->(↑W->(Mm->Prop)->Mm->Prop)->Prop
 | .tup ws,I,R=>R ws (λ_=>True) I
 | .rl ws,I,R=>R ws (λ_=>True) I
 | .sc ws,I,R=>R ws (λ_=>True) I
 | .ref a,I,R=>∃ws,I a=aa (.lst ws)/\R ws (λM=>M a=aa (.lst ws)) I
 | _,_,_=>False
abbrev cD:W->Mm->(↑W->(Mm->Prop)->Mm->Prop)->Prop
 | .tup ws,I,R=>R ws (λ_=>True) I
 | .rl ws,I,R=>R ws (λ_=>True) I
 | .sc ws,I,R=>R ws (λ_=>True) I
 | .str z,I,R=>R (z.cps.toList.map λc=>W.str ⟨#[c]⟩) (λ_=>True) I
 | .ref a,I,R=>∃ws,I a=aa (.lst ws)/\R ws (λM=>M a=aa (.lst ws)) I
 | _,_,_=>False
theorem FT:lR X tg (rG X.K kT):=by
 rintro B s C H x u Q I l ⟨t,M,R,N,Y,h,k⟩;have k:=λJ ws keep=>k J H ws keep M (Kp.refl Y) Y;cases t<;>first|exact Bq h|skip
 case tup ws=>exact N.tupE λa xs e f q=>YS B s C H _ u Q I l ⟨a,e,⟨xs,bL.of f⟩,k _ _ _ (YQ Y f q) h⟩
 case rl ws=>let⟨a,xs,e,f,n,q⟩:=N.inv;exact yS B s C H _ u Q I l ⟨a,e,⟨xs,bN.of f⟩,k _ _ _ (YO Y f n q) h⟩
 case sc ws=>exact N.scE λa xs e f q=>yS B s C H _ u Q I l ⟨a,e,⟨xs,f.sq⟩,k _ _ _ (YN Y f q) h⟩
 case ref a=>exact h.elim λws h=>Y.lstE h.1 λvs f q=>yS B s C H _ u Q I l ⟨a,N.inv,⟨vs,bN.of f⟩,k _ _ _ YM h.2⟩
theorem YU:lR X (.Name y c) (rG X.K cD):=by
 rintro B s C H x u Q I l ⟨t,M,R,N,Y,h,k⟩;cases t<;>first|exact Bq h|skip
 case str z=>exact YT B s C H _ u Q I l ⟨z,N.inv,k _ _ _ _ _ (Kp.refl Y) Y YR h⟩
 all_goals exact FT B s C H x u Q I l ⟨_,M,R,N,Y,h,k⟩
abbrev bT(r:W->Mm->(↑W->(Mm->Prop)->Mm->Prop)->Prop)(tl:aR):gM:=λU M R=>tl U M λw I=>r w I R
theorem uF{r:W->Mm->(↑W->(Mm->Prop)->Mm->Prop)->Prop}(hl:E3 X l tl)(T:lR X tg (rG X.K r)):PI X tg l (fT X.K (bT r tl)):=(PI.of hl T).weak λC H Q A=>A.el λU M R n Y h k=>
 ⟨U,M,_,n,Y,h,λx j p I B P N O=>⟨p,I,R,N,P,O,λJ L ws keep V y t it r=>k J L ws keep V (B.trans y) t it r⟩⟩
theorem YV(hl:E3 X l tl):PI X tg l (fT X.K (bT kT tl)):=uF hl FT
theorem YW(hl:E3 X l tl):PI X (.Name y c) l (fT X.K (bT cD tl)):=uF hl YU
def lU(lo:Int)(n:Nat):↑W:=(Cp n).map λi=>W.int (lo+(i:Nat))
abbrev n9(ta:c0):gM:=λU M R=>ta U M λws I=>∃j:Int,ws=[.int j]/\-(2 ^ 62)<=j/\j<2 ^ 62/\R (lU 0 j.toNat) (λ_=>True) I
abbrev FU(ta:c0):gM:=λU M R=>ta U M λws I=>∃i j:Int,ws=[.int i,.int j]/\(-(2 ^ 62)<=i/\i<2 ^ 62/\-(2 ^ 62)<=j/\j<2 ^ 62)/\R (lU i (j-i).toNat) (λ_=>True) I
theorem YX(hg:Gl X "range")(S:X.mg "range" = ae)(m:A3 X [a] c)(F:Ci [a] X.env=[(ac,Ef a X.env)]:=by rfl):PI X tg (.Call (.Name "range" p) [a] [] pos) (fT X.K (n9 c)):=
 (P4 hg S m F).weak λC H Q A=>A.el λU M R J Y h k=>⟨U,M,_,J,Y,h,λvs G ws I B P N ⟨j,e,O,L,r⟩=>by
  rw[e]at N;let⟨v,e,av⟩:=N.one;exact⟨j,iP e av.inv,O,L,k _ _ _ _ _ B P FR r⟩⟩
theorem YY(hg:Gl X "range")(S:X.mg "range" = ae)(m:A3 X [a,b] c)(F:Ci [a,b] X.env=[(ac,Ef a X.env),(ac,Ef b X.env)]:=by rfl)(D:Ci [b] X.env=[(ac,Ef b X.env)]:=by rfl):
  PI X tg (.Call (.Name "range" p) [a,b] [] pos) (fT X.K (FU c)):=
 (P5 hg S m F D).weak λC H Q A=>A.el λU M R J Y h k=>⟨U,M,_,J,Y,h,λvs G ws I B P N ⟨i,j,e,O,r⟩=>by
  rw[e]at N;let⟨v,u,e,av,o⟩:=N.two;exact⟨i,j,by rw[e,show _=_ from av.inv,show _=_ from o.inv],O,k _ _ _ _ _ B P FR r⟩⟩
@[irreducible] def fZ(ws:↑W)(keep:Mm->Prop)(g:eQ)(tt:dE)(te:aR)(c:S3)(I:Mm)(R:K3):Prop:=
 ∀p,I p=ae->∃r:Nat->S3->↑W->Mm->Prop,r 0 c [] I/\(∀vs i U acc M,i<=↥ws->M p=ae->r i U acc M->keep (put M p (.fix vs)))/\
  (∀vs i w U acc M,ws[i]? = aa w->M p=ae->r i U acc M->g w U (put M p (.fix vs)) λa f=>tt a f λb B=>
   if b=ab then te a B λy O=>O p=aa (.fix vs)/\↥acc<Au/\∃d,Sub d (del O p)/\r (i+1) a (acc++[y]) d
   else B p=aa (.fix vs)/\∃d,Sub d (del B p)/\r (i+1) a acc d)/\
  ∀U acc M,M p=ae->r ↥ws U acc M->R (.ref p) (put M p (.lst acc))
noncomputable def yT(js:↑(Option Nat))(U:S3):S3:=js.map λo=>o.bind λj=>(U[j]?).join
theorem AS.cmap{K:Ac}{H:Hp}{M:Mm}{C:SV}{U:S3}(h:AS K H M C U):∀js:↑(Option Nat),AS K H M (cmap js C) (yT js U)
 | []=>.nil
 | none::r=>.cons (λ_ e=>nomatch e) (AS.cmap h r)
 | some j::r=>.cons (λw e=>by
   have e:(U[j]?).join=aa w:=e;cases q:U[j]? with
   | none=>rw[q]at e;cases e
   | some z=>
    rw[q]at e;have e:z=aa w:=e;subst e;let⟨v,O,L⟩:=h.get q;exact⟨v,by show(C[j]?).join=aa v;rw[O];rfl,L⟩) (AS.cmap h r)
abbrev dR(wi:gM)(g:eQ)(tt:dE)(te:aR)(js:↑(Option Nat)):aR:=λU M R=>wi U M λws keep I=>fZ ws keep g tt te (yT js U) I R
theorem yU(h:up X.K (dR wi g tt te js) C H Q):xS (fT X.K wi) (λ_=>iS X.K g) (λ_=>kK X.K tt) (λ_=>up X.K te) js C H Q:=by
 let⟨U,M,R,z,Y,h,k⟩:=h;refine⟨U,M,_,z,Y,h,λJ j ws keep I s P it L p G B=>?_⟩;unfold fZ at L;let⟨r,d,hk,F,hd⟩:=L p (P.nonM G);let⟨amp,kp⟩:=P.laid (o:=.fix []) (u:=.lst []) G b8;have hMp:=P.nonM G;refine U2 ↥ws (λi O f l=>∃v acc V,V p=ae/\Kp j I l (put V p (.fix f))/\AM X.K l (put V p (.fix f))/\AS X.K l (put V p (.fix f)) O v/\aK X.K l (put V p (.fix f)) f acc/\r i v acc V) ?_ ?_ ?_
 .exact⟨yT js U,[],I,hMp,kp,amp,((z.kp Y s).kp P kp).cmap js,.nil,d⟩
 .rintro O f l ⟨v,acc,V,mp,E,t,as',av,pv⟩;refine⟨it.stop l _ E t (hk _ _ _ _ _ (Ai _) mp pv),?_⟩;have hp':l p=aa (.lst f):=t p _ aJ;refine k _ l _ (put V p (.lst acc)) (s.trans ⟨λa o n e=>?_,E.dom⟩) (λa o e=>?_) (.ref p) (hd v acc V mp pv)
  .let⟨x,y⟩:=E.fr a o n e;exact⟨x,by rw[aY (eO e G)]at y⊢;exact y⟩
  .by_cases m:a=p
   .subst m;rw[aJ]at e;cases e;exact⟨f,hp',av.go EO⟩
   .rw[aY m]at e;exact(t a o (by rw[aY m];exact e)).go EO rfl
 .rintro i O f l hi ⟨v,acc,V,mp,E,t,as',av,pv⟩;have hkp:=hk f i v acc V (Ht hi) mp pv;refine⟨it.go i l _ E t hkp hi,λx c y=>?_⟩;let⟨w,hw,k3,q,N⟩:=it.yld i l _ x c E t hkp hi y;refine⟨w,v,_,_,N,as'.kp t k3,q,F f i w v acc V hw mp pv,λσ4 H4 τ4 M4 k4 am4 as4 D=>⟨τ4,M4,_,as4,am4,D,λb H5 M5 k5 am5 T=>?_⟩⟩;have W:Kp l (put V p (.fix f)) H5 M5:=(k3.trans k4).trans k5;cases b with
  | false=>
   obtain⟨m5,M6,sb,pv6⟩:M5 p=aa (.fix f)/\∃M6,Sub M6 (del M5 p)/\r (i+1) τ4 acc M6:=T;have sb':Sub (put M6 p (.fix f)) M5:=by
    have:=(sb.trans Sub.del).put (a:=p) (o:=.fix f);rwa [xY m5]at this
   exact UT ⟨τ4,acc,M6,sb.non pA,(E.trans W).sub sb',am5.sub sb',(as4.kp am4 k5).sub sb',(av.kp t W).sub sb',pv6⟩
  | true=>
   have T:te τ4 M5 λy M4=>M4 p=aa (.fix f)/\↥acc<Au/\∃M5,Sub M5 (del M4 p)/\r (i+1) τ4 (acc++[y]) M5:=T;refine UU ⟨τ4,M5,_,as4.kp am4 k5,am5,T,λy H6 K M6 k6 am6 S A=>?_⟩;let⟨m6,hl,M7,sb,pv7⟩:=A;have kk6:=W.trans k6;have hp6:H6 p=aa (.lst f):=am6 p _ m6;let⟨am8,k8⟩:=am6.write (o:=.fix (f++[y])) (u:=.lst (f++[y])) m6 b8;have sb':Sub (put M7 p (.fix (f++[y]))) (put M6 p (.fix (f++[y]))):=(sb.trans Sub.del).put;refine⟨hp6,by rw[↥av];exact hl,τ4,acc++[K],M7,sb.non pA,((E.trans kk6).trans k8).sub sb',am8.sub sb',(((as4.kp am4 k5).kp am5 k6).kp am6 k8).sub sb',?_,pv7⟩;exact(((av.kp t kk6).append (.cons S .nil)).kp am6 k8).sub sb'
variable {sc:Le}{N':↑Av}{js:↑(Option Nat)}{iter elt:Ck}{ifs:↑Ck}{wi:gM}{g:eQ}{tt:dE}
abbrev eR:dE:=λ_ M Q=>Q ab M
theorem YZ:iM X [] (kK X.K eR):=UZ.weak λC H Q A=>A.el λU M R J Y h k=>k ab H M (Kp.refl Y) Y h
theorem Y0{c:Ck}{t:dE}(h:T3 X c t):iM X [c] (kK X.K t):=U0 h
theorem f9(N':↑Av)(js:↑(Option Nat))(hi:PI X tg iter (fT X.K wi))(hg:∀B,PG (dS X sc N' B) tg (iS X.K g))(ht:∀B,iM (dS X sc N' B) ifs (kK X.K tt))(Z:∀B,PE (dS X sc N' B) elt (up X.K te))(d:nV N' sc X.env.scope=ab:=by kernel_rfl)(hj:fG N' X.N sc js N'=ab:=by kernel_rfl)(hc:X.calm=ab:=by rfl)(F:∀x,Iq iter X.env x=pure x:=by intro _;rfl):
  E3 X (.ListComp elt [⟨tg,iter,ifs,0⟩] sc pos) (dR wi g tt te js):=(U1 N' js hi hg ht Z d hj hc F).weak λ_ _ _ h=>yU h
theorem Y1{i:Nat}(t:X.N.Nodup)(N':↑Av)(js:↑(Option Nat))(hi:PI X tg iter (fT X.K wi))(hg:∀B,PG (dS X sc N' B) tg (iS X.K g))(ht:∀B,iM (dS X sc N' B) ifs (kK X.K tt))(Z:∀B,PE (dS X sc N' B) elt (up X.K te))(W:X.N[i]? = aa x:=by rfl)(J:Loc X.env.scope x:=by first|exact .inl rfl|exact .inr rfl)(d:nV N' sc X.env.scope=ab:=by kernel_rfl)(hj:fG N' X.N sc js N'=ab:=by kernel_rfl)(hc:X.calm=ab:=by rfl)(R:Mg (.ListComp elt [⟨tg,iter,ifs,0⟩] sc pos) (aa (.Name x G)) c.line X.env=pure ab:=by rfl)(hf:Fy X x:=by first|exact .inl rfl|exact .inr rfl|assumption)(F:∀x,Iq iter X.env x=pure x:=by intro _;rfl):P3 X (.Assign [.Name x G] (.ListComp elt [⟨tg,iter,ifs,0⟩] sc pos) c) (aN i (dR wi g tt te js)):=
 (DN t W J N' js hi hg ht Z d hj hc R hf F).weak λD C H A=>A.el λU M s n Y h k=>yU ⟨U,M,_,n,Y,h,λy j l I z P S O=>k.nx _ _ _ _ z P ((n.kp Y z).set S i) O⟩
end
def uG(N:↑Av)(ws:↑W):S3:=ws.map aa++Ce (↥N-↥ws) ae
def i8(R:K3):D3:={nx:=λ_ V=>∃o,Sub o V/\R .non o,rt:=λw V=>∃o,Sub o V/\R w o}
abbrev bE(sp:aV)(c:aE)(N:↑Av):Prop:=∀ws M R,sp ws M R->c (i8 R) (uG N ws) M
section
variable {P:Be}{w:Br}{K:Ac}{mg:Av->Option Ae}{base:Du}
theorem pJ{x g:Av}{st:Jy}{f:Am}{fd:Ff}{N ps:↑Av}{k:Nat}{sp:aV}(F:jH K x g st f fd)(S:mL N ps (dP st))(len:∀ws M R,sp ws M R->↥ws=↥ps)(m:∀(i:Ae) (A:Cw) (outer:↑Env) (s:Ak) (H:Hp) (E:XK) (ws:↑W) (M:Mm) (R:K3),cQ k (A.deeper (Ma g (dP st) ⇑s f i))->sp ws M R->
   ∃t,jL (kF eD P w K mg base N g (dP st) f i A outer s H E).nox (gD st) t/\t (i8 R) (uG N ws) M):hW P w K mg base eD (k+1) f fd ps (eW K sp):=by
 refine F.ok S (λvs H Q E d=>by let⟨ws,M,R,Y,av,h,_⟩:=d;rw[↥av];exact len ws M R h) λi A outer s H vs Q E T C=>?_;let⟨ws,M,R,Y,av,h,n⟩:=C;let⟨t,ht,h'⟩:=m i A outer s H E ws M R T h;refine⟨_,ht,uG N ws,M,i8 R,?_,Y,h',⟨λO l a V y L b G=>by let⟨o,sb,r⟩:=G;exact n _ l _ o (y.sub sb) (L.sub sb) .non r,λv l w V y L c z3=>by let⟨o,sb,r⟩:=z3;exact n v l w o (y.sub sb) (L.sub sb) (c.sub sb) r,λ_ _ _ _ _ _ _ z=>z.elim,λ_ _ _ _ _ _ _ z=>z.elim⟩⟩;unfold L2.start uG;rw[↥av];exact AS.start av _
def rH:aV:=λws M R=>∃ns:↑Int,ws=[.sc (ns.map W.int)]/\↥ns<=63/\(M=λ_=>ae)/\∀V,R (.bl ab) V
theorem Y2{H:Hp}{a:Am}{ns:↑Int}(hl:↥ns<=63)(f:tM H)(F:bN K H a (ns.map V.int)):eW K rH [.ref a] H (λv _=>v=.bl ab) λ_ _ _=>False:=by
 have T:lJ K H a (ns.map V.int):=by
  rcases F with(e|⟨o,e⟩)|e
  .rcases f a with z|⟨o,xs,z⟩
   .rw[z]at e;cases e
   .rw[z]at e;cases e
  .exact .inl ⟨o,e⟩
  .exact .inr e
 exact⟨[.sc (ns.map W.int)],λ_=>ae,λw _=>w=.bl ab,λa o e=>(nomatch e),.cons (.sc T (aK.int ns)) .nil,⟨ns,rfl,hl,rfl,λ_=>rfl⟩,λv l w I _ _ av r=>by subst r;exact av.bl_inv⟩
end
section
variable {X:Cx}{a b c:Ck}{ta tb tc:aR}{pos:Hv}
abbrev yV(r W:R3)(ta tb tc:aR):aR:=λU M R=>ta U M λx I=>tb U I λy f=>r x y f λz B=>lL z λk=>if k=ab then tc U B λw O=>W y w O R else R (.bl ac) B
abbrev uH:aE:=λ_ _ _=>False
def FV(M:Mm):W->String->Prop
 | .non,T=>T = "NoneType"
 | .bl _,T=>T = "bool"
 | .int _,T=>T = "int"
 | .str _,T=>T = "str"
 | .tup _,T=>T = "tuple"
 | .rl _,T=>T = "list"
 | .dk _,T=>T = "dict"
 | .ref a,T=>(T = "list"/\∃ws,M a=aa (.lst ws))\/(T = "dict"/\((∃kvs,M a=aa (.dK kvs))\/∃kvs,M a=aa (.dT kvs)))
 | _,_=>False
noncomputable def FX:↑(String×String×Bool):=[("int","int",ab),("int","bool",ac),("int","str",ac),("int","tuple",ac),("int","list",ac),("bool","bool",ab),("bool","int",ab),("bool","str",ac),("bool","list",ac),("bool","tuple",ac),("str","str",ab),("str","int",ac),("str","tuple",ac),("str","list",ac),("str","bool",ac),("tuple","tuple",ab),("tuple","list",ac),("tuple","str",ac),("tuple","int",ac),("tuple","bool",ac),("list","list",ab),("list","tuple",ac),("list","str",ac),("list","int",ac),("list","bool",ac),("NoneType","list",ac),("NoneType","tuple",ac),("NoneType","int",ac),("NoneType","str",ac),("NoneType","bool",ac),("dict","dict",ab),("dict","list",ac)]
noncomputable def yW(n T:String):Option Bool:=(FX.find? λp=>p.1==n&&p.2.1==T).map λp=>p.2.2
def FY(K:Ac):↑(String×String×Bool)->Prop
 | []=>True
 | p::l=>Kv K (.type p.1) (.type p.2.1)=aa p.2.2/\FY K l
theorem FZ{K:Ac}:∀{l:↑(String×String×Bool)},FY K l->∀p∈l,Kv K (.type p.1) (.type p.2.1)=aa p.2.2
 | _::_,h,_,m=>by
  cases m with
  | head=>exact h.1
  | tail _ m=>exact FZ h.2 _ m
theorem Y3(K:Ac):∀p∈FX,Kv K (.type p.1) (.type p.2.1)=aa p.2.2:=by
 refine FZ ?_
 repeat refine⟨by kernel_rfl,?_⟩
 trivial
theorem Y4(K:Ac){b:Bool}(h:yW n T=aa b):Kv K (.type n) (.type T)=aa b:=by
 let⟨p,G,e⟩:=Ba.mp h;have O:=List.find?_some G;have L:=Y3 K p (Nf G);rw[Dn,beq_iff_eq,beq_iff_eq]at O;rw[<-O.1,<-O.2,L,e]
def i9:↑W->Mm->K3->Prop
 | [w,.ty T],M,R=>∃n b,FV M w n/\yW n T=aa b/\R (.bl b) M
 | _,_,_=>False
theorem Y5:cR X (.builtin "isinstance") (e9 X.K i9):=by
 rintro B s C H xs us Q I rs ⟨ws,M,R,Y,d,h,k⟩
 match ws,h with
 | [w,.ty T],h=>
  let⟨v,u,rfl,av,o⟩:=d.two;cases o;let⟨n,b,hn,F,r⟩:=h;have ty:iL X.K H v (.type n):=by
   cases w<;>first|exact Bq hn|skip
   case non=>rw[show n=_ from hn,show v=_ from av.inv];exact .non
   case bl b=>rw[show n=_ from hn,show v=_ from av.inv];exact .bl b
   case int i=>rw[show n=_ from hn,show v=_ from av.inv];exact .int i
   case str x=>rw[show n=_ from hn,show v=_ from av.inv];exact .str x
   case tup=>let⟨a,xs,y,e,q⟩:=av.inv;rw[show n=_ from hn,y];exact .tup e
   case rl=>let⟨a,xs,y,e,_,q⟩:=av.inv;rw[show n=_ from hn,y];exact .lst e
   case dk=>let⟨a,xs,y,e,_,q⟩:=av.inv;rw[show n=_ from hn,y];exact .dK e
   case ref a=>
    rw[show v=_ from av.inv];rcases hn with⟨e,ws,h⟩|⟨e,h⟩
    .subst e;let⟨vs,f,_⟩:=Y.lst h;exact .lst f
    .subst e;rcases h with⟨kvs,h⟩|⟨kvs,h⟩
     .let⟨ks,f,_⟩:=Y _ _ h;exact .dK f
     .let⟨ks,f,_⟩:=Y _ _ h;exact .dT f
  exact U8 B s C H _ us Q I rs ⟨v,T,_,b,rfl,ty,Y4 X.K F,k.at Y (.bl b) r⟩
def F0:W->↑W->Mm->K3->Prop
 | .str z,[],M,R=>↥z<=5592405/\R (.str (Rp z)) M
 | _,_,_,_=>False
theorem m_upper:e8 X "str.upper" (jJ X.K F0):=by
 rintro B s C H x xs v us Q I G rs ⟨t,ws,M,R,Y,N,d,h,k⟩
 match t,ws,h with
 | .str z,[],h=>
  cases N;cases d;exact U6 B s C H _ _ v us Q I G rs ⟨z,rfl,rfl,h.1,k.at Y (.str _) h.2⟩
def F1:W->↑W->Mm->K3->Prop
 | .str z,[.str y],M,R=>(↥y==0)=ac/\↥z<=Au/\R (.tup [.str (Dj z y).1,.str (Dj z y).2.1,.str (Dj z y).2.2]) M
 | _,_,_,_=>False
theorem m_partition:e8 X "str.partition" (jJ X.K F1):=by
 rintro B s C H x xs v us Q I d rs ⟨t,ws,M,R,Y,N,Z,h,k⟩
 match t,ws,h with
 | .str z,[.str y],h=>
  let⟨u,rfl,o⟩:=Z.one;cases N;cases o;exact U7 B s C H _ _ v us Q I d rs ⟨z,y,rfl,rfl,h.1,h.2.1,λp G=>laidT Y k G (.cons (.str _) (.cons (.str _) (.cons (.str _) .nil))) h.2.2⟩
end
section
variable {X:Cx}{a b:Ck}{ta tb:aR}{pos:Hv}{es:↑Ck}{t:c0}
theorem Y6{K:Ac}{H:Hp}{M:Mm}{R:K3}{Q:VK}{p:Am}{xs:↑V}{ws:↑W}(Y:AM K H M)(k:Up K H M R Q)(G:H p=ae)(N:aK K H M xs ws)(r:R (.rl ws) M):Q (.ref p) (aL H p (.lst xs)):=by
 let⟨E,F⟩:=Y.tup (u:=.lst xs) G;exact k _ _ _ _ F E (.rl b8 (Y.nonM G) (N.newT G)) r
abbrev eY(t:c0):aR:=λU M R=>t U M λws I=>sz ws (R (.rl ws) I)
theorem Y7(h:A3 X es t):E3 X (.List es pos) (eY t):=
 (CI h).weak λC H Q A=>A.el λU M R J Y h k=>⟨U,M,_,J,Y,h,λxs j ws I B P d r=>⟨by rw[↥d];exact r.el.1,λp G=>Y6 P (k.kp B) G d r.el.2⟩⟩
theorem F4{f:Ae->Ae->Sx Ae}{r W:R3}(h:bB X f (cJ X.K r))(k:∀x y M R,W x y M R->r x y M λw V=>frz w V R):bB X f (cJ X.K W):=λB s C H x y v u Q I G P ⟨t,l,M,R,Y,N,S,h',n⟩=>
 h B s C H x y v u Q I G P ⟨t,l,M,_,Y,N,S,k _ _ _ _ h',n.frz⟩
theorem F5{r D:↑W->Mm->K3->Prop}(h:cR X f (e9 X.K r))(k:∀x M R,D x M R->r x M λw V=>frz w V R):cR X f (e9 X.K D):=λB s C H xs us Q I rs ⟨ws,M,R,Y,N,h',n⟩=>
 h B s C H xs us Q I rs ⟨ws,M,_,Y,N,k _ _ _ h',n.frz⟩
abbrev cU:R3
 | .int i,.int j,M,R=>R (.int (i+j)) M
 | .tup xs,.tup ys,M,R=>xs≠[]/\↥xs+↥ys<=Au/\R (.tup (xs++ys)) M
 | .ref a,.ref b,M,R=>∃xs ys,M a=aa (.lst xs)/\M b=aa (.lst ys)/\↥xs+↥ys<=Au/\R (.rl (xs++ys)) M
 | .rl xs,.ref b,M,R=>∃ys,M b=aa (.lst ys)/\↥xs+↥ys<=Au/\R (.rl (xs++ys)) M
 | .ref a,.rl ys,M,R=>∃xs,M a=aa (.lst xs)/\↥xs+↥ys<=Au/\R (.rl (xs++ys)) M
 | .rl xs,.rl ys,M,R=>↥xs+↥ys<=Au/\R (.rl (xs++ys)) M
 | _,_,_,_=>False
theorem F6:bB X (Eh .Add) (cJ X.K cU):=F4 EY λx y M R h=>by
 cases x<;>first|exact Bq h|(cases y<;>first|exact Bq h|skip)
 case int.int i j=>exact h
 case tup.tup i j=>exact h
 case ref.ref i j=>let⟨xs,ys,O,L,h3,r⟩:=h;exact⟨xs,ys,O,L,h3,aP.frz r⟩
 case rl.ref i j=>let⟨ys,L,h3,r⟩:=h;exact⟨ys,L,h3,aP.frz r⟩
 case ref.rl i j=>let⟨ys,L,h3,r⟩:=h;exact⟨ys,L,h3,aP.frz r⟩
 case rl.rl i j=>exact⟨h.1,aP.frz h.2⟩
abbrev kU:R3
 | .int i,.int j,M,R=>(oT i j\/tO i j)/\R (.int (i*j)) M
 | .ref a,.int n,M,R=>∃xs,M a=aa (.lst xs)/\-(2 ^ 63)<=n/\n<2 ^ 63/\↥xs*n.toNat<=Au/\R (.rl (Ce n.toNat xs).flatten) M
 | .rl xs,.int n,M,R=>-(2 ^ 63)<=n/\n<2 ^ 63/\↥xs*n.toNat<=Au/\R (.rl (Ce n.toNat xs).flatten) M
 | _,_,_,_=>False
theorem Y8:bB X (Eh .Mult) (cJ X.K kU):=F4 W9 λx y M R h=>by
 cases x<;>first|exact Bq h|(cases y<;>first|exact Bq h|skip)
 case int.int i j=>exact h
 case ref.int i j=>let⟨xs,O,L,h3,m,r⟩:=h;exact⟨xs,O,L,h3,m,aP.frz r⟩
 case rl.int i j=>let⟨L,h3,m,r⟩:=h;exact⟨L,h3,m,aP.frz r⟩
abbrev yX:↑W->Mm->K3->Prop
 | [.tup ws],M,R=>R (.rl ws) M
 | [.rl ws],M,R=>R (.rl ws) M
 | [.sc ws],M,R=>R (.rl ws) M
 | [.dk kvs],M,R=>R (.rl (kvs.map λg=>wK g.1)) M
 | [.ref a],M,R=>(∃ws,M a=aa (.lst ws)/\R (.rl ws) M)\/∃kvs,M a=aa (.dK kvs)/\R (.rl (kvs.map λg=>wK g.1)) M
 | _,_,_=>False
theorem Y9(hc:X.calm=ab):cR X (.type "list") (e9 X.K yX):=F5 (FN hc) λx M R h=>by
 match x,h with
 | [.tup ws],h=>exact aP.frz h
 | [.rl ws],h=>exact aP.frz h
 | [.sc ws],h=>exact aP.frz h
 | [.dk kvs],h=>exact aP.frz h
 | [.ref a],h=>
  rcases h with⟨ws,e,r⟩|⟨kvs,e,r⟩
  .exact .inl ⟨ws,e,aP.frz r⟩
  .exact .inr ⟨kvs,e,aP.frz r⟩
abbrev F7:W->Option Int->Option Int->Mm->K3->Prop
 | .rl ws,lo,hi,M,R=>R (.rl (dX ws lo hi)) M
 | .sc ws,lo,hi,M,R=>R (.rl (dX ws lo hi)) M
 | .ref a,lo,hi,M,R=>∃ws,M a=aa (.lst ws)/\R (.rl (dX ws lo hi)) M
 | .tup ws,lo,hi,M,R=>¬(HT.sIx ↥ws 0 lo=0/\HT.sIx ↥ws ↥ws hi=↥ws)/\R (.tup (dX ws lo hi)) M
 | _,_,_,_,_=>False
theorem ZA(h:F7 x l u M R):FD x l u M λw V=>frz w V R:=by
 cases x<;>first|exact Bq h|skip
 case tup ws=>exact h
 case rl ws=>exact aP.frz h
 case sc ws=>exact aP.frz h
 case ref a=>let⟨ws,e,r⟩:=h;exact⟨ws,e,aP.frz r⟩
abbrev oA(ta:aR)(tl b:pF):aR:=λU M R=>ta U M λx I=>tl U I λl f=>b U f λu B=>F7 x l u B R
theorem ZC{lo hi:Option Ck}{tl b:pF}{d:Hv}(Z:E3 X a ta)(hl:PO X lo (pG X.K tl))(W:PO X hi (pG X.K b)):E3 X (.Subscript a (.Slice lo hi ae d) pos) (oA ta tl b):=
 (SI XN Z hl W).weak λC H Q A=>A.el λU M R J Y h k=>⟨U,M,_,J,Y,h,λx j t I B P N O=>⟨U,I,_,J.kp Y B,P,O,λl w f F E L=>⟨U,f,_,(J.kp Y B).kp P F,E,L,λu c s V g h3=>
  ⟨t,s,_,g,(N.kp P F).kp E V,ZA h3,(((k.kp B).kp F).kp V).frz⟩⟩⟩⟩
variable {sc:Le}{N':↑Av}{js:↑(Option Nat)}{tg iter elt:Ck}{ifs:↑Ck}{wi:gM}{g:eQ}{tt:dE}{te:aR}
theorem rJ{i:Nat}(t:X.N.Nodup)(N':↑Av)(js:↑(Option Nat))(hi:PI X tg iter (fT X.K wi))(hg:∀B,PG (dS X sc N' B) tg (iS X.K g))(ht:∀B,iM (dS X sc N' B) ifs (kK X.K tt))(Z:∀B,PE (dS X sc N' B) elt (up X.K te))(W:X.N[i]? = aa x:=by rfl)(J:Loc X.env.scope x:=by first|exact .inl rfl|exact .inr rfl)(d:nV N' sc X.env.scope=ab:=by kernel_rfl)(hj:fG N' X.N sc js N'=ab:=by kernel_rfl)(hc:X.calm=ab:=by rfl)(R:Mg (.ListComp elt [⟨tg,iter,ifs,0⟩] sc pos) (aa (.Name x G)) c.line X.env=pure ab:=by rfl)(hf:Fy X x:=by first|exact .inl rfl|exact .inr rfl|assumption)(F:∀x,Iq iter X.env x=pure x:=by intro _;rfl):P3 X (.Assign [.Name x G] (.ListComp elt [⟨tg,iter,ifs,0⟩] sc pos) c) (aN i (bJ (dR wi g tt te js))):=
 (DN t W J N' js hi hg ht Z d hj hc R hf F).weak λD C H A=>A.el λU M s n Y h k=>yU ⟨U,M,_,n,Y,h,Up.frz λy j l I z P S O=>k.nx _ _ _ _ z P ((n.kp Y z).set S i) O⟩
end
def Pl:Nat->W->Prop
 | _,.non=>True
 | _,.int _=>True
 | _,.str x=>Kz x=ab
 | n+1,.tup ws=>∀w∈ws,Pl n w
 | n+1,.rl ws=>∀w∈ws,Pl n w
 | _,_=>False
def cX(M:Mm):W->W
 | .ref a=>match M a with
  | some (.lst ws)=>.rl ws
  | _=>.ref a
 | w=>w
section
variable {M:Mm}
theorem yY{n:Nat}(E:∀{w:W},Pl n w->∃d,Snap M w d/\d.canLay0=ab/\d.depth<=n):∀{ws:↑W},(∀w∈ws,Pl n w)->∃Q,i7 M ws Q/\PyData.canLayAll0 Q=ab/\Ri Q<=n
 | [],_=>⟨[],.nil,rfl,by simp[Ri]⟩
 | w::ws,h=>by
  let⟨d,s,c,e⟩:=E (h w Bl);let⟨Q,ss,a,b⟩:=yY E λz hz=>h z (Bj _ hz);exact⟨d::Q,.cons s ss,by simp[PyData.canLayAll0,c,a],by simp only[Ri];lia⟩
theorem ZD:∀{n:Nat} {w:W},Pl n w->∃d,Snap M w d/\d.canLay0=ab/\d.depth<=n:=by
 intro n
 induction n with
 | zero=>
  intro w h;cases w<;>first|exact Bq h|skip
  case non=>exact⟨_,.non,rfl,by simp[Jq]⟩
  case int i=>exact⟨_,.int i,rfl,by simp[Jq]⟩
  case str x=>exact⟨_,.str x,h,by simp[Jq]⟩
 | succ n E=>
  intro w h;cases w<;>first|exact Bq h|skip
  case non=>exact⟨_,.non,rfl,by simp[Jq]⟩
  case int i=>exact⟨_,.int i,rfl,by simp[Jq]⟩
  case str x=>exact⟨_,.str x,h,by simp[Jq]⟩
  case tup ws=>
   let⟨Q,s,c,e⟩:=yY E h;exact⟨_,.tup s,by simpa [PyData.canLay0] using c,by simp only[Jq];lia⟩
  case rl ws=>
   let⟨Q,s,c,e⟩:=yY E h;exact⟨_,.rl s,by simpa [PyData.canLay0] using c,by simp only[Jq];lia⟩
theorem F8{n:Nat}(h:Pl n (cX M w)):∃d,Snap M w d/\Snap M (cX M w) d/\d.canLay0=ab/\d.depth<=n:=by
 let⟨d,s,c,e⟩:=ZD (M:=M) h;refine⟨d,?_,s,c,e⟩;cases w<;>first|exact s|skip
 case ref a=>
  cases q:M a with
  | none=>
   have e:cX M (.ref a)=.ref a:=by simp[cX,q]
   rw[e]at s;exact s
  | some o=>
   cases o with
   | lst ws=>
    have e:cX M (.ref a)=.rl ws:=by simp[cX,q]
    rw[e]at s;cases s with
    | rl r=>exact .ref q r
   | dK _=>
    have e:cX M (.ref a)=.ref a:=by simp[cX,q]
    rw[e]at s;exact s
   | dT _=>
    have e:cX M (.ref a)=.ref a:=by simp[cX,q]
    rw[e]at s;exact s
   | fix _=>
    have e:cX M (.ref a)=.ref a:=by simp[cX,q]
    rw[e]at s;exact s
   | ins _ _ _=>
    have e:cX M (.ref a)=.ref a:=by simp[cX,q]
    rw[e]at s;exact s
   | dn _ _ _ _=>
    have e:cX M (.ref a)=.ref a:=by simp[cX,q]
    rw[e]at s;exact s
   | vw _=>
    have e:cX M (.ref a)=.ref a:=by simp[cX,q]
    rw[e]at s;exact s
   | dh _ _ _ _ _=>
    have e:cX M (.ref a)=.ref a:=by simp[cX,q]
    rw[e]at s;exact s
theorem F9{n:Nat}(E:∀{x y:W} {s a:Nx},Pl n x->Pl n y->Snap M x s->Snap M y a->(Mr s a=ab↔x=y)):∀{xs ys:↑W} {s a:↑Nx},(∀w∈xs,Pl n w)->(∀w∈ys,Pl n w)->i7 M xs s->i7 M ys a->(Po s a=ab↔xs=ys):=by
 intro xs
 induction xs with
 | nil=>
  intro ys s a J K U Y;cases U;cases Y<;>simp[Po]
 | cons x xs b=>
  intro ys s a J K U Y;cases U with
  | cons U l=>
   cases Y with
   | nil=>simp[Po]
   | cons Y R=>
    rw[Po,Dn,E (J x Bl) (K _ Bl) U Y,b (λz hz=>J z (Bj _ hz)) (λz hz=>K z (Bj _ hz)) l R];simp
theorem ZE:∀{n:Nat} {x y:W} {s a:Nx},Pl n x->Pl n y->Snap M x s->Snap M y a->(Mr s a=ab↔x=y):=by
 intro n
 induction n with
 | zero=>
  intro x y s a J K c b;cases c<;>first|exact Bq J|skip
  all_goals cases b<;>first|exact Bq K|simp[Mr]
 | succ n E=>
  intro x y s a J K c b;cases c<;>first|exact Bq J|skip
  all_goals cases b<;>first|exact Bq K|skip
  all_goals first|(simp[Mr];done)|skip
  case tup.tup r1 _ _ r2=>rw[Mr,F9 E J K r1 r2];simp
  case rl.rl r1 _ _ r2=>rw[Mr,F9 E J K r1 r2];simp
theorem ZF{neg:Bool}(n:Nat)(hn:n<=60)(J:Pl n (cX M x))(K:Pl n (cX M y))(h:∀b:Bool,(b=ab↔cX M x=cX M y)->R (.bl (if neg then !b else b)) M):mW neg x y M R:=by
 let⟨s,U,d,S,D⟩:=F8 J;let⟨a,Y,c,u,T⟩:=F8 K;unfold mW;exact⟨s,a,U,Y,⟨S,by lia⟩,⟨u,by lia⟩,h _ (ZE J K d c)⟩
theorem lV{neg:Bool}(n:Nat)(hn:n<=60)(J:Pl n (cX M x))(K:Pl n (cX M y))(h:∀b:Bool,(b=ab↔cX M x=cX M y)->R (.bl (if neg then !b else b)) M):cV neg x y M R:=by
 have d:=ZF n hn J K h;cases x<;>first|exact d|skip
 case int i=>
  cases y<;>first|exact d|skip
  case int j=>exact h (decide (i=j)) (by simp[cX])
 case str i=>
  cases y<;>first|exact d|skip
  case str j=>exact h (decide (i=j)) (by simp[cX])
 case bl i=>
  cases y<;>first|exact d|skip
  case bl j=>exact(show False by cases n<;>exact J).elim
end
theorem uI{neg:Bool}(n:Nat)(hn:n<=60)(J:Pl n (cX M x))(e:cX M y=cX M x)(h:R (.bl (!neg)) M):cV neg x y M R:=by
 refine lV n hn J (by rw[e];exact J) λb Z=>?_;have:b=ab:=Z.mpr e.symm;subst this;cases neg<;>exact h
theorem Pl.up:∀{n:Nat} {w:W},Pl n w->Pl (n+1) w
 | 0,w,h=>by cases w<;>first|exact h|exact Bq h
 | n+1,w,h=>by
  cases w<;>first|exact h|skip
  case tup ws=>exact λw hw=>Pl.up (h w hw)
  case rl ws=>exact λw hw=>Pl.up (h w hw)
theorem Pl.mono{m:Nat}:∀{n:Nat},Pl m w->m<=n->Pl n w
 | 0,h,e=>by cases Nat.le_zero.mp e;exact h
 | n+1,h,e=>by
  rcases Nat.eq_or_lt_of_le e with rfl|e
  .exact h
  .exact(Pl.mono h (Nat.le_of_lt_succ e)).up
theorem uJ{keep:Mm->Prop}(St:S3->Prop)(h:W->S3)(e:W->Option W->Prop)(hl:↥ws<=Au)(hk:∀M,Sub I M->keep M)(J:St c)(ht:∀w∈ws,St (h w))(hg:∀w∈ws,∀U M (C:S3->Mm->Prop),St U->C (h w) M->g w U M C)(F:∀w∈ws,∀M (C:K3) (D:Mm->Prop),Sub I M->(∀y,e w (aa y)->C y M)->(e w ae->D M)->j (h w) M λb B=>if b=ab then m (h w) B C else D B)(r:∀os,Fz e ws os->aP (os.filterMap id) I R):fZ ws keep g j m c I R:=by
 unfold fZ;intro p G;refine⟨λi U acc M=>St U/\(∃os,Fz e (ws.take i) os/\acc=os.filterMap id)/\M=I,⟨J,⟨[],by simp;exact .nil,rfl⟩,rfl⟩,?_,?_,?_⟩
 .rintro vs i U acc M _ d ⟨_,_,rfl⟩;exact hk _ (Sub.new G)
 .rintro vs i w U acc M hw d ⟨st,⟨os,po,rfl⟩,rfl⟩;have S:w∈ws:=Ao hw;have hi:i<↥ws:=(An.mp hw).1;have f:ws.take (i+1)=ws.take i++[w]:=by rw[Cf,hw];rfl
  have snoc:∀o,e w o->Fz e (ws.take (i+1)) (os++[o]):=λo x=>by
   rw[f];clear hw d st f
   revert os
   generalize ws.take i=l;intro os po
   induction po with
   | nil=>exact .cons x .nil
   | cons a b E=>exact .cons a E
  have T:↥(os.filterMap id)<Au:=by
   have O:=List.length_filterMap_le id os;have L:=Dg po;rw[Cg]at L;lia
  refine hg w S U _ _ st (F w S _ _ _ (Sub.new G) (λy K=>⟨aJ,T,M,?_,ht w S,⟨_,snoc _ K,?_⟩,rfl⟩) λhn=>⟨aJ,M,?_,ht w S,⟨_,snoc _ hn,?_⟩,rfl⟩)
  .rw[i5 G];exact aW
  .simp
  .rw[i5 G];exact aW
  .simp
 .rintro U acc M d ⟨_,⟨os,po,rfl⟩,rfl⟩;rw[Bw]at po;exact r os po p G
def yZ(rest:S3):S3->Prop:=λU=>∃o,U=o::rest
theorem lX{keep:Mm->Prop}(f:W->W)(hl:↥ws<=Au)(hk:∀M,Sub I M->keep M)(F:∀w∈ws,∀M (C:K3),Sub I M->C (f w) M->m (aa w::rest) M C)(r:aP (ws.map f) I R):fZ ws keep (aX 0) eR m (o::rest) I R:=by
 refine uJ (yZ rest) (λw=>aa w::rest) (λw o=>o=aa (f w)) hl hk ⟨_,rfl⟩ (λw _=>⟨_,rfl⟩) ?_ ?_ ?_
 .rintro w _ U M C ⟨o,rfl⟩ h;exact h
 .intro w hw M C D sb O _;show(if ab=ab then m (aa w::rest) M C else D M);rw[Vz rfl];exact F w hw M C sb (O _ rfl)
 .intro os po;have:os.filterMap id=ws.map f:=by
   clear r F hl hk
   induction po with
   | nil=>rfl
   | cons a b E=>subst a;simp[E]
  rw[this];exact r
theorem uK{keep:Mm->Prop}(f:W->Option W)(hl:↥ws<=Au)(hk:∀M,Sub I M->keep M)(F:∀w∈ws,∀M (C:K3) (D:Mm->Prop),Sub I M->(∀y,f w=aa y->C y M)->(f w=ae->D M)->j (aa w::rest) M λb B=>if b=ab then m (aa w::rest) B C else D B)(r:aP (ws.filterMap f) I R):fZ ws keep (aX 0) j m (o::rest) I R:=by
 refine uJ (yZ rest) (λw=>aa w::rest) (λw o=>o=f w) hl hk ⟨_,rfl⟩ (λw _=>⟨_,rfl⟩) ?_ ?_ ?_
 .rintro w _ U M C ⟨o,rfl⟩ h;exact h
 .intro w hw M C D sb O L;exact F w hw M C D sb (λy e=>O y e.symm) λe=>L e.symm
 .intro os po;have:os.filterMap id=ws.filterMap f:=by
   clear r F hl hk
   induction po with
   | nil=>rfl
   | @cons a b c d e _ E=>
    subst e;cases q:f a<;>simp[q,E]
  rw[this];exact r
theorem uL{keep:Mm->Prop}(P:W->W->Prop)(hl:↥ws<=Au)(hk:∀M,Sub I M->keep M)(F:∀w∈ws,∀M (C:K3),Sub I M->(∀y,P w y->C y M)->m (aa w::rest) M C)(r:∀ys,Fz P ws ys->aP ys I R):fZ ws keep (aX 0) eR m (o::rest) I R:=by
 refine uJ (yZ rest) (λw=>aa w::rest) (λw o=>∃y,o=aa y/\P w y) hl hk ⟨_,rfl⟩ (λw _=>⟨_,rfl⟩) ?_ ?_ ?_
 .rintro w _ U M C ⟨o,rfl⟩ h;exact h
 .intro w hw M C D sb O _;show(if ab=ab then m (aa w::rest) M C else D M);rw[Vz rfl];exact F w hw M C sb λy c=>O y ⟨y,rfl,c⟩
 .intro os po;have:∃ys,os=ys.map aa/\Fz P ws ys:=by
   clear r F hl hk
   induction po with
   | nil=>exact⟨[],rfl,.nil⟩
   | cons a b E=>
    let⟨y,rfl,c⟩:=a;let⟨ys,rfl,h⟩:=E;exact⟨y::ys,rfl,.cons c h⟩
  let⟨ys,rfl,c⟩:=this;rw[Ku];have:(ys.filterMap (id ∘ aa))=ys:=by simp
  rw[this];exact r ys c
theorem Paired.all{P:W->W->Prop}{Q:W->Prop}(h:Fz P xs ys)(k:∀x y,P x y->Q y):∀y∈ys,Q y:=by
 induction h with
 | nil=>intro y K;cases K
 | cons a b E=>
  intro y K;rcases Aw.mp K with rfl|K
  .exact k _ _ a
  .exact E y K
def ZG(rest:S3):S3->Prop:=λU=>∃s t,U=s::t::rest
def ZH(rest:S3):W->S3
 | .tup [a,b]=>aa a::aa b::rest
 | _=>ae::ae::rest
abbrev y0:eQ:=fS 2 (cL (aX 0) (cL (aX 1) fR))
theorem y6{keep:Mm->Prop}(P:W->Option W->Prop)(hw:∀w∈ws,∃a b,w=.tup [a,b])(hl:↥ws<=Au)(hk:∀M,Sub I M->keep M)(F:∀a b,.tup [a,b]∈ws->∀M (C:K3) (D:Mm->Prop),Sub I M->(∀y,P (.tup [a,b]) (aa y)->C y M)->(P (.tup [a,b]) ae->D M)->j (aa a::aa b::rest) M λd B=>if d=ab then m (aa a::aa b::rest) B C else D B)(r:∀os,Fz P ws os->aP (os.filterMap id) I R):fZ ws keep y0 j m (s::t::rest) I R:=by
 refine uJ (ZG rest) (ZH rest) P hl hk ⟨_,_,rfl⟩ (λw S=>?_) ?_ ?_ r
 .let⟨a,b,rfl⟩:=hw w S;exact⟨_,_,rfl⟩
 .rintro w S U M C ⟨Z,E,rfl⟩ h;let⟨a,b,rfl⟩:=hw w S;exact⟨rfl,rfl,h⟩
 .intro w S M C D sb O L;let⟨a,b,rfl⟩:=hw w S;exact F a b S M C D sb O L
theorem ZI{keep:Mm->Prop}(P:W->W->Prop)(hw:∀w∈ws,∃a b,w=.tup [a,b])(hl:↥ws<=Au)(hk:∀M,Sub I M->keep M)(F:∀a b,.tup [a,b]∈ws->∀M (C:K3),Sub I M->(∀y,P (.tup [a,b]) y->C y M)->m (aa a::aa b::rest) M C)(r:∀ys,Fz P ws ys->aP ys I R):fZ ws keep y0 eR m (s::t::rest) I R:=by
 refine y6 (λw o=>∃y,o=aa y/\P w y) hw hl hk (λa b S M C D sb O _=>?_) λos po=>?_
 .show(if ab=ab then m (aa a::aa b::rest) M C else D M);rw[Vz rfl];exact F a b S M C sb λy c=>O y ⟨y,rfl,c⟩
 .have:∃ys,os=ys.map aa/\Fz P ws ys:=by
   clear r F hl hk hw
   induction po with
   | nil=>exact⟨[],rfl,.nil⟩
   | cons a b E=>
    let⟨y,rfl,c⟩:=a;let⟨ys,rfl,h⟩:=E;exact⟨y::ys,rfl,.cons c h⟩
  let⟨ys,rfl,c⟩:=this;rw[Ku];have:(ys.filterMap (id ∘ aa))=ys:=by simp
  rw[this];exact r ys c
structure Df(K:Ac)(mg:Av->Option Ae)(x:Av)(st:Jy)(ps:↑Av)(f:Am)(fd:Ff):Prop where
 fn:jH K x x st f fd
 at_:mg x=aa (.ref f)
 bi:Binds K fd ps []
theorem ZJ:Cu "len" = aa (.builtin "len"):=PySem.boot_len
theorem uM:Cu "list" = aa (.type "list"):=by decide +kernel
theorem GA:Cu "tuple" = aa (.type "tuple"):=by decide +kernel
theorem GB:Cu "str" = aa (.type "str"):=by decide +kernel
theorem ZK:Cu "int" = aa (.type "int"):=by decide +kernel
theorem y7:Cu "dict" = aa (.type "dict"):=by decide +kernel
theorem ZL:Cu "isinstance" = aa (.builtin "isinstance"):=by decide +kernel
theorem ZM:Cu "all" = aa (.builtin "all"):=by decide +kernel
theorem ZN:Cu "any" = aa (.builtin "any"):=by decide +kernel
theorem ZO:Cu "sorted" = aa (.builtin "sorted"):=by decide +kernel
theorem oB{B:Type}(x:B)(xs:↑B):bR (x::xs) 0=aa x:=by simp[bR,gV]
theorem uN{B:Type}{xs:↑B}{i:Int}(J:0<=i)(O:i<↥xs):∃x,bR xs i=aa x/\xs[i.toNat]? = aa x/\x∈xs:=by
 have Y:i.toNat<↥xs:=by lia
 refine⟨xs[i.toNat],?_,Bg Y,Rk Y⟩;simp[bR,gV,J,O,Y]
theorem y8{B:Type}{xs:↑B}{i n:Int}(hn:n=↥xs)(G:0<n):∃x,bR xs (i % n)=aa x/\x∈xs:=by
 have J:0<=i % n:=Fq _ (by lia);have O:i % n<n:=Ei _ G;let⟨x,e,_,m⟩:=uN (xs:=xs) J (by lia);exact⟨x,e,m⟩
theorem GC{ws:↑W}{lo hi:Option Int}{w:W}(h:w∈dX ws lo hi):w∈ws:=Jr (Hh h)
theorem GD{ws:↑W}{lo hi:Option Int}:↥(dX ws lo hi)<=↥ws:=by
 unfold dX;rw[Cg,Gv];exact Ap (Oa _ _) (Nat.sub_le _ _)
def pK(ws:↑W):Prop:=∀w∈ws,∃i,w=W.int i
theorem ints_map(ns:↑Int):pK (ns.map W.int):=λw h=>by
 let⟨i,_,e⟩:=Ar.mp h;exact⟨i,e.symm⟩
theorem pK.cut(h:pK ws)(lo hi:Option Int):pK (dX ws lo hi):=λw m=>h w (GC m)
theorem small{n:Nat}(h:n<=10000000):n<=Au:=Ap h ∅
theorem cM{n:Nat}(h:n<10000000):n<Au:=Cb h ∅
theorem y9{S:↑W}{i j:Int}(J:0<=i)(O:0<=j):↥(dX S (aa i) (aa j))<=(j-i).toNat:=by
 unfold dX HT.sIx;simp only[];rw[Vy (Uy.mpr J),Vy (Uy.mpr O),Cg];refine Ap (Mi _ _) (Nat.sub_le_of_le_add ?_);rw[<-Nat.add_min_add_left];refine Nat.le_min.mpr ⟨Ap (Mi _ _) ?_,Ap (Oa _ _) (Oy _ _)⟩;have:j<=(((j-i).toNat+i.toNat:Nat):Int):=by
  rw[Sf,Int.toNat_of_nonneg J];have:=Int.self_le_toNat (j-i);have h:=Int.add_le_add_right this i;rwa [Int.sub_add_cancel]at h
 exact Int.toNat_le.mpr this
theorem pL{b:Bool}(hn:∀m,FV M w m↔m=n)(F:yW n T=aa b):i9 [w,.ty T] M R↔R (.bl b) M:=
 ⟨λA=>by let⟨_,_,O,L,h3⟩:=A;cases (hn _).mp O;cases F.symm.trans L;exact h3,λh=>⟨n,b,(hn n).mpr rfl,F,h⟩⟩
theorem ZP{i:Int}:i9 [W.int i,.ty "int"] M R↔R (.bl ab) M:=pL (λ_=>Ot) ∅
theorem ZQ:i9 [W.str x,.ty "str"] M R↔R (.bl ab) M:=pL (λ_=>Ot) ∅
theorem ZR:i9 [W.str x,.ty "tuple"] M R↔R (.bl ac) M:=pL (λ_=>Ot) ∅
theorem GF:i9 [W.tup ws,.ty "tuple"] M R↔R (.bl ab) M:=pL (λ_=>Ot) ∅
theorem GG:i9 [W.tup ws,.ty "str"] M R↔R (.bl ac) M:=pL (λ_=>Ot) ∅
theorem GH:i9 [W.tup ws,.ty "int"] M R↔R (.bl ac) M:=pL (λ_=>Ot) ∅
theorem rK{M:Mm}{a:Am}{k:Av}{v:W}{kvs:↑(aC×W)}{Q:Mm->Prop}(h:M a=aa (.dK kvs))(hl:↥kvs<Au)(q:Q (put M a (.dK (bY kvs (Sum.inr k) v)))):rF (.ref a) (.str k) v M Q:=.inr (.inl ⟨kvs,.inr k,rfl,h,hl,q⟩)
theorem pM{M:Mm}{a:Am}{k:↑aC}{v:W}{kvs:↑(↑aC×W)}{Q:Mm->Prop}(h:M a=aa (.dT kvs))(hl:↥kvs<Au)(q:Q (put M a (.dT (bY kvs k v)))):rF (.ref a) (.tup (k.map wK)) v M Q:=.inr (.inr ⟨kvs,k,rfl,h,hl,q⟩)
theorem zA{M:Mm}{a:Am}{k:Int}{v:W}{ws:↑W}{Q:Mm->Prop}(h:M a=aa (.lst ws))(J:0<=k)(O:k<↥ws)(q:Q (put M a (.lst (ws.set k.toNat v)))):rF (.ref a) (.int k) v M Q:=
 .inl ⟨ws,k,k.toNat,rfl,h,by unfold gV;rw[Vz J,Vz O],q⟩
section
variable {X:Cx}{a b c:Ck}{ta tb tc:aR}{pos:Hv}
theorem ZS{K:Ac}{r W:R3}{C:SV}{H:Hp}{Q:VK}(h:up K (yV r W ta tb tc) C H Q):CB (cJ K r) (cJ K W) (up K ta) (up K tb) (up K tc) C H Q:=by
 let⟨U,M,R,J,Y,h,k⟩:=h;refine⟨U,M,_,J,Y,h,λx j t I B P N O=>⟨U,I,_,J.kp Y B,P,O,λy p l f F E S L=>⟨t,l,f,_,E,N.kp P F,S,L,λz a n X V g T h=>?_⟩⟩⟩;let⟨c,rfl,h3⟩:=lL.el h;refine⟨c,T.bl_inv,?_⟩;cases c with
 | false=>exact((k.kp B).kp F).kp V |>.at g (.bl ac) h3
 | true=>exact⟨U,X,_,((J.kp Y B).kp P F).kp E V,g,h3,λw o i d e b s m=>⟨l,i,d,R,b,(S.kp E V).kp g e,s,m,(((k.kp B).kp F).kp V).kp e⟩⟩
theorem ZT{op q:Vf}{r W:R3}(f:bB X (Dk op) (cJ X.K r))(B:bB X (Dk q) (cJ X.K W))(m:E3 X a ta)(Z:E3 X b tb)(hc:E3 X c tc)(S:lastMarks [op,q] [b,c]=ac:=by with_unfolding_all rfl):T3 X (.Compare a [op,q] [b,c] pos) (bK (yV r W ta tb tc)):=
 (Q0 f B m Z hc S).weak λC H Q A=>A.el λU M R J Y h k=>ZS ⟨U,M,_,J,Y,h,λv l w V y t av h=>by
  let⟨c,rfl,r⟩:=lL.el h;exact⟨c,av.bl_inv,k c l V y t r⟩⟩
abbrev uO:↑W->Mm->K3->Prop
 | [.ref a],M,R=>∃bs,M a=aa (.lst (bools bs))/\R (.bl (bs.any id)) M
 | [.rl ws],M,R=>∃bs,ws=bools bs/\R (.bl (bs.any id)) M
 | _,_,_=>False
theorem ZU(hc:X.calm=ab):cR X (.builtin "any") (e9 X.K uO):=by
 rintro B s C H xs us Q I rs ⟨ws,M,R,Y,d,h,k⟩
 match ws,h with
 | [.ref a],h=>
  let⟨v,rfl,av⟩:=d.one;obtain rfl:=av.inv;let⟨bs,e,r⟩:=h;let⟨vs,f,q⟩:=Y.lst e;rw[q.bools]at f;exact tP ab hc B s C H _ us Q I rs ⟨a,bs,rfl,bN.of f,k.at Y (.bl _) r⟩
 | [.rl ws],h=>
  let⟨v,rfl,av⟩:=d.one;let⟨bs,rfl,r⟩:=h;cases av with
  | rl f _ q=>
   rw[q.bools]at f;exact tP ab hc B s C H _ us Q I rs ⟨_,bs,rfl,bN.of f,k.at Y (.bl _) r⟩
end
def gN:Nat->↑W->↑W
 | _,[]=>[]
 | n,w::r=>.tup [.int n,w]::gN (n+1) r
theorem kW:∀{ws:↑W} {n:Nat},↥(gN n ws)=↥ws
 | [],_=>rfl
 | _::r,n=>by simp[gN,kW (ws:=r)]
theorem rL:∀{ws:↑W} {n i:Nat},(gN n ws)[i]? = (ws[i]?).map λw=>W.tup [.int ((n+i:Nat):Int),w]
 | [],_,_=>by simp[gN]
 | w::r,n,0=>by simp[gN]
 | w::r,n,i+1=>by
  rw[gN,Ep,Ep,rL];congr 2;funext w;congr 4;lia
section
variable {X:Cx}{a b c:Ck}{ta tb tc:aR}{pos:Hv}
theorem GI{K:Ac}{j:Hp}{m:Mm}{p:Am}{vs:↑V}{ws:↑W}{keep:Mm->Prop}(J:aK K j m vs ws)(L:AM K j m)(st:∀H M,Kp j m H M->AM K H M->keep M->bN K H p vs):iC K j m (xX K p vs) (gN 0 ws) keep:=by
 refine⟨λi H M k Y kp hi=>⟨st H M k Y kp,by rw[kW]at hi;rw[J.length];exact hi⟩,λH M k Y kp=>⟨st H M k Y kp,by rw[kW,J.length];exact Ai _⟩,λi H M x l k Y kp hi y=>?_⟩;let⟨n,u,S,hn,rfl,rfl⟩:=y;let⟨w,hw,av⟩:=(J.kp L k).getV S;let⟨E,F⟩:=Y.tup (u:=.tup [.int (i:Nat),u]) hn;refine⟨.tup [.int ((i:Nat):Int),w],by rw[rL,hw];simp,F,E,.tup b8 (.cons (.int _) (.cons (av.go (go_same hn)) .nil))⟩
abbrev uP(ta:c0):gM:=λU M R=>ta U M λws I=>match ws with
 | [.rl g]=>R (gN 0 g) (λ_=>True) I
 | [.sc g]=>R (gN 0 g) (λ_=>True) I
 | [.ref p]=>∃g,I p=aa (.lst g)/\False
 | _=>False
theorem ZV{c:c0}{p pos:Hv}{es:↑Ck}{kx:Nat}{G:Hv}(hg:Gl X "enumerate")(S:X.mg "enumerate" = ae)(m:A3 X [a] c)(F:Ci [a] X.env=[(ac,Ef a X.env)]:=by rfl):PI X (.Tuple es kx G) (.Call (.Name "enumerate" p) [a] [] pos) (fT X.K (uP c)):=
 (VJ hg S m F).weak λC H Q A=>A.el λU M R J Y h k=>⟨U,M,_,J,Y,h,λvs j ws I B P N r=>by
  match ws,r with
  | [.rl g],r=>
   let⟨v,rfl,av⟩:=N.one;cases av with
   | rl e n q=>exact⟨_,_,rfl,bN.of e,k _ _ _ _ _ B P (GI q P λH M k _ _=>bN.of (k.fr _ _ n e).1) r⟩
  | [.sc g],r=>
   let⟨v,rfl,av⟩:=N.one;cases av with
   | sc e q=>exact⟨_,_,rfl,e.sq,k _ _ _ _ _ B P (GI q P λH M k _ _=>by
     refine lJ.sq ?_;rcases e with⟨o,e⟩|e
     .exact .inl ⟨o,(k.fr _ _ (P.noFrz e) e).1⟩
     .exact .inr e) r⟩
  | [.ref p],r=>let⟨_,_,f⟩:=r;exact f.elim⟩
def kX:↑W->↑W->↑W
 | x::xs,y::ys=>.tup [x,y]::kX xs ys
 | _,_=>[]
theorem rM:∀{xs ys:↑W},↥(kX xs ys)=min ↥xs ↥ys
 | [],_=>by simp[kX]
 | _::_,[]=>by simp[kX]
 | _::xs,_::ys=>by simp[kX,rM (xs:=xs)]
theorem zB:∀{xs ys:↑W} {i:Nat} {x y:W},xs[i]? = aa x->ys[i]? = aa y->(kX xs ys)[i]? = aa (.tup [x,y])
 | [],_,_,_,_,h,_=>by simp at h
 | _::_,[],_,_,_,_,h=>by simp at h
 | _::xs,_::ys,0,_,_,h,h'=>by simp at h h';simp[kX,h,h']
 | _::xs,_::ys,i+1,_,_,h,h'=>by simpa [kX] using zB (xs:=xs) (ys:=ys) (i:=i) (by simpa using h) (by simpa using h')
end
section
variable {X:Cx}{a b c:Ck}{ta tb tc:aR}{pos:Hv}
theorem ZW{K:Ac}{j:Hp}{m:Mm}{p q:Am}{vs us:↑V}{ws g:↑W}(L:AM K j m)(D:j p=aa (.tup vs))(T:j q=aa (.tup us))(d:aK K j m vs ws)(R:aK K j m us g):iC K j m (tW K p q vs us) (kX ws g) λ_=>True:=by
 have U:∀H M,Kp j m H M->bL K H p vs:=λH M k=>bL.of (k.fr _ _ (L.noTup D) D).1;have C:∀H M,Kp j m H M->bL K H q us:=λH M k=>bL.of (k.fr _ _ (L.noTup T) T).1;refine⟨λi H M k Y _ hi=>⟨U H M k,C H M k,?_,?_⟩,λH M k Y _=>⟨U H M k,C H M k,?_⟩,λi H M x l k Y _ hi y=>?_⟩
 .rw[rM]at hi;rw[↥d];lia
 .rw[rM]at hi;rw[↥R];lia
 .rw[rM,↥d,↥R];lia
 .let⟨n,u,v,S,c,hn,rfl,rfl⟩:=y;let⟨w,hw,av⟩:=(d.kp L k).getV S;let⟨z,hz,J⟩:=(R.kp L k).getV c;let⟨E,F⟩:=Y.tup (u:=.tup [u,v]) hn;exact⟨.tup [w,z],zB hw hz,F,E,.tup b8 (.cons (av.go (go_same hn)) (.cons (J.go (go_same hn)) .nil))⟩
def ZX:↑W->Mm->(↑W->(Mm->Prop)->Mm->Prop)->Prop
 | [.tup xs,.tup ys],M,R=>R (kX xs ys) (λ_=>True) M
 | _,_,_=>False
abbrev GJ(ta:c0):gM:=λU M R=>ta U M λws I=>ZX ws I R
theorem ZY{c:c0}{p pos:Hv}{es:↑Ck}{kx:Nat}{G:Hv}(hg:Gl X "zip")(S:X.mg "zip" = ae)(m:A3 X [a,b] c)(F:Ci [a,b] X.env=[(ac,Ef a X.env),(ac,Ef b X.env)]:=by rfl)(y:Ci [b] X.env=[(ac,Ef b X.env)]:=by rfl):
  PI X (.Tuple es kx G) (.Call (.Name "zip" p) [a,b] [] pos) (fT X.K (GJ c)):=
 (V5 hg S m F y).weak λC H Q A=>A.el λU M R J Y h k=>⟨U,M,_,J,Y,h,λvs j ws I B P N r=>by
  match ws,r with
  | [.tup xs,.tup ys],r=>
   let⟨v,u,e,av,o⟩:=N.two;let⟨f,x1,L,D,g⟩:=av.inv;let⟨Z,x2,O,T,n⟩:=o.inv;exact⟨f,Z,_,_,by rw[e,L,O],bL.of D,bL.of T,k _ _ _ _ _ B P (ZW P D T g n) r⟩⟩
end
section
variable {X:Cx}
def ZZ:↑W->Mm->K3->Prop
 | [.dk kvs],M,R=>∃ks:↑Av,kvs.map Eb=ks.map Sum.inr/\↥ks<64/\∀ss:↑Av,ss.Perm ks->aP (ss.map W.str) M R
 | _,_,_=>False
def zC:↑W->Mm->K3->Prop
 | [.dk kvs],M,R=>∃ks:↑Av,kvs.map Eb=ks.map Sum.inr/\↥ks<64/\∀ss:↑Av,ss.Perm ks->R (.rl (ss.map W.str)) M
 | _,_,_=>False
theorem Z0{K:Ac}{H:Hp}{M:Mm}(ss:↑Av):aK K H M (ss.map V.str) (ss.map W.str):=by
 induction ss with
 | nil=>exact .nil
 | cons s r E=>exact .cons (.str s) E
theorem Z1(hc:X.calm=ab):cR X (.builtin "sorted") (e9 X.K ZZ):=by
 rintro B s C H xs us Q I rs ⟨ws,M,R,Y,d,h,k⟩
 match ws,h with
 | [.dk kvs],h=>
  let⟨v,rfl,av⟩:=d.one;let⟨ks,hk,a,r⟩:=h;cases av with
  | dk e n c q=>exact V6 hc B s C H _ us Q I rs ⟨_,_,ks,rfl,e,c.trans hk,a,λss G p b=>gL Y k b (Z0 ss) (r ss G)⟩
theorem Z2(hc:X.calm=ab):cR X (.builtin "sorted") (e9 X.K zC):=F5 (Z1 hc) λx M R h=>by
 match x,h with
 | [.dk kvs],⟨ks,O,L,r⟩=>exact⟨ks,O,L,λss G=>aP.frz (r ss G)⟩
end
end L2
namespace PySem
namespace Dp
open L2
section
variable {prog:Be}{w:Br}{A:Cw}{E:Ae->Ak->Prop}{s:Ak}
theorem Z3:Mf (.type "list") "keys" = pure ae:=by rw[Hq,Fi];kernel_rfl
theorem keys_miss{k:Nat}{Q:Option Ae->Ak->Prop}(hx:s.heap.get? a=aa {cls:=.type "list",data:=.seq xs k})(hA:A.handled=ae)(h:∀h' tk,(∀b o,s.heap.get? b=aa o->h'.get? b=aa o)->Q ae {s with heap:=h',toks:=tk}):Bm (De prog w) A (Vc (.ref a) (Bz "keys")) Q E s:=by
 let⟨hp,g,d,tk,os⟩:=s;have hT:∀tk',(⟨hp,g,d,tk',os⟩:Ak).TypeIs (.ref a) "list":=λ_=>⟨_,hx,rfl⟩
 have f1:=sub_AttributeError;have f3:=Oc.lookup;have f4:=Oc.bind (.ref a);have f5:=am_list_getattr_none;unfold Vc getAttrBy? getAttrBy
 repeat (any_goals (first|assumption|exact hT _|((with_reducible show Bm _ _ (call (Value.builtin "list.__getattribute__") _ _) _ _ _);refine Kf Oc (hT _) am_entry_list_getattribute (F.args_list_getattribute_2 _ _) (meets_getattribute_miss_list a xs k #[] (Bz "keys") _ Z3 (by decide +kernel) (by decide +kernel)) ⟨hx,hA,λh' tk' e hx'=>?_⟩)|wp_step))
 let⟨t',u',he⟩:=hx'.there;have hx2:=hx'.of.keeps;show Bm _ _ (Nu _ _ _ _ _ _ _) _ _ _;unfold Nu
 repeat (any_goals (first|assumption|wp_step))
 exact h _ _ hx2
theorem entry_loop:Vd table "dict.update.loop" = aa Ha.«dict.update.loop»:=entryFor_of_tree (by kernel_rfl)
theorem plain_loop:plainId "dict.update.loop" = ab:=by decide +kernel
variable {K:Type}[DecidableEq K]{knd:KeyKind prog w K}
theorem Z4(kvs:↑(K×Ae))(k:K)(v:Ae):↥(Um kvs k v)<=↥kvs+1:=by
 unfold Um;split
 .rw[Ab];lia
 .rw[Aj,Co];exact Ai _
def all(kvs:↑(K×Ae))(ps:↑(K×Ae)):↑(K×Ae):=ps.foldl (λkvs p=>Um kvs p.1 p.2) kvs
theorem Z5{Dd:Nat->Du->Prop}{R:To->Ak->Prop}(hh:A.handled=ae)(G:d≠I)(C:d≠l)(F:l≠I)(fr:∀{i h h'},Dd i h->(∀b o,b≠I->h.get? b=aa o->h'.get? b=aa o)->Dd i h')(st:∀{i:Nat} {t:Ak},i<items.size->Dd i t.heap->∃(a:Am) (key v:Ae),items[i]? = aa (.ref a)/\t.heap.IsTuple a #[key,v]/\∀{E:Ae->Ak->Prop} {Q:Unit->Ak->Prop},(∀L tk,Dd (i+1) L->Ek d t.heap L->Q () {t with heap:=L,toks:=tk})->Bm (De prog w) A.in1 (Vq d key v) Q E t):
  ∀(k i:Nat) (s:Ak),items.size-i=k->i<=items.size->s.heap.IsListIter I l i->s.heap.IsList l items->Dd i s.heap->
  (∀h' tk,(∀b o,b≠d->b≠I->s.heap.get? b=aa o->h'.get? b=aa o)->Dd items.size h'->R (.ok (.ret .none)) {s with heap:=h',toks:=tk})->
  Mp (De prog w) A (.builtin "dict.update.loop" ⟨[.ref d,.ref I,Hr (i:Int),.none],[]⟩) R s:=by
 intro k
 induction k with
 | zero=>
  intro i s hk hi p nN hd q;have X:i=items.size:=by lia
  refine Li entry_loop ?_;rw[Ie plain_loop _];show Bm _ A.in1 (Hy (.ref I)>>=_) _ _ s;have W:=Ua (prog:=prog) (w:=w) (A:=A.in1) hh I l F items;refine Aa (W.done s _ _ (by rw[<-X];exact⟨p,nN⟩) λh' tk S=>?_);show Bm _ A.in1 (Builtin.Dict.addKeywords d []>>=_) _ _ _;rw[X]at hd;exact Aa (Ah (Ah (q h' tk (λb o _ Z e=>S b o (by simp[Z]) e) (fr hd λb o Z e=>S b o (by simp[Z]) e))))
 | succ k m=>
  intro i s hk hi p nN hd q;have Y:i<items.size:=by lia
  refine Li entry_loop ?_;rw[Ie plain_loop _];show Bm _ A.in1 (Hy (.ref I)>>=_) _ _ s;have W:=Ua (prog:=prog) (w:=w) (A:=A.in1) hh I l F items;refine Aa (W.item i s _ _ Y ⟨p,nN⟩ λv h' tk c y S=>?_);obtain⟨a,key,u,J,⟨o,f,hc,n,g⟩,go⟩:=st (t:={s with heap:=h',toks:=tk}) Y (fr hd λb o Z e=>S b o (by simp[Z]) e);rw[J]at c;cases c;show Bm _ A.in1 (Jv [Value.ref a] _>>=_) _ _ _;refine Aa (Dq (Aa (wpAny_tryCatch ?_)));unfold Builtin.Dict.pairItems;refine Aa (Lx (T:="tuple") ⟨o,f,hc⟩ ?_);rw[Vz ∅];refine Aa (Fe f g (Ah ?_));show Bm _ _ (Jv [key,u] (Vq d key u)) _ _ _;refine Dq (go λL r j D=>?_);refine Ah ⟨Mo plain_loop _,?_⟩;exact m (i+1) _ (by lia) Y (y.1.at λo e=>(D.2 I (Ca G)).trans e) (y.2.at λo e=>(D.2 l (Ca C)).trans e) j λh3 x z B=>q h3 x (λb o O L e=>z b o O L ((D.2 b O).trans (S b o (by simp[L]) e))) B
theorem callG{l:Am}{items:Array Ae}{c:Nat}{Dd:Nat->Du->Prop}{Q:Ae->Ak->Prop}(hh:A.handled=ae)(hx:s.heap.get? l=aa {cls:=.type "list",data:=.seq items c})(d0:Dd 0 (s.heap.push {cls:=.type "dict",data:=.dict #[]}))(fr:∀{i h h'},Dd i h->(∀b o,@LE.le Nat _ b ⇑s->h.get? b=aa o->h'.get? b=aa o)->Dd i h')(st:∀{i:Nat} {t:Ak},i<items.size->Dd i t.heap->(∀b o,s.heap.get? b=aa o->t.heap.get? b=aa o)->∃(a:Am) (key v:Ae),items[i]? = aa (.ref a)/\s.heap.IsTuple a #[key,v]/\∀{E:Ae->Ak->Prop} {Q:Unit->Ak->Prop},(∀h2 tk,Dd (i+1) h2->Ek ⇑s t.heap h2->Q () {t with heap:=h2,toks:=tk})->Bm (De prog w) A.in1.in1 (Vq ⇑s key v) Q E t)(h:∀h' tk,(∀b o,s.heap.get? b=aa o->h'.get? b=aa o)->Dd items.size h'->Q (.ref ⇑s) {s with heap:=h',toks:=tk}):
  Bm (De prog w) A (call (.type "dict") [.ref l]) Q E s:=by
 refine Tn (Q₁:=λobj s1=>obj=.ref ⇑s/\s1 = {s with heap:=s.heap.push {cls:=.type "dict",data:=.dict #[]}}) F.kt_called_dict (F.kt_typeCall_dict_1 _) F.entry_dict_init (kt_code_dict_new _ ⟨rfl,rfl⟩) ?_;rintro obj s1 ⟨rfl,rfl⟩;have lt:l<⇑s:=Bd hx;have hx':(s.heap.push {cls:=.type "dict",data:=.dict #[]}).get? l=aa {cls:=.type "list",data:=.seq items c}:=Af _ hx;have hty:({s with heap:=s.heap.push {cls:=.type "dict",data:=.dict #[]}}:Ak).TypeIs (.ref ⇑s) "dict":=⟨_,Az _ rfl,rfl⟩;refine⟨hty,F.args_dict_init_2 _ _,?_⟩;unfold Ha.«dict.__init__»;refine Aa ?_;unfold Builtin.Dict.selfAndRest;refine Aa (Hc hty ?_);show Bm _ _ (pure (⇑s,[Value.ref l])) _ _ _;refine Ah ?_;show Bm _ _ (Ju "dict.__init__" ⇑s (.ref l) [] .none) _ _ _;unfold Ju;refine Aa (Lx (T:="list") ⟨_,hx',rfl⟩ ?_);rw[Vz ∅];refine Aa (keys_miss hx' hh λh1 tk1 hk1=>?_);rw[Vz ∅];have hx1:=hk1 _ _ hx';have l1:⇑s<h1.objs.size:=Bd (hk1 _ _ (Az _ rfl));refine Aa (Iv (Aa (Ly (items:=items) ⟨_,hx1,rfl,c,rfl⟩ ?_)));have gI:(h1.push {cls:=.type "list_iterator",data:=.fields #[.ref l,.int 0 0]}).IsListIter h1.objs.size l 0:=⟨_,Az _ rfl,rfl,rfl⟩;have up:∀b o,s.heap.get? b=aa o->(h1.push {cls:=.type "list_iterator",data:=.fields #[.ref l,.int 0 0]}).get? b=aa o:=λb o e=>Af _ (hk1 b o (Af _ e));have nI:∀{b:Am},@LE.le Nat _ b ⇑s->b≠h1.objs.size:=λhb=>Bn (Gh hb l1);refine Ah ⟨Mo plain_loop _,?_⟩;refine Z5 (A:=A.in1) (d:=⇑s) (I:=h1.objs.size) (l:=l) (items:=items) (Dd:=λi h=>Dd i h/\∀b o,s.heap.get? b=aa o->h.get? b=aa o) hh (Bn l1) (Cq lt) (Bn (Gg lt l1)) (λ⟨z1,z2⟩ hm=>⟨fr z1 λb o hb e=>hm b o (nI hb) e,λb o e=>hm b o (nI (Ht (Bd e))) (z2 b o e)⟩) (λhi ⟨z1,z2⟩=>?_) items.size 0 _ rfl (Cs _) gI ⟨_,Af _ hx1,rfl,c,rfl⟩ ⟨fr d0 λb o _ e=>Af _ (hk1 b o e),up⟩ λh2 tk2 _ hd2=>⟨rfl,h h2 tk2 hd2.2 hd2.1⟩
 obtain⟨a,key,v,g1,⟨o,g2,g3⟩,go⟩:=st hi z1 z2;exact⟨a,key,v,g1,⟨o,z2 a o g2,g3⟩,λk=>go λh2 tk z hs=>k h2 tk ⟨z,λb o e=>(hs.2 b (Bn (Bd e))).trans (z2 b o e)⟩ hs⟩
theorem take_at{B:Type}{ps:↑B}{i:Nat}{p:B}(h:ps[i]? = aa p):ps.take (i+1)=ps.take i++[p]:=by rw[Cf,h];rfl
theorem Z6(ps:↑(K×Ae)):∀kvs,↥(all kvs ps)<=↥kvs+↥ps:=by
 induction ps with
 | nil=>exact λ_=>Ai _
 | cons p ps E=>exact λkvs=>Ap (E _) (by have:=Z4 kvs p.1 p.2;rw[Bv];lia)
theorem call_pairs{l:Am}{items:Array Ae}{c:Nat}{ps:↑(K×Ae)}{Q:Ae->Ak->Prop}(hh:A.handled=ae)(hx:s.heap.get? l=aa {cls:=.type "list",data:=.seq items c})(hn:↥ps=items.size)(hz:items.size<=Au)(hp:∀(j:Nat) (p:K×Ae),ps[j]? = aa p->∃(a:Am) (key:Ae),items[j]? = aa (.ref a)/\s.heap.IsTuple a #[key,p.2]/\knd.is p.1 key=ab)(h:∀h' tk,(∀b o,s.heap.get? b=aa o->h'.get? b=aa o)->h'.DictOf knd ⇑s (all [] ps)->Q (.ref ⇑s) {s with heap:=h',toks:=tk}):
  Bm (De prog w) A (call (.type "dict") [.ref l]) Q E s:=by
 refine callG (Dd:=λi h=>h.DictOf knd ⇑s (all [] (ps.take i))) hh hx (Heap.DictOf.new s.heap) (λ⟨o,es,ep,ho,rest⟩ hm=>⟨o,es,ep,hm _ o (Ai _) ho,rest⟩) (λ{i t} hi hd _=>?_) λh' tk e d=>h h' tk e (by rw[<-hn,Bw]at d;exact d);obtain⟨p,hpi⟩:∃p,ps[i]? = aa p:=⟨_,Bg (by lia)⟩;let⟨a,key,g1,g2,g3⟩:=hp i p hpi;have len:=Z6 (ps.take i) [];rw[Cg,Jd]at len;refine⟨a,key,p.2,g1,g2,λk=>wpAny_dictSet_pairs g3 hd (λh2 d2 s2=>k h2 _ ?_ s2) (by lia)⟩;rw[take_at hpi,all,Ll];exact d2
end
end Dp
end PySem
namespace L2
section
variable {X:Cx}
noncomputable def j1(kvs:↑(aC×W))(ps:↑(aC×W)):↑(aC×W):=ps.foldl (λkvs p=>bY kvs p.1 p.2) kvs
def oC(ps:↑(aC×W)):↑W:=ps.map λp=>.tup [wK p.1,p.2]
def zD:↑W->Mm->K3->Prop
 | [.rl ws],M,R=>∃ps:↑(aC×W),ws=oC ps/\↥ws<=Au/\iO (j1 [] ps) M R
 | _,_,_=>False
theorem zE(I:L2.Inv X B C H s):∀{ps:↑(aC×W)} {vs:↑V} {its:↑Ae},aK X.K H M vs (oC ps)->a5 vs its->
  ∃(ks:↑(aC×V)) (rs:↑(aC×Ae)),bS X.K H M aC ks ps/\KV ks rs/\↥rs=↥its/\
   ∀(j:Nat) (p:aC×Ae),rs[j]? = aa p->∃(a:Am) (key:Ae),its[j]? = aa (.ref a)/\s.heap.IsTuple a #[key,p.2]/\(bU X.prog X.w).is p.1 key=ab
 | [],_,_,.nil,.nil=>⟨[],[],.nil,.nil,rfl,λj p h=>by simp at h⟩
 | (k,w)::ps,_,_,.cons av c,.cons U n=>by
  let⟨ks,rs,O,L,h3,m⟩:=zE I c n;let⟨a,xs,y,e,q⟩:=av.inv;rw[y]at U;let⟨S,P,ex,f,Z⟩:=q.two;let⟨t,R,pl,_⟩:=I.tuple (bL.of e);rw[ex,f.key]at R;let⟨Y,d,J,x1,x2⟩:=vals2 R;rw[J]at pl;refine⟨(k,P)::ks,(k,d)::rs,.cons ⟨rfl,Z⟩ O,.cons ⟨rfl,x2⟩ L,congrArg (· + 1) h3,λj p hj=>?_⟩;cases j with
  | zero=>rw[<-Ct hj];exact⟨a,Y,congrArg aa U,pl,jU x1⟩
  | succ j=>exact m j p hj
theorem GK(h:bS X.K H M aC ks ps):∀{rs:↑(aC×Ae)} {kvs:↑(aC×W)} {g:↑(aC×V)} {us:↑(aC×Ae)},KV ks rs->bS X.K H M aC g kvs->KV g us->
  ∃c:↑(aC×V),bS X.K H M aC c (j1 kvs ps)/\KV c (Dp.all us rs)/\↥c<=↥g+↥ps:=by
 induction h with
 | nil=>
  intro rs kvs g us J O L;cases J;exact⟨g,O,L,Ai _⟩
 | @cons a p ks ps x r E=>
  intro rs kvs g us J O L;cases J with
  | @cons _ b _ rs y t=>
   let⟨k,w⟩:=p;let⟨B,v⟩:=a;let⟨F,u⟩:=b;let⟨x1,x2⟩:=x;let⟨Y,d⟩:=y;cases x1;cases Y;let⟨c,N,P,f⟩:=E (kvs:=bY _ k w) t (rC O k x2) (L.put k d);have:=oV g k v;exact⟨c,N,P,by simp at f⊢;lia⟩
theorem Z7(hc:X.calm=ab):cR X (.type "dict") (e9 X.K zD):=by
 rintro B s C H xs us Q I rs ⟨ws,M,R,Y,d,h,k⟩
 match ws,h with
 | [.rl ws],h=>
  let⟨v,rfl,av⟩:=d.one;let⟨ps,rfl,hz,r⟩:=h;let⟨u,rfl,ru⟩:=vals1 rs;cases av with
  | rl f n q=>
   cases ru;let⟨z,its,c,U,hl,e⟩:=I.lstM f;let⟨ks,a,O,L,h3,m⟩:=zE I q U;let⟨g,N,P,l⟩:=GK O L .nil .nil;refine Dp.call_pairs (knd:=bU X.prog X.w) (items:=its.toArray) (ps:=a) (I.ok.hd hc) e (by simpa using h3) (by rw[Bi];lia) (λj p hj=>by simpa using m j p hj) λh' tk hk hd=>?_;have x:↥ps<=Au:=by simpa [oC] using hz
   have y:=I.hok.fresh (Ai _);refine⟨.ref ⇑s,aL H ⇑s (.dK g),I.laid (o:=.dK g) (t':=tk) hk (Ai _) ⟨by simp at l;lia,beq_eq_false_iff_ne.mpr (Ca (Bn I.big)),_,P,hd⟩,rfl,?_⟩;let⟨E,F⟩:=Y.laid (o:=.dK (j1 [] ps)) (u:=.dK g) y ⟨g,b8,pkv_new y N⟩;exact k _ _ _ _ F E (.ref _) (r _ (Y.nonM y))
where
 pkv_new:∀{H:Hp} {M:Mm} {p:Am} {ks g:↑(aC×V)} {kvs b:↑(aC×W)},H p=ae->bS X.K H M aC ks kvs->bS X.K (aL H p (.dK g)) (put M p (.dK b)) aC ks kvs:=λG h=>nY h.keys (h.vals.newL G)
def GN:↑W->Mm->K3->Prop
 | [.rl ws],M,R=>∃ps:↑(aC×W),ws=oC ps/\↥ws<=Au/\R (.dk (j1 [] ps)) M
 | _,_,_=>False
theorem Z8(hc:X.calm=ab):cR X (.type "dict") (e9 X.K GN):=by
 rintro B s C H xs us Q I rs ⟨ws,M,R,Y,d,h,k⟩
 match ws,h with
 | [.rl ws],h=>
  let⟨v,rfl,av⟩:=d.one;let⟨ps,rfl,hz,r⟩:=h;let⟨u,rfl,ru⟩:=vals1 rs;cases av with
  | rl f n q=>
   cases ru;let⟨z,its,c,U,hl,e⟩:=I.lstM f;let⟨ks,a,O,L,h3,m⟩:=zE I q U;let⟨g,W,P,V⟩:=GK O L .nil .nil;refine Dp.call_pairs (knd:=bU X.prog X.w) (items:=its.toArray) (ps:=a) (I.ok.hd hc) e (by simpa using h3) (by rw[Bi];lia) (λj p hj=>by simpa using m j p hj) λh' tk hk hd=>?_;have x:↥ps<=Au:=by simpa [oC] using hz
   have y:=I.hok.fresh (Ai _);refine⟨.ref ⇑s,aL H ⇑s (.dK g),I.laid (o:=.dK g) (t':=tk) hk (Ai _) ⟨by simp at V;lia,beq_eq_false_iff_ne.mpr (Ca (Bn I.big)),_,P,hd⟩,rfl,?_⟩;let⟨E,F⟩:=Y.tup (u:=.dK g) y;exact k _ _ _ _ F E (.dk b8 (Y.nonM y) W.keys (W.vals.newT y)) r
end
noncomputable def d8(f:Av)(w:W):↑(Av×W)->↑(Av×W)
 | []=>[(f,w)]
 | (k,x)::r=>if k=f then(k,w)::r else(k,x)::d8 f w r
section
variable {K:Ac}{H:Hp}{M:Mm}
theorem bS.look(p:bS K H M Av i fs)(h:fs.lookup f=aa w):∃v,i.lookup f=aa v/\AV K H M v w:=by
 induction p with
 | nil=>cases h
 | @cons a b _ _ r t E=>
  let⟨k,v⟩:=a;let⟨y,L⟩:=b;let⟨rfl,av⟩:=r
  by_cases hk:(f==k)=ab
  .simp only[Cm,hk]at h⊢;cases h;exact⟨v,rfl,av⟩
  .have D:(f==k)=ac:=by simpa using hk
   simp only[Cm,D]at h⊢;exact E h
theorem bS.lookN(p:bS K H M Av i fs)(h:fs.lookup f=ae):i.lookup f=ae:=by
 induction p with
 | nil=>rfl
 | @cons a b _ _ r t E=>
  let⟨k,v⟩:=a;let⟨y,L⟩:=b;let⟨rfl,av⟩:=r
  by_cases hk:(f==k)=ab
  .simp only[Cm,hk]at h;cases h
  .have D:(f==k)=ac:=by simpa using hk
   simp only[Cm,D]at h⊢;exact E h
theorem bS.putF{f:Av}{v:V}{w:W}(av:AV K H M v w){i:↑(Av×V)}{fs:↑(Av×W)}(p:bS K H M Av i fs):bS K H M Av (L2.putF f v i) (d8 f w fs):=by
 induction p with
 | nil=>exact .cons ⟨rfl,av⟩ .nil
 | @cons a b _ _ r t E=>
  let⟨k,X⟩:=a;let⟨y,L⟩:=b;let⟨rfl,c⟩:=r;show bS K H M Av (if k=f then(k,v)::_ else(k,X)::L2.putF f v _) (if k=f then(k,w)::_ else(k,L)::d8 f w _)
  by_cases hk:k=f
  .rw[Vz hk,Vz hk];exact .cons ⟨rfl,av⟩ t
  .rw[Vy hk,Vy hk];exact .cons ⟨rfl,c⟩ E
theorem bS.len{b:Type}{i:↑(b×V)}{fs:↑(b×W)}(h:bS K H M b i fs):↥i=↥fs:=by
 have:=congrArg Ky h.keys;simpa using this
end
section
variable {X:Cx}{C:Am}{f m:Av}{pos apos cpos:Hv}{ta tv:aR}{o e value:Ck}{es:↑Ck}{t:c0}{sp:aV}
abbrev cY(C:Am)(ta:aR)(f:Av):aR:=λU M R=>ta U M λx I=>∃a s fs w,x=.ref a/\I a=aa (.ins C s fs)/\fs.lookup f=aa w/\R w I
theorem Z9(c:gF X.K C)(n:fF X.K C f)(d:E3 X o ta)(W:Gq o f X.env (Ef o X.env)=Ef o X.env:=by rfl):E3 X (.Attribute o f pos) (cY C ta f):=
 (RI d W).weak λZ H Q A=>A.el λU M R J Y h k=>⟨U,M,_,J,Y,h,λx j t I B P N A=>by
  let⟨a,s,fs,w,D,T,L,r⟩:=A;subst D;obtain rfl:=N.inv;let⟨i,l,q⟩:=P a _ T;let⟨v,p,av⟩:=q.look L;exact⟨a,C,s,i,v,rfl,l,c,n,p,k _ _ _ _ B P av r⟩⟩
abbrev jA(C:Am)(ta:aR)(f:Av)(tv:aR):aE:=λD U M=>tv U M λy I=>ta U I λx c=>∃a s fs,x=.ref a/\c a=aa (.ins C s fs)/\↥fs<1000/\D.nx U (put c a (.ins C s (d8 f y fs)))
theorem zaa(c:gF X.K C)(n:fF X.K C f)(m:E3 X o ta)(G:E3 X value tv)(F:Mg value (aa (.Attribute o f apos)) pos.line X.env=pure ac:=by rfl):P3 X (.Assign [.Attribute o f apos] value pos) (jA C ta f tv):=
 (RJ m G F).weak λD Z H A=>A.el λU M d J Y h k=>⟨U,M,_,J,Y,h,λy j l I z P S O=>⟨U,I,_,J.kp Y z,P,O,λx w p R t E N A=>by
  let⟨a,s,fs,B,T,hl,r⟩:=A;subst B;obtain rfl:=N.inv;let⟨i,W,q⟩:=E a _ T;refine⟨a,C,s,i,rfl,W,c,n,by rw[q.len];exact hl,?_⟩;let⟨g,V⟩:=E.write (o:=.ins C s (d8 f l fs)) (u:=.ins C s (L2.putF f y i)) T ⟨_,b8,((q.putF (S.kp P t))).go (nZ E T)⟩;exact k.nx _ _ _ _ ((z.trans t).trans V) g (((J.kp Y z).kp P t).kp E V) r⟩⟩
variable {k:Nat}{g:Am}{fd:Ff}{ps:↑Av}
abbrev dY(C:Am)(m:Av)(sp:aV)(ta:aR)(t:c0):aR:=λU M R=>ta U M λx I=>∃a s fs,x=.ref a/\I a=aa (.ins C s fs)/\fs.lookup m=ae/\t U I λws f=>sp (.ref a::ws) f R
theorem zab(h:up X.K (dY C m sp ta t) Z H Q):xE C m (eW X.K sp) [] E0 (up X.K ta) (pB X.K t) Z H Q:=by
 let⟨U,M,R,J,Y,h,k⟩:=h;refine⟨U,M,_,J,Y,h,λx j p I B P N A=>?_⟩;let⟨a,s,fs,D,T,S,O⟩:=A;subst D;obtain rfl:=N.inv;let⟨i,l,q⟩:=P a _ T;refine⟨a,s,i,rfl,l,q.lookN S,U,I,_,J.kp Y B,P,O,λvs w ws f F E c L=>⟨.ref a::ws,f,R,E,?_,L,k.kp (B.trans F)⟩⟩;rw[Bs];exact .cons (.ref a) c
theorem oE(c:gF X.K C)(S:oU X.K C m g)(F:X.f eD k g fd ps (eW X.K sp))(T:cQ k X.A)(Z:Binds X.K fd ps [])(Y:E3 X o ta)(J:A3 X (e::es) t)(y:Se X e es:=by rfl)(a:Sb X pos es:=by rfl)(ht:Ef (.Call (.Attribute o m apos) (e::es) [] pos) X.env=(do
   let p <-Ef o X.env
   Qo apos.atName
   let (f,first) <-Jv [p] (Qp p m pl)
   Ve pos f first (Mz pos (Ci (e::es) X.env)) (Pa pos (Lo [] X.env))):=by rfl):
  E3 X (.Call (.Attribute o m apos) (e::es) [] pos) (dY C m sp ta t):=(RW (pl:=pl) Y c S F T Z .nil oW J y a ht).weak λ_ _ _ h=>zab h
theorem uQ(c:gF X.K C)(S:oU X.K C m g)(F:X.f eD k g fd ps (eW X.K sp))(T:cQ k X.A)(W:Binds X.K fd ps [])(d:E3 X o ta)(ht:Ef (.Call (.Attribute o m apos) [] [] pos) X.env=(do
   let p <-Ef o X.env
   Qo apos.atName
   let (f,first) <-Jv [p] (Qp p m pl)
   Ve pos f first (Mz pos (Ci [] X.env)) (Pa pos (Lo [] X.env))):=by rfl):
  E3 X (.Call (.Attribute o m apos) [] [] pos) (dY C m sp ta aB):=(RX (pl:=pl) d c S F T W .nil oW ht).weak λZ H Q h=>by
 let⟨U,M,R,J,Y,h,k⟩:=h;refine⟨U,M,_,J,Y,h,λx j t I z P N E=>?_⟩;let⟨a,s,fs,D,B,L,O⟩:=E;subst D;obtain rfl:=N.inv;let⟨i,l,q⟩:=P a _ B;exact⟨a,s,i,rfl,l,q.lookN L,[.ref a],I,R,P,.cons (.ref a) .nil,O,k.kp z⟩
abbrev lY(C:Am)(sp:aV)(t:c0):aR:=λU M R=>t U M λws I=>∀a s,I a=ae->I s=ae->s≠a->sp (.ref a::ws) (put I a (.ins C s [])) λw f=>w=.non/\R (.ref a) f
theorem AM.made{K:Ac}{H:Hp}{M:Mm}{x s:Am}(Y:AM K H M)(J:H x=ae)(hd:H s=ae)(ne:s≠x):AM K (aL (aL H s (.own x)) x (.ins C s [])) (put M x (.ins C s []))/\Kp H M (aL (aL H s (.own x)) x (.ins C s [])) (put M x (.ins C s [])):=by
 let⟨P,B⟩:=Y.tup (u:=.own x) hd;have j:aL H s (.own x) x=ae:=by rw[bD (Ca ne)];exact J
 let⟨E,F⟩:=P.laid (o:=.ins C s []) (u:=.ins C s []) j ⟨[],b8,.nil⟩;exact⟨E,B.trans F⟩
theorem GO(Y:AM X.K H M)(c:aK X.K H M vs ws)(h:∀a s,M a=ae->M s=ae->s≠a->sp (.ref a::ws) (put M a (.ins C s [])) λw f=>w=.non/\R (.ref a) f)(k:Up X.K H M R Q):
  ∀x s,H x=ae->H s=ae->s≠x->eW X.K sp (.ref x::(vs++[])) (aL (aL H s (.own x)) x (.ins C s [])) (λv z=>v=.non/\Q (.ref x) z) E0:=by
 intro x s J hd ne;let⟨P,B⟩:=Y.made (C:=C) J hd ne;refine⟨.ref x::ws,_,_,P,?_,h x s (Y.nonM J) (Y.nonM hd) ne,λv z w f F E av r=>?_⟩
 .rw[Bs];exact .cons (.ref x) (c.kp Y B)
 .let⟨rfl,r⟩:=r;obtain rfl:=av.inv;exact⟨rfl,k _ _ _ _ (B.trans F) E (.ref x) r⟩
theorem zac(M:Mk X.K C g)(F:X.f eD k g fd ps (eW X.K sp))(T:cQ (k+1) X.A)(hg:Gl X x)(S:X.mg x=aa (.ref C))(W:Binds X.K fd ps [])(m:A3 X (e::es) t)(o:Db x:=by decide)(d:Se X e es:=by rfl)(a:Sb X pos es:=by rfl):
  E3 X (.Call (.Name x p) (e::es) [] pos) (lY C sp t):=(RY M F T hg S W .nil oW m o d a).weak λZ H Q E=>E.el λU M R J Y h k=>⟨U,M,_,J,Y,h,λvs j ws I B P c O=>GO P c O (k.kp B)⟩
theorem GP(M:Mk X.K C g)(F:X.f eD k g fd ps (eW X.K sp))(T:cQ (k+1) X.A)(hg:Gl X x)(S:X.mg x=aa (.ref C))(W:Binds X.K fd ps [])(o:Db x:=by decide):E3 X (.Call (.Name x p) [] [] pos) (lY C sp aB):=(RZ M F T hg S W .nil oW o).weak λZ H Q d=>d.el λU M R J Y h k=>GO Y .nil h k
end
section
variable {prog:Be}{w:Br}{K:Type}[DecidableEq K]{knd:HeapKind prog w K}{A:Cw}{E:Ae->Ak->Prop}{s:Ak}{d a:Am}{k:K}{xs:↑(K×Am×Ae)}
theorem GQ{Q:Ae->Ak->Prop}(W:knd.room A)(r:knd.is s.heap k a)(S:s.heap.DictOfH knd d xs)(hsz:↥xs<=Au)(O:∀p,Me xs k=aa p->Q p.2 {s with toks:=s.toks+knd.draws k})(L:Me xs k=ae->∀h',h'.DictOfH knd d (Ni xs k a y)->Ek d s.heap h'->Q y {s with heap:=h',toks:=s.toks+knd.draws k}):
  Bm (De prog w) A (dictSetDefault d (.ref a) y) Q E s:=by
 let⟨o,es,ep,f,hc,hd,Z,V,hn⟩:=S;unfold dictSetDefault;refine Dq (Aa (knd.pyHash W r (Aa (wpAny_dictFind_heap (s:={s with toks:=s.toks+knd.draws k}) W r f hd Z V hn (λi=>?_) λj p hj=>?_))))
 .have hk:=atKey_none_of_get i;have b:k∉xs.map (·.1):=not_mem_keys_of_get i;refine Aa (Iv (Aa (wpAny_updateDictKeys (hz:=by have e:=Lh Z;lia) (s:={s with toks:=s.toks+knd.draws k}) f hd (Ah (L hk _ ⟨_,_,ep+1,Gs _ f (Obj.isFreed_of_dict (Md hd _)),
   hc.mapDictKeys _,Md hd _,?_,λx J=>?_,?_⟩ (Gi ..))))))
  .rw[Ss hk];simp[Z,Ro]
  .rw[Ss hk]at J;rcases Bb.mp J with q|q
   .exact knd.keeps (V x q) f hd (Gi ..)
   .obtain rfl:=Ag.mp q;exact knd.keeps r f hd (Gi ..)
  .rw[Ss hk,Ax,Cv];refine⟨hn,by simp,λx J y K=>?_⟩;simp only[Bh,Mu,Ag]at K;subst K;exact λe=>b (e▸J)
 .refine Aa (Im (s:={s with toks:=s.toks+knd.draws k}) f hd ?_);rw[Ti Z j,hj];exact Aa (Iv (Ah (O p (atKey_of_get hn hj))))
theorem GR:∀{xs:↑(K×Am×Ae)} {j:Nat} {p:Am×Ae},(xs.map (·.1)).Nodup->xs[j]? = aa (k,p)->xs.eraseIdx j=xs.filter λx=>decide (x.1≠k)
 | [],j,p,_,h=>by simp at h
 | x::r,0,p,hn,h=>by
  have e:x=(k,p):=by simpa using h
  subst e;rw[Bh,Cj]at hn;rw[List.eraseIdx_zero,List.tail_cons,List.filter_cons_of_neg (by simp)];refine(List.filter_eq_self.mpr λy Y=>?_).symm;rw[decide_eq_true_eq];exact λe=>hn.1 (Ar.mpr ⟨y,Y,e⟩)
 | x::r,j+1,p,hn,h=>by
  rw[Bh,Cj]at hn;have hj:r[j]? = aa (k,p):=by simpa using h
  have J:x.1≠k:=λe=>hn.1 (Ar.mpr ⟨(k,p),Ao hj,e.symm⟩);rw[List.eraseIdx_cons_succ,GR hn.2 hj,List.filter_cons_of_pos (by simpa using J)]
theorem zad{v:Ae}{b:Am}{Q:Option Eg->Ak->Prop}(W:knd.room A)(r:knd.is s.heap k a)(S:s.heap.DictOfH knd d xs)(hsz:↥xs<=Au)(c:Me xs k=aa (b,v))(h:∀h',h'.DictOfH knd d (xs.filter λx=>decide (x.1≠k))->Ek d s.heap h'->Q (aa ⟨knd.hash k,.ref b,v⟩) {s with heap:=h',toks:=s.toks+knd.draws k}):
  Bm (De prog w) A (Builtin.Dict.takeOut d (.ref a)) Q E s:=by
 let⟨o,es,ep,f,hc,hd,Z,V,hn⟩:=S;unfold Builtin.Dict.takeOut;refine Dq (Aa (knd.pyHash W r (Aa (wpAny_dictFind_heap (s:={s with toks:=s.toks+knd.draws k}) W r f hd Z V hn (λi=>?_) λj p hj=>?_))))
 .rw[atKey_none_of_get i]at c;cases c
 .rw[atKey_of_get hn hj]at c;cases c;have g:=GR hn hj;refine Aa (Im (s:={s with toks:=s.toks+knd.draws k}) f hd ?_);rw[Ti Z j,hj];refine Aa (wpAny_updateDictKeys (hz:=by have e:=Lh Z;lia) (s:={s with toks:=s.toks+knd.draws k}) f hd (Ah (h _ ⟨_,_,ep+1,Gs _ f (Obj.isFreed_of_dict (Md hd _)),
   hc.mapDictKeys _,Md hd _,?_,λx J=>knd.keeps (V x (Fo.mp J).1) f hd (Gi ..),?_⟩ (Gi ..))))
  .rw[<-g];have T:(xs.eraseIdx j).map (Ro knd)=(xs.map (Ro knd)).eraseIdx j:=by simp[List.eraseIdx_eq_take_drop_succ,List.map_take,Qg]
   rw[T,<-Z];let⟨l⟩:=es;simp
  .exact hn.sublist (Qb.map _)
end
section
variable {X:Cx}{af:Pn}{Z:St}{H:Hp}{s:Ak}{a b:Am}{v:V}{r:Ae}{A:Cw}{E:Ae->Ak->Prop}{kvs:↑(↑aC×V)}{k:↑aC}
theorem KT.drop(i:KT H kvs xs)(k:↑aC):KT H (nR kvs k) (xs.filter λx=>decide (x.1≠k)):=by
 induction i with
 | nil=>exact .nil
 | @cons p q ps qs h t E=>
  unfold nR at E⊢;rw[Er,Er,<-h.1];split
  .exact .cons h E
  .exact E
theorem zae{Q:Ae->Ak->Prop}(W:A.units+1<Fg)(I:Inv X af Z H s)(e:H a=aa (.dT kvs))(T:H b=aa (.tup (k.map kV)))(D:RelV v r)(hl:↥kvs<Au)(O:∀F B j,fY kvs k=aa F->Inv X af Z H j->RelV F B->Q B j)(L:fY kvs k=ae->∀j,Inv X af Z (aL H a (.dT (dZ kvs k v))) j->Q r j):
  Bm X.m A (call (.builtin "dict.setdefault") [.ref a,.ref b,r]) Q E s:=by
 let⟨z,hd,xs,i,x⟩:=qO I.hok e;have hz:↥xs<=Au:=by rw[<-Dg i];exact z
 have Y:=i.val k;refine Jj Mb x.typeIs PySem.F.entry_dict_setdefault (PySem.F.args_dict_setdefault_3 _ _ _)
  (S:=λA R U=>(Ho (bU X.prog X.w)).room A.in1/\(Ho (bU X.prog X.w)).is U.heap k b/\U.heap.DictOfH (Ho (bU X.prog X.w)) a xs/\
   (∀p,Me xs k=aa p->R (.ok (.ret p.2)) {U with toks:=U.toks+(↥k+1)})/\
   (Me xs k=ae->∀h',h'.DictOfH (Ho (bU X.prog X.w)) a (Ni xs k b r)->Ek a U.heap h'->R (.ok (.ret r)) {U with heap:=h',toks:=U.toks+(↥k+1)}))
  (.of_wp λA R U ⟨J,g,n,V,d⟩=>?_) ⟨Ft W,i4 I.hok T,x,λp G=>?_,λhn h' t l=>?_⟩
 .unfold Ha.«dict.setdefault»;refine Aa ?_;unfold Lw;refine Aa (Hc n.typeIs ?_);refine Ah ?_;dsimp only;rw[Vy (by rw[hd];exact Bc)];exact Aa (GQ J g n hz (λp G=>Ah ⟨_,rfl,V p G⟩) λhn h' y u=>Ah ⟨_,rfl,d hn h' y u⟩)
 .rw[G]at Y;cases q:fY kvs k with
  | none=>rw[q]at Y;exact Bq Y
  | some F=>rw[q]at Y;exact O F _ _ q (I.tok _) Y
 .rw[hn]at Y;have q:fY kvs k=ae:=by
   cases q:fY kvs k with
   | none=>rfl
   | some F=>rw[q]at Y;exact Bq Y
  have h:↥(dZ kvs k v)<=Au:=by have:=oV kvs k v;lia
  let⟨g,es,ep,N,P,f,C,_,M⟩:=t;refine L q _ (nT (t':=s.toks+(↥k+1)) I (by rw[e];exact True.intro) l ⟨g,N⟩ ⟨h,hd,_,(i.put k T D).keeps λc ys K=>?_,g,es,ep,N,P,f,C,M⟩);rw[bD (sO K e (λz=>nomatch z))];exact K
theorem zaf{Q:Ae->Ak->Prop}(W:A.units+1<Fg)(I:Inv X af Z H s)(e:H a=aa (.dT kvs))(T:H b=aa (.tup (k.map kV)))(l:fY kvs k=aa v)(h:∀L j,Inv X af Z (aL H a (.dT (nR kvs k))) j->RelV v L->Q L j):Bm X.m A (call (.builtin "dict.pop") [.ref a,.ref b]) Q E s:=by
 let⟨z,hd,xs,i,M⟩:=qO I.hok e;have hz:↥xs<=Au:=by rw[<-Dg i];exact z
 let⟨L,hw,B⟩:=fM.some_of (v:=v) (o:=(Me xs k).map (·.2)) (by rw[<-l];exact i.val k);obtain⟨⟨c,w2⟩,hc,rfl⟩:=Ba.mp hw;refine Jj PySem.F.slot_dict_pop M.typeIs PySem.F.entry_dict_pop (PySem.F.args_dict_pop_2 _ _)
  (S:=λA R U=>(Ho (bU X.prog X.w)).room A.in1/\(Ho (bU X.prog X.w)).is U.heap k b/\U.heap.DictOfH (Ho (bU X.prog X.w)) a xs/\
   ∀h',h'.DictOfH (Ho (bU X.prog X.w)) a (xs.filter λx=>decide (x.1≠k))->Ek a U.heap h'->R (.ok (.ret w2)) {U with heap:=h',toks:=U.toks+(↥k+1)})
  (.of_wp λA R U ⟨J,g,n,d⟩=>?_) ⟨Ft W,i4 I.hok T,M,λh' t f=>?_⟩
 .unfold Ha.«dict.pop»;refine Aa ?_;unfold Lw;refine Aa (Hc n.typeIs ?_);refine Ah ?_;dsimp only;rw[Vy (show ¬((keyPart (Value.ref b)).isSome=ab) from Bc)];let⟨o,es,ep,Y,hc',p,F,D,hn⟩:=id n;have G:es.isEmpty=ac:=by
   have O:=Lh F;cases xs with
   | nil=>cases hc
   | cons x r=>rw[Array.isEmpty_eq_false_iff];intro z;rw[z]at O;simp at O
  refine Aa (Im Y p ?_);refine Aa (Ah ?_);rw[G,Vy Bc];refine Aa (zad J g n hz hc λh' y u=>?_);rw[Vy (by simp)];exact Aa (Qk (Ah ⟨_,rfl,d h' y u⟩))
 .let⟨g,es,ep,N,P,V,C,_,q⟩:=t;refine h w2 _ (nT (t':=s.toks+(↥k+1)) I (by rw[e];exact True.intro) f ⟨g,N⟩ ⟨Ap (T8 kvs k) z,hd,_,(i.drop k).keeps λc ys K=>?_,g,es,ep,N,P,V,C,q⟩) B;rw[bD (sO K e (λz=>nomatch z))];exact K
end
section
variable {X:Cx}
def uR:W->↑W->Mm->K3->Prop
 | d,[y],M,R=>∃o,eX M d y o/\R (o.getD .non) M
 | d,[y,v],M,R=>∃o,eX M d y o/\R (o.getD v) M
 | _,_,_,_=>False
theorem zag(W:X.A.units+1<Fg):e8 X "dict.get" (jJ X.K uR):=by
 rintro af s Z H x xs v us Q I G rs ⟨t,ws,M,R,Y,N,d,h,k⟩
 match ws,h with
 | [y],h=>
  let⟨z,rfl,m⟩:=d.one;let⟨o,g,r⟩:=h;let⟨a,rfl,P⟩:=uA Y N m g;cases G;let⟨u,rfl,ru⟩:=rs.one;rcases P with⟨rfl,f⟩|⟨V,E,rfl,f,av⟩
  .exact DI W I f ru λL j F c=>⟨_,H,F,c,k.at Y .non r⟩
  .exact DI W I f ru λL j F c=>⟨_,H,F,c,k.at Y av r⟩
 | [y,q],h=>
  let⟨z,C,rfl,m,b⟩:=d.two;let⟨o,g,r⟩:=h;let⟨a,rfl,P⟩:=uA Y N m g;cases G;let⟨u,S,rfl,ru,l⟩:=vals2 rs;rcases P with⟨rfl,f⟩|⟨V,E,rfl,f,av⟩
  .exact DJ W I f ru l λL j F c=>⟨_,H,F,c,k.at Y b r⟩
  .exact DJ W I f ru l λL j F c=>⟨_,H,F,c,k.at Y av r⟩
def pN:W->↑W->Mm->K3->Prop
 | .ref a,[.tup ks,v],M,R=>∃kvs k,M a=aa (.dT kvs)/\ks=k.map wK/\↥kvs<Au/\(∀w,aQ kvs k=aa w->R w M)/\(aQ kvs k=ae->R v (put M a (.dT (bY kvs k v))))
 | _,_,_,_=>False
theorem zah(W:X.A.units+1<Fg):e8 X "dict.setdefault" (jJ X.K pN):=by
 rintro af s Z H x xs v us Q I G rs ⟨p,ws,M,R,Y,N,d,h,k⟩
 match p,ws,h with
 | .ref a,[.tup ks,P],h=>
  let⟨z,C,rfl,m,r⟩:=d.two;let⟨kvs,n,e,rfl,hl,O,L⟩:=h;obtain rfl:=N.inv;cases G;let⟨u,S,rfl,ru,l⟩:=vals2 rs;let⟨i,D,q⟩:=Y _ _ e;cases m with
  | @tup b vs _ t f=>
   cases (show u=Value.ref b from ru);rw[f.keys]at t;have y:=t9 q n;refine zae W I D t l (by rw[q.len];exact hl) (λw B j T F c=>?_) λT j F=>?_
   .rcases y with⟨_,K⟩|⟨U,J,E,K,av⟩
    .rw[K]at T;cases T
    .rw[K]at T;cases T;exact⟨_,H,F,c,k.at Y av (O J E)⟩
   .rcases y with⟨E,K⟩|⟨U,J,E,K,av⟩
    .let⟨g,V⟩:=Y.write (o:=.dT (bY kvs n P)) (u:=.dT (dZ i n C)) e ⟨_,b8,(rC q n r).go (nZ Y e)⟩;exact⟨_,_,F,l,k _ _ _ _ V g (r.wr Y e) (L E)⟩
    .rw[K]at T;cases T
def lZ{b:Type}[DecidableEq b](kvs:↑(b×W))(k:b):↑(b×W):=kvs.filter λg=>decide (g.1≠k)
theorem zai{b:Type}[DecidableEq b]{K:Ac}{H:Hp}{M:Mm}{i:↑(b×V)}{kvs:↑(b×W)}(h:bS K H M b i kvs)(k:b):bS K H M b (nR i k) (lZ kvs k):=by
 induction h with
 | nil=>exact .nil
 | @cons p q ps qs r t E=>
  unfold nR lZ at E⊢;rw[Er,Er,<-r.1];split
  .exact .cons r E
  .exact E
def GS:W->↑W->Mm->K3->Prop
 | .ref a,[.tup ks],M,R=>∃kvs k w,M a=aa (.dT kvs)/\ks=k.map wK/\aQ kvs k=aa w/\R w (put M a (.dT (lZ kvs k)))
 | _,_,_,_=>False
theorem zaj(W:X.A.units+1<Fg):e8 X "dict.pop" (jJ X.K GS):=by
 rintro af s Z H x xs v us Q I G rs ⟨t,ws,M,R,Y,N,d,h,k⟩
 match t,ws,h with
 | .ref a,[.tup ks],h=>
  let⟨z,rfl,m⟩:=d.one;let⟨kvs,n,w,e,rfl,l,r⟩:=h;obtain rfl:=N.inv;cases G;let⟨u,rfl,ru⟩:=rs.one;let⟨i,D,q⟩:=Y _ _ e;cases m with
  | @tup b vs _ T f=>
   cases (show u=Value.ref b from ru);rw[f.keys]at T;rcases t9 q n with⟨E,U⟩|⟨p,J,E,U,av⟩
   .rw[E]at l;cases l
   .rw[E]at l;cases l;let⟨g,V⟩:=Y.write (o:=.dT (lZ kvs n)) (u:=.dT (nR i n)) e ⟨_,b8,(zai q n).go (nZ Y e)⟩;exact zaf W I D T U λL j F c=>⟨_,_,F,c,k _ _ _ _ V g (av.wr Y e) r⟩
end
section
variable {X:Cx}{af:Pn}{Z:St}{H:Hp}{s:Ak}{a b:Am}{v:V}{r:Ae}{A:Cw}{E:Ae->Ak->Prop}{es:↑(bQ×Am×V)}{tl:↑Int}{x:bQ}
theorem zak{o e:Ck}{args:↑Ck}{to:TE}{t:TA}{name:Av}{apos cpos:Hv}{T id:String}{c:V->↑V->Hp->VK->Prop}{tq:V->Hp->Prop}(G:Pp T)(slot:Slot T name id)(q:Ul (.builtin id)=pure (.type "method_descriptor"))(S:e8 X id c)(f:PE X o to)(m:PA X (e::args) t)(tp:∀af Z H s x v,Inv X af Z H s->RelV x v->tq x H->s.TypeIs v T/\∀a,v=.ref a->∃ob,s.heap.get? a=aa ob/\ob.dict=ae)(W:Gq o name X.env (Ef o X.env)=Ef o X.env)(u:((Mz cpos (Ci (e::args) X.env)).all (λx=>!x.1)&&(Pa cpos (Lo [] X.env)).all (λx=>x.1.isSome)&&decide (↥(e::args)+↥([]:↑Qs)+(if ([]:↑Qs).isEmpty then 0 else 1)<30))=ab)(y:(apos.endLine==cpos.line)=ab)(F:Se X e args)(b:Sb X cpos args):
  PE X (.Call (.Attribute o name apos) (e::args) [] cpos) (λZ H Q=>to Z H λx j=>tq x j/\t Z j λxs w=>c x xs w Q):=by
 intro af s Z H Q I h;refine wpAny_Call_method_late W u y rfl (aZ (f af s Z H _ I h) λv U A=>?_);let⟨x,j,M,l,ty,g⟩:=A;let⟨O,L⟩:=tp _ _ _ _ _ _ M l ty;refine⟨T,id,G,slot,q,O,L,?_⟩;have p:=m cpos af U Z j _ M g;rw[F]at p⊢;refine Lg (by show(ac||(Mz cpos (Ci args X.env)).any (·.1))=ac;rw[b]<;>rfl) (Calls.evalArgs_plain ?_);exact aZ p λus Y C=>by let⟨vs,w,i,R,n⟩:=C;exact S af Y Z w x vs v us Q i l R n
theorem zal{o:Ck}{to:TE}{name:Av}{apos cpos:Hv}{T id:String}{c:V->↑V->Hp->VK->Prop}{tq:V->Hp->Prop}(G:Pp T)(slot:Slot T name id)(q:Ul (.builtin id)=pure (.type "method_descriptor"))(S:e8 X id c)(f:PE X o to)(tp:∀af Z H s x v,Inv X af Z H s->RelV x v->tq x H->s.TypeIs v T/\∀a,v=.ref a->∃ob,s.heap.get? a=aa ob/\ob.dict=ae)(W:Gq o name X.env (Ef o X.env)=Ef o X.env)(y:(apos.endLine==cpos.line)=ab):PE X (.Call (.Attribute o name apos) [] [] cpos) (λZ H Q=>to Z H λx j=>tq x j/\c x [] j Q):=by
 intro af s Z H Q I h;refine wpAny_Call_method0_late W y (aZ (f af s Z H _ I h) λv U A=>?_);let⟨x,j,M,l,ty,g⟩:=A;let⟨O,L⟩:=tp _ _ _ _ _ _ M l ty;exact⟨T,id,G,slot,q,O,L,Lg rfl (PySem.evalArgs_none (S af U Z j x [] v [] Q M l .nil g))⟩
theorem GU{B j:Type}{F:B->j->Prop}{a c:↑B}{b d:↑j}(p:Fz F a b)(h:Fz F c d):Fz F (a++c) (b++d):=by
 induction p with
 | nil=>exact h
 | cons r t E=>exact .cons r E
theorem pO(I:Inv X af Z H s)(e:H a=aa (.ext (dG X.prog X.w tl a es))):dG X.prog X.w tl a es s.heap:=(show b5 X.prog X.w H s.heap a (.ext (dG X.prog X.w tl a es)) from I.hok a _ e).1
theorem NX.val(q:NX es xs)(x:bQ):(Me xs x=ae/\∀e∈es,e.1≠x)\/∃b v u,Me xs x=aa (b,u)/\(x,b,v)∈es/\RelV v u:=by
 induction q with
 | nil=>exact .inl ⟨rfl,λe Z=>nomatch Z⟩
 | @cons p z ps g h t E=>
  let⟨O,d,X⟩:=p;let⟨C,R,z3⟩:=z;let⟨rfl,rfl,h3⟩:=h;unfold Me at E⊢;rw[Cz]
  by_cases J:O=x
  .subst J;rw[Wc rfl];exact .inr ⟨d,X,z3,rfl,Bl,h3⟩
  .rw[We J];rcases E with⟨a,i⟩|⟨b,v,u,a,i,c⟩
   .refine .inl ⟨a,λe Z=>?_⟩;rcases Aw.mp Z with rfl|Z
    .exact J
    .exact i e Z
   .exact .inr ⟨b,v,u,a,Bj _ i,c⟩
theorem zam{Q:Ae->Ak->Prop}(W:A.units+2<Fg)(I:Inv X af Z H s)(e:H a=aa (.ext (dG X.prog X.w tl a es)))(ks:∀z∈es,iB H tl z.1 z.2.1)(d:iB H tl x b)(D:RelV v r)(hl:↥es<Au)(O:∀c v0 k j,(x,c,v0)∈es->Inv X af Z H j->RelV v0 k->Q k j)(L:(∀z∈es,z.1≠x)->∀j,Inv X af Z (aL H a (.ext (dG X.prog X.w tl a (es++[(x,b,v)])))) j->Q r j):
  Bm X.m A (call (.builtin "dict.setdefault") [.ref a,.ref b,r]) Q E s:=by
 let⟨o,J,ep,xs,f,hc,hd,F,nx,hn,hz,hsys⟩:=pO I e;have isAll:∀z∈xs,(jI X.prog X.w tl).is s.heap z.1 z.2.1:=by
  have:∀{es:↑(bQ×Am×V)} {xs:↑(bQ×Am×Ae)},NX es xs->(∀z∈es,iB H tl z.1 z.2.1)->∀z∈xs,(jI X.prog X.w tl).is s.heap z.1 z.2.1:=by
   intro es xs q
   induction q with
   | nil=>intro _ z hz;cases hz
   | @cons p z ps B h t C=>
    intro hk u W;rcases Aw.mp W with rfl|W
    .have:=(hk p Bl).is I.hok;rw[h.1,h.2.1]at this;exact this
    .exact C (λy K=>hk y (Bj _ K)) u W
  exact this nx ks
 have M:s.heap.DictOfH (jI X.prog X.w tl) a xs:=⟨o,J,ep,f,hc,hd,F,isAll,hn⟩;have T:↥xs=↥es:=(Dg nx).symm;refine Jj Mb M.typeIs PySem.F.entry_dict_setdefault (PySem.F.args_dict_setdefault_3 _ _ _)
  (S:=λA R U=>(jI X.prog X.w tl).room A.in1/\(jI X.prog X.w tl).is U.heap x b/\U.heap.DictOfH (jI X.prog X.w tl) a xs/\
   (∀p,Me xs x=aa p->R (.ok (.ret p.2)) {U with toks:=U.toks+(jI X.prog X.w tl).draws x})/\
   (Me xs x=ae->∀h',h'.DictOfH (jI X.prog X.w tl) a (Ni xs x b r)->Ek a U.heap h'->R (.ok (.ret r)) {U with heap:=h',toks:=U.toks+(jI X.prog X.w tl).draws x}))
  (.of_wp λA R U ⟨Y,g,n,q3,q4⟩=>?_) ⟨W,d.is I.hok,M,λp G=>?_,λhno h' dd' l=>?_⟩
 .unfold Ha.«dict.setdefault»;refine Aa ?_;unfold Lw;refine Aa (Hc n.typeIs (Ah ?_));dsimp only;rw[Vy (by rw[hsys];exact Bc)];exact Aa (GQ Y g n hz (λp G=>Ah ⟨_,rfl,q3 p G⟩) λhn h' hm' hs'=>Ah ⟨_,rfl,q4 hn h' hm' hs'⟩)
 .rcases nx.val x with⟨i1,_⟩|⟨c,v0,u,i1,i2,i3⟩
  .rw[i1]at G;cases G
  .rw[i1]at G;cases G;exact O c v0 u _ i2 (I.tok _) i3
 .rcases nx.val x with⟨_,i2⟩|⟨c,v0,u,i1,_,_⟩
  .rw[Ss hno]at dd';let⟨g,es',ep',N,P,i,g4,_,g5⟩:=dd';refine L i2 _ (nT (t':=s.toks+(jI X.prog X.w tl).draws x) I (by rw[e];exact True.intro) l ⟨g,N⟩ (dG.ok ⟨g,es',ep',_,N,P,i,g4,GU nx (.cons ⟨rfl,rfl,D⟩ .nil),g5,?_,hsys⟩));rw[Aj,T];simp;lia
  .rw[i1]at hno;cases hno
end
def gO(tl:↑Int)(x:bQ):W:=.tup (wK x.1::.tup (x.2.map wK)::tl.map W.int)
section
variable {K:Ac}{H:Hp}{M:Mm}
theorem GV(k:aC):AV K H M (kV k) (wK k):=by cases k<;>first|exact .int _|exact .str _
theorem uS:∀ks:↑aC,aK K H M (ks.map kV) (ks.map wK)
 | []=>.nil
 | k::r=>.cons (GV k) (uS r)
theorem GW:∀tl:↑Int,aK K H M (tl.map V.int) (tl.map W.int)
 | []=>.nil
 | i::r=>.cons (.int i) (GW r)
theorem aK.intsN:∀{tl:↑Int} {vs:↑V},aK K H M vs (tl.map W.int)->vs=tl.map V.int
 | [],_,h=>by cases h;rfl
 | i::r,_,h=>by
  cases h with
  | cons a b=>cases a;rw[aK.intsN b];rfl
theorem iB.av(n:iB H tl x b):AV K H M (.ref b) (gO tl x):=by
 let⟨G,D,T⟩:=n;exact .tup D (.cons (GV x.1) (.cons (.tup T (uS x.2)) (GW tl)))
theorem zan{tl:↑Int}{x:bQ}{v:V}(h:AV K H M v (gO tl x)):∃b,v=.ref b/\iB H tl x b:=by
 unfold gO at h;cases h with
 | @tup b xs _ e q=>
  cases q with
  | @cons J c _ _ f g=>
   cases g with
   | @cons z a _ _ Z n=>
    have D:=f.key;subst D;have P:=n.intsN;subst P;cases Z with
    | @tup G ys _ l d=>
     rw[d.keys]at l;exact⟨b,rfl,G,e,l⟩
end
section
variable {X:Cx}
abbrev GX(P:Be)(w:Br)(tl:↑Int):aR:=λU M R=>∀p,M p=ae->R (.ref p) (put M p (.dn P w tl []))
theorem zao:E3 X (.Dict [] [] pos) (GX X.prog X.w tl):=by
 rintro af s Z H Q I ⟨U,M,R,J,Y,h,k⟩;have hf:=I.hok.fresh (Ai ⇑s);have W:=I.big;let⟨E,F⟩:=Y.laid (o:=.dn X.prog X.w tl []) (u:=.ext (dG X.prog X.w tl ⇑s [])) hf ⟨[],b8,.nil⟩;refine Sl ⟨.ref ⇑s,_,I.laid (a:=⇑s) (o:=.ext (dG X.prog X.w tl ⇑s [])) (t':=s.toks) (λ_ _ q=>Af _ q) (Ai _) (dG.ok ⟨_,#[],0,[],Az _ rfl,⟨rfl,rfl,rfl⟩,rfl,rfl,.nil,Eo,Cs _,?_⟩),rfl,k _ _ _ _ F E (.ref _) (h _ (Y.nonM hf))⟩;rw[beq_eq_false_iff_ne];exact Cq W
abbrev zap(P:Be)(w:Br)(tl:↑Int)(x:W)(M:Mm):Prop:=∃a kvs,x=.ref a/\M a=aa (.dn P w tl kvs)
theorem GY{P:Be}{w:Br}{tl:↑Int}{af:Pn}{Z:SV}{H:Hp}{s:Ak}{v:V}{u:Ae}(I:Inv X af Z H s)(r:RelV v u)(h:∃a es,v=.ref a/\H a=aa (.ext (dG P w tl a es))):s.TypeIs u "dict"/\∀a,u=.ref a->∃ob,s.heap.get? a=aa ob/\ob.dict=ae:=by
 let⟨a,es,rfl,e⟩:=h;cases (show u=Value.ref a from r);let⟨o,J,ep,xs,f,hc,hd,_⟩:=(show b5 X.prog X.w H s.heap a (.ext (dG P w tl a es)) from I.hok a _ e).1;refine⟨⟨o,f,hc.1⟩,λb g=>?_⟩;cases g;exact⟨o,f,hc.2.1⟩
abbrev GZ(P:Be)(w:Br)(tl:↑Int)(to:aR)(tk tv:aR):aR:=λU M R=>to U M λd I=>zap P w tl d I/\tk U I λb f=>tv U f λv B=>∃a kvs x,d=.ref a/\B a=aa (.dn P w tl kvs)/\b=gO tl x/\↥kvs<Au/\
 (∀E,aQ kvs x=aa E->R E B)/\(aQ kvs x=ae->R v (put B a (.dn P w tl (kvs++[(x,v)]))))
abbrev PN(K:Ac)(H:Hp)(M:Mm)(tl:↑Int)(es:↑(bQ×Am×V))(kvs:↑(bQ×W)):Prop:=Fz (λ(e:bQ×Am×V) (p:bQ×W)=>e.1=p.1/\iB H tl e.1 e.2.1/\AV K H M e.2.2 p.2) es kvs
theorem PN.look{K:Ac}{H:Hp}{M:Mm}{tl:↑Int}{es:↑(bQ×Am×V)}{kvs:↑(bQ×W)}(q:PN K H M tl es kvs)(hn:(es.map (·.1)).Nodup)(x:bQ):(aQ kvs x=ae/\∀e∈es,e.1≠x)\/∃w,aQ kvs x=aa w/\∀c v,(x,c,v)∈es->AV K H M v w:=by
 induction q with
 | nil=>exact .inl ⟨rfl,λe Z=>nomatch Z⟩
 | @cons p z ps g h t E=>
  rw[Bh,Cj]at hn;let⟨O,d,X⟩:=p;let⟨C,R⟩:=z;let⟨rfl,_,h3⟩:=h;unfold aQ at E⊢;rw[Cz]
  by_cases J:O=x
  .subst J;rw[Wc rfl];refine .inr ⟨R,rfl,λc v S=>?_⟩;rcases Aw.mp S with e|S
   .cases e;exact h3
   .exact absurd (Ar.mpr ⟨_,S,rfl⟩) hn.1
  .rw[We J];rcases E hn.2 with⟨a,i⟩|⟨w,a,i⟩
   .refine .inl ⟨a,λe Z=>?_⟩;rcases Aw.mp Z with rfl|Z
    .exact J
    .exact i e Z
   .refine .inr ⟨w,a,λc v S=>?_⟩;rcases Aw.mp S with e|S
    .cases e;exact absurd rfl J
    .exact i c v S
theorem zaq(nx:NX es xs):es.map (·.1)=xs.map (·.1):=by
 induction nx with
 | nil=>rfl
 | cons h _ E=>rw[Bh,Bh,E,h.1]
theorem dG.nodup(x:dG P w tl a es h):(es.map (·.1)).Nodup:=by
 let⟨o,J,ep,xs,_,_,_,_,nx,hn,_⟩:=x;rw[zaq nx];exact hn
theorem PN.keys{K:Ac}{H:Hp}{M:Mm}{tl:↑Int}{es:↑(bQ×Am×V)}{kvs:↑(bQ×W)}(q:PN K H M tl es kvs):aK K H M (es.map λe=>V.ref e.2.1) (kvs.map λp=>gO tl p.1):=by
 induction q with
 | nil=>exact .nil
 | @cons p z ps g h _ E=>
  refine .cons ?_ E;show AV K H M (.ref p.2.1) (gO tl z.1);rw[<-h.1];exact iB.av h.2.1
theorem PN.vals{K:Ac}{H:Hp}{M:Mm}{tl:↑Int}{es:↑(bQ×Am×V)}{kvs:↑(bQ×W)}(q:PN K H M tl es kvs):aK K H M (es.map λe=>e.2.2) (kvs.map λp=>p.2):=by
 induction q with
 | nil=>exact .nil
 | cons h _ E=>exact .cons h.2.2 E
theorem PN.ats{K:Ac}{H:Hp}{M:Mm}{tl:↑Int}{es:↑(bQ×Am×V)}{kvs:↑(bQ×W)}(q:PN K H M tl es kvs):∀z∈es,iB H tl z.1 z.2.1:=by
 induction q with
 | nil=>intro z hz;cases hz
 | cons h _ E=>
  intro z hz;rcases Aw.mp hz with rfl|hz
  .exact h.2.1
  .exact E z hz
theorem zar(G:X.A.units+2<Fg)(f:E3 X o to)(hk:E3 X ek tk)(m:E3 X ev tv)(hbase:Gq o "setdefault" X.env (Ef o X.env)=Ef o X.env:=by rfl)(hfew:((Mz cpos (Ci [ek,ev] X.env)).all (λx=>!x.1)&&(Pa cpos (Lo [] X.env)).all (λx=>x.1.isSome)&&decide (↥([ek,ev]:↑Ck)+↥([]:↑Qs)+(if ([]:↑Qs).isEmpty then 0 else 1)<30))=ab:=by rfl)(hline:(apos.endLine==cpos.line)=ab:=by rfl)(l:Ci [ek,ev] X.env=(ac,Ef ek X.env)::Ci [ev] X.env:=by rfl)(hs2:Ci [ev] X.env=(ac,Ef ev X.env)::Ci [] X.env:=by rfl)(hplain:(Mz cpos (Ci [ev] X.env)).any (·.1)=ac:=by rfl):
  E3 X (.Call (.Attribute o "setdefault" apos) [ek,ev] [] cpos) (GZ X.prog X.w tl to tk tv):=by
 have S:e8 X "dict.setdefault" (λd vs H Q=>∃M R w kw ww a kvs x y z,AM X.K H M/\d=.ref a/\vs=[y,z]/\AV X.K H M y kw/\AV X.K H M z ww/\M a=aa (.dn X.prog X.w tl kvs)/\kw=gO tl x/\↥kvs<Au/\(∀w0,aQ kvs x=aa w0->R w0 M)/\(aQ kvs x=ae->R ww (put M a (.dn X.prog X.w tl (kvs++[(x,ww)]))))/\w=()/\Up X.K H M R Q):=by
  rintro af s Z H d vs v us Q I rd rs ⟨M,R,_,kw,ww,a,kvs,x,y,z,Y,rfl,rfl,ay,az,e,rfl,hl,O,L,_,k⟩;cases (show v=Value.ref a from rd);let⟨u,u1,rfl,ru,ru1⟩:=vals2 rs;let⟨es,D,q⟩:=Y _ _ e;let⟨b,rfl,nb⟩:=zan ay;cases (show u=Value.ref b from ru);have nd:=dG.nodup (pO I D);have lk:=PN.look q nd x;refine zam G I D (PN.ats q) nb ru1 (by rw[Dg q];exact hl) (λc v0 w' K S I' rw'=>?_) λhno K I'=>?_
  .rcases lk with⟨_,l2⟩|⟨w,l1,l2⟩
   .exact absurd rfl (l2 _ S)
   .exact⟨_,H,I',rw',k.at Y (l2 c v0 S) (O w l1)⟩
  .rcases lk with⟨l1,_⟩|⟨w,l1,l2⟩
   .have g:=nZ (o:=.dn X.prog X.w tl (kvs++[(x,ww)])) (u:=.ext (dG X.prog X.w tl a (es++[(x,b,z)]))) Y e;let⟨am3,k3⟩:=Y.write (o:=.dn X.prog X.w tl (kvs++[(x,ww)])) (u:=.ext (dG X.prog X.w tl a (es++[(x,b,z)]))) e ⟨_,b8,GU (Paired.mapP q λp r t=>⟨t.1,let ⟨pa,n1,n2⟩:=t.2.1;⟨pa,g.ht _ _ n1,g.ht _ _ n2⟩,t.2.2.go g⟩) (.cons ⟨rfl,let ⟨pa,n1,n2⟩:=nb;⟨pa,g.ht _ _ n1,g.ht _ _ n2⟩,az.go g⟩ .nil)⟩;exact⟨_,_,I',ru1,k _ _ _ _ k3 am3 (az.wr Y e) (L l1)⟩
   .exfalso;have:∀{es:↑(bQ×Am×V)} {kvs:↑(bQ×W)},PN X.K H M tl es kvs->(∀z∈es,z.1≠x)->aQ kvs x=ae:=by
     intro es kvs q
     induction q with
     | nil=>intro _;rfl
     | @cons p r ps rs h t E=>
      intro hz;unfold aQ at E⊢;rw[Cz,We (by rw[<-h.1];exact hz p Bl)];exact E λy C=>hz y (Bj _ C)
    rw[this q hno]at l1;cases l1
 refine(zak (tq:=λx H=>∃a es,x=.ref a/\H a=aa (.ext (dG X.prog X.w tl a es))) Nk Mb PySem.F.type_dict_setdefault S f (pC hk (pC m qZ hs2) l) (λaf Z H s x v I r h=>GY I r h) hbase hfew hline l hplain).weak ?_;rintro Z H Q ⟨U,M,R,n,Y,h,k⟩;refine⟨U,M,_,n,Y,h,λd j wd T N P ad J=>?_⟩;obtain⟨⟨a,kvs,D,B⟩,O⟩:=J;subst D;cases ad;let⟨es,e3,q⟩:=P _ _ B;refine⟨⟨a,es,rfl,e3⟩,U,T,λws M3=>match ws with | [kw,v]=>∃a' kvs x,W.ref a=.ref a'/\M3 a'=aa (.dn X.prog X.w tl kvs)/\kw=gO tl x/\↥kvs<Au/\(∀w0,aQ kvs x=aa w0->R w0 M3)/\(aQ kvs x=ae->R v (put M3 a' (.dn X.prog X.w tl (kvs++[(x,v)]))))|_=>False,n.kp Y N,P,?_,λvs H2 ws M2 k2 i avs r=>?_⟩
 .exact O
 .match ws,r with
  | [kw,ww],⟨a',kvs,x,ea,e4,e5,hl,g1,g2⟩=>
   cases ea;let⟨y,z,rfl,ay,az⟩:=avs.two;exact⟨M2,R,(),kw,ww,a,kvs,x,y,z,i,rfl,rfl,ay,az,e4,e5,hl,g1,g2,rfl,k.kp (N.trans k2)⟩
end
section
variable {X:Cx}{af:Pn}{Z:St}{H:Hp}{s:Ak}{a d:Am}{es:↑(bQ×Am×V)}{tl:↑Int}{A:Cw}{E:Ae->Ak->Prop}
theorem zas{prog:Be}{w:Br}{J:Array Eg}{ep:Nat}{Q:Ae->Ak->Prop}(hd:(d==Fu)=ac)(P:gK s.heap d J ep)(H:Q (.ref ⇑s) {s with heap:=s.heap.push {cls:=.type "dict_values",data:=.fields #[.ref d]}}):Bm (De prog w) A (call (.builtin "dict.values") [.ref d]) Q E s:=
 Jj PySem.F.slot_dict_values P.typeIs PySem.F.entry_dict_values (PySem.F.args_dict_values_1 _) (S:=λ_ R U=>gK U.heap d J ep/\R (.ok (.ret (.ref ⇑U))) {U with heap:=U.heap.push {cls:=.type "dict_values",data:=.fields #[.ref d]}})
  (.of_wp λA R U ⟨g,n⟩=>by
   refine Aa ?_;unfold Builtin.Dict.noArgs;refine Aa (Hc g.typeIs (Ah ?_));show Bm _ _ (Kr d>>=_) _ _ _;unfold Kr;rw[Vy (by rw[hd];exact Bc)];exact Aa (Ah (Aa (Ds (Ah ⟨_,rfl,n⟩))))) ⟨P,H⟩
theorem rN(x:dG P w tl a es h):∃J ep,gK h a J ep/\J.size=↥es/\J.size<=Au/\(a==Fu)=ac/\
  (∀(j:Nat) (e:Eg),J[j]? = aa e->∃z:bQ×Am×V,es[j]? = aa z/\e.key=.ref z.2.1/\RelV z.2.2 e.val):=by
 let⟨o,J,ep,xs,O,L,h3,m,nx,_,l,i⟩:=x;have D:=Lh m;have T:=Dg nx;refine⟨J,ep,⟨o,O,L,h3⟩,by lia,by lia,i,λj e Z=>?_⟩;rw[Ti m j]at Z;let⟨q,N,rfl⟩:=Ba.mp Z;have key:∀{es:↑(bQ×Am×V)} {xs:↑(bQ×Am×Ae)} {j:Nat} {q:bQ×Am×Ae},NX es xs->xs[j]? = aa q->∃z,es[j]? = aa z/\z.2.1=q.2.1/\RelV z.2.2 q.2.2:=by
  intro es xs j q n
  induction n generalizing j with
  | nil=>intro h;simp at h
  | @cons p z ps g h t E=>
   intro hj;cases j with
   | zero=>simp at hj;subst hj;exact⟨p,rfl,h.2.1,h.2.2⟩
   | succ j=>rw[Ep]at hj⊢;exact E hj
 let⟨z,W,C,f⟩:=key nx N;exact⟨z,W,by show Value.ref q.2.1=_;rw[C],f⟩
theorem zF{n:Nat}{P:Nat->Ae->Prop}{b:Du->Prop}(hc:X.calm=ab)(I:Inv X af Z H s)(S:PySem.W.KdlSrc X.prog X.w T r d n P b)(ok:b s.heap)(hn:n<=Au)(J:↥xs=n)(R:∀j v,P j v->∃x,xs[j]? = aa x/\RelV x v)(q:∀l,H l=ae->Q (.ref l) (aL H l (.lst xs))):X.a (call (.type "list") [.ref r]) (EP X af Z Q) X.xe s:=by
 refine PySem.W.kdl_call S (I.ok.hd hc) ok hn λh' tk f Y hk M N=>?_;refine⟨.ref ⇑s,_,I.laid (o:=.lst xs) (t':=tk) hk (Ai _) ⟨by rw[J];exact hn,f.toList,Y,?_,by rw[He];exact M⟩,rfl,q _ (I.hok.fresh (Ai _))⟩;refine oZ (by have O:=N.1;have L:↥f.toList=f.size:=Ey;lia) λj v c=>?_;exact R j v (N.2 j v (by rw[<-Fd];exact c))
end
section
variable {X:Cx}
abbrev G0(P:Be)(w:Br)(tl:↑Int)(to:aR):aR:=λU M R=>to U M λd I=>∃a kvs,d=.ref a/\I a=aa (.dn P w tl kvs)/\∀p,I p=ae->R (.ref p) (put I p (.vw a))
theorem zat(f:E3 X o to)(W:Gq o "values" X.env (Ef o X.env)=Ef o X.env:=by rfl)(y:(apos.endLine==cpos.line)=ab:=by rfl):
  E3 X (.Call (.Attribute o "values" apos) [] [] cpos) (G0 X.prog X.w tl to):=by
 have S:e8 X "dict.values" (λx vs H Q=>∃M R a kvs,AM X.K H M/\x=.ref a/\vs=[]/\M a=aa (.dn X.prog X.w tl kvs)/\(∀p,M p=ae->R (.ref p) (put M p (.vw a)))/\Up X.K H M R Q):=by
  rintro af s Z H x vs v us Q I G rs ⟨M,R,a,kvs,Y,rfl,rfl,e,h,k⟩;cases (show v=Value.ref a from G);cases rs;let⟨es,D,q⟩:=Y _ _ e;let⟨C,ep,T,_,_,b,_⟩:=rN (pO I D);have hf:=I.hok.fresh (Ai ⇑s);let⟨E,t⟩:=Y.laid (o:=.vw a) (u:=.ext λh=>h.IsValuesView ⇑s a) hf b8;refine zas b T ⟨.ref ⇑s,_,I.laid (a:=⇑s) (o:=.ext λh=>h.IsValuesView ⇑s a) (t':=s.toks) (λ_ _ z=>Af _ z) (Ai _) ⟨⟨_,Az _ rfl,rfl,rfl⟩,⟨_,Az _ rfl⟩,λO L ⟨o,f,r⟩ n=>⟨o,n o f,r⟩⟩,rfl,k _ _ _ _ t E (.ref _) (h _ (Y.nonM hf))⟩
 refine(zal (tq:=λx H=>∃a es,x=.ref a/\H a=aa (.ext (dG X.prog X.w tl a es))) Nk PySem.F.slot_dict_values PySem.F.type_dict_values S f (λaf Z H s x v I r h=>GY I r h) W y).weak ?_;rintro Z H Q ⟨U,M,R,J,Y,h,k⟩;refine⟨U,M,_,J,Y,h,λd j wd B V P c A=>?_⟩;let⟨a,kvs,D,g,O⟩:=A;subst D;cases c;let⟨es,l,q⟩:=P _ _ g;exact⟨⟨a,es,rfl,l⟩,B,R,a,kvs,P,rfl,rfl,g,O,k.kp V⟩
def zG(P:Be)(w:Br)(tl:↑Int):↑W->Mm->K3->Prop
 | [.ref a],M,R=>(∃kvs,M a=aa (.dn P w tl kvs)/\aP (kvs.map λp=>gO tl p.1) M R)\/∃d kvs,M a=aa (.vw d)/\M d=aa (.dn P w tl kvs)/\aP (kvs.map λp=>p.2) M R
 | _,_,_=>False
theorem zau(hc:X.calm=ab):cR X (.type "list") (e9 X.K (zG X.prog X.w tl)):=by
 rintro af s Z H xs us Q I rs ⟨ws,M,R,Y,S,h,k⟩
 match ws,h with
 | [.ref a],h=>
  let⟨v,rfl,av⟩:=S.one;cases av;let⟨u,rfl,ru⟩:=vals1 rs;cases (show u=Value.ref a from ru);rcases h with⟨kvs,e,r⟩|⟨d,kvs,F,e,r⟩
  .let⟨es,D,q⟩:=Y _ _ e;let⟨J,ep,T,O,L,b,g⟩:=rN (pO I D);refine zF hc I (EA (es:=J) (ep:=ep) b) T L (xs:=es.map λe=>V.ref e.2.1) (by rw[Ab];exact O.symm) (λj v A=>?_) λl hl=>gL Y k hl (PN.keys q) r;let⟨en,U,c⟩:=A;let⟨z,W,P,_⟩:=g j en U;exact⟨.ref z.2.1,by rw[Ay,W];rfl,by rw[c,P];rfl⟩
  .let⟨es,D,q⟩:=Y _ _ e;have B:H a=aa (.ext λh=>h.IsValuesView a d):=Y _ _ F;have c:s.heap.IsValuesView a d:=(show b5 X.prog X.w H s.heap a (.ext λh=>h.IsValuesView a d) from I.hok a _ B).1;let⟨J,ep,T,O,L,b,g⟩:=rN (pO I D);refine zF hc I (VS (r:=a) (d:=d) (es:=J) (ep:=ep)) ⟨c,T⟩ L (xs:=es.map λe=>e.2.2) (by rw[Ab];exact O.symm) (λj v C=>?_) λl hl=>gL Y k hl (PN.vals q) r;let⟨en,U,c⟩:=C;let⟨z,W,_,f⟩:=g j en U;exact⟨z.2.2,by rw[Ay,W];rfl,by rw[c];exact f⟩
end
end L2
namespace PySem
namespace Tr
open PySem.AutoSeq1 (wpAny_loadPart')
section
variable {prog:Be}{w:Br}{A:Cw}{E:Ae->Ak->Prop}{s:Ak}
theorem zav{Q:↑Ae->Ak->Prop}{r:Am}{n:Nat}{b:Int}{t u v:Uu}(hh:A.handled=ae)(hr:IsRange s.heap r 0 b 1 t u v)(hsm:Builtin.Range.small 0 b 1=ab)(hn:Ic 0 b 1=n)(hl:n<=2 ^ 24)(hQ:∀h' tk acc',(∀c o,s.heap.get? c=aa o->h'.get? c=aa o)->Qt (λi v=>∃t,v=.int (0+i*1) t) acc' n->Q acc'.toList {s with heap:=h',toks:=tk}):
  Bm (De prog w) A (collect (.ref r)) Q E s:=by
 unfold collect;refine Aa (wpAny_runValue (Li F.entry_proto_collect ?_));rw[Ie F.plain_proto_collect _];show Bm _ A.in1 (newList []>>=λl=>again (.builtin "list.__iadd__" ⟨[l,.ref r],[]⟩)) _ _ s;refine Aa (Ds (Ah ⟨Mo F.plain_list_iadd _,Li F.entry_list_iadd ?_⟩));rw[Ie F.plain_list_iadd _];show Bm _ A.in1 (Iy (.ref ⇑s) (.ref r) (.ref ⇑s)) _ _ _;have g0:(s.heap.push {cls:=.type "list",data:=.seq ([]:↑Ae).toArray}).get? ⇑s=aa {cls:=.type "list",data:=.seq #[] 0}:=Az _ rfl;have last:∀(h':Du) (tk:Nat) (acc:Array Ae) (c:Nat),(∀b o,b≠⇑s->(s.heap.push {cls:=.type "list",data:=.seq ([]:↑Ae).toArray}).get? b=aa o->h'.get? b=aa o)->h'.get? ⇑s=aa {cls:=.type "list",dict:=ae,data:=.seq acc c,slots:=#[]}->Qt (λi v=>∃t,v=.int (0+i*1) t) acc n->
   Bm (De prog w) A (match Value.ref ⇑s with
   | Value.ref a=>do
    match (<-load a).data with
     | Data.seq xs _=>pure xs.toList
     | _=>unsupported "internal:collect"
   | _=>unsupported "internal:collect") Q E {s with heap:=h',toks:=tk}:=by
  intro h' tk acc c hk hS hacc;show Bm _ A (load ⇑s>>=_) _ _ _;exact Aa (wpAny_load hS (Ah (hQ h' tk acc (λb o e=>hk b o (Bn (Bd e)) (Af _ e)) hacc)))
 refine Iw (wpAny_extend_range (A:=A) (R:=λq s'=>∃h' tk acc c,q=.ok (.ret (.ref ⇑s))/\s' = {s with heap:=h',toks:=tk}/\(∀b o,b≠⇑s->(s.heap.push {cls:=.type "list",data:=.seq ([]:↑Ae).toArray}).get? b=aa o->h'.get? b=aa o)/\h'.get? ⇑s=aa {cls:=.type "list",dict:=ae,data:=.seq acc c,slots:=#[]}/\Qt (λi v=>∃t,v=.int (0+i*1) t) acc n)
  (s:={s with heap:=s.heap.push {cls:=.type "list",data:=.seq ([]:↑Ae).toArray}}) hh (Af _ hr) hsm hn hl _ (.ref ⇑s) 0 g0 λh' tk acc c hk hS hacc=>⟨h',tk,acc,c,rfl,rfl,hk,hS,hacc⟩) (λfin s' h=>?_) (λe s' h=>?_)
 .cases fin with
  | done f=>
   let⟨h',tk,acc,c,e,rfl,q1,q2,q3⟩:=h;cases e;exact last h' tk acc c q1 q2 q3
  | again c'=>exact⟨h.1,Pm h.2 λq s'' hr=>by let⟨h',tk,acc,c,rfl,rfl,q1,q2,q3⟩:=hr;exact last h' tk acc c q1 q2 q3⟩
 .let⟨h',tk,acc,c,e,_⟩:=h;cases e
theorem made{r:Am}{n:Nat}{b:Int}{t u v:Uu}{Q:Ae->Ak->Prop}(hh:A.handled=ae)(T:IsRange s.heap r 0 b 1 t u v)(x:Builtin.Range.small 0 b 1=ab)(hn:Ic 0 b 1=n)(hl:n<=2 ^ 24)(h:∀(h':Du) (tk:Nat) (acc:Array Ae),(∀c o,s.heap.get? c=aa o->h'.get? c=aa o)->Qt (λi v=>∃t,v=.int (0+i*1) t) acc n->Q (.ref h'.objs.size) {s with heap:=h'.push {cls:=.type "tuple",data:=.seq acc},toks:=tk}):
  Bm (De prog w) A (call (.type "tuple") [.ref r]) Q E s:=by
 refine callType_newIn F.called_tuple ∅ (F.typeCall_tuple_1 _) (F.newCall_tuple_1 _) (λobj=>Qh obj _) F.entry_tuple_new
  (S:=λA R s=>A.handled=ae/\IsRange s.heap r 0 b 1 t u v/\∀(h':Du) (tk:Nat) (acc:Array Ae),(∀c o,s.heap.get? c=aa o->h'.get? c=aa o)->Qt (λi v=>∃t,v=.int (0+i*1) t) acc n->R (.ok (.ret (.ref h'.objs.size))) {s with heap:=h'.push {cls:=.type "tuple",data:=.seq acc},toks:=tk})
  (.of_wp λA R s h=>?_) ⟨hh,T,λh' tk acc hk N=>⟨⟨_,Az _ rfl,rfl⟩,h h' tk acc hk N⟩⟩
 let⟨G,g,d,tk,os⟩:=s;let⟨p,ht,h⟩:=h;have z:=sub_tuple_self;have a:=init_tuple_lookup;have e:=madeHere_tuple;have I:Shared.TypeIs ⟨G,g,d,tk,os⟩ (.ref r) "range":=⟨_,ht,rfl⟩
 wp_walk using wpAny_loadPart' ht,Lx I,zav (A:=A.in1) p ht x hn hl
 intro h' tk acc hk N;show Bm _ _ (Gn acc.toList.toArray>>=λv=>ret v) _ _ _;unfold Gn;refine Aa (Ds ?_ (by show acc.toList.toArray.size<=Au;rw[He,N.1,Ke];exact hl));refine Ah ⟨_,rfl,?_⟩;rw[He];exact h h' tk acc hk N
end
end Tr
end PySem
namespace L2
section
variable {X:Cx}{a:Ck}{ta:TA}{p p2 pos pos2:Hv}
def zaw(ta:TA):TE:=λC H Q=>ta C H λvs j=>∃n:Nat,vs=[.int n]/\n<=1000/\∀q,j q=ae->Q (.ref q) (aL j q (.tup ((Cp n).map λ(i:Nat)=>V.int i)))
theorem zax(hc:X.calm=ab)(hg:Gl X "tuple")(hm:X.mg "tuple" = ae)(hg2:Gl X "range")(hm2:X.mg "range" = ae)(ha:PA X [a] ta)(hs1:Ci [.Call (.Name "range" p2) [a] [] pos2] X.env=[(ac,Ef (.Call (.Name "range" p2) [a] [] pos2) X.env)]:=by rfl)(hs2:Ci [a] X.env=[(ac,Ef a X.env)]:=by rfl):
  PE X (.Call (.Name "tuple" p) [.Call (.Name "range" p2) [a] [] pos2] [] pos) (zaw ta):=by
 intro af s Z H Q I h;refine Dy (gE I hg hm (by decide +kernel:Cu "tuple" = aa (.type "tuple")) (Cd ?_ hs1 rfl));rw[hs1];refine Kq (Dy (gE I hg2 hm2 (by decide +kernel:Cu "range" = aa (.type "range")) (Cd (aZ (ha pos2 af s Z H _ I h) λus s1 z0=>?_) hs2 rfl)));let⟨vs,H1,I1,r1,q1⟩:=z0;let⟨n,rfl,hn,q⟩:=q1;let⟨u,rfl,ru⟩:=vals1 r1;let⟨t,rfl⟩:=ru;refine Us (Lf ?_);have sz:Ic 0 (n:Int) 1=(n:Nat):=by rw[Tz];split<;>lia
 refine Tr.made (n:=n) (b:=(n:Int)) (I1.ok.hd hc) (Tb _ _ _ _ _ _ _) (PySem.small_one ∅ ∅ (by lia) (by lia)) sz (by lia) λh' tk acc hk hacc=>?_;have up:∀b o,s1.heap.get? b=aa o->h'.get? b=aa o:=λb o e=>hk b o (Af _ e);have le:⇑s1<=h'.objs.size:=by
  exact Ht (Bd (hk ⇑s1 _ (Az _ rfl)))
 refine⟨.ref h'.objs.size,_,I1.laid (a:=h'.objs.size) (o:=.tup ((Cp n).map λ(i:Nat)=>V.int i)) (t':=tk) (λb o e=>Af _ (up b o e)) le ⟨by simp[Ke];lia,acc.toList,?_,⟨_,Az _ rfl,rfl,0,by simp⟩⟩,rfl,q _ (I1.hok.fresh le)⟩;refine oZ (by simp[hacc.1]) λj v hv=>?_;have hv':acc[j]? = aa v:=by simpa using hv
 let⟨t',rfl⟩:=hacc.2 j v hv';have hj:j<n:=by have:=(Hu.mp hv').1;rw[hacc.1]at this;exact this
 refine⟨.int j,?_,t',by simp⟩;simp[hj]
end
section
variable {X:Cx}{a:Ck}{ta:aR}
abbrev G1(ta:aR):aR:=λU M R=>ta U M λw I=>∃n:Nat,w=.int n/\n<=1000/\R (.tup ((Cp n).map λ(i:Nat)=>W.int i)) I
theorem zay{p p2 pos pos2:Hv}(hg:Gl X "tuple")(S:X.mg "tuple" = ae)(d:Gl X "range")(Z:X.mg "range" = ae)(m:E3 X a ta)(hc:X.calm=ab:=by rfl)(y:Ci [.Call (.Name "range" p2) [a] [] pos2] X.env=[(ac,Ef (.Call (.Name "range" p2) [a] [] pos2) X.env)]:=by rfl)(D:Ci [a] X.env=[(ac,Ef a X.env)]:=by rfl):
  E3 X (.Call (.Name "tuple" p) [.Call (.Name "range" p2) [a] [] pos2] [] pos) (G1 ta):=
 (zax hc hg S d Z (pC m qZ (D.trans rfl)) y D).weak λC H Q A=>A.el λU M R J Y h k=>⟨U,M,λws I=>match ws with | [w]=>∃n:Nat,w=.int n/\n<=1000/\R (.tup ((Cp n).map λ(i:Nat)=>W.int i)) I|_=>False,J,Y,h,λvs j ws I B P t r=>by
  match ws,r with
  | [w],⟨n,e,hn,r⟩=>
   subst e;let⟨v,rfl,av⟩:=t.one;obtain rfl:=av.inv;refine⟨n,rfl,hn,λq N=>?_⟩;let⟨g,F⟩:=P.tup (u:=.tup ((Cp n).map λ(i:Nat)=>V.int i)) N;refine k _ _ _ _ (B.trans F) g (.tup b8 ?_) r;have:∀l:↑Nat,aK X.K (aL j q (.tup ((Cp n).map λ(i:Nat)=>V.int i))) I (l.map λ(i:Nat)=>V.int i) (l.map λ(i:Nat)=>W.int i):=by
    intro l
    induction l with
    | nil=>exact .nil
    | cons i r E=>exact .cons (.int _) E
   exact this _⟩
def G2:↑W->Mm->K3->Prop
 | [.ref a],M,R=>∃kvs:↑(↑aC×W),M a=aa (.dT kvs)/\aP (kvs.map λp=>.tup (p.1.map wK)) M R
 | _,_,_=>False
theorem zaz(hc:X.calm=ab):cR X (.type "list") (e9 X.K G2):=by
 rintro B s C H xs us Q I rs ⟨ws,M,R,Y,d,h,k⟩
 match ws,h with
 | [.ref a],⟨kvs,e,r⟩=>
  let⟨v,rfl,av⟩:=d.one;obtain rfl:=av.inv;let⟨u,rfl,ru⟩:=vals1 rs;cases (show u=Value.ref a from ru);let⟨ks,D,q⟩:=Y _ _ e;let⟨z,b,ys,i,x⟩:=qO I.hok D;let⟨o,J,ep,f,O,hd,Z,_,_⟩:=x;have U:=Lh Z;have N:=Dg i;refine zF hc I (EA (es:=J) (ep:=ep) b) ⟨o,f,O,hd⟩ (by lia) (xs:=ys.map λy=>V.ref y.2.1) (by rw[Ab];lia) (λj v ⟨en,G,c⟩=>?_) λl hl=>gL Y k hl ?_ r
  .rw[Ti Z j]at G;let⟨y,T,rfl⟩:=Ba.mp G;exact⟨.ref y.2.1,by rw[Ay,T];rfl,by rw[c];rfl⟩
  .have:∀{ks:↑(↑aC×V)} {kvs:↑(↑aC×W)} {ys:↑(↑aC×Am×Ae)},bS X.K H M (↑aC) ks kvs->KT H ks ys->aK X.K H M (ys.map λy=>V.ref y.2.1) (kvs.map λp=>.tup (p.1.map wK)):=by
    intro ks kvs ys q
    induction q generalizing ys with
    | nil=>intro i;cases i;exact .nil
    | @cons p z ps A h t E=>
     intro i;cases i with
     | @cons _ y _ m g t'=>
      refine .cons ?_ (E t');have P:=g.2.1;rw[h.1]at P;exact .tup P (uS z.1)
   exact this q i
end
end L2
namespace PySem
namespace Zd
open L2 Zt
section
variable {prog:Be}{w:Br}{A:Cw}{E:Ae->Ak->Prop}{s:Ak}
variable {z TI TO i1 i2 l1 l2:Am}{xs ys:Array Ae}{S1 S2:Nat->Du->Prop}
abbrev pP(h:Du)(z TI TO p:Am)(b:Bool):Prop:=
 h.get? z=aa {cls:=.type "zip",dict:=ae,data:=.fields #[Hr p,.bool b,.bool ac,.ref TI,.ref TO],slots:=#[]}
theorem G3{p:Am}{o:Ms}{b:Bool}{Q:Bool->Ak->Prop}(hz:pP s.heap z TI TO p b)(G:s.heap.get? p=aa o)(h:∀h',pP h' z TI TO p ab->Ek z s.heap h'->Q ac {s with heap:=h'}):
  Bm (De prog w) A (Dc (.ref z)) Q E s:=by
 unfold Dc;refine Aa (Dv hz rfl (x:=Hr p) rfl ?_);show Bm _ _ (loadIfAlive ((p:Int).toNat)>>=_) _ _ _;rw[Dl];refine Aa (PySem.W.kdx_alive G ?_);simp only[Option.isNone_some,Fm,if_false];refine Aa (Dv hz rfl (x:=.bool b) rfl ?_);cases b with
 | true=>
  rw[Vy (show ¬((Value.bool ab !=Value.bool ab)=ab) from Bc)];exact Ah (h _ hz (Heap.SameBut.refl _ _))
 | false=>
  rw[Vz (show(Value.bool ac !=Value.bool ab)=ab from rfl)];exact Aa (Fs hz (by simp) λh' P u=>Ah (h h' P u))
theorem zaA{k:Nat}{x y:Ae}{p:Am}{o:Ms}{b:Bool}{Q:Ae->Ak->Prop}(D:Zt.Apart z TI TO i1 i2 l1 l2)(r:eV prog w i1 l1 xs S1)(n:eV prog w i2 l2 ys S2)(hz:pP s.heap z TI TO p b)(G:s.heap.get? p=aa o)(h:Ia s.heap TI (.ref i1) (.ref i2))(O:S1 k s.heap)(L:S2 k s.heap)(J:xs[k]? = aa x)(K:ys[k]? = aa y)(H:∀h',pP h' z TI TO p ab->S1 (k+1) h'->S2 (k+1) h'->Ia h' ⇑s x y->(∀c o,c≠z->c≠i1->c≠i2->s.heap.get? c=aa o->h'.get? c=aa o)->Q (.ref ⇑s) {s with heap:=h'}):
  Bm (De prog w) A (Ha.«zip.__next__» ⟨[.ref z],[]⟩) (λfin j=>∃v,fin=.done (.ret v)/\Q v j) E s:=by
 have nd:=D.nd;simp only[Cj,Aw,Em,or_false,not_or,not_false_eq_true,Eo,and_true]at nd;obtain⟨⟨zI,d,C,R⟩,⟨IO,M,i⟩,⟨O1,O2⟩,T⟩:=nd;let⟨m,aI,aO,t,Z⟩:=D.a;let⟨bz,bI,bO,l,I⟩:=D.b;have B:∀c,c=i1\/c=l1->c≠z/\c≠i2:=λc hc=>by
  rcases hc with rfl|rfl
  .exact⟨Ca C,T⟩
  .exact⟨m,Z⟩
 have F:∀c,c=i2\/c=l2->c≠z/\c≠i1:=λc hc=>by
  rcases hc with rfl|rfl
  .exact⟨Ca R,Ca T⟩
  .exact⟨bz,l⟩
 show Bm _ _ (Rh (.ref z) 2>>=λq=>_) _ _ _;refine Aa (Dv hz rfl (x:=.bool ac) rfl ?_);show Bm _ _ (Rh (.ref z) 3>>=λq=>_) _ _ _;refine Aa (Dv hz rfl (x:=.ref TI) rfl (Aa (Fe h rfl ?_)));show Bm _ _ (Dc (.ref z)>>=λq=>_) _ _ _;refine Aa (G3 hz G λW g U=>?_);simp only[Fm,if_false];refine Aa ?_;rw[<-Ks];simp only[Ko,Pg];refine Aa (Aa (Dq ?_));show Bm _ _ (Dh (.ref i1)>>=λq=>_) _ _ _;refine Aa (r.item _ _ {s with heap:=W} k x _ (r.keep k _ _ O λc hc o e=>U.extBut c o (B c hc).1 e) J λP X Y=>Ah ?_);refine Ah ?_;refine Aa (Aa (Dq ?_));show Bm _ _ (Dh (.ref i2)>>=λq=>_) _ _ _;refine Aa (n.item _ _ {s with heap:=P} k y _ (n.keep k _ _ L λc hc o e=>Y.extBut c o (F c hc).2 (U.extBut c o (F c hc).1 e)) K λf t3 N=>Ah ?_);refine Ah (Ah ?_);refine Aa (wpAny_newTuple (Ah ⟨_,rfl,?_⟩) (hsz:=by show 2<=Au;decide));have size3:f.objs.size=⇑s:=by rw[N.1,Y.1,U.1]
 have up:∀c o,c≠z->c≠i1->c≠i2->s.heap.get? c=aa o->(f.push {cls:=.type "tuple",data:=.seq #[x,y]}).get? c=aa o:=λc o S u V e=>Af _ (N.extBut _ _ V (Y.extBut _ _ u (U.extBut _ _ S e)));show Q (.ref f.objs.size) _;rw[size3];refine H _ (Af _ (N.extBut _ _ R (Y.extBut _ _ C g))) (r.keep _ _ _ X λc hc o e=>Af _ (N.extBut _ _ (B c hc).2 e)) (n.keep _ _ _ t3 λc hc o e=>Af _ e) ?_ up;rw[<-size3];exact Az _ rfl
theorem zaB{k:Nat}{p:Am}{o:Ms}{b:Bool}{Q:Fin->Ak->Prop}(hh:A.handled=ae)(D:Zt.Apart z TI TO i1 i2 l1 l2)(r:eV prog w i1 l1 xs S1)(n:eV prog w i2 l2 ys S2)(hz:pP s.heap z TI TO p b)(G:s.heap.get? p=aa o)(j:Ia s.heap TI (.ref i1) (.ref i2))(O:S1 k s.heap)(h:xs[k]? = ae)(t:∀h' e,(∀c o,c≠z->c≠i1->s.heap.get? c=aa o->h'.get? c=aa o)->(∃o,h'.get? e=aa o/\o.cls=.type "StopIteration")->E (.ref e) {s with heap:=h'}):
  Bm (De prog w) A (Ha.«zip.__next__» ⟨[.ref z],[]⟩) Q E s:=by
 have nd:=D.nd;simp only[Cj,Aw,Em,or_false,not_or,not_false_eq_true,Eo,and_true]at nd;obtain⟨⟨F,v,C,R⟩,⟨y,M,i⟩,⟨l,N⟩,T⟩:=nd;let⟨m,I,H,f,d⟩:=D.a;have B:∀c,c=i1\/c=l1->c≠z/\c≠i2:=λc hc=>by
  rcases hc with rfl|rfl
  .exact⟨Ca C,T⟩
  .exact⟨m,d⟩
 show Bm _ _ (Rh (.ref z) 2>>=λq=>_) _ _ _;refine Aa (Dv hz rfl (x:=.bool ac) rfl ?_);show Bm _ _ (Rh (.ref z) 3>>=λq=>_) _ _ _;refine Aa (Dv hz rfl (x:=.ref TI) rfl (Aa (Fe j rfl ?_)));show Bm _ _ (Dc (.ref z)>>=λq=>_) _ _ _;refine Aa (G3 hz G λW g U=>?_);simp only[Fm,if_false];refine Aa ?_;rw[<-Ks];simp only[Ko,Pg];refine Aa (Aa (Dq ?_));show Bm _ _ (Dh (.ref i1)>>=λq=>_) _ _ _;exact Aa (r.stop _ _ {s with heap:=W} k _ hh (r.keep k _ _ O λc hc o e=>U.extBut c o (B c hc).1 e) h λP e Y Z=>t P e (λc o S V u=>Y _ _ V (U.extBut _ _ S u)) Z)
def Zs(d z TI TO i1 i2:Am)(S1 S2:Nat->Du->Prop)(k:Nat)(h:Du):Prop:=
 Ia h TI (.ref i1) (.ref i2)/\S1 k h/\S2 k h/\d<h.objs.size/\z<h.objs.size/\TO<h.objs.size/\i1<h.objs.size/\i2<h.objs.size/\
  ((Qn h z TI TO .none/\∃a b,Ia h TO a b)\/∃p b o,pP h z TI TO p b/\h.get? p=aa o/\p≠z/\p≠TO/\p≠i1/\p≠i2/\p≠d)
theorem next{d:Am}{k:Nat}{x y:Ae}{Q:Option Ae->Ak->Prop}(D:Zt.Apart z TI TO i1 i2 l1 l2)(r:eV prog w i1 l1 xs S1)(n:eV prog w i2 l2 ys S2)(st:Zs d z TI TO i1 i2 S1 S2 k s.heap)(J:xs[k]? = aa x)(K:ys[k]? = aa y)(H:∀h',Zs d z TI TO i1 i2 S1 S2 (k+1) h'->Ia h' ⇑s x y->(∀c o,c≠z->c≠TO->c≠i1->c≠i2->s.heap.get? c=aa o->h'.get? c=aa o)->Q (aa (.ref ⇑s)) {s with heap:=h'}):
  Bm (De prog w) A (Hy (.ref z)) Q E s:=by
 have nd:=D.nd;simp only[Cj,Aw,Em,or_false,not_or,not_false_eq_true,Eo,and_true]at nd;obtain⟨⟨F,v,C,R⟩,⟨IO,M,i⟩,⟨e,N⟩,h⟩:=nd;let⟨j,U,Y,ld,I,lO,m,q,st⟩:=st;rcases st with⟨hz,a,b,t⟩|⟨p,b,o,hz,G,O,p2,X,L,p5⟩
 .refine next_item D r n hz j t U Y J K λh' S u V g f Z=>H h' ?_ f Z;have l:=Bd f;exact⟨Z _ _ (Ca F) IO M i j,V,g,Gg ld l,Gg I l,Gg lO l,Gg m l,Gg q l,.inr ⟨⇑s,ac,_,S,f,Cq I,Cq lO,Cq m,Cq q,Cq ld⟩⟩
 .have ty:s.TypeIs (.ref z) "zip":=⟨_,hz,rfl⟩;unfold Hy;refine Aa (Hj (Cy (name:=Bz "__next__") ty Ik (Cr Ik ty Ov (zaA D r n hz G j U Y J K λh' S u V g f=>Ah (H h' ?_ g λc o B T P W=>f c o B P W)) (Ny _))));have l:=Bd g;exact⟨f _ _ (Ca F) M i j,u,V,Gg ld l,Gg I l,Gg lO l,Gg m l,Gg q l,.inr ⟨p,ab,o,S,f p o O X L G,O,p2,X,L,p5⟩⟩
theorem done{d:Am}{k:Nat}{Q:Option Ae->Ak->Prop}(hh:A.handled=ae)(D:Zt.Apart z TI TO i1 i2 l1 l2)(r:eV prog w i1 l1 xs S1)(n:eV prog w i2 l2 ys S2)(st:Zs d z TI TO i1 i2 S1 S2 k s.heap)(J:xs[k]? = ae)(H:∀h',(∀c o,c≠z->c≠TO->c≠i1->c≠i2->s.heap.get? c=aa o->h'.get? c=aa o)->Q ae {s with heap:=h'}):
  Bm (De prog w) A (Hy (.ref z)) Q E s:=by
 let⟨j,U,Y,i,I,lO,m,q,st⟩:=st;rcases st with⟨hz,a,b,t⟩|⟨p,b,o,hz,G,O,p2,X,L,u⟩
 .exact next_stop hh D r n hz j t U Y (.inl J) H
 .have ty:s.TypeIs (.ref z) "zip":=⟨_,hz,rfl⟩;unfold Hy;refine Aa (Hj (Cy (name:=Bz "__next__") ty Ik (Cr Ik ty Ov (zaB (xs:=xs) hh D r n hz G j U J λh' e hk ⟨o,f,hc⟩=>?_) (Ny _))));exact Aa (Fx (T:="StopIteration") (b:=ab) ⟨o,f,hc⟩ Ql (Ah (H _ λc o B g P l=>hk c o B P)))
theorem Zs.at{d:Am}{k:Nat}{h h':Du}(D:Zt.Apart z TI TO i1 i2 l1 l2)(r:eV prog w i1 l1 xs S1)(n:eV prog w i2 l2 ys S2)(hd:d≠z/\d≠TI/\d≠TO/\d≠i1/\d≠i2/\d≠l1/\d≠l2)(st:Zs d z TI TO i1 i2 S1 S2 k h)(F:Ek d h h'):Zs d z TI TO i1 i2 S1 S2 k h':=by
 let⟨j,U,Y,i,I,lO,m,q,st⟩:=st;let⟨B,v,g,x,f,s,l⟩:=hd;refine⟨(F.2 _ (Ca v)).trans j,r.keep _ _ _ U λc hc o e=>(F.2 c ?_).trans e,n.keep _ _ _ Y λc hc o e=>(F.2 c ?_).trans e,by rw[F.1];exact i,by rw[F.1];exact I,by rw[F.1];exact lO,by rw[F.1];exact m,by rw[F.1];exact q,?_⟩
 .rcases hc with rfl|rfl
  .exact Ca x
  .exact Ca s
 .rcases hc with rfl|rfl
  .exact Ca f
  .exact Ca l
 .rcases st with⟨hz,a,b,t⟩|⟨p,b,o,hz,G,O,p2,X,L,u⟩
  .exact .inl ⟨(F.2 _ (Ca B)).trans hz,a,b,(F.2 _ (Ca g)).trans t⟩
  .exact .inr ⟨p,b,o,(F.2 _ (Ca B)).trans hz,(F.2 _ u).trans G,O,p2,X,L,u⟩
abbrev TK(prog:Be)(w:Br):=Ho (bU prog w)
def allH(es:↑(↑aC×Am×Ae))(ps:↑(↑aC×Am×Ae)):↑(↑aC×Am×Ae):=ps.foldl (λes p=>Ni es p.1 p.2.1 p.2.2) es
theorem zH(es:↑(↑aC×Am×Ae))(k:↑aC)(a:Am)(v:Ae):↥(Ni es k a v)<=↥es+1:=by
 unfold Ni;split
 .rw[Ab];lia
 .rw[Aj,Co];exact Ai _
theorem oF{h h':Du}{k:↑aC}{a:Am}(x:(TK prog w).is h k a)(e:∀o,h.get? a=aa o->h'.get? a=aa o):(TK prog w).is h' k a:=by
 let⟨o,items,n,f,r⟩:=x;exact⟨o,items,n,e o f,r⟩
theorem loop{d:Am}{ps:↑(↑aC×Am×Ae)}{R:To->Ak->Prop}(hh:A.handled=ae)(W:(TK prog w).room A.in1)(D:Zt.Apart z TI TO i1 i2 l1 l2)(r:eV prog w i1 l1 xs S1)(n:eV prog w i2 l2 ys S2)(hd:d≠z/\d≠TI/\d≠TO/\d≠i1/\d≠i2/\d≠l1/\d≠l2)(hz:↥ps<=Au)(J:∀j:Nat,xs[j]? = (ps[j]?).map λp=>.ref p.2.1)(K:∀j:Nat,ys[j]? = (ps[j]?).map λp=>p.2.2)(hk:∀p∈ps,p.2.1≠z/\p.2.1≠TO/\p.2.1≠i1/\p.2.1≠i2/\p.2.1≠d):
  ∀(m k:Nat) (s:Ak) (es:↑(↑aC×Am×Ae)),↥ps-k=m->k<=↥ps->↥es<=k->Zs d z TI TO i1 i2 S1 S2 k s.heap->s.heap.DictOfH (TK prog w) d es->(∀e∈es,e∈ps\/∃p∈ps,p.2.1=e.2.1)->
  (∀p∈ps,(TK prog w).is s.heap p.1 p.2.1)->
  (∀h' tk,(∀b o,b≠d->b≠z->b≠TO->b≠i1->b≠i2->s.heap.get? b=aa o->h'.get? b=aa o)->h'.DictOfH (TK prog w) d (allH es (ps.drop k))->R (.ok (.ret .none)) {s with heap:=h',toks:=tk})->
  Mp (De prog w) A (.builtin "dict.update.loop" ⟨[.ref d,.ref z,Hr (k:Int),.none],[]⟩) R s:=by
 intro m;have dictAt:∀{h h':Du} {es:↑(↑aC×Am×Ae)},h.DictOfH (TK prog w) d es->(∀e∈es,e∈ps\/∃p∈ps,p.2.1=e.2.1)->(∀c o,c≠z->c≠TO->c≠i1->c≠i2->h.get? c=aa o->h'.get? c=aa o)->h'.DictOfH (TK prog w) d es:=by
  rintro h h' es ⟨o,en,ep,f,hc,C,Z,V,hn⟩ M S;refine⟨o,en,ep,S d o hd.1 hd.2.2.1 hd.2.2.2.1 hd.2.2.2.2.1 f,hc,C,Z,λx H=>oF (V x H) λi e=>?_,hn⟩;have:x.2.1≠z/\x.2.1≠TO/\x.2.1≠i1/\x.2.1≠i2:=by
   rcases M x H with q|⟨p,q,g⟩
   .have:=hk x q;exact⟨this.1,this.2.1,this.2.2.1,this.2.2.2.1⟩
   .have:=hk p q;rw[g]at this;exact⟨this.1,this.2.1,this.2.2.1,this.2.2.2.1⟩
  exact S _ _ this.1 this.2.1 this.2.2.1 this.2.2.2 e
 induction m with
 | zero=>
  intro k s es S v hl st C M u hR;have X:k=↥ps:=by lia
  refine Li Dp.entry_loop ?_;rw[Ie Dp.plain_loop _];show Bm _ A.in1 (Hy (.ref z)>>=_) _ _ s;refine Aa (done hh D r n st (by rw[J,X];simp) λh' a=>?_);show Bm _ A.in1 (Builtin.Dict.addKeywords d []>>=_) _ _ _;refine Aa (Ah (Ah (hR h' _ (λb o _ Q U b3 t e=>a b o Q U b3 t e) ?_)));rw[List.drop_of_length_le (by lia)];exact dictAt C M a
 | succ m E=>
  intro k s es S v hl st C M u hR;have Y:k<↥ps:=by lia
  obtain⟨p,G⟩:∃p,ps[k]? = aa p:=⟨_,Bg Y⟩;have F:p∈ps:=Ao G;refine Li Dp.entry_loop ?_;rw[Ie Dp.plain_loop _];show Bm _ A.in1 (Hy (.ref z)>>=_) _ _ s;refine Aa (next D r n st (x:=.ref p.2.1) (y:=p.2.2) (by rw[J,G];rfl) (by rw[K,G];rfl) λh' l hpair a=>?_);have hdd':=dictAt C M a;have hkeys':∀q∈ps,(TK prog w).is h' q.1 q.2.1:=λq N=>oF (u q N) λo e=>a _ o (hk q N).1 (hk q N).2.1 (hk q N).2.2.1 (hk q N).2.2.2.1 e;show Bm _ A.in1 (Jv [Value.ref ⇑s] _>>=_) _ _ _;refine Aa (Dq (Aa (wpAny_tryCatch ?_)));unfold Builtin.Dict.pairItems;refine Aa (Lx (T:="tuple") ⟨_,hpair,rfl⟩ ?_);rw[Vz ∅];refine Aa (Fe hpair rfl (Ah ?_));show Bm _ _ (Jv [Value.ref p.2.1,p.2.2] (Vq d (.ref p.2.1) p.2.2)) _ _ _;refine Dq (Rm (knd:=TK prog w) W (hkeys' p F) hdd' (hsz:=by lia) λL hd3 P=>?_);have B:ps.drop k=p::ps.drop (k+1):=by rw[Fw Y];congr 1;exact(An.mp G).2
  refine Ah ⟨Mo Dp.plain_loop _,?_⟩;refine E (k+1) _ (Ni es p.1 p.2.1 p.2.2) (by lia) Y (by have:=zH es p.1 p.2.1 p.2.2;lia) (l.at D r n hd P) hd3 (λe Z=>?_) (λq N=>oF (hkeys' q N) λo e=>(P.2 _ (hk q N).2.2.2.2).trans e) λh3 tk3 hk3 hd4=>?_
  .unfold Ni at Z;split at Z
   .let⟨I,he0,rfl⟩:=Ar.mp Z;have:(Vp p.1 p.2.2 I).2.1=I.2.1:=by unfold Vp;split<;>rfl
    rw[this];rcases M I he0 with q|⟨p',q,g⟩
    .exact .inr ⟨I,q,rfl⟩
    .exact .inr ⟨p',q,g⟩
   .rcases Bb.mp Z with q|q
    .exact M e q
    .obtain rfl:=Ag.mp q;exact .inl F
  .refine hR h3 tk3 (λb o O Q U b3 t e=>hk3 b o O Q U b3 t ((P.2 b O).trans (a b o Q U b3 t e))) ?_;rw[B];exact hd4
end
end Zd
end PySem
namespace PySem
namespace Zd
open L2 Zt
open PySem.Sem (wp)
theorem zaC:Mf (.type "zip") "__getattr__" = pure ae:=by rw[Hq,Fi];kernel_rfl
theorem zaD:Mf (.type "zip") "keys" = pure ae:=by rw[Hq,Fi];kernel_rfl
theorem zaE:Vd table "zip.__getattribute__" = aa Ha.«object.__getattribute__»:=
 entryFor_alias (id':="object.__getattribute__") (by kernel_rfl) (by decide +kernel) (by decide +kernel) (by kernel_rfl)
theorem zaF(a:Am)(vs:Array Ae)(name:Av)(u:Uu)(c:Mf (.type "zip") name=pure ae)(b:(["__module__","__name__","__qualname__","__doc__","__annotations__"]:↑Av).contains name=ac)(hsz:↥name+100<=Au):
  Meets (Ha.«object.__getattribute__» ⟨[.ref a,.str name u],[]⟩) (λA R s=>s.heap.get? a=aa {cls:=.type "zip",dict:=ae,data:=.fields vs,slots:=#[]}/\raisesAttr (.ref a) name A R s):=
 Meets.of_wp λprog w A R s F=>by
  let⟨G,g,d,tk,os⟩:=s;let⟨J,F⟩:=F;have I:(⟨G,g,d,tk,os⟩:Ak).TypeIs (.ref a) "zip":=⟨_,J,rfl⟩;unfold Ha.«object.__getattribute__»
  repeat (any_goals (first|assumption|wp_step))
  simp only[b,Fm,if_false]
  repeat (any_goals (first|assumption|wp_step))
  exact wpAny_raiseAttrError F.1 F.2 (attrMsg_fits (by decide +kernel) hsz)
section
variable {prog:Be}{w:Br}{A:Cw}{E:Ae->Ak->Prop}{s:Ak}
theorem keys_miss{a:Am}{vs:Array Ae}{Q:Option Ae->Ak->Prop}(hx:s.heap.get? a=aa {cls:=.type "zip",data:=.fields vs})(hA:A.handled=ae)(h:∀h' tk,(∀b o,s.heap.get? b=aa o->h'.get? b=aa o)->Q ae {s with heap:=h',toks:=tk}):Bm (De prog w) A (Vc (.ref a) (Bz "keys")) Q E s:=by
 let⟨hp,g,d,tk,os⟩:=s;have hT:∀tk',(⟨hp,g,d,tk',os⟩:Ak).TypeIs (.ref a) "zip":=λ_=>⟨_,hx,rfl⟩
 have f1:=sub_AttributeError;have f3:=Ou.lookup;have f4:=Ou.bind (.ref a);have f5:=zaC;unfold Vc getAttrBy? getAttrBy
 repeat (any_goals (first|assumption|exact hT _|((with_reducible show Bm _ _ (call (Value.builtin "zip.__getattribute__") _ _) _ _ _);refine Kf Ou (hT _) zaE (F.args_zip_getattribute_2 _ _) (zaF a vs (Bz "keys") _ zaD (by decide +kernel) (by decide +kernel)) ⟨hx,hA,λh' tk' e hx'=>?_⟩)|wp_step))
 let⟨t',u',he⟩:=hx'.there;have hx2:=hx'.of.keeps;show Bm _ _ (Nu _ _ _ _ _ _ _) _ _ _;unfold Nu
 repeat (any_goals (first|assumption|wp_step))
 exact h _ _ hx2
theorem call_zip{l1 l2:Am}{xs ys:Array Ae}{ps:↑(↑aC×Am×Ae)}{Q:Ae->Ak->Prop}(hh:A.handled=ae)(hu:A.units+2<Fg)(h1:s.heap.IsList l1 xs)(h2:s.heap.IsList l2 ys)(hz:↥ps<=Au)(hx:∀j:Nat,xs[j]? = (ps[j]?).map λp=>.ref p.2.1)(hy:∀j:Nat,ys[j]? = (ps[j]?).map λp=>p.2.2)(hkeys:∀p∈ps,(TK prog w).is s.heap p.1 p.2.1)(h:∀h' tk d,⇑s<=d->(∀b o,s.heap.get? b=aa o->h'.get? b=aa o)->h'.DictOfH (TK prog w) d (allH [] ps)->Q (.ref d) {s with heap:=h',toks:=tk}):
  Bm (De prog w) A (call (.type "zip") [.ref l1,.ref l2]) (λv s1=>Bm (De prog w) A (call (.type "dict") [v]) Q E s1) E s:=by
 have la:@LT.lt Nat _ l1 ⇑s:=by let⟨_,e,_⟩:=h1;exact Bd e
 have lb:@LT.lt Nat _ l2 ⇑s:=by let⟨_,e,_⟩:=h2;exact Bd e
 refine call_zip_2 h1 h2 λg g1 g2 g3 g4 g5 g6 gk=>?_;refine Tn (Q₁:=λobj s₁=>obj=.ref g.objs.size/\s₁ = {s with heap:=g.push {cls:=.type "dict",data:=.dict #[]}}) F.kt_called_dict (F.kt_typeCall_dict_1 _) F.entry_dict_init (kt_code_dict_new _ ⟨rfl,rfl⟩) ?_;rintro obj s₁ ⟨rfl,rfl⟩;have hnew:(g.push {cls:=.type "dict",data:=.dict #[]}).DictOfH (TK prog w) g.objs.size []:=Heap.DictOfH.new g;have z1:=Af {cls:=.type "dict",data:=.dict #[]} g1;have hty:({s with heap:=g.push {cls:=.type "dict",data:=.dict #[]}}:Ak).TypeIs (.ref g.objs.size) "dict":=hnew.typeIs;refine⟨hty,F.args_dict_init_2 _ _,?_⟩;unfold Ha.«dict.__init__»;refine Aa ?_;unfold Builtin.Dict.selfAndRest;refine Aa (Hc hty ?_);show Bm _ _ (pure (g.objs.size,[Value.ref (⇑s+4)])) _ _ _;refine Ah ?_;show Bm _ _ (Ju "dict.__init__" g.objs.size (.ref (⇑s+4)) [] .none) _ _ _;unfold Ju;refine Aa (Lx (T:="zip") ⟨_,z1,rfl⟩ ?_);rw[Vz ∅];refine Aa (keys_miss z1 hh λk1 tk1 hk1=>?_);rw[Vz ∅];have up:∀b o,g.get? b=aa o->k1.get? b=aa o:=λb o e=>hk1 b o (Af _ e);refine Aa (Iv (Aa (Sj (up _ _ g1) ?_)));refine Ah ⟨Mo Dp.plain_loop _,?_⟩;have hd1:k1.DictOfH (TK prog w) g.objs.size []:=by
  let⟨o,es,ep,ho,r1,r2,r3,r4,r5⟩:=hnew;exact⟨o,es,ep,hk1 _ o ho,r1,r2,r3,(λx hx=>nomatch hx),r5⟩
 have lg:g.objs.size<k1.objs.size:=by
  let⟨o,es,ep,ho,_⟩:=hd1;exact Bd ho
 have D:Zt.Apart (⇑s+4) (⇑s+2) (⇑s+3) ⇑s (⇑s+1) l1 l2:=⟨EH _,⟨gJ 4 la,gJ 2 la,gJ 3 la,qS la,gJ 1 la⟩,⟨gJ 4 lb,gJ 2 lb,gJ 3 lb,qS lb,gJ 1 lb⟩⟩;have eg:g.objs.size=⇑s+5:=g6;have i1:k1.IsListIter ⇑s l1 0:=g4.at (up _);have i2:k1.IsListIter (⇑s+1) l2 0:=g5.at (up _);have ll1:k1.IsList l1 xs:=h1.at λo e=>up _ _ (gk _ _ e);have ll2:k1.IsList l2 ys:=h2.at λo e=>up _ _ (gk _ _ e);have lk:∀p∈ps,@LT.lt Nat _ p.2.1 ⇑s:=λp hp=>by
  let⟨o,items,n,e,_⟩:=hkeys p hp;exact Bd e
 refine loop (A:=A.in1) (d:=g.objs.size) (ps:=ps) hh (Ft (A:=A.in1) (show(A.units+1)+1<Fg from hu)) D (EG _ _ (qS la) xs) (EG _ _ (gJ 1 lb) ys) ⟨Cq (by lia),Cq (by lia),Cq (by lia),Cq (by lia),Cq (by lia),Cq (by lia),Cq (by lia)⟩ hz hx hy (λp hp=>by have:=lk p hp;exact⟨Bn (by lia),Bn (by lia),Bn (by lia),Bn (by lia),Bn (by lia)⟩) ↥ps 0 _ [] rfl (Cs _) (Ai _)
  ⟨up _ _ g2,⟨i1,ll1⟩,⟨i2,ll2⟩,lg,(show @LT.lt Nat _ (⇑s+4) k1.objs.size by lia),(show @LT.lt Nat _ (⇑s+3) k1.objs.size by lia),(show @LT.lt Nat _ ⇑s k1.objs.size by lia),(show @LT.lt Nat _ (⇑s+1) k1.objs.size by lia),.inl ⟨up _ _ g1,_,_,up _ _ g3⟩⟩ hd1 (λe he=>nomatch he) (λp hp=>oF (hkeys p hp) λo e=>up _ _ (gk _ _ e)) λh2 tk2 hk2 hd2=>?_
 refine⟨rfl,h h2 tk2 g.objs.size (by lia) (λb o e=>?_) hd2⟩;have lb':@LT.lt Nat _ b ⇑s:=Bd e;exact hk2 b o (Bn (by lia)) (Bn (by lia)) (Bn (by lia)) (Bn (by lia)) (Bn (by lia)) (up _ _ (gk _ _ e))
end
end Zd
end PySem
namespace L2
noncomputable def j6(ks:↑(↑aC×V))(ps:↑(↑aC×V)):↑(↑aC×V):=ps.foldl (λk p=>dZ k p.1 p.2) ks
theorem G4{H:Hp}:∀{qs:↑(↑aC×Am×V)} {us ws:↑Ae},a5 (qs.map λq=>V.ref q.2.1) us->a5 (qs.map λq=>q.2.2) ws->
  ∃ps:↑(↑aC×Am×Ae),us=ps.map (λp=>.ref p.2.1)/\ws=ps.map (λp=>p.2.2)/\Fz (λ(q:↑aC×Am×V) (p:↑aC×Am×Ae)=>q.1=p.1/\q.2.1=p.2.1/\RelV q.2.2 p.2.2) qs ps
 | [],_,_,O,L=>by cases O;cases L;exact⟨[],rfl,rfl,.nil⟩
 | q::qs,_,_,O,L=>by
  cases O with
  | @cons _ u _ us l U=>
   cases L with
   | @cons _ w _ ws R f=>
    let⟨ps,D,T,P⟩:=G4 (H:=H) U f;cases (show u=Value.ref q.2.1 from l);exact⟨(q.1,q.2.1,w)::ps,by rw[Bh,D],by rw[Bh,T],.cons ⟨rfl,rfl,R⟩ P⟩
theorem G5{H:Hp}{qs:↑(↑aC×Am×V)}{ps:↑(↑aC×Am×Ae)}(h:Fz (λ(q:↑aC×Am×V) (p:↑aC×Am×Ae)=>q.1=p.1/\q.2.1=p.2.1/\RelV q.2.2 p.2.2) qs ps):
  ∀{kvs:↑(↑aC×V)} {es:↑(↑aC×Am×Ae)},(∀q∈qs,H q.2.1=aa (.tup (q.1.map kV)))->KT H kvs es->KT H (j6 kvs (qs.map λq=>(q.1,q.2.2))) (Zd.allH es ps):=by
 induction h with
 | nil=>intro kvs es _ k;exact k
 | @cons q p qs ps r t E=>
  intro kvs es N k;let⟨g,n,L⟩:=q;let⟨O,p2,X⟩:=p;let⟨rfl,rfl,c⟩:=r;exact E (λz hz=>N z (Bj _ hz)) (k.put g (N _ Bl) c)
theorem zJ:∀(ps:↑(↑aC×V)) (ks:↑(↑aC×V)),↥(j6 ks ps)<=↥ks+↥ps
 | [],ks=>Ai _
 | p::ps,ks=>by
  have O:=zJ ps (dZ ks p.1 p.2);have L:=oV ks p.1 p.2;show(j6 (dZ ks p.1 p.2) ps).length<=↥ks+(↥ps+1);lia
section
variable {X:Cx}{a b:Ck}{ta:TA}{p p2 pos pos2:Hv}
def zaG(K:Ac)(ta:TA):TE:=λC H Q=>ta C H λvs j=>∃a b xs ys,∃qs:↑(↑aC×Am×V),vs=[.ref a,.ref b]/\bN K j a xs/\bN K j b ys/\xs=(qs.map λq=>.ref q.2.1)/\ys=(qs.map λq=>q.2.2)/\(∀q∈qs,j q.2.1=aa (.tup (q.1.map kV)))/\
 ∀p,j p=ae->Q (.ref p) (aL j p (.dT (j6 [] (qs.map λq=>(q.1,q.2.2)))))
theorem zaH(hc:X.calm=ab)(hu:X.A.units+2<Fg)(hg:Gl X "dict")(hm:X.mg "dict" = ae)(hg2:Gl X "zip")(hm2:X.mg "zip" = ae)(ha:PA X [a,b] ta)(hs1:Ci [.Call (.Name "zip" p2) [a,b] [] pos2] X.env=[(ac,Ef (.Call (.Name "zip" p2) [a,b] [] pos2) X.env)]:=by rfl)(hs:Ci [a,b] X.env=[(ac,Ef a X.env),(ac,Ef b X.env)]:=by rfl)(hs2:Ci [b] X.env=[(ac,Ef b X.env)]:=by rfl):
  PE X (.Call (.Name "dict" p) [.Call (.Name "zip" p2) [a,b] [] pos2] [] pos) (zaG X.K ta):=by
 intro af s Z H Q I h;refine Dy (gE I hg hm (by decide +kernel:Cu "dict" = aa (.type "dict")) (Cd ?_ hs1 rfl));rw[hs1];refine Kq (Dy (gE I hg2 hm2 D7 (Cd (aZ (ha pos2 af s Z H _ I h) λus s1 z0=>?_) (by rw[hs,hs2]) (by rw[hs2];rfl))));let⟨vs,H1,I1,r1,q1⟩:=z0;let⟨l1,l2,xs,ys,qs,rfl,hqa,hqb,rfl,rfl,hq,q⟩:=q1;let⟨u,v,rfl,ru,rv⟩:=vals2 r1;cases ru;cases rv;let⟨its,rv1,pl,hz⟩:=I1.list hqa;let⟨its2,rv2,pl2,hz2⟩:=I1.list hqb;let⟨ps,e1,e2,e3⟩:=G4 (H:=H1) rv1 rv2;have ln:=Dg e3;rw[Ab]at hz;refine Iw (Zd.call_zip (E:=X.xe) (ps:=ps) (I1.ok.hd hc) hu pl.isList pl2.isList (by lia) (λj=>?_) (λj=>?_) (λz hz'=>?_) (λh' tk d hd hk dd=>?_)) (λv s2 hv=>Lf hv) λ_ _ e=>e
 .rw[e1,<-Fd];simp
 .rw[e2,<-Fd];simp
 .have:∀{qs:↑(↑aC×Am×V)} {ps:↑(↑aC×Am×Ae)},Fz (λ(q:↑aC×Am×V) (p:↑aC×Am×Ae)=>q.1=p.1/\q.2.1=p.2.1/\RelV q.2.2 p.2.2) qs ps->(∀q∈qs,H1 q.2.1=aa (.tup (q.1.map kV)))->∀z∈ps,H1 z.2.1=aa (.tup (z.1.map kV)):=by
   intro qs ps h
   induction h with
   | nil=>intro _ z hz;cases hz
   | @cons q p qs ps r t ih=>
    intro hq z hz;rcases Aw.mp hz with rfl|hz
    .have:=hq q Bl;rw[r.1,r.2.1]at this;exact this
    .exact ih (λy hy=>hq y (Bj _ hy)) z hz
  exact i4 I1.hok (this e3 hq z hz')
 .have hfr:=I1.hok.fresh hd;have hbig:=I1.big;have len:=zJ (qs.map λq=>(q.1,q.2.2)) [];rw[Ab]at len;refine⟨.ref d,_,I1.laid (o:=.dT (j6 [] (qs.map λq=>(q.1,q.2.2)))) (t':=tk) hk hd ⟨by simp at len;lia,beq_eq_false_iff_ne.mpr (Cq (Cb hbig hd)),_,(G5 e3 hq .nil).keeps λc ys ec=>?_,?_⟩,rfl,q d hfr⟩
  .rw[bD (eO ec hfr)];exact ec
  .let⟨o,en,ep,r1,r2,r3,r4,_,r5⟩:=dd;exact⟨o,en,ep,r1,r2,r3,r4,r5⟩
end
noncomputable def iD(kvs:↑(↑aC×W))(ps:↑(↑aC×W)):↑(↑aC×W):=ps.foldl (λkvs p=>bY kvs p.1 p.2) kvs
section
variable {X:Cx}{a b:Ck}{ta:c0}
abbrev G6(ta:c0):aR:=λU M R=>ta U M λws I=>∃ps:↑(↑aC×W),ws=[.rl (ps.map λp=>.tup (p.1.map wK)),.rl (ps.map λp=>p.2)]/\R (.dt (iD [] ps)) I
theorem zaI{p p2 pos pos2:Hv}(B:X.A.units+2<Fg)(hg:Gl X "dict")(S:X.mg "dict" = ae)(hg2:Gl X "zip")(hm2:X.mg "zip" = ae)(m:A3 X [a,b] ta)(hc:X.calm=ab:=by rfl)(o:Ci [.Call (.Name "zip" p2) [a,b] [] pos2] X.env=[(ac,Ef (.Call (.Name "zip" p2) [a,b] [] pos2) X.env)]:=by rfl)(F:Ci [a,b] X.env=[(ac,Ef a X.env),(ac,Ef b X.env)]:=by rfl)(f:Ci [b] X.env=[(ac,Ef b X.env)]:=by rfl):
  E3 X (.Call (.Name "dict" p) [.Call (.Name "zip" p2) [a,b] [] pos2] [] pos) (G6 ta):=
 (zaH hc B hg S hg2 hm2 m o F f).weak λC H Q z=>z.el λU M R n Y h k=>⟨U,M,_,n,Y,h,λvs j ws I s P J r=>by
  let⟨ps,rfl,r⟩:=r;let⟨v,u,rfl,av,au⟩:=J.two;cases av with
  | @rl l1 xs _ f1 n1 l=>
   cases au with
   | @rl l2 ys _ f2 n2 w=>
    have key:∀{ps:↑(↑aC×W)} {xs ys:↑V},aK X.K j I xs (ps.map λp=>.tup (p.1.map wK))->aK X.K j I ys (ps.map λp=>p.2)->∃qs:↑(↑aC×Am×V),xs=(qs.map λq=>.ref q.2.1)/\ys=(qs.map λq=>q.2.2)/\(∀q∈qs,j q.2.1=aa (.tup (q.1.map kV)))/\bS X.K j I (↑aC) (qs.map λq=>(q.1,q.2.2)) ps:=by
     intro ps
     induction ps with
     | nil=>intro xs ys O L;cases O;cases L;exact⟨[],rfl,rfl,(λq N=>nomatch N),.nil⟩
     | cons p ps E=>
      intro xs ys O L;cases O with
      | @cons x xs' _ _ a1 t1=>
       cases L with
       | @cons y ys' _ _ a2 t2=>
        let⟨qs,D,T,e3,e4⟩:=E t1 t2;cases a1 with
        | @tup c e _ ec qc=>
         rw[qc.keys]at ec;refine⟨(p.1,c,y)::qs,by rw[D];rfl,by rw[T];rfl,λq N=>?_,.cons ⟨rfl,a2⟩ e4⟩;rcases Aw.mp N with rfl|N
         .exact ec
         .exact e3 q N
    let⟨qs,D,T,e3,e4⟩:=key l w;refine⟨l1,l2,xs,ys,qs,rfl,bN.of f1,bN.of f2,D,T,e3,λd hd=>?_⟩;have puts:∀{ps:↑(↑aC×W)} {qs:↑(↑aC×V)} {ks:↑(↑aC×V)} {kvs:↑(↑aC×W)},bS X.K j I (↑aC) qs ps->bS X.K j I (↑aC) ks kvs->bS X.K j I (↑aC) (j6 ks qs) (iD kvs ps):=by
     intro ps qs ks kvs h
     induction h generalizing ks kvs with
     | nil=>intro h;exact h
     | @cons q p qs ps r t E=>
      intro h;let⟨l,w⟩:=q;let⟨p1,p2⟩:=p;let⟨rfl,G⟩:=r;exact E (rC h l G)
    have g:=puts (ks:=[]) (kvs:=[]) e4 .nil;let⟨i,Z⟩:=P.tup (u:=.dT (j6 [] (qs.map λq=>(q.1,q.2.2)))) hd;exact k _ _ _ _ (s.trans Z) i (.dt b8 (P.nonM hd) g.keys (g.vals.newT hd)) r⟩
end
structure Dm(K:Ac)(C:Am)(x qual:Av)(st:Jy)(ps:↑Av)(f:Am)(fd:Ff):Prop where
 fn:jH K x qual st f fd
 me:oU K C x f
 bi:Binds K fd ps []
structure Di(K:Ac)(C:Am)(x qual:Av)(st:Jy)(ps:↑Av)(f:Am)(fd:Ff):Prop where
 fn:jH K x qual st f fd
 mak:Mk K C f
 bi:Binds K fd ps []
theorem zK{A:Cw}{k:Nat}(T:cQ k A):A.units+2<Fg:=by have:=T.un;lia
section
variable {prog:Be}{w:Br}{A:Cw}{E:Ae->Ak->Prop}{s:Ak}
theorem zaJ{a b:Am}{y ob:Ms}{xs ys:Array Ae}{H nb:Nat}{x1 x2 Y k:Int}{U f S P:Uu}{Q:Ae->Ak->Prop}(W:A.units+1<Fg)(d:s.heap.get? a=aa y)(B:y.cls=.type "tuple")(z:y.data=.seq xs H)(m:s.heap.get? b=aa ob)(C:ob.cls=.type "tuple")(o:ob.data=.seq ys nb)(ex:xs.toList=[.int x1 U,.int x2 f])(J:ys.toList=[.int Y S,.int k P])(h:∀b,(x1=Y->x2=k->b=ac)->Q (.bool b) s):Bm (De prog w) A (Dk .Lt (.ref a) (.ref b)) Q E s:=by
 have x:s.TypeIs (.ref b) "tuple":=⟨ob,m,C⟩;refine Nh (op:=.Lt) ⟨y,d,B⟩ x PySem.F.slot_tuple_lt (Cr PySem.F.slot_tuple_lt ⟨y,d,B⟩ PySem.F.entry_tuple_lt ?_ (PySem.F.args_tuple_lt_2 _ _)) (Lm W);show Bm _ _ (Vk (.ref b) (.type "tuple")>>=_) _ _ s;refine Aa (Fx x Js (Aa (Ig d z (Aa (Ig m o (Aa ?_))))));rw[ex,J];have D:=congrArg Ky ex;have T:=congrArg Ky J;refine Kl _ (λrest q M=>q.1=ae/\M=s/\∀p∈rest,∃i t j u,p=(Value.int i t,Value.int j u)/\(x1=Y->x2=k->i=j)) _ ?_ ?_ _ _ ⟨rfl,rfl,λp G=>?_⟩
 .rintro p rest q M ⟨N,rfl,hc⟩;let⟨i,t,j,u,rfl,e⟩:=hc p (Bl ..);refine Aa (Sk ?_);cases hi:i==j
  .exact Aa (Iv (Aa (PyProof.Rows.lt_int (Aa (Ah (Ah (Ah ⟨_,rfl,(λe=>nomatch e),h _ λa b=>absurd (e a b) (ne_of_beq_false hi)⟩)))))))
  .exact Ah ⟨rfl,rfl,λp G=>hc p (Bj _ G)⟩
 .rintro⟨g,n⟩ M ⟨rfl,rfl,hc⟩;refine Ah ⟨_,rfl,(λe=>nomatch e),h _ λ_ _=>?_⟩;rw[Ey]at D T;rw[D,T];rfl
 .rcases Aw.mp G with rfl|G
  .exact⟨_,_,_,_,rfl,λa _=>a⟩
  .rw[Ag.mp G];exact⟨_,_,_,_,rfl,λ_ a=>a⟩
theorem zaK{a b:Am}{y ob:Ms}{xs ys:Array Ae}{H nb:Nat}{x1 x2 Y k:Int}{U f S P:Uu}{Q:Ae->Ak->Prop}(W:A.units+1<Fg)(d:s.heap.get? a=aa y)(B:y.cls=.type "tuple")(z:y.data=.seq xs H)(m:s.heap.get? b=aa ob)(C:ob.cls=.type "tuple")(o:ob.data=.seq ys nb)(ex:xs.toList=[.int x1 U,.int x2 f])(J:ys.toList=[.int Y S,.int k P])(h:∀b,(x1=Y->x2=k->b=ac)->Q (.bool b) s):Bm (De prog w) A (Dk .Gt (.ref a) (.ref b)) Q E s:=by
 have x:s.TypeIs (.ref b) "tuple":=⟨ob,m,C⟩;refine Nh (op:=.Gt) ⟨y,d,B⟩ x PySem.F.slot_tuple_gt (Cr PySem.F.slot_tuple_gt ⟨y,d,B⟩ PySem.F.entry_tuple_gt ?_ (PySem.F.args_tuple_gt_2 _ _)) (Lm W);show Bm _ _ (Vk (.ref b) (.type "tuple")>>=_) _ _ s;refine Aa (Fx x Js (Aa (Ig d z (Aa (Ig m o (Aa ?_))))));rw[ex,J];have D:=congrArg Ky ex;have T:=congrArg Ky J;refine Kl _ (λrest q M=>q.1=ae/\M=s/\∀p∈rest,∃i t j u,p=(Value.int i t,Value.int j u)/\(x1=Y->x2=k->i=j)) _ ?_ ?_ _ _ ⟨rfl,rfl,λp G=>?_⟩
 .rintro p rest q M ⟨N,rfl,hc⟩;let⟨i,t,j,u,rfl,e⟩:=hc p (Bl ..);refine Aa (Sk ?_);cases hi:i==j
  .exact Aa (Iv (Aa (PyProof.Rows.gt_int (Aa (Ah (Ah (Ah ⟨_,rfl,(λe=>nomatch e),h _ λa b=>absurd (e a b) (ne_of_beq_false hi)⟩)))))))
  .exact Ah ⟨rfl,rfl,λp G=>hc p (Bj _ G)⟩
 .rintro⟨g,n⟩ M ⟨rfl,rfl,hc⟩;refine Ah ⟨_,rfl,(λe=>nomatch e),h _ λ_ _=>?_⟩;rw[Ey]at D T;rw[D,T];rfl
 .rcases Aw.mp G with rfl|G
  .exact⟨_,_,_,_,rfl,λa _=>a⟩
  .rw[Ag.mp G];exact⟨_,_,_,_,rfl,λ_ a=>a⟩
end
section
variable {X:Cx}
def rInsert:V->↑V->Hp->VK->Prop:=λx vs H Q=>∃l xs y i,x=.ref l/\vs=[.int (i:Nat),y]/\H l=aa (.lst xs)/\↥xs<Au/\i<=↥xs/\Q .non (aL H l (.lst (xs.take i++y::xs.drop i)))
theorem a5.splitAt:∀{xs:↑V} {us:↑Ae} (i:Nat),a5 xs us->a5 (xs.take i) (us.take i)/\a5 (xs.drop i) (us.drop i)
 | _,_,0,h=>⟨.nil,h⟩
 | _,_,i+1,.nil=>⟨.nil,.nil⟩
 | _,_,i+1,.cons r t=>by
  let⟨O,L⟩:=a5.splitAt i t;exact⟨.cons r O,L⟩
theorem zaL:qN X "list.insert" rInsert:=by
 intro B s C H x vs v us Q I G U h;let⟨l,xs,y,i,rfl,rfl,o,hz,hi,q⟩:=h;cases G;let⟨Z,P,rfl,d,R⟩:=vals2 U;let⟨tk,rfl⟩:=d;let⟨z,its,n,r,hl,e⟩:=I.lstM o;have T:↥its=↥xs:=r.length.symm;have f:Au=16777216:=Ke;have a:¬(!Builtin.List.listFitsIndex ((i:Nat):Int))=ab:=by
  have O:Builtin.List.listFitsIndex ((i:Nat):Int)=ab:=by
   unfold Builtin.List.listFitsIndex;rw[Dn,decide_eq_true_eq,decide_eq_true_eq];lia
  rw[O];decide
 have u:its.toArray.size<=Au:=by rw[Bi];lia
 generalize hj:((i:Nat):Int)=j at a e⊢;have S:=PySem.AutoSeq1.list_insert_list_int_val_1 l its.toArray n j tk P a u;refine Kf F.slot_list_insert ⟨_,e,rfl⟩ F.entry_list_insert (F.args_list_insert_3 _ _ _) S ⟨e,?_⟩;let⟨O,L⟩:=a5.splitAt i r;refine⟨.non,_,I.lset (its':=its.take i++P::its.drop i) o e ?_ (O.append (.cons R L)) ?_,rfl,q⟩
 .have hk:(if j<0 then(j+(its.toArray.size:Int)).toNat else min j.toNat its.toArray.size)=i:=by
   rw[<-hj,Vy (by lia),Dl,Bi];lia
  show(its.toArray.extract 0 (if j<0 then(j+(its.toArray.size:Int)).toNat else min j.toNat its.toArray.size)).push P++its.toArray.extract (if j<0 then(j+(its.toArray.size:Int)).toNat else min j.toNat its.toArray.size)=_;rw[hk];apply Array.toList_inj.mp;simp[Pq,Array.toList_push];rw[Oe (by rw[Gv];lia)]
 .rw[Aj,Bv,Cg,Gv];lia
end
section
variable {X:Cx}
abbrev rO:R3:=λx y M R=>∃a b c d:Int,x=.tup [.int a,.int b]/\y=.tup [.int c,.int d]/\∀z,(a=c->b=d->z=ac)->R (.bl z) M
theorem uU{B:Pn}{C:SV}{H:Hp}{M:Mm}{s:Ak}{x:V}{v:Ae}{a b:Int}(I:Inv X B C H s)(G:RelV x v)(N:AV X.K H M x (.tup [.int a,.int b])):∃p o its n t u,v=.ref p/\s.heap.get? p=aa o/\o.cls=.type "tuple"/\o.data=.seq its n/\its.toList=[.int a t,.int b u]:=by
 cases N with
 | @tup p xs _ e q=>
  cases (show v=Value.ref p from G);let⟨y,z,rfl,S,J⟩:=q.two;obtain rfl:=S.inv;obtain rfl:=J.inv;let⟨_,its,r,o,O,L,m,h3⟩:=(show b5 X.prog X.w H s.heap p (.tup [.int a,.int b]) from I.hok p _ e);let⟨Z,P,rfl,l,R⟩:=vals2 r;let⟨U,rfl⟩:=l;let⟨f,rfl⟩:=R;exact⟨p,o,_,m,U,f,rfl,O,L,h3,by simp⟩
theorem G7(W:X.A.units+1<Fg):bB X (Dk .Lt) (cJ X.K rO):=by
 rintro B s C H x y v u Q I G P ⟨t,l,M,R,Y,N,S,⟨a,b,c,d,rfl,rfl,r⟩,k⟩;let⟨p,o,its,n,U,F,rfl,O,L,h3,m⟩:=uU I G N;let⟨J,i,its',D,e,g,rfl,V,Z,f,w⟩:=uU I P S;exact zaJ W O L h3 V Z f m w λz hz=>⟨.bl z,H,I,rfl,k.at Y (.bl _) (r z hz)⟩
theorem G8(W:X.A.units+1<Fg):bB X (Dk .Gt) (cJ X.K rO):=by
 rintro B s C H x y v u Q I G P ⟨t,l,M,R,Y,N,S,⟨a,b,c,d,rfl,rfl,r⟩,k⟩;let⟨p,o,its,n,U,F,rfl,O,L,h3,m⟩:=uU I G N;let⟨J,i,its',D,e,g,rfl,V,Z,f,w⟩:=uU I P S;exact zaK W O L h3 V Z f m w λz hz=>⟨.bl z,H,I,rfl,k.at Y (.bl _) (r z hz)⟩
def G9:W->↑W->Mm->K3->Prop
 | .ref l,[.int i,y],M,R=>∃ws,M l=aa (.lst ws)/\↥ws<Au/\0<=i/\i<=↥ws/\R .non (put M l (.lst (ws.take i.toNat++y::ws.drop i.toNat)))
 | _,_,_,_=>False
theorem HA{K:Ac}{H:Hp}{M:Mm}:∀{vs:↑V} {ws:↑W} (i:Nat),aK K H M vs ws->aK K H M (vs.take i) (ws.take i)/\aK K H M (vs.drop i) (ws.drop i)
 | _,_,0,h=>⟨.nil,h⟩
 | _,_,i+1,.nil=>⟨.nil,.nil⟩
 | _,_,i+1,.cons r t=>by
  let⟨O,L⟩:=HA i t;exact⟨.cons r O,L⟩
theorem zaM:e8 X "list.insert" (jJ X.K G9):=by
 rintro B s C H x xs v us Q I G rs ⟨t,ws,M,R,Y,N,d,h,k⟩
 match t,ws,h with
 | .ref l,[.int i,y],h=>
  let⟨u,z,rfl,o,m⟩:=d.two;obtain rfl:=N.inv;obtain rfl:=o.inv;let⟨ws,e,hl,J,O,r⟩:=h;let⟨i,rfl⟩:=Ob J;let⟨vs,f,q⟩:=Y.lst e;let⟨g,n⟩:=HA i q;rw[Dl]at r;exact zaL B s C H _ _ v us Q I G rs ⟨l,vs,z,i,rfl,rfl,f,by rw[↥q];exact hl,by rw[↥q];lia,rA Y k e (g.append (.cons m n)) .non r⟩
end
structure aD where
 name:Av
 parts:↑Av
 cost:Int
def uV(t:Av):Prop:=∀c∈cs t,c<128
structure dA(t:Av):Prop where
 len:↥t<=20
 nm:bV t=ab
 hd:∃c r,cs t=c::r/\c∈cs gH
 asc:uV t
structure eS(t:Av):Prop where
 len:↥t<=20
 ne:cs t≠[]
 sm:∀c∈cs t,c∈cs kJ
theorem zaN:∀c∈cs kJ,c<128:=by decide +kernel
theorem HB:∀c∈cs gH,c<128:=by decide +kernel
theorem zaO:∀c∈cs mP,c<128:=by decide +kernel
theorem eS.asc(h:eS t):uV t:=λc hc=>zaN c (h.sm c hc)
structure mZ(hs ws:↑Av)(r:aD):Prop where
 name:r.name∈hs
 parts:∀t∈r.parts,t∈ws\/t∈hs
 few:↥r.parts<=4
 lo:0<=r.cost
 hi:r.cost<10 ^ 60
structure zaP(rs:↑aD):Prop where
 ne:rs≠[]
 few:↥rs<=60
 ex:∃hs ws:↑Av,↥hs<=12/\(∀t∈hs,dA t)/\(∀t∈ws,eS t)/\(∀r∈rs,mZ hs ws r)/\∀t∈hs,∃r∈rs,r.name=t
theorem HC(c:Array Nat):∀(k:Nat) (acc:Array Nat) (d:Nat),d∈((Ce k c).foldl (·++·) acc).toList->d∈acc.toList\/d∈c.toList
 | 0,acc,d,h=>.inl h
 | k+1,acc,d,h=>by
  rw[Ez,Gf]at h;rcases HC c k _ d h with q|q
  .rw[Pq]at q;exact Bb.mp q
  .exact .inr q
theorem HD{n:Int}{d:Nat}(h:d∈cs (Iu x n)):d∈cs x:=by
 unfold Iu at h;split at h
 .exact absurd h (by rw[show cs Rq=[] from rfl];simp)
 .split at h
  .exact h
  .rcases HC x.cps _ #[] d h with q|q
   .simp at q
   .exact q
theorem HE{n:Int}(J:↥x=1)(P:0<=n):(↥(Iu x n):Int)=n:=by
 rw[len_mul,J];have:¬n<0:=by lia
 simp[this]
def c7(acc:↑Av)(t:Av):↑Av:=if t∈acc then acc else acc++[t]
def l5(acc:↑Av)(rs:↑aD):↑Av:=(rs.map aD.name).foldl c7 acc
def namesOf(rs:↑aD):↑Av:=l5 [] rs
theorem kY:u∈c7 acc t↔u∈acc\/u=t:=by
 unfold c7;split
 .rename_i h;constructor
  .exact .inl
  .rintro(q|q)
   .exact q
   .rw[q];exact h
 .rw[Bb,Ag]
theorem zaQ:↥(c7 acc t)<=↥acc+1:=by
 unfold c7;split
 .lia
 .rw[Aj];exact Ai _
theorem uW:∀{ts acc:↑Av} {u:Av},u∈ts.foldl c7 acc↔u∈acc\/u∈ts
 | [],acc,u=>by simp
 | t::r,acc,u=>by
  rw[Gf,uW,kY,Aw];constructor
  .rintro((h|h)|h)
   .exact .inl h
   .exact .inr (.inl h)
   .exact .inr (.inr h)
  .rintro(h|h|h)
   .exact .inl (.inl h)
   .exact .inl (.inr h)
   .exact .inr h
theorem iT:u∈namesOf rs↔∃r∈rs,r.name=u:=by
 unfold namesOf l5;rw[uW];simp
theorem m9(h:uV t):Kz t=ab:=by
 unfold Kz;rw[Array.all_eq_true'];intro c hc;have:=h c (by unfold cs;exact Array.mem_toList_iff.mpr hc);exact Wc (by lia)
def uX(g:Bool)(t:Av):Prop:=if g then dA t else eS t
def kZ:Bool->Av
 | true=>Rp kJ
 | false=>kJ
theorem zL(g:Bool):↥(cs (kZ g))=26:=by cases g<;>decide +kernel
theorem HF(hg:↥(cs g)=26)(n:Int):∃c,bR g.cps.toList (n % 26)=aa c/\c∈cs g:=by
 have J:0<=n % 26:=Fq _ ∅;have O:n % 26<26:=Ei _ ∅;let⟨j,hj⟩:=Ob J;have Y:j<↥(cs g):=by lia
 refine⟨(cs g)[j],?_,Rk Y⟩;rw[hj];exact gW (Bg Y)
theorem zM(c:Nat):cs (⟨#[c]⟩:Av)=[c]:=rfl
theorem zaR{g:Bool}(hl:↥t<=8)(S:cs t≠[])(h:∀c∈cs t,c∈cs (kZ g)):uX g t:=by
 cases g with
 | false=>exact⟨by lia,S,h⟩
 | true=>
  have u:kZ ab=gH:=by show Rp kJ=gH;decide +kernel
  rw[u]at h;refine⟨by lia,VC S h,?_,λc hc=>HB c (h c hc)⟩;cases e:cs t with
  | nil=>exact absurd e S
  | cons c r=>exact⟨c,r,rfl,h c (by rw[e];simp)⟩
theorem HG(n:Int)(J:0<=n)(O:n<10000)(hl:↥t<=8)(S:cs t≠[])(h:∀c∈cs t,c∈cs (kZ ab)):uX ab (t++"_"++Bz (toString n)):=by
 have u:kZ ab=gH:=by show Rp kJ=gH;decide +kernel
 rw[u]at h;have b:↥(Bz (toString n))<=10:=Ox J (by lia);have v:↥("_" : Av)=1:=by decide +kernel
 let⟨m,rfl⟩:=Ob J;have a:=DZ (m:=m);have K:cs (t++"_"++Bz (toString ((m:Nat):Int)))=cs t++95::cs (Bz (toString ((m:Nat):Int))):=by rw[oY,oY,DW];simp
 refine⟨by rw[Ml,Ml,v];lia,VD K S h a.2 a.1,?_,λc hc=>?_⟩
 .cases e:cs t with
  | nil=>exact absurd e S
  | cons c r=>exact⟨c,_,by rw[K,e];rfl,h c (by rw[e];simp)⟩
 .rw[K]at hc;rcases Bb.mp hc with q|q
  .exact HB c (h c q)
  .rcases Aw.mp q with q|q
   .lia
   .exact zaO c (a.1 c q)
theorem HH{n:Int}(J:0<=n)(O:n<10000):n.natAbs.log2<1920:=by
 rcases Nat.eq_zero_or_pos n.natAbs with h|G
 .rw[h];decide
 .have:n.natAbs<2 ^ 14:=by
   have:(2:Nat) ^ 14=16384:=by decide
   lia
  have:=(Uc (Cq G)).mpr this;lia
theorem zaS(h:Drawn Q (a++b)):∃B v,Q=B++v/\Drawn B a/\Drawn v b:=by
 induction a generalizing Q with
 | nil=>exact⟨[],Q,rfl,.nil,h⟩
 | cons x r E=>
  cases h with
  | cons O L=>
   let⟨B,v,rfl,D,T⟩:=E L;exact⟨_::B,v,rfl,.cons O D,T⟩
theorem zaT{a b c d:Int}(h:Drawn Q [a,b,c,d]):∃x1 x2 x3 x4,Q=[x1,x2,x3,x4]/\Below x1 a/\Below x2 b/\Below x3 c/\Below x4 d:=by
 cases h with|cons O h=>cases h with|cons L h=>cases h with|cons h3 h=>cases h with|cons m h=>cases h;exact⟨_,_,_,_,rfl,O,L,h3,m⟩
theorem zaU{s:Int}(h:Drawn Q ss)(F:∀z∈ss,z=s):∀d∈Q,Below d s:=by
 induction h with
 | nil=>intro d hd;cases hd
 | cons r t E=>
  intro d hd;rcases Aw.mp hd with e|hd
  .subst e;have:=F _ Bl;rw[<-this];exact r
  .exact E (λz hz=>F z (Bj _ hz)) d hd
theorem zaV{a b:Int}(h:Drawn Q [a,b]):∃x1 x2,Q=[x1,x2]/\Below x1 a/\Below x2 b:=by
 cases h with|cons O h=>cases h with|cons L h=>cases h;exact⟨_,_,rfl,O,L⟩
theorem rP:∀(ts acc:↑Av),↥(ts.foldl c7 acc)<=↥acc+↥ts
 | [],acc=>by simp
 | t::r,acc=>by
  rw[Gf,Bv];have:=rP r (c7 acc t);have:=zaQ (acc:=acc) (t:=t);lia
def bF(r:aD):W:=.tup [.str r.name,.tup (r.parts.map W.str),.int r.cost]
def bC(rs:↑aD):W:=.rl (rs.map bF)
abbrev cZ:=Int×Int
def HI(a b:cZ):cZ:=(a.1+b.1,a.2+b.2)
section
variable {U J:Type}[DecidableEq U]
def cG(t:↑(U×J))(k:U):Option J:=(t.find? λe=>decide (e.1=k)).map (·.2)
noncomputable def nB(t:↑(U×J))(k:U)(v:J):↑(U×J):=if (t.any λe=>decide (e.1=k))=ab then t.map (λe=>if e.1=k then(e.1,v) else e) else t++[(k,v)]
theorem nC(e:U×J)(t:↑(U×J))(k:U):cG (e::t) k=if e.1=k then aa e.2 else cG t k:=by
 unfold cG;rw[Cz]
 by_cases h:e.1=k
 .rw[Wc h,Vz h];rfl
 .rw[We h,Vy h]
theorem j7(t:↑(U×J))(k:U):(t.any λe=>decide (e.1=k))=(cG t k).isSome:=by
 induction t with
 | nil=>rfl
 | cons e t E=>
  rw[Fp,nC,E]
  by_cases h:e.1=k
  .rw[Wc h,Vz h];rfl
  .rw[We h,Vy h];rfl
theorem HJ(a b:↑(U×J))(k:U):cG (a++b) k=(cG a k).or (cG b k):=by
 unfold cG;rw[List.find?_append,Option.map_or]
theorem zaW(t:↑(U×J))(k j:U)(v:J):cG (t.map (λe=>if e.1=k then(e.1,v) else e)) j=if k=j then(cG t j).map λ_=>v else cG t j:=by
 induction t with
 | nil=>show ae=_;split<;>rfl
 | cons e t E=>
  rw[Bh,nC,nC,E]
  by_cases hk:e.1=k
  .rw[Vz hk]
   by_cases hj:k=j
   .rw[Vz hj,Vz (hk.trans hj),Vz (hk.trans hj),Vz hj];rfl
   .rw[Vy hj,Vy (λz=>hj (hk.symm.trans z)),Vy (λz=>hj (hk.symm.trans z)),Vy hj]
  .rw[Vy hk]
   by_cases hj:e.1=j
   .rw[Vz hj,Vz hj,Vy (λz=>hk (hj.trans z.symm))]
   .rw[Vy hj,Vy hj]
theorem zaX(t:↑(U×J))(k j:U)(v:J):cG (nB t k v) j=if k=j then aa v else cG t j:=by
 unfold nB;rw[j7];split
 .rename_i h;rw[zaW]
  by_cases hj:k=j
  .subst hj;let⟨_,e⟩:=Dz.mp h;rw[Vz rfl,Vz rfl,e];rfl
  .rw[Vy hj,Vy hj]
 .rename_i h;rw[HJ,nC];show(cG t j).or (if k=j then aa v else ae)=_
  by_cases hj:k=j
  .subst hj;rw[Vz rfl,Vz rfl];cases e:cG t k with
   | none=>rfl
   | some z=>rw[e]at h;exact absurd rfl h
  .rw[Vy hj,Vy hj,Option.or_none]
theorem zaY(t:↑(U×J))(k:U)(v:J):↥(nB t k v)<=↥t+1:=by
 unfold nB;split
 .rw[Ab];lia
 .simp
end
theorem HK{U J:Type}[DecidableEq U]{t:↑(U×J)}{k:U}(h:∀e∈t,e.1≠k):cG t k=ae:=by
 unfold cG;rw[List.find?_eq_none.mpr λe Z z=>h e Z (Wa z)];rfl
theorem HL{U J:Type}[DecidableEq U]{t:↑(U×J)}{k:U}{v:J}(h:cG t k=ae):nB t k v=t++[(k,v)]:=by
 unfold nB;rw[j7,h];rfl
theorem rQ{U J:Type}[DecidableEq U]{t:↑(U×J)}{k:U}{v:J}(h:cG t k=aa v):∃a b,t=a++(k,v)::b:=by
 induction t with
 | nil=>cases h
 | cons e t E=>
  rw[nC]at h
  by_cases hk:e.1=k
  .rw[Vz hk]at h;cases h;exact⟨[],t,by rw[<-hk];rfl⟩
  .rw[Vy hk]at h;let⟨a,b,rfl⟩:=E h;exact⟨e::a,b,rfl⟩
theorem len_sub{B:Type}[DecidableEq B]:∀{a b:↑B},a.Nodup->(∀x∈a,x∈b)->↥a<=↥b
 | [],b,_,_=>Cs _
 | x::a,b,hn,F=>by
  rw[Cj]at hn;have J:=F x Bl;have E:=len_sub (a:=a) (b:=b.erase x) hn.2 λy K=>by
   have S:y≠x:=λe=>hn.1 (by rw[<-e];exact K);exact(List.mem_erase_of_ne S).mpr (F y (Bj _ K))
  rw[List.length_erase_of_mem J]at E;have:=List.length_pos_of_mem J;rw[Bv];lia
theorem HM{B J:Type}{f:B->↑J}{k:Nat}:∀{l:↑B},(∀x∈l,↥(f x)=k)->↥(l.flatMap f)=↥l*k
 | [],_=>by simp
 | x::l,h=>by
  rw[Nn,Aj,h x Bl,HM λy K=>h y (Bj _ K),Bv,Tq];lia
structure Sr where
 rs:↑aD
 own:Av->Bool
 places:↑Int
 steps:Av->Int->↑(Int×Int)
 wt:Nat->Int
abbrev cE:=Av×Int×Int
abbrev c8:=↑(cE×cZ×Nat×↑Int)
theorem l6{U:Type}[DecidableEq U]{kvs:↑(U×W)}{k j:U}{w:W}:aQ (bY kvs k w) j=if k=j then aa w else aQ kvs j:=zaX kvs k j w
theorem pQ{U:Type}[DecidableEq U](e:U×W)(t:↑(U×W))(k:U):aQ (e::t) k=if e.1=k then aa e.2 else aQ t k:=nC e t k
theorem uY{U:Type}[DecidableEq U]{k j:U}:∀{kvs:↑(U×W)},aQ (lZ kvs k) j=if k=j then ae else aQ kvs j
 | []=>by unfold lZ;rw[List.filter_nil];split<;>rfl
 | e::t=>by
  have E:=uY (k:=k) (j:=j) (kvs:=t);unfold lZ at E⊢;rw[Er]
  by_cases h:e.1=k
  .rw[Vy (by simp[h]),E,pQ]
   by_cases hj:k=j
   .rw[Vz hj,Vz hj]
   .rw[Vy hj,Vy hj,Vy (by rw[h];exact hj)]
  .rw[Vz (by simp[h]),pQ,E,pQ]
   by_cases hj:k=j
   .rw[Vz hj,Vz hj,Vy (by rw[<-hj];exact h)]
   .rw[Vy hj,Vy hj]
theorem zN{U:Type}[DecidableEq U](kvs:↑(U×W))(k:U)(w:W):↥(bY kvs k w)<=↥kvs+1:=zaY kvs k w
structure c9{U:Type}(kk:U->↑aC)(M0 M:Mm)(a:Am)(kvs:↑(↑aC×W))(g:U->Option (↑W)):Prop where
 sub:L2.Sub M0 M
 new:M0 a=ae
 at_:M a=aa (.dT kvs)
 non:∀k,g k=ae->aQ kvs (kk k)=ae
 som:∀k ws,g k=aa ws->∃p,aQ kvs (kk k)=aa (.ref p)/\p≠a/\M0 p=ae/\M p=aa (.lst ws)
 inj:∀k j p,aQ kvs (kk k)=aa (.ref p)->aQ kvs (kk j)=aa (.ref p)->k=j
theorem gP(h:L2.Sub M0 M)(n:M0 p=ae):L2.Sub M0 (put M p o):=λa u e=>by
 rw[aY (λz=>by rw[z,n]at e;cases e)];exact h a u e
section
variable {U:Type}[DecidableEq U]{kk:U->↑aC}{M0 M:Mm}{a p:Am}{kvs:↑(↑aC×W)}{g:U->Option (↑W)}{o:MO}{k:U}{ws:↑W}
theorem c9.lift(h:c9 kk M0 M a kvs g)(G:M p=ae\/∃u,M0 p=aa u):c9 kk (put M0 p o) (put M p o) a kvs g:=by
 have ne:∀{b:Am},M0 b=ae->(∃u,M b=aa u)->b≠p:=λ{b} J ⟨u,O⟩ e=>by
  subst e;rcases G with z|⟨v,z⟩
  .rw[O]at z;cases z
  .rw[J]at z;cases z
 refine⟨Sub.put h.sub,?_,?_,h.non,λk ws e=>?_,h.inj⟩
 .rw[aY (ne h.new ⟨_,h.at_⟩)];exact h.new
 .rw[aY (ne h.new ⟨_,h.at_⟩)];exact h.at_
 .let⟨q,O,L,h3,m⟩:=h.som k ws e;have:=ne h3 ⟨_,m⟩;exact⟨q,O,L,by rw[aY this];exact h3,by rw[aY this];exact m⟩
theorem c9.more(h:c9 kk M0 M a kvs g)(G:M p=ae):c9 kk M0 (put M p o) a kvs g:=by
 have ne:∀{b:Am},(∃u,M b=aa u)->b≠p:=λ{b} ⟨u,O⟩ e=>by subst e;rw[G]at O;cases O
 refine⟨gP h.sub (h.sub.non G),h.new,by rw[aY (ne ⟨_,h.at_⟩)];exact h.at_,h.non,λk ws e=>?_,h.inj⟩;let⟨q,O,L,h3,m⟩:=h.som k ws e;exact⟨q,O,L,h3,by rw[aY (ne ⟨_,m⟩)];exact m⟩
theorem c9.has(h:c9 kk M0 M a kvs g)(e:g k=aa ws):∃p,aQ kvs (kk k)=aa (.ref p)/\M p=aa (.lst ws):=by
 let⟨q,O,_,_,m⟩:=h.som k ws e;exact⟨q,O,m⟩
theorem c9.look(h:c9 kk M0 M a kvs g)(k:U):(aQ kvs (kk k)).isSome=(g k).isSome:=by
 cases e:g k with
 | none=>rw[h.non k e];rfl
 | some ws=>let⟨q,O,_⟩:=h.has e;rw[O];rfl
theorem c9.wr(h:c9 kk M0 M a kvs g)(hk:aQ kvs (kk k)=aa (.ref p)):c9 kk M0 (put M p (.lst ws)) a kvs (λj=>if k=j then aa ws else g j):=by
 obtain⟨b,I⟩:∃b,g k=aa b:=by
  cases e:g k with
  | none=>rw[h.non k e]at hk;cases hk
  | some ws=>exact⟨_,rfl⟩
 let⟨q,O,L,h3,m⟩:=h.som k b I;rw[hk]at O;cases O;refine⟨gP h.sub h3,h.new,by rw[aY (Ca L)];exact h.at_,λj e=>?_,λj us e=>?_,h.inj⟩
 .by_cases hj:k=j
  .rw[Vz hj]at e;cases e
  .rw[Vy hj]at e;exact h.non j e
 .by_cases hj:k=j
  .rw[Vz hj]at e;cases e;subst hj;exact⟨p,hk,L,h3,aJ⟩
  .rw[Vy hj]at e;let⟨q,W,P,f,w⟩:=h.som j us e;refine⟨q,W,P,f,?_⟩;rw[aY (λz=>hj (h.inj k j p hk (by rw[<-z];exact W)))];exact w
theorem c9.add(c:∀k j,kk k=kk j->k=j)(h:c9 kk M0 M a kvs g)(hg:g k=ae)(G:M p=ae):c9 kk M0 (put (put M p (.lst ws)) a (.dT (bY kvs (kk k) (.ref p)))) a (bY kvs (kk k) (.ref p)) (λj=>if k=j then aa ws else g j):=by
 have ne:∀{b:Am},(∃u,M b=aa u)->b≠p:=λ{b} ⟨u,O⟩ e=>by subst e;rw[G]at O;cases O
 have d:p≠a:=Ca (ne ⟨_,h.at_⟩);have l:∀j q,aQ kvs (kk j)=aa (.ref q)->∃u,M q=aa u:=λj q e=>by
  cases m:g j with
  | none=>rw[h.non j m]at e;cases e
  | some us=>
   let⟨A,W,_,_,w⟩:=h.som j us m;rw[e]at W;cases W;exact⟨_,w⟩
 refine⟨gP (gP h.sub (h.sub.non G)) h.new,h.new,aJ,λj e=>?_,λj us e=>?_,λi j q D T=>?_⟩
 .by_cases hj:k=j
  .rw[Vz hj]at e;cases e
  .rw[Vy hj]at e;rw[l6,Vy (λz=>hj (c _ _ z))];exact h.non j e
 .by_cases hj:k=j
  .rw[Vz hj]at e;cases e;subst hj;exact⟨p,by rw[l6,Vz rfl],d,h.sub.non G,by rw[aY d,aJ]⟩
  .rw[Vy hj]at e;let⟨q,W,P,f,w⟩:=h.som j us e;exact⟨q,by rw[l6,Vy (λz=>hj (c _ _ z))];exact W,P,f,by rw[aY P,aY (ne ⟨_,w⟩)];exact w⟩
 .rw[l6]at D T
  by_cases O:kk k=kk i
  .by_cases L:kk k=kk j
   .exact(c _ _ O).symm.trans (c _ _ L)
   .rw[Vz O]at D;rw[Vy L]at T;cases D;let⟨u,z⟩:=l j p T;rw[G]at z;cases z
  .by_cases L:kk k=kk j
   .rw[Vy O]at D;rw[Vz L]at T;cases T;let⟨u,z⟩:=l i p D;rw[G]at z;cases z
   .rw[Vy O]at D;rw[Vy L]at T;exact h.inj i j q D T
theorem c9.del(c:∀k j,kk k=kk j->k=j)(h:c9 kk M0 M a kvs g):c9 kk M0 (put M a (.dT (lZ kvs (kk k)))) a (lZ kvs (kk k)) (λj=>if k=j then ae else g j):=by
 refine⟨gP h.sub h.new,h.new,aJ,λj e=>?_,λj us e=>?_,λi j q D T=>?_⟩
 .rw[uY]
  by_cases hj:k=j
  .rw[Vz (by rw[hj])]
  .rw[Vy hj]at e;rw[Vy (λz=>hj (c _ _ z))];exact h.non j e
 .by_cases hj:k=j
  .rw[Vz hj]at e;cases e
  .rw[Vy hj]at e;let⟨q,W,P,f,w⟩:=h.som j us e;exact⟨q,by rw[uY,Vy (λz=>hj (c _ _ z))];exact W,P,f,by rw[aY P];exact w⟩
 .rw[uY]at D T;split at D
  .cases D
  .split at T
   .cases T
   .exact h.inj i j q D T
theorem c9.same{g':U->Option (↑W)}(h:c9 kk M0 M a kvs g)(e:∀k,g' k=g k):c9 kk M0 M a kvs g':=by
 have:g'=g:=funext e;rw[this];exact h
theorem dU(h:M a=aa (.lst ws)):jY "list" (.ref a) M:=.inl ⟨rfl,_,h⟩
theorem uZ(h:M a=aa (.dT kvs)):jY "dict" (.ref a) M:=.inr ⟨rfl,.inr ⟨_,h⟩⟩
theorem c9.push{Q:Mm->Mm->Prop}{f:Mm}{x:W}{R:K3}{T:W->Mm->Prop}(c:∀k j,kk k=kk j->k=j)(d:∀{N s:Mm} {p:Am} {o:MO},Q N s->(s p=ae\/∃u,N p=aa u)->Q (put N p o) (put s p o))(sb:∀{N s:Mm},Q N s->L2.Sub N s)(u:Q M f)(t:c9 kk M0 M a kvs g)(Z:∀y N,dJ y [x] N R->T y N)(hn:↥kvs<10000000)(hl:↥((g k).getD [])<10000000)(r:∀N s b,c9 kk M0 N a b (λj=>if k=j then aa ((g k).getD []++[x]) else g j)->Q N s->↥b<=↥kvs+1->R .non s):jY "dict" (.ref a) f/\∀p,f p=ae->pN (.ref a) [.tup ((kk k).map wK),.ref p] (put f p (.lst [])) λy N=>jY "list" y N/\T y N:=by
 have m:=sb u _ _ t.at_;refine⟨uZ m,λp G=>?_⟩;have l:=(sb u).non G;have ne:p≠a:=λz=>by rw[z,m]at G;cases G
 refine⟨kvs,kk k,by rw[aY (Ca ne)];exact m,rfl,cM hn,λw hw=>?_,λhw=>?_⟩
 .cases e:g k with
  | none=>rw[t.non k e]at hw;cases hw
  | some ws=>
   let⟨q,O,L⟩:=t.has e;rw[hw]at O;cases O;have z:put M p (.lst []) q=aa (.lst ((g k).getD [])):=by rw[aY (λz=>by rw[z,l]at L;cases L),e];exact L
   have S:=d (o:=.lst []) u (.inl G);have y:=sb S _ _ z;exact⟨dU y,Z _ _ ⟨_,y,cM hl,r _ _ kvs ((t.more l).wr hw) (d S (.inr ⟨_,z⟩)) (Hi _)⟩⟩
 .have e:g k=ae:=by
   cases e:g k with
   | none=>rfl
   | some ws=>let⟨_,O,_⟩:=t.has e;rw[hw]at O;cases O
  have P:=d (p:=a) (o:=.dT (bY kvs (kk k) (.ref p))) (d (o:=.lst []) u (.inl G)) (.inr ⟨.dT kvs,by rw[aY (Ca ne)];exact t.at_⟩);have z:put (put M p (.lst [])) a (.dT (bY kvs (kk k) (.ref p))) p=aa (.lst []):=by rw[aY ne,aJ]
  have y:=sb P _ _ z;refine⟨dU y,Z _ _ ⟨[],y,cM ∅,r _ _ _ (((t.add c (ws:=[]) e l).wr (ws:=[x]) (by rw[l6,Vz rfl])).same λj=>?_) (d P (.inr ⟨_,z⟩)) (zN ..)⟩⟩;rw[e]
  by_cases hj:k=j
  .rw[Vz hj,Vz hj];rfl
  .rw[Vy hj,Vy hj,Vy hj]
end
def lo{B:Type}(f:B->W)(l:↑B):Option (↑W):=if l=[] then ae else aa (l.map f)
theorem u3{B:Type}(f:B->W)(l:↑B):(lo f l).getD []=l.map f:=by cases l<;>rfl
theorem zP{B:Type}(f:B->W)(l:↑B)(x:B):lo f (l++[x])=aa ((lo f l).getD []++[f x]):=by
 rw[u3];unfold lo;rw[Vy (by simp),Ax];rfl
structure Cc where
 q:Am
 s:Am
 f:Am
 g:Am
 p:Am
 h:Am
 i:Am
 c:Am
 t:Am
def cW(c:cZ):W:=.tup [.int c.1,.int c.2]
def cK(c:cZ):↑aC:=[Sum.inl c.1,Sum.inl c.2]
theorem HN:∀a b:cZ,cK a=cK b->a=b:=λa b h=>by
 unfold cK at h;simp only[Fh,Pd,and_true]at h;exact Pe h.1 h.2
abbrev rep(k:Nat):↑Int:=Ce k 0
def gQ(cut:↑Int):W:=.tup (cut.map W.int)
def k7(x:Nat×Nat):W:=.tup [.int x.1,gQ (rep x.2)]
structure Aq where
 o:Am
 d:Am
 c:Am
 w:Am
def qf(A:Aq):↑(Av×W):=[("costs",.ref A.c),("waiting",.ref A.w)]
theorem pR:Cm ("costs" : Av) (qf A)=aa (W.ref A.c):=by kernel_rfl
theorem pT:Cm ("waiting" : Av) (qf A)=aa (W.ref A.w):=by kernel_rfl
theorem zaZ:Cm ("place_of" : Av) (qf A)=ae:=by kernel_rfl
theorem za0:Cm ("put" : Av) (qf A)=ae:=by kernel_rfl
theorem za1:Cm ("take" : Av) (qf A)=ae:=by kernel_rfl
theorem za2:Cm ("is_done" : Av) (qf A)=ae:=by kernel_rfl
structure Qm(C:Cc)(M0 M:Mm)(A:Aq)(cs:↑cZ):Prop where
 sub:L2.Sub M0 M
 no:M0 A.o=ae
 nc:M0 A.c=ae
 ne:A.o≠A.c
 ob:M A.o=aa (.ins C.q A.d (qf A))
 co:M A.c=aa (.lst (cs.map cW))
abbrev Qu:=↑(cZ×Nat×Nat)
abbrev wG(q:Qu)(c:cZ):Option (↑W):=lo (λe=>k7 e.2) (q.filter λe=>decide (e.1=c))
structure QR(C:Cc)(M0 M:Mm)(A:Aq)(q:Qu)(m:Nat):Prop where
 le:↥q<=m
 ex:∃M1 kvs cs,Qm C M0 M1 A cs/\c9 cK M1 M A.w kvs (wG q)/\cs.Nodup/\(∀c,c∈cs↔c∈q.map (·.1))/\↥kvs<=m
theorem u5:wG q c=ae↔c∉q.map (·.1):=by
 have:(q.filter λe=>decide (e.1=c))=[]↔c∉q.map (·.1):=by
  rw[List.filter_eq_nil_iff];exact⟨λh z=>let ⟨e,h1,h2⟩:=Ar.mp z;h e h1 (Wc h2),λh e Z z=>h (Ar.mpr ⟨e,Z,Wa z⟩)⟩
 rw[<-this];unfold wG lo;split
 .exact⟨λ_=>‹_›,λ_=>rfl⟩
 .exact⟨(λh=>nomatch h),λh=>absurd h ‹_›⟩
theorem HP:∀{q:Qu},c∈q.map (·.1)->∃g x n,q=g++(c,x)::n/\c∉n.map (·.1)
 | e::q,h=>by
  by_cases L:c∈q.map (·.1)
  .let⟨a,x,b,rfl,h3⟩:=HP L;exact⟨e::a,x,b,rfl,h3⟩
  .rcases Aw.mp h with rfl|h
   .exact⟨[],e.2,q,rfl,L⟩
   .exact absurd h L
theorem Qm.lift{C:Cc}{M0 M:Mm}{A:Aq}{cs:↑cZ}{p:Am}{o:MO}(h:Qm C M0 M A cs)(G:M p=ae\/∃u,M0 p=aa u):Qm C (put M0 p o) (put M p o) A cs:=by
 have ne:∀{b:Am},M0 b=ae->(∃u,M b=aa u)->b≠p:=λ{b} J ⟨u,O⟩ e=>by
  subst e;rcases G with z|⟨v,z⟩
  .rw[O]at z;cases z
  .rw[J]at z;cases z
 have d:=ne h.no ⟨_,h.ob⟩;have a:=ne h.nc ⟨_,h.co⟩;exact⟨Sub.put h.sub,by rw[aY d];exact h.no,by rw[aY a];exact h.nc,h.ne,by rw[aY d];exact h.ob,by rw[aY a];exact h.co⟩
theorem Qm.costs{C:Cc}{M0 M:Mm}{A:Aq}{cs cs':↑cZ}(h:Qm C M0 M A cs):Qm C M0 (put M A.c (.lst (cs'.map cW))) A cs':=
 ⟨gP h.sub h.nc,h.no,h.nc,h.ne,by rw[aY h.ne];exact h.ob,aJ⟩
theorem QR.lift{m:Nat}(h:QR C M0 M A q m)(G:M p=ae\/∃u,M0 p=aa u):QR C (put M0 p o) (put M p o) A q m:=by
 let⟨I,kvs,cs,O,L,h3⟩:=h.ex;refine⟨h.le,put I p o,kvs,cs,O.lift ?_,L.lift ?_,h3⟩
 .rcases G with z|z
  .exact .inl (L.sub.non z)
  .exact .inr z
 .rcases G with z|⟨u,z⟩
  .exact .inl z
  .exact .inr ⟨u,O.sub _ _ z⟩
theorem QR.sub{m:Nat}(h:QR C M0 M A q m):L2.Sub M0 M:=by
 let⟨I,kvs,cs,O,L,h3⟩:=h.ex;exact O.sub.trans L.sub
theorem QR.ob{m:Nat}(h:QR C M0 M A q m):M A.o=aa (.ins C.q A.d (qf A)):=by
 let⟨I,kvs,cs,O,L,h3⟩:=h.ex;exact L.sub _ _ O.ob
section
variable {ws:↑W}{g:eQ}{tb:aE}{D:D3}{τ:S3}{M:Mm}
theorem l7(r:Nat->S3->Mm->Prop)(J:r 0 τ M)(F:∀i w τ M,ws[i]? = aa w->r i τ M->g w τ M λa f=>tb {D with nx:=λv V=>∃o,Sub o V/\r (i+1) v o,ct:=λv V=>∃o,Sub o V/\r (i+1) v o,bk:=D.nx} a f)(hd:∀τ M,r ↥ws τ M->D.nx τ M):n8 ws (λ_=>True) g tb D τ M:=yR r J (λ_ _ _ _ _=>trivial) F hd
theorem dB(r:Nat->S3->Mm->Prop)(J:r 0 τ M)(F:∀i w τ M,ws[i]? = aa w->r i τ M->∀s:D3,(∀τ M,r (i+1) τ M->s.nx τ M)->g w τ M λa f=>tb s a f)(hd:∀τ M,r ↥ws τ M->D.nx τ M):n8 ws (λ_=>True) g tb D τ M:=l7 r J (λi w τ M e p=>F i w τ M e p _ λ_ M z=>⟨M,aW,z⟩) hd
theorem pU(r:Nat->S3->Mm->Prop)(J:∃m,r m τ M)(F:∀m τ M,r m τ M->∀s:D3,(∀q τ M,q<m->r q τ M->s.nx τ M)->c τ M λb I=>if b=ab then tb s τ I else D.nx τ I):kS c tb D τ M:=⟨r,J,λm τ M p=>F m τ M p _ λq _ M l z=>⟨q,M,l,aW,z⟩⟩
end
def HQ(C:Cc):aV:=λws M R=>∃M0 a s,ws=[.ref a]/\M=put M0 a (.ins C.q s [])/\M0 a=ae/\∀V (A:Aq),A.o=a->QR C M0 V A [] 0->R .non V
def zQ(C:Cc):aV:=λws M R=>∃M0 A q m,ws=[.ref A.o]/\QR C M0 M A q m/\R (.bl (decide (q=[]))) M
def HR(C:Cc):aV:=λws M R=>∃(A:Aq) (cs:↑cZ) (c:cZ),ws=[.ref A.o,cW c]/\M A.o=aa (.ins C.q A.d (qf A))/\M A.c=aa (.lst (cs.map cW))/\∀i:Nat,i<=↥cs->R (.int i) M
def HS(C:Cc):aV:=λws M R=>∃M0 A q m c x,ws=[.ref A.o,cW c,k7 x]/\QR C M0 M A q m/\m<1000000/\∀V,QR C M0 V A (q++[(c,x)]) (m+1)->R .non V
def HU(C:Cc):aV:=λws M R=>∃M0 A q m,ws=[.ref A.o]/\QR C M0 M A q m/\q≠[]/\∀V g c x n,q=g++(c,x)::n->QR C M0 V A (g++n) m->R (.tup [cW c,k7 x]) V
abbrev za3:↑Av:=["self"]
abbrev za4(C:Cc):aE:=
   (aF (jA C.q aG "costs" (fH aB))
   (jA C.q aG "waiting" lQ))
abbrev za5:↑Av:=["self"]
abbrev za6(C:Cc):aE:=
   (bG (aH (cV ac) (bH cP (aA (cY C.q aG "costs") aB)) a6))
abbrev za7:↑Av:=["self","cost","thing"]
abbrev za8(C:Cc):aE:=
   (aF (bW (bK (aH (cA ab) aM (cY C.q aG "waiting")))
    (aF (fJ (fH aB) (gY (cY C.q aG "waiting") aM))
   (bZ (cN "list" G9 (cY C.q aG "costs") (aA (dY C.q "place_of" (HR C) aG (aA aM aB)) (aA aM aB)))))
    cB)
   (bZ (cN "list" dJ (vX (cY C.q aG "waiting") aM) (aA aT aB))))
abbrev za9:↑Av:=["self","cost","low","high","middle"]
abbrev zba(C:Cc):aE:=
   (aF (aN 4 (aH iR (aH cU aT a7) kL))
   (bW (bK (aH rO (vX (cY C.q aG "costs") a9) aM))
    (aN 2 (aH cU a9 a8))
    (aN 3 a9)))
abbrev zbb(C:Cc):aE:=(aF (aN 2 a6) (aF (aN 3 (bH cP (aA (cY C.q aG "costs") aB))) (aF (kS (bK (aH lP aT a7)) (zba C)) (bG aT))))
abbrev zbc:↑Av:=["self","cost","things","thing"]
abbrev zbd(C:Cc):aE:=
   (bW (bK (aH (cV ac) (bH cP (aA aT aB)) a6))
    (aF (bZ (mR "list" n6 (cY C.q aG "costs")))
   (bZ (cN "dict" GS (cY C.q aG "waiting") (aA aM aB))))
    cB)
abbrev zbe(C:Cc):aE:=(aF (aN 1 (vX (cY C.q aG "costs") (kM kQ a8))) (aF (aN 2 (vX (cY C.q aG "waiting") aM)) (aF (aN 3 (mR "list" n6 aT)) (aF (zbd C) (bG (bA (aA aM (aA a7 aB))))))))
theorem z3:3<=Au:=by decide
theorem bP{b:Bool}{P Q:Prop}(O:b=ab->P)(L:b=ac->Q):if b=ab then P else Q:=by cases b;exact L rfl;exact O rfl
theorem zbf{R:↑W->(Mm->Prop)->Mm->Prop}(e:w=.rl ws)(h:R ws (λ_=>True) M):L2.kT w M R:=by rw[e];exact h
theorem pV(h:M a=aa (.dT kvs))(hl:aQ kvs k=aa w)(r:R w M):mX a (.tup (k.map wK)) M R:=FC (.inr ⟨kvs,k,h,rfl,hl.symm⟩) r
theorem fI{C a s:Am}{fs:↑(Av×W)}{f:Av}{w:W}{M:Mm}{R:W->Prop}(h:M a=aa (.ins C s fs))(l:fs.lookup f=aa w)(r:R w):∃c s fs w,W.ref a=.ref c/\M c=aa (.ins C s fs)/\fs.lookup f=aa w/\R w:=⟨a,s,fs,w,rfl,h,l,r⟩
theorem mI{C a s:Am}{fs:↑(Av×W)}{f:Av}{M:Mm}{R:Am->Prop}(h:M a=aa (.ins C s fs))(l:fs.lookup f=ae)(r:R a):∃c s fs,W.ref a=.ref c/\M c=aa (.ins C s fs)/\fs.lookup f=ae/\R c:=⟨a,s,fs,rfl,h,l,r⟩
theorem zbg:bE (zQ C) (za6 C) za5:=by
 rintro _ M R ⟨M0,A,q,m,rfl,N,r⟩;let⟨I,kvs,cs,m1,U,_,mem,_⟩:=N.ex;refine fI N.ob pR (.inl ⟨_,U.sub _ _ m1.co,M,aW,?_⟩);have e:decide ((↥(cs.map cW):Int)=0)=decide (q=[]):=by
  cases cs with
  | nil=>
   cases q with
   | nil=>rfl
   | cons e q=>exact nomatch (mem e.1).mpr (Bl ..)
  | cons d cs=>
   cases q with
   | nil=>exact nomatch (mem d).mp (Bl ..)
   | cons e q=>exact(We (by rw[Bh,Bv];lia))
 show R (.bl (decide ((↥(cs.map cW):Int)=0))) M;rw[e];exact r
theorem zbh:bE (HQ C) (za4 C) za3:=by
 rintro _ M R ⟨M0,a,s,rfl,rfl,m,r⟩;refine(λp G=>?_);have d:p≠a:=λe=>by rw[e,aJ]at G;cases G
 have n:M0 p=ae:=by rw[aY d]at G;exact G
 refine⟨a,s,[],rfl,by rw[aY (Ca d),aJ],by decide,λw hw=>?_⟩;have f:w≠a:=λe=>by rw[e,aJ]at hw;cases hw
 have g:w≠p:=λe=>by rw[e,aY d,aJ]at hw;cases hw
 have i:M0 w=ae:=by rw[aY f,aY g,aY f]at hw;exact hw
 refine⟨a,s,d8 "costs" (.ref p) [],rfl,by rw[aY (Ca f),aJ],(show(1:Nat)<1000 by decide),_,aW,r _ ⟨a,s,p,w⟩ rfl ⟨Ai _,put (put M0 p (.lst [])) a (.ins C.q s (qf ⟨a,s,p,w⟩)),[],[],⟨gP (gP (aW) n) m,m,n,Ca d,aJ,by rw[aY d,aJ];rfl⟩,?_,.nil,(λc=>⟨(λh=>nomatch h),(λh=>nomatch h)⟩),Ai _⟩⟩;have e:put (put (put (put (put M0 a (.ins C.q s [])) p (.lst [])) a (.ins C.q s (d8 "costs" (.ref p) []))) w (.dT [])) a (.ins C.q s (d8 "waiting" (.ref w) (d8 "costs" (.ref p) [])))=put (put (put M0 p (.lst [])) a (.ins C.q s (qf ⟨a,s,p,w⟩))) w (.dT []):=by
  have eq:d8 "waiting" (.ref w) (d8 "costs" (.ref p) [])=qf ⟨a,s,p,w⟩:=by
   show(if (("costs" : Av)=("waiting" : Av)) then _ else _)=_;rw[Vy (by decide +kernel)];rfl
  rw[eq];funext b;unfold put
  by_cases O:b=a<;>by_cases L:b=w<;>by_cases h3:b=p<;>simp_all
 rw[e];exact⟨gP (aW) (by rw[aY f,aY g];exact i),by rw[aY f,aY g];exact i,aJ,(λ_ _=>rfl),(λk ws e=>nomatch e),(λk j p e=>nomatch e)⟩
theorem zbi:bE (HR C) (zbb C) za9:=by
 rintro _ M R ⟨A,cs,c,rfl,f,hc,r⟩;refine fI f pR (.inl ⟨_,hc,?_⟩);refine pU (λm τ V=>∃lo hi:Nat,∃o,τ=[aa (.ref A.o),aa (cW c),aa (.int lo),aa (.int hi),o]/\V=M/\hi<=↥cs/\lo<=hi/\m=hi-lo) ⟨_,0,↥cs,ae,by rw[Ab];rfl,rfl,Ai _,Cs _,rfl⟩ ?_;rintro m τ V ⟨lo,hi,o,rfl,rfl,O,L,rfl⟩ D H;refine(bP (λZ=>?_) λZ=>⟨_,aW,r lo (by lia)⟩);have Y:=Wa Z;refine⟨⟨by decide,by decide⟩,?_⟩;obtain⟨a,S⟩:∃a,a=(lo+hi)/2:=⟨_,rfl⟩;have i:((lo:Int)+(hi:Int))/2=(a:Nat):=by lia
 dsimp only;rw[i];obtain⟨d,hd⟩:∃d,cs[a]? = aa d:=⟨_,Bg (by lia)⟩;refine fI f pR (jK (w:=cW d) hc (gW (by rw[Ay,hd];rfl)) ⟨d.1,d.2,c.1,c.2,rfl,rfl,λz _=>bP (λ_=>?_) λ_=>?_⟩)
 .exact H _ _ _ (by lia) ⟨a+1,hi,_,rfl,rfl,O,by lia,rfl⟩
 .exact H _ _ _ (by lia) ⟨lo,a,_,rfl,rfl,by lia,by lia,rfl⟩
theorem zbj:bE (HS C) (za8 C) za7:=by
 rintro _ M R ⟨M0,A,q,m,c,x,rfl,N,S,r⟩;let⟨I,kvs,cs,m1,U,nd,mem,E⟩:=N.ex;have hl:=N.le;refine fI N.ob pT (.inr ⟨_,.inr ⟨kvs,cK c,U.at_,rfl,rfl⟩,?_⟩);rw[U.look c];have g:∀j,wG (q++[(c,x)]) j=if c=j then aa ((wG q c).getD []++[k7 x]) else wG q j:=λj=>by
  show lo _ (Rr _ _)=_;rw[Iz]
  by_cases hj:c=j
  .subst hj;rw[Vz rfl,Er,Vz (Wc rfl)];exact zP ..
  .rw[Vy hj,Er,Vy (λz=>hj (Wa z)),List.filter_nil,Bs]
 have le:↥(q++[(c,x)])<=m+1:=by rw[Aj];exact Eu hl
 have me:∀d,d∈(q++[(c,x)]).map (·.1)↔d=c\/d∈cs:=λd=>by rw[mem,Ax,Bb,or_comm];exact or_congr Ag Ot
 cases hg:wG q c with
 | some ws=>
  let⟨p,a,l⟩:=U.has hg;have hw:ws=(q.filter λe=>decide (e.1=c)).map λe=>k7 e.2:=by rw[<-u3,show lo _ _=aa ws from hg];rfl
  have hc:c∈cs:=(mem c).mpr (Jm λz=>by rw[u5.mpr z]at hg;cases hg);have hf:=Gr (λe=>decide (e.1=c)) q;refine fI N.ob pT (pV U.at_ a ⟨dU l,_,l,cM (by rw[hw,Ab];lia),_,aW,r _ ⟨le,I,kvs,cs,m1,(U.wr a).same λj=>by rw[g,hg];rfl,nd,λd=>?_,Nat.le_succ_of_le E⟩⟩);rw[me];exact⟨.inr,λh=>h.elim (λz=>z▸hc) id⟩
 | none=>
  have hn:c∉cs:=λz=>u5.mp hg ((mem c).mp z);have s:=len_sub nd λd hd=>(mem d).mp hd;rw[Ab]at s;refine λp G=>?_;have f:=U.add HN (ws:=[]) hg G;have n:A.o≠p:=λe=>by rw[<-e,N.ob]at G;cases G
  refine fI (by rw[aY n];exact N.ob) pT (pM (k:=cK c) (kvs:=kvs) (by rw[aY (λe=>by rw[<-e,U.at_]at G;cases G)];exact U.at_) (cM (by lia)) ?_);have t:=f.sub _ _ m1.ob;have u:=f.sub _ _ m1.co;refine fI t pR ⟨dU u,mI t zaZ ⟨A,cs,c,rfl,t,u,λi hi=>⟨_,u,cM (by rw[Ab];lia),by lia,by rw[Ab];lia,?_⟩⟩⟩;rw[show(cs.map cW).take (Int.toNat (i:Nat))++cW c::(cs.map cW).drop (Int.toNat (i:Nat))=(cs.take i++c::cs.drop i).map cW by rw[Dl,Ax,Bh,List.map_take,Qg]];have b:=f.lift (p:=A.c) (o:=.lst ((cs.take i++c::cs.drop i).map cW)) (.inr ⟨_,m1.co⟩);have m3:=m1.costs (cs':=cs.take i++c::cs.drop i);let⟨J,a,l⟩:=b.has (k:=c) (ws:=[]) (by rw[Vz rfl]);refine fI (b.sub _ _ m3.ob) pT (pV b.at_ a ⟨dU l,_,l,cM ∅,_,aW,r _ ⟨le,_,_,_,m3,(b.wr a).same (λj=>?_),Lv.nodup_iff.mpr (by rw[Hz];exact Cj.mpr ⟨hn,nd⟩),λd=>by rw[me,Lv.mem_iff,Hz,Aw],Ap (zN ..) (Eu E)⟩⟩);rw[g j,hg]
  by_cases hj:c=j
  .rw[Vz hj,Vz hj];rfl
  .rw[Vy hj,Vy hj,Vy hj]
theorem zbk:bE (HU C) (zbe C) zbc:=by
 rintro _ M R ⟨M0,A,q,m,rfl,N,S,r⟩;let⟨I,kvs,cs,m1,U,nd,mem,E⟩:=N.ex;rcases Lq cs with rfl|⟨cs,c,rfl⟩
 .cases q with
  | nil=>exact absurd rfl S
  | cons e q=>exact nomatch (mem e.1).mpr (Bl ..)
 rw[Lr]at m1 nd mem;let⟨g,x,n,rfl,hn⟩:=HP ((mem c).mp (by simp));obtain⟨ys,K⟩:∃ys,ys=g.filter λe=>decide (e.1=c):=⟨_,rfl⟩;have L:(n.filter λe=>decide (e.1=c))=[]:=List.filter_eq_nil_iff.mpr λe Z z=>hn (Ar.mpr ⟨e,Z,Wa z⟩);have hf:wG (g++(c,x)::n) c=aa (ys.map (λe=>k7 e.2)++[k7 x]):=by
  show lo _ (Rr _ _)=_;rw[Iz,Er,Vz (Wc rfl),L,<-K,zP,u3]
 have hg:∀j,wG (g++n) j=if c=j then lo (λe=>k7 e.2) ys else wG (g++(c,x)::n) j:=λj=>by
  show lo _ (Rr _ _)=if c=j then _ else lo _ (Rr _ _);rw[Iz,Iz,Er]
  by_cases hj:c=j
  .subst hj;rw[Vz rfl,L,Bs,<-K]
  .rw[Vy hj,Vy (λz=>hj (Wa z))]
 let⟨p,a,l⟩:=U.has hf;have B:I A.c=aa (.lst (cs.map cW++[cW c])):=by rw[m1.co,Ax];rfl
 have le:↥(g++n)<=m:=Ap (by rw[Aj,Aj,Bv];lia) N.le;have me:∀d,d∈cs++[c]↔d=c\/d∈(g++n).map (·.1):=λd=>by rw[mem,Ax,Bh,Lv.mem_iff,Aw,Ax]
 have f:=U.wr (ws:=ys.map λe=>k7 e.2) a;refine fI N.ob pR (jK (U.sub _ _ B) (CW _ _) (fI N.ob pT (pV U.at_ a ⟨dU l,⟨_,_,l,.inl ⟨_,aJ,?_⟩⟩⟩)));cases ys with
 | nil=>
  have m2:=m1.costs (cs':=cs);have b:=f.lift (p:=A.c) (o:=.lst (cs.map cW)) (.inr ⟨_,B⟩);have hc:c∉(g++n).map (·.1):=u5.mp ((hg c).trans (Vz rfl));refine fI (f.sub _ _ m1.ob) pR ⟨dU (f.sub _ _ B),_,_,f.sub _ _ B,fI (b.sub _ _ m2.ob) pT ⟨uZ b.at_,_,cK c,_,b.at_,rfl,a,_,aW,r _ _ _ _ _ rfl ⟨le,_,_,cs,m2,(b.del (k:=c) HN).same (λj=>?_),(Cv.mp nd).1,λd=>⟨λh=>?_,λh=>?_⟩,Ap (Gr ..) E⟩⟩⟩
  .rw[hg]
   by_cases hj:c=j
   .rw[Vz hj,Vz hj];rfl
   .rw[Vy hj,Vy hj,Vy hj]
  .refine((me d).mp (Bf _ h)).resolve_left λz=>?_;exact(Cv.mp nd).2.2 d h c (Ag.mpr rfl) z
  .exact(Bb.mp ((me d).mpr (.inr h))).resolve_right λz=>hc (Ag.mp z▸h)
 | cons y ys=>
  refine⟨_,aW,r _ _ _ _ _ rfl ⟨le,_,_,_,m1,f.same (λj=>hg j),nd,λd=>(me d).trans ⟨λh=>h.elim (λz=>?_) id,.inr⟩,E⟩⟩;rw[z];exact Jm λz=>by have:=(hg c).symm.trans (u5.mpr z);rw[Vz rfl]at this;cases this
def kx(x:Nat×Nat):↑aC:=[Sum.inl x.1,Sum.inl x.2,Sum.inl 0,Sum.inl 0]
theorem zbl(h:kx x=kx y):x=y:=by
 unfold kx at h;simp only[Fh,Pd,and_true,Int.natCast_inj]at h;exact Pe h.1 h.2
def told(B:c8)(t:Av):Prop:=(t,0,0)∈B.map (·.1)
structure One(G:Sr):Prop where
 pl:G.places=[0]
 st:∀t,G.steps t 0=[]\/∃c,G.steps t 0=[(0,c)]
structure Gd(G:Sr):Prop where
 o:One G
 n:↥G.rs<=100
 p:∀r∈G.rs,↥r.parts<=900
def eE(G:Sr)(B:c8)(t:Av):Prop:=if G.own t=ab then told B t else G.steps t 0≠[]
def At(G:Sr)(t:Av)(x:Nat×Nat):Prop:=G.own t=ab/\∃r,G.rs[x.1]? = aa r/\r.parts[x.2-1]? = aa t
structure Sd(G:Sr)(B:c8)(P:↑(Nat×Nat))(x:Nat×Nat)(r:aD):Prop where
 ru:G.rs[x.1]? = aa r
 one:1<=x.2
 le:x.2<=↥r.parts+1
 ok:∀t∈r.parts.take (x.2-1),eE G B t
 pd:2<=x.2->(x.1,x.2-1)∈P
structure SS where
 q:Qu
 rk:↑(↑aC×W)
 best:c8
 en:Av->↑cZ
 bg:Av->Qu
 bn:Nat
 n:Nat
abbrev al(P:↑(Nat×Nat))(q:Qu)(X:↑(Nat×Nat)):=P++q.map (·.2)++X
def Ord(G:Sr)(B:c8):Prop:=∀pre e post,B=pre++e::post->∃r,G.rs[e.2.2.1]? = aa r/\e.1=(r.name,0,0)/\e.2.2.2=rep (↥r.parts+1)/\(∀t∈r.parts,eE G pre t)/\¬told pre r.name
structure J(G:Sr)(st:SS)(P X:↑(Nat×Nat)):Prop where
 g:Gd G
 nd:(al P st.q X).Nodup
 it:∀e∈st.q,aQ st.rk (kx e.2)=aa (cW e.1)
 rch:∀x,(aQ st.rk (kx x)).isSome=ab->x∈P++st.q.map (·.2)
 rl:st.n<=↥(P++st.q.map (·.2))
 sd:∀x∈al P st.q X,∃r,Sd G st.best P x r
 fin:∀x∈P,∀r,G.rs[x.1]? = aa r->r.parts[x.2-1]? = ae->told st.best r.name
 nx:∀x∈P,∀r t,G.rs[x.1]? = aa r->r.parts[x.2-1]? = aa t->eE G st.best t->(x.1,x.2+1)∈al P st.q X
 bg:∀t x,x∈(st.bg t).map (·.2)↔x∈P/\At G t x
 bd:∀t,((st.bg t).map (·.2)).Nodup
 en:∀t,(st.en t=[]/\¬told st.best t)\/∃c,st.en t=[c]/\told st.best t
 ini:∀n r,G.rs[n]? = aa r->(n,1)∈al P st.q X
 ln:↥st.best<=↥P/\st.bn<=↥P
 bs:Ord G st.best
section
variable {G:Sr}{st:SS}{P X:↑(Nat×Nat)}{c:cZ}{x:Nat×Nat}{q1 q2:Qu}{r:aD}{t:Av}{B B':c8}
theorem J.free(j:J G st P (x::X)):aQ st.rk (kx x)=ae:=by
 cases e:aQ st.rk (kx x) with
 | none=>rfl
 | some w=>exact absurd rfl ((Cv.mp j.nd).2.2 x (j.rch x (by rw[e];rfl)) x (Bl ..))
theorem J.reach(j:J G st P (x::X)):J G {st with rk:=bY st.rk (kx x) (cW c),q:=st.q++[(c,x)],n:=st.n+1} P X:=by
 have I:P++(st.q++[(c,x)]).map (·.2)=P++st.q.map (·.2)++[x]:=by rw[Ax,<-Bx];rfl
 have e:al P (st.q++[(c,x)]) X=al P st.q (x::X):=by unfold al;rw[I,Bx];rfl
 have S:∀y,y∈al P (st.q++[(c,x)]) X↔y∈al P st.q (x::X):=λy=>by rw[e]
 refine⟨j.g,(congrArg Vx e).mpr j.nd,λy K=>?_,λy K=>?_,?_,λy h=>j.sd y ((S y).mp h),j.fin,λy h r t O L h3=>(S _).mpr (j.nx y h r t O L h3),j.bg,j.bd,j.en,λn r h=>(S _).mpr (j.ini n r h),j.ln,j.bs⟩
 .show aQ (bY _ _ _) _=_;rw[l6];rcases Bb.mp K with K|K
  .rw[Vy (λz=>by have:=j.it y K;rw[<-z,j.free]at this;cases this)];exact j.it y K
  .rw[Ag.mp K,Vz rfl]
 .have K:(aQ (bY st.rk (kx x) (cW c)) (kx y)).isSome=ab:=K;show y∈P++(st.q++[(c,x)]).map (·.2);rw[I];rw[l6]at K;split at K
  .exact Bo _ (Ag.mpr (zbl ‹_›).symm)
  .exact Bf _ (j.rch y K)
 .show _<=↥(P++(st.q++[(c,x)]).map (·.2));rw[I,Aj];exact Eu j.rl
theorem HV:told (B++[e]) t↔told B t\/e.1=(t,0,0):=by
 unfold told;rw[Ax,Bb];exact or_congr Ot (by rw[List.map_singleton,Ag];exact eq_comm)
theorem eE.mono(d:told B t->told B' t)(h:eE G B t):eE G B' t:=by
 unfold eE at h⊢;split
 .rw[Vz ‹_›]at h;exact d h
 .rw[Vy ‹_›]at h;exact h
theorem Sd.next(s:Sd G B P x r)(h:r.parts[x.2-1]? = aa t)(d:∀t,told B t->told B' t)(ok:eE G B' t)(hz:x∈a):Sd G B' a (x.1,x.2+1) r:=by
 have O:=(An.mp h).1;have L:=s.one;refine⟨s.ru,Oy ..,by show x.2+1<=_;lia,λu W=>?_,λ_=>hz⟩;have W:u∈r.parts.take (x.2-1+1):=by rw[Nc L];exact W
 rw[Cf,h]at W;rcases Bb.mp W with W|W
 .exact(s.ok u W).mono (d u)
 .rw[Option.toList_some,Ag]at W;rw[W];exact ok
theorem J.step{E:Av->↑cZ}{b:Av->Qu}{n:Nat}(j:J G st P [])(N:st.q=q1++(c,x)::q2)(hl:↥B<=↥st.best+1/\n<=st.bn+1)(u:X.Nodup)(i:∀y∈X,y∉P++st.q.map (·.2))(f:∀y∈X,∃r,Sd G B (P++[x]) y r)(d:∀t,told st.best t->told B t)(fin:∀r,G.rs[x.1]? = aa r->r.parts[x.2-1]? = ae->told B r.name)(nx:∀y r t,(y∈P/\¬eE G st.best t)\/y=x->G.rs[y.1]? = aa r->r.parts[y.2-1]? = aa t->eE G B t->(y.1,y.2+1)∈X)(bg:∀t,(b t=st.bg t/\¬At G t x)\/(b t=st.bg t++[(c,x)]/\At G t x))(en:∀t,(E t=[]/\¬told B t)\/∃c,E t=[c]/\told B t)(bs:Ord G B):J G ⟨q1++q2,st.rk,B,E,b,n,st.n⟩ (P++[x]) X:=by
 have S:(P++[x]++(q1++q2).map (·.2)).Perm (P++st.q.map (·.2)):=by
  rw[N,Ax,Ax,Bh,Bx,List.singleton_append];exact List.Perm.append_left _ Lv.symm
 have nd:=j.nd;unfold al at nd;rw[Bs]at nd;have F:∀y,y∈P++[x]++(q1++q2).map (·.2)↔y∈P++st.q.map (·.2):=λy=>S.mem_iff;have up:∀{y},y∈al P st.q []->y∈al (P++[x]) (q1++q2) X:=λh=>Bf _ ((F _).mpr (by unfold al at h;rwa [Bs]at h));have k:x∉P:=λz=>(Cv.mp nd).2.2 x z x (by rw[N];simp) rfl;have lt:∀{y},y∈P++[x]->y∈P\/y=x:=λh=>(Bb.mp h).imp_right Ag.mp;refine⟨j.g,Cv.mpr ⟨S.nodup_iff.mpr nd,u,λa m b Z e=>i b Z (e▸(F a).mp m)⟩,λe Y=>j.it e (by rw[N];exact Lv.mem_iff.mpr (Bj _ Y)),λy h=>(F y).mpr (j.rch y h),by rw[S.length_eq];exact j.rl,λy K=>?_,λy K r O L=>?_,λy K r t O L h3=>?_,λt y=>?_,λt=>?_,en,λn r h=>up (j.ini n r h),?_,bs⟩
 .rcases Bb.mp K with K|K
  .let⟨r,s⟩:=j.sd y (Bf _ ((F y).mp K));exact⟨r,s.ru,s.one,s.le,λt h=>(s.ok t h).mono (d t),λh=>Bf _ (s.pd h)⟩
  .exact f y K
 .rcases lt K with K|rfl
  .exact d _ (j.fin y K r O L)
  .exact fin r O L
 .by_cases o:y∈P/\eE G st.best t
  .exact up (j.nx y o.1 r t O L o.2)
  .exact Bo _ (nx y r t ((lt K).imp_left λh=>⟨h,λz=>o ⟨h,z⟩⟩) O L h3)
 .show y∈(b t).map _↔_;rcases bg t with⟨h,n⟩|⟨h,a⟩
  .rw[h,j.bg];exact⟨λz=>⟨Bf _ z.1,z.2⟩,λz=>⟨(lt z.1).resolve_right λe=>n (e▸z.2),z.2⟩⟩
  .rw[h,Ax,Bb,j.bg];exact⟨λz=>z.elim (λz=>⟨Bf _ z.1,z.2⟩) λz=>(Ag.mp z)▸⟨Bo _ (Ag.mpr rfl),a⟩,λz=>(lt z.1).imp (λh=>⟨h,z.2⟩) λh=>Ag.mpr h⟩
 .show((b t).map _).Nodup;rcases bg t with⟨h,n⟩|⟨h,a⟩
  .rw[h];exact j.bd t
  .rw[h,Ax,Cv];exact⟨j.bd t,by simp,λy K z hz e=>k (((j.bg t x).mp ((show y=x from e.trans (Ag.mp hz))▸K)).1)⟩
 .have h:=j.ln;rw[Aj];exact⟨Ap hl.1 (Eu h.1),Ap hl.2 (Eu h.2)⟩
theorem J.at_(j:J G st P [])(N:st.q=q1++(c,x)::q2):∃r,Sd G st.best P x r:=j.sd x (Bf _ (Bo _ (by rw[N];simp)))
theorem J.part{b:Av->Qu}{n:Nat}(j:J G st P [])(N:st.q=q1++(c,x)::q2)(T:G.rs[x.1]? = aa r)(S:r.parts[x.2-1]? = aa t)(hn:n<=st.bn+1)(u:(X=[]/\¬eE G st.best t)\/(X=[(x.1,x.2+1)]/\eE G st.best t))(Z:∀t',b t'=if G.own t=ab/\t=t' then st.bg t'++[(c,x)] else st.bg t'):J G ⟨q1++q2,st.rk,st.best,st.en,b,n,st.n⟩ (P++[x]) X:=by
 let⟨W,s⟩:=j.at_ N;cases T.symm.trans s.ru;have B:∀y∈X,y=(x.1,x.2+1)/\eE G st.best t:=λy K=>by
  rcases u with⟨rfl,_⟩|⟨rfl,h⟩
  .cases K
  .exact⟨Ag.mp K,h⟩
 have m:∀t',At G t' x↔G.own t=ab/\t=t':=λt'=>by
  refine⟨λ⟨O,R,L,h3⟩=>?_,λ⟨O,L⟩=>L▸⟨O,r,T,S⟩⟩;rw[T]at L;cases L;rw[S]at h3;cases h3;exact⟨O,rfl⟩
 refine j.step N ⟨Hi _,hn⟩ ?_ (λy K z=>?_) (λy K=>?_) (λ_ h=>h) (λW O L=>?_) (λy W t' h O L h3=>?_) (λt'=>?_) j.en j.bs
 .rcases u with⟨rfl,_⟩|⟨rfl,_⟩
  .exact .nil
  .simp
 .rw[(B y K).1]at z;let⟨_,M⟩:=j.sd _ (Bf _ z);refine(Cv.mp (Cv.mp j.nd).1).2.2 x (M.pd ?_) x (by rw[N];simp) rfl;have:=s.one;show 2<=x.2+1;lia
 .let⟨rfl,h⟩:=B y K;exact⟨r,s.next S (λ_ h=>h) h (Bo _ (Ag.mpr rfl))⟩
 .rw[T]at O;cases O;rw[S]at L;cases L
 .rcases h with h|rfl
  .exact absurd h3 h.2
  .rw[T]at O;cases O;rw[S]at L;cases L;rcases u with⟨_,h⟩|⟨rfl,_⟩
   .exact absurd h3 h
   .exact Ag.mpr rfl
 .rw[Z,m]
  by_cases h:G.own t=ab/\t=t'
  .rw[Vz h];exact .inr ⟨rfl,h⟩
  .rw[Vy h];exact .inl ⟨rfl,h⟩
theorem J.old(j:J G st P [])(N:st.q=q1++(c,x)::q2)(T:G.rs[x.1]? = aa r)(S:r.parts[x.2-1]? = ae)(f:told st.best r.name):J G {st with q:=q1++q2} (P++[x]) []:=by
 refine j.step N ⟨Hi _,Hi _⟩ .nil (λ_ h=>nomatch h) (λ_ h=>nomatch h) (λ_ h=>h) (λW O _=>?_) (λy W t h O L h3=>?_) (λt=>.inl ⟨rfl,λ⟨_,W,O,L⟩=>?_⟩) j.en j.bs
 .rw[T]at O;cases O;exact f
 .rcases h with h|rfl
  .exact absurd h3 h.2
  .rw[T]at O;cases O;rw[S]at L;cases L
 .rw[T]at O;cases O;rw[S]at L;cases L
theorem J.set(j:J G st P [])(N:st.q=q1++(c,x)::q2)(T:G.rs[x.1]? = aa r)(S:r.parts[x.2-1]? = ae)(b:¬told st.best r.name):J G ⟨q1++q2,st.rk,st.best++[((r.name,0,0),c,x.1,rep x.2)],λt=>if r.name=t then [c] else st.en t,st.bg,st.bn,st.n⟩ (P++[x]) ((st.bg r.name).map λe=>(e.2.1,e.2.2+1)):=by
 let⟨W,s⟩:=j.at_ N;cases T.symm.trans s.ru;have hk:x.2=↥r.parts+1:=by
  have:=List.getElem?_eq_none_iff.mp S;have:=s.le;have:=s.one;lia
 have tl:∀t,told (st.best++[((r.name,0,0),c,x.1,rep x.2)]) t↔told st.best t\/r.name=t:=λt=>by
  rw[HV];exact or_congr Ot ⟨λh=>(My h).1,λh=>by rw[h]⟩
 have F:∀y∈(st.bg r.name).map (λe=>(e.2.1,e.2.2+1)),∃z,y=(z.1,z.2+1)/\z∈P/\G.own r.name=ab/\∃W,Sd G st.best P z W/\W.parts[z.2-1]? = aa r.name:=λy K=>by
  let⟨e,Z,rfl⟩:=Ar.mp K;let⟨O,L,W,h3,m⟩:=(j.bg r.name e.2).mp (Ar.mpr ⟨e,Z,rfl⟩);let⟨R,Y⟩:=j.sd e.2 (Bf _ (Bf _ O));cases h3.symm.trans Y.ru;exact⟨e.2,rfl,O,L,_,Y,m⟩
 have ok:∀{B},G.own r.name=ab->(eE G B r.name↔told B r.name):=λo=>by unfold eE;rw[Vz o]
 refine j.step N ⟨by rw[Aj];exact Ai _,Hi _⟩ ?_ (λy K w=>?_) (λy K=>?_) (λt h=>(tl t).mpr (.inl h)) (λW O _=>?_) (λy W t h O L h3=>?_) (λt=>.inl ⟨rfl,λ⟨_,W,O,L⟩=>?_⟩) (λt=>?_) λpre e post h=>?_
 .have:=j.bd r.name;unfold Vx at this⊢;rw[Jk]at this⊢;exact this.imp λh e=>h (Pe (My e).1 (Sg (My e).2))
 .let⟨z,rfl,O,L,W,U,h3⟩:=F y K;let⟨R,Y⟩:=j.sd _ (Bf _ w);cases U.ru.symm.trans Y.ru;have O:=U.one;exact b ((ok L).mp (Y.ok _ (Ao (i:=z.2-1) (by show(W.parts.take z.2)[_]? = _;rw[List.getElem?_take,Vz (by lia)];exact h3))))
 .let⟨z,rfl,O,L,W,U,h3⟩:=F y K;exact⟨W,U.next h3 (λt h=>(tl t).mpr (.inl h)) ((ok L).mpr ((tl _).mpr (.inr rfl))) (Bf _ O)⟩
 .rw[T]at O;cases O;exact(tl _).mpr (.inr rfl)
 .rcases h with⟨h,m⟩|rfl
  .have a:G.own t=ab:=Jm λo=>by
    unfold eE at m h3;rw[Vy o]at m h3;exact m h3
   unfold eE at m h3;rw[Vz a]at m h3;have:=((tl t).mp h3).resolve_left m;let⟨e,Z,rfl⟩:=Ar.mp ((j.bg t y).mpr ⟨h,a,W,O,L⟩);exact Ar.mpr ⟨e,this▸Z,rfl⟩
  .rw[T]at O;cases O;rw[S]at L;cases L
 .rw[T]at O;cases O;rw[S]at L;cases L
 .show((if r.name=t then [c] else st.en t)=[]/\_)\/∃d,(if r.name=t then [c] else st.en t)=[d]/\_;rw[tl]
  by_cases e:r.name=t
  .rw[Vz e];exact .inr ⟨c,rfl,.inr e⟩
  .rw[Vy e];rcases j.en t with⟨O,L⟩|⟨d,O,L⟩
   .exact .inl ⟨O,λz=>z.elim L e⟩
   .exact .inr ⟨d,O,.inl L⟩
 .rcases Lq post with rfl|⟨post,y,rfl⟩
  .let⟨O,L⟩:=List.append_inj' h rfl;cases L;rw[<-O];refine⟨r,T,rfl,by rw[hk],λt ht=>s.ok t ?_,b⟩;rw[hk,Nat.add_sub_cancel,Bw];exact ht
  .rw[Lr,<-List.cons_append,<-Bx]at h;exact j.bs pre e post (List.append_inj' h rfl).1
def zR:SS:=⟨[],[],[],λ_=>[],λ_=>[],0,0⟩
theorem J.start(g:Gd G):J G zR [] ((Cp ↥G.rs).map λn=>(n,1)):=by
 refine⟨g,List.Pairwise.map _ (λa b h z=>h (My z).1) Rj,(λ_ h=>nomatch h),(λx h=>nomatch (show ac=ab from h)),Ai _,λx S=>?_,(λ_ h=>nomatch h),(λ_ h=>nomatch h),λt x=>⟨(λh=>nomatch h),λh=>(nomatch h.1)⟩,λ_=>.nil,λt=>.inl ⟨rfl,(λh=>nomatch h)⟩,λn r h=>?_,⟨Ai _,Ai _⟩,λpre e post h=>by cases pre<;>cases h⟩
 .let⟨n,hn,rfl⟩:=Ar.mp S;exact⟨_,Bg (Hf.mp hn),Ai _,Oy _ _,λt h=>(by simp at h),λh=>absurd (show 2<=1 from h) ∅⟩
 .exact Ar.mpr ⟨n,Hf.mpr (An.mp h).1,rfl⟩
theorem J.few(j:J G st P X):↥(al P st.q X)<=90100:=by
 have:=len_sub (b:=(Cp ↥G.rs).flatMap λn=>(Cp 901).map λk=>(n,k+1)) j.nd λx S=>by
  let⟨r,s⟩:=j.sd x S;have L:=j.g.p r (Ao s.ru);have h3:=s.le;exact List.mem_flatMap.mpr ⟨x.1,Hf.mpr (An.mp s.ru).1,Ar.mpr ⟨x.2-1,Hf.mpr (by lia),by rw[Nc s.one]⟩⟩
 rw[HM (k:=901) λn _=>by rw[Ab,Jl],Jl]at this;have:=j.g.n;lia
theorem J.small(j:J G st P X):st.n<100000/\st.bn<100000/\↥st.best<100000:=by
 have h:=j.few;have:=j.rl;have:=j.ln;unfold al at h;rw[Aj,Aj]at *;exact⟨by lia,by lia,by lia⟩
theorem J.bl(j:J G st P X):↥(st.bg t)<100000:=by
 have:=len_sub (j.bd t) λx S=>((j.bg t x).mp S).1;have h:=j.few;unfold al at h;rw[Aj,Aj]at h;rw[Ab]at this;lia
structure l8(G:Sr)(B:c8):Prop where
 cl:∀r∈G.rs,(∀t∈r.parts,eE G B t)->told B r.name
 bs:Ord G B
theorem J.done(j:J G st P [])(N:st.q=[]):l8 G st.best:=by
 refine⟨λr T ok=>?_,j.bs⟩;let⟨n,hn⟩:=Ii T;have a:∀{x},x∈al P st.q []->x∈P:=λh=>by unfold al at h;rw[N]at h;simpa using h
 have go:∀k,k<=↥r.parts->(n,k+1)∈P:=λk=>by
  induction k with
  | zero=>exact λ_=>a (j.ini n r hn)
  | succ k E=>
   intro hk;have S:r.parts[k+1-1]? = aa r.parts[k]:=Bg hk;exact a (j.nx _ (E (by lia)) r _ hn S (ok _ (Rk hk)))
 exact j.fin _ (go _ (Ai _)) r hn (Oz (Ai _))
end
def ownB(rs:↑aD)(t:Av):Bool:=decide (t∈namesOf rs)
theorem u6(h:r∈rs):ownB rs r.name=ab:=Wc (iT.mpr ⟨r,h,rfl⟩)
def jM(rs:↑aD)(ss:↑Av):Sr:=⟨rs,ownB rs,[0],λt p=>if p=0/\t∈ss then [(0,1)] else [],λ_=>0⟩
theorem HW:(jM rs ss).steps t 0=if t∈ss then [(0,1)] else []:=by
 show(if (0:Int)=0/\t∈ss then _ else _)=_
 by_cases h:t∈ss
 .rw[Vz ⟨rfl,h⟩,Vz h]
 .rw[Vy (λz=>h z.2),Vy h]
theorem HX(rs:↑aD)(ss:↑Av):One (jM rs ss):=⟨rfl,λt=>by
 rw[HW];split
 .exact .inr ⟨_,rfl⟩
 .exact .inl rfl⟩
inductive iU(rs:↑aD)(w:Bool):Av->Prop
 | mk {r:aD}:r∈rs->(∀t∈r.parts,ownB rs t=ab->iU rs w t)->(∀t∈r.parts,ownB rs t=ac->w=ab)->iU rs w r.name
theorem u7:eE (jM rs ss) B t↔(ownB rs t=ab->told B t)/\(ownB rs t=ac->t∈ss):=by
 unfold eE;show(if ownB rs t=ab then _ else _)↔_;cases h:ownB rs t with
 | true=>rw[Vz rfl];simp
 | false=>
  rw[Vy ∅,HW];split<;>simp_all
theorem zbm{w:Bool}(hw:∀r∈rs,∀t∈r.parts,ownB rs t=ac->(t∈ss↔w=ab))(F:l8 (jM rs ss) B)(X:Av):told B X↔iU rs w X:=by
 constructor
 .have:∀k pre post,↥pre=k->B=pre++post->∀X,told pre X->iU rs w X:=by
   intro k
   induction k with
   | zero=>intro pre post h _ X u;rw[Fl.mp h]at u;cases u
   | succ k E=>
    intro pre post h Z X u;rcases Lq pre with rfl|⟨pre,e,rfl⟩
    .cases h
    rw[Lr]at u Z h;rw[Aj]at h;have go:=E pre (e::post) (Sg h) (by rw[Z,Bx];rfl);rcases HV.mp u with O|O
    .exact go X O
    .let⟨r,L,h3,_,m,_⟩:=F.bs pre e post (by rw[Z,Bx];rfl);rw[h3]at O;rw[<-(My O).1];have S:=Ao L;exact .mk S (λt ht f=>go t ((u7.mp (m t ht)).1 f)) λt ht f=>(hw r S t ht f).mp ((u7.mp (m t ht)).2 f)
  exact this ↥B B [] rfl (Bs B).symm X
 .intro h
  induction h with
  | mk T _ L E=>exact F.cl _ T λt ht=>u7.mpr ⟨E t ht,λf=>(hw _ T t ht f).mpr (L t ht f)⟩
theorem zbn(F:l8 G B):(B.map (·.1)).Nodup:=by
 rw[Gm,Jk];refine List.pairwise_iff_getElem.mpr λi j hi hj p e=>?_;let⟨r,_,L,_,_,h3⟩:=F.bs _ _ _ (show B=B.take j++B[j]::B.drop (j+1) by rw[<-Fw hj,Hz]);rw[L]at e;refine h3 (Ar.mpr ⟨B[i],?_,e⟩);rw[List.mem_iff_getElem];exact⟨i,by rw[Cg];lia,by rw[List.getElem_take]⟩
theorem HY(F:l8 G B)(h:f∈B.map (·.1)):∃r∈G.rs,f=(r.name,0,0):=by
 let⟨e,Y,rfl⟩:=Ar.mp h;let⟨pre,post,Z⟩:=List.append_of_mem Y;let⟨r,O,L,_⟩:=F.bs pre e post Z;exact⟨r,Ao O,L⟩
theorem HZ(F:l8 G B):↥B<=↥(namesOf G.rs):=by
 have:=len_sub (b:=(namesOf G.rs).map λX=>(X,(0:Int),(0:Int))) (zbn F) λf hf=>by
  let⟨r,O,L⟩:=HY F hf;exact Ar.mpr ⟨r.name,iT.mpr ⟨r,O,rfl⟩,L.symm⟩
 rwa [Ab,Ab]at this
open Classical in
def l9(rs:↑aD)(w:Bool)(t:Av):Bool:=decide (iU rs w t)
theorem pW{w:Bool}:l9 rs w t=ab↔iU rs w t:=by unfold l9;exact @decide_eq_true_iff _ (Classical.propDecidable _)
section
variable {X:Cx}
abbrev oG:R3:=λx y M R=>∃i j,x=.str i/\y=.str j/\↥i+↥j<=Au/\R (.str (i++j)) M
abbrev u9:R3:=λx y M R=>∃z n,x=.str z/\y=.int n/\↥z<=16/\-(2 ^ 63)<=n/\n<=1048576/\R (.str (Iu z n)) M
theorem zbo:bB X (Eh .Add) (cJ X.K oG):=by
 rintro B s C H x y v u Q I G P ⟨t,l,M,R,Y,N,S,⟨i,j,rfl,rfl,O,L⟩,k⟩;exact Q4 B s C H _ _ v u Q I G P ⟨i,j,N.inv,S.inv,O,k.at Y (.str _) L⟩
theorem zbp:bB X (Eh .Mult) (cJ X.K u9):=by
 rintro B s C H x y v u Q I G P ⟨t,l,M,R,Y,N,S,⟨z,n,rfl,rfl,O,L,h3,m⟩,k⟩;exact U5 B s C H _ _ v u Q I G P ⟨z,n,N.inv,S.inv,O,L,h3,k.at Y (.str _) m⟩
end
def zS:aV:=λws M R=>∃z g:Av,ws=[.str z,.str g]/\↥z<=1000/\R (.bl (lH z g)) M
def IA:aV:=λws M R=>∃z:Av,ws=[.str z]/\↥z<=1000/\R (.bl (bV z)) M
def jB:aV:=λws M R=>∃rs:↑aD,ws=[.rl (rs.map bF)]/\↥rs<=400/\aP ((namesOf rs).map W.str) M R
def rR:aV:=λws M R=>∃(r:aD) (rs:↑aD),ws=[.rl ((r::rs).map bF)]/\R (.str r.name) M
def IC:aV:=λws M R=>∃(r:aD) (ns:↑Av),ws=[bF r,.rl (ns.map W.str)]/\0<=r.cost/\(∀t∈r.parts,↥t<=1000/\(bV t=ab->t∈ns))/\R .non M
def rS:aV:=λws M R=>∃(g:↑W) (k:Int),(ws=[.sc g,.int k]\/ws=[.rl g,.int k])/\pK g/\0<=k/\∀i,R (.int i) M
def vA:aV:=λws M R=>∃c k:Int,ws=[.int c,.int k]/\0<=k/\k<=1000/\∀z:Int,0<=z->z<10 ^ 61->R (.int z) M
def rT:aV:=λws M R=>∃(c:Int) (ss:↑Int),ws=[.int c,.rl (ss.map W.int)]/\↥ss<=100/\(∀s∈ss,0<s/\s<=10 ^ 59)/\∀Q,Drawn Q ss->aP (Q.map W.int) M R
def zT:aV:=λws M R=>∃(n m:Int) (g:Bool),ws=[.int n,.int m,.bl g]/\0<=m/\m<=12/\∀ts:↑Av,↥ts=m.toNat->(∀t∈ts,uX g t)->aP (ts.map W.str) M R
def ID:aV:=λws M R=>∃(c:Int) (F wds:↑Av) (f:Int),ws=[.int c,.rl (F.map W.str),.rl (wds.map W.str),.int f]/\0<↥F/\↥F<=12/\↥wds=3/\0<=f/\f<=4/\∀r:aD,mZ F wds r->(↥r.parts:Int)<=f->R (bF r) M
def IE:aV:=λws M R=>∃(g:↑W) (d f:Int),ws=[.rl g,.int d,.int f]/\pK g/\↥g<=40/\1<=d/\d<=12/\1<=f/\f<=4/\∀rs:↑aD,zaP rs->(∀r∈rs,(↥r.parts:Int)<=f)->(∃F wds:↑Av,(↥F:Int)<=d/\↥wds=3/\(∀t∈F,dA t)/\(∀t∈wds,eS t)/\(∀r∈rs,mZ F wds r)/\(∀t∈F,∃r∈rs,r.name=t)/\(↥rs:Int)<=↥g+d/\∃k,k<=↥g-1/\∀r∈rs.drop k,↥r.parts<=1)->aP (rs.map bF) M R
abbrev zbq:↑Av:=["text","signs"]
abbrev zbr:aE:=
   (bG (tZ (aH (cV ab) aG (vC (.str ""))) (bH uE (aA (bJ (dR (bT cD aG) (aX 0) eR (aH (cA ac) aG aM) [ae,aa 1])) aB))))
abbrev zbs:↑Av:=["part","pieces","right_end"]
abbrev zbt:aE:=
   (aN 1 (cN "str" F1 aG (aA (vC (.str "_")) aB)))
abbrev zbu:aE:=
   (aN 2 (n4 (aH (cV ac) (vX aM a8) (vC (.str ""))) (aS zS (aA (vX aM kL) (aA (vC (.str "0123456789")) aB)))))
abbrev IF:aE:=
   (bG (tZ aT (aS zS (aA (vX aM a6) (aA (vC (.str "ABCDEFGHIJKLMNOPQRSTUVWXYZ")) aB)))))
abbrev zbv:aE:=(aF zbt (aF zbu IF))
abbrev zbw:↑Av:=["grammar","found","rule"]
abbrev zbx:aE:=
   (aN 1 rE)
abbrev zby:aE:=
   (fJ (vC (.bl ab)) (gY aM (vX aT a6)))
abbrev zbz:aE:=
   (cC (bT cD aG) (aX 2) zby)
abbrev zbA:aE:=
   (bG (bH uD (aA aM aB)))
abbrev zbB:aE:=(aF zbx (aF zbz zbA))
abbrev zbC:↑Av:=["grammar"]
abbrev zbD:aE:=
   (bG (vX (vX aG a6) a6))
abbrev zbE:↑Av:=["rule","known","part"]
abbrev zbF:aE:=
   (aF (bW (bK (aH lP (vX aG kL) a6))
    uH
    cB)
   (cC (bT cD (vX aG a8)) (aX 2)
    (bW (iQ (dQ (aS IA (aA aT aB))) (bK (aH (cA ab) aT aM)))
    uH
    cB)))
abbrev zbG:↑Av:=["script","k"]
abbrev zbH:aE:=
   (aF (bW (bK (aH lP aM (bH cP (aA aG aB))))
    (bG (vX aG aM))
    cB)
   (bG a6))
abbrev zbI:↑Av:=["cell","k","number"]
abbrev zbJ:aE:=
   (aN 2 (aH cU (aH cU (aH kU (aH fP aG (aH i6 (vI 10) (vI 40))) (vI 48271)) (aH kU (aH kU (aH i6 jX (vI 60)) (aH cU aM a8)) (aH cU aM a8))) aM))
abbrev zbK:aE:=
   (aN 2 (aH cU (aH kU aT aT) (aH kU (vI 69621) aT)))
abbrev zbL:aE:=
   (bG (aH iR (aH fP (aH kU aT aT) (aH cU (aH i6 (vI 10) (vI 61)) (vI 7))) (vI 8)))
abbrev zbM:aE:=(aF zbJ (aF zbK zbL))
abbrev zbN:↑Av:=["cell","sizes","found","rest","k"]
abbrev zbO:aE:=
   (aN 2 (fH aB))
abbrev zbP:aE:=
   (aN 3 (aH kP aG (aH i6 (vI 10) (vI 18))))
abbrev zbQ:aE:=
   (bW (bK (aH yH aG (aH i6 (vI 10) (vI 18))))
    (aF (bZ (cN "list" dJ aT (aA (aH fP a7 (vX aM a9)) aB)))
   (aN 3 (aH iR a7 (vX aM a9))))
    (bZ (cN "list" dJ aT (aA (aH fP (aS vA (aA aG (aA a9 aB))) (vX aM a9)) aB))))
abbrev zbR:aE:=
   (cC (n9 (aA (bH cP (aA aM aB)) aB)) (aX 4) zbQ)
abbrev zbS:aE:=
   (bG aT)
abbrev zbT:aE:=(aF zbO (aF zbP (aF zbR zbS)))
noncomputable abbrev zbU:↑Av:=["number","many","great","letters","pad","size","at","first","found","k","sign"]
abbrev zbV:aE:=
   (aN 3 (vC (.str "abcdefghijklmnopqrstuvwxyz")))
abbrev zbW:aE:=
   (bW (dQ aT)
    (aN 3 (mR "str" F0 a7))
    cB)
abbrev IG:aE:=
   (aN 4 (vX a7 (aH fP aG (vI 26))))
abbrev II:aE:=
   (aN 5 (aH cU a8 (aH fP (aH iR aG (vI 26)) (vI 8))))
abbrev IJ:aE:=
   (aN 6 (aH fP (aH iR aG (vI 208)) b9))
abbrev IK:aE:=
   (aN 7 (aH fP (aH iR aG (vI 1664)) (vI 26)))
abbrev IL:aE:=
   (aN 8 (fH aB))
abbrev zbX:aE:=
   (aF (aN 10 (vX a7 (aH fP (aH cU cT (aH kU jX gX)) (vI 26))))
   (aF (bZ (cN "list" dJ eI (aA (aH oG (aH oG (aH u9 a9 cF) qX) (aH u9 a9 (aH kP (aH kP b9 cF) a8))) aB)))
   (bW (iQ (dQ aT) (iQ (bK (aH (cV ac) (aH fP (aH iR aG (vI 43264)) jX) a8)) (bK (aH (cV ac) (aH E1 (aH EZ (aH iR aG (vI 129792)) gX) a8) a8))))
    (fJ (aH oG (aH oG (vX eI gX) (vC (.str "_"))) (bH yO (aA (aH fP (aH iR aG (vI 129792)) (vI 10000)) aB))) (gY eI gX))
    cB)))
abbrev IM:aE:=
   (cC (n9 (aA aM aB)) (aX 9) zbX)
abbrev IP:aE:=
   (bG eI)
abbrev zbY:aE:=(aF zbV (aF zbW (aF IG (aF II (aF IJ (aF IK (aF IL (aF IM IP))))))))
noncomputable abbrev zbZ:↑Av:=["cell","heads","words","most","drawn","parts","place"]
abbrev zb0:aE:=
   (aN 4 (bJ (aS rT (aA aG (aA (aH cU (eY (aA (bH cP (aA aM aB)) (aA (aH cU a7 a8) (aA jX (aA (aH i6 (vI 10) (vI 59)) aB))))) (aH kU (eY (aA (vI 6) aB)) a7)) aB)))))
abbrev zb1:aE:=
   (aN 5 (fH aB))
abbrev zb2:aE:=
   (bW (bK (aH lP cF jX))
    (bZ (cN "list" dJ b9 (aA (vX aT cF) aB)))
    (bZ (cN "list" dJ b9 (aA (vX aM (aH fP (aH cU (aH kP cF jX) (vX a9 a6)) (bH cP (aA aM aB)))) aB))))
abbrev zb3:aE:=
   (cC (bT cD (oA a9 (kR (vI 4)) (kR (aH cU (vI 4) (vX a9 a8))))) (aX 6) zb2)
abbrev zb4:aE:=
   (bG (bA (aA (vX aM (vX a9 a6)) (aA (bH pH (aA b9 aB)) (aA (aH fP (vX a9 jX) (vX (eY (aA a8 (aA (vI 10) (aA (aH i6 (vI 10) (vI 59)) aB)))) (vX a9 kL))) aB)))))
abbrev zb5:aE:=(aF zb0 (aF zb1 (aF zb3 zb4)))
noncomputable abbrev zb6:↑Av:=["cells","many","most","one","other","heads","words","rules","name"]
abbrev zb7:aE:=
   (fJ (bJ (aS rT (aA (aS rS (aA aG (aA a6 aB))) (aA (eY (aA (aH i6 (vI 10) (vI 9)) (aA (aH i6 (vI 10) (vI 9)) aB))) aB)))) (fS 2 (cL (aX 3) (cL (aX 4) fR))))
abbrev zb8:aE:=
   (aN 5 (bJ (aS zT (aA a7 (aA aM (aA (vC (.bl ab)) aB))))))
abbrev zb9:aE:=
   (aN 6 (bJ (aS zT (aA a9 (aA jX (aA (vC (.bl ac)) aB))))))
abbrev zca:aE:=
   (aN 7 (dR (bT cD (oA aG (kR a8) uC)) (aX 0) eR (aS ID (aA aG (aA aM (aA aT (aA a7 aB))))) [ae,aa 5,aa 6,aa 2]))
abbrev zcb:aE:=
   (bW (bK (aH (cA ab) eI (bJ (dR (bT cD cT) (aX 0) eR (vX aG a6) [ae]))))
    (bZ (cN "list" dJ cT (aA (bA (aA eI (aA (bA (aA (vX cF a6) aB)) (aA a6 aB)))) aB)))
    cB)
abbrev zcc:aE:=
   (cC (bT cD b9) (aX 8) zcb)
abbrev zcd:aE:=
   (bG cT)
abbrev zce:aE:=(aF zb7 (aF zb8 (aF zb9 (aF zca (aF zcc zcd)))))
theorem zcf:∀ws M R,rS ws M R->↥ws=2:=by rintro ws M R ⟨_,_,rfl|rfl,_⟩<;>rfl
theorem IQ(c:Nat)(g:Av):occ ⟨#[c]⟩ g=decide (c∈cs g):=StrLaws.found_one g c
theorem fU{b:Bool}{P Q:Prop}(O:b=ab->P)(L:b=ac->Q):if b=ab then P else Q:=by cases b;exact L rfl;exact O rfl
theorem zcg:bE zS zbr zbq:=by
 rintro _ M R ⟨z,g,rfl,hz,r⟩;have i:lH z g=(!decide (z = "")&&(cs z).all λc=>decide (c∈cs g)):=by rw[<-t7];rfl
 refine(fU (λZ=>(lX (rest:=[aa (.str g)]) (λw=>match w with|.str x=>.bl (occ x g)|_=>.non) (small (by rw[Ab];exact Ap (Om (qQ z)) (Ap hz ∅))) (λ_ _=>trivial) (λw hw V C sb O=>?_) (aP.frz ⟨(cs z).map λc=>decide (c∈cs g),?_,_,aW,?_⟩))) λZ=>⟨_,aW,?_⟩)
 .let⟨c,_,rfl⟩:=Ar.mp hw;exact O
 .unfold bools;rw[Bp,Bp];exact Fb λc _=>congrArg W.bl (IQ c g)
 .rw[i,show(!decide (z = ""))=ab from Z,Su]at r;rw[Of];exact r
 .rw[i,show(!decide (z = ""))=ac from Z,Pk]at r;exact r
theorem zch(z:Av):(Dj z "_").1.length<=↥z/\(Dj z "_").2.2.length<=↥z:=by
 have:=fact_partition z "_";exact⟨this.1,this.2.2⟩
theorem zci(z:Av):bV z=((decide ((Dj z "_").2.1 = "")||lH (Dj z "_").2.2 mP)&&lH (Dj z "_").1 gH):=by
 unfold bV;rw[t7]
theorem zcj:bE IA zbv zbs:=by
 rintro _ M R ⟨z,rfl,hz,r⟩;let⟨O,h3⟩:=zch z;rw[zci z]at r;have go:∀{b:Bool} {M:Mm},R (.bl (b&&lH (Dj z "_").1 gH)) M->IF (i8 R) [aa (.str z),aa (.tup [.str (Dj z "_").1,.str (Dj z "_").2.1,.str (Dj z "_").2.2]),aa (.bl b)] M:=λ{b M} r=>(fU (λZ=>⟨_,_,rfl,Ap O hz,_,aW,by rw[Z]at r;exact r⟩) λZ=>⟨_,aW,by rw[Z]at r;exact r⟩)
 exact⟨rfl,by decide +kernel,Ap hz ∅,fU (λZ=>go (b:=ab) (by rw[show decide ((Dj z "_").2.1 = "")=ab from Z]at r;exact r)) λZ=>⟨_,_,rfl,Ap h3 hz,go (by rw[show decide ((Dj z "_").2.1 = "")=ac from Z]at r;exact r)⟩⟩
def cH(t:Av):aC×W:=(Sum.inr t,.bl ab)
theorem vB(acc:↑Av)(t:Av):bY (acc.map cH) (Sum.inr t:aC) (.bl ab)=(c7 acc t).map cH:=by
 unfold bY c7;have e:((acc.map cH).any λkv=>decide (kv.1=Sum.inr t))=decide (t∈acc):=by
  rw[Mv,Ee];simp[cH,Ln]
 rw[e]
 by_cases h:t∈acc
 .rw[Vz (Wc h),Vz h,Bp];refine Fb λu hu=>?_;simp[cH,Ln]
 .rw[Vy (by simpa using h),Vy h,Ax];rfl
theorem zck:bE jB zbB zbw:=by
 rintro _ M R ⟨rs,rfl,hl,r⟩;refine λp G=>((l7 (λi U V=>∃o,U=[aa (.rl (rs.map bF)),aa (.ref p),o]/\V=put M p (.dK ((namesOf (rs.take i)).map cH))) ⟨_,rfl,rfl⟩ ?_ ?_))
 .rintro i w U V hw ⟨o,rfl,rfl⟩;rw[Ay]at hw;let⟨q,N,rfl⟩:=Ba.mp hw;have hi:i<↥rs:=(An.mp N).1;have e:namesOf (rs.take (i+1))=c7 (namesOf (rs.take i)) q.name:=by
   rw[Cf,N];unfold namesOf l5;simp
  have T:↥(namesOf (rs.take i))<=i:=by
   have:=rP ((rs.take i).map aD.name) [];unfold namesOf l5;simp at this;simp;lia
  refine(rK aJ (by rw[Ab];exact cM (by lia)) ⟨_,aW,_,rfl,?_⟩);rw[b7,vB,e]
 .rintro U V ⟨o,rfl,rfl⟩;rw[Ab,Bw];refine(.inr ⟨_,aJ,λq N=>?_⟩);have D:q≠p:=λe=>by subst e;rw[aJ]at N;cases N
  rw[aY D]at N;refine⟨_,?_,r q N⟩;rw[Bp];exact Sub.put (Sub.new G)
theorem zcl:bE rR zbD zbC:=by
 rintro _ M R ⟨q,rs,rfl,r⟩;exact(so.of (gW (j:=0) rfl) ⟨_,aW,r⟩)
theorem pX{t:Av}{ts:↑Av}:inW (.str t) (ts.map W.str)=decide (t∈ts):=by
 unfold inW;rw[Mv,Ee,Gx,decide_eq_true_eq];exact⟨λ⟨x,h,e⟩=>eq_of_beq (show(x==t)=ab from e)▸h,λh=>⟨t,h,beq_self_eq_true t⟩⟩
theorem pY(ts:↑Av):(ts.map W.str).all fQ=ab:=by
 rw[Of,Gy];intro t _;rfl
theorem zcm:bE IC zbF zbE:=by
 rintro _ M R ⟨q,ns,rfl,hc,G,r⟩;refine(fU (λZ=>absurd (Wa Z) (Uy.mpr hc)) λ_=>?_);refine l7 (ws:=q.parts.map W.str) (λi U V=>∃o,U=[aa (bF q),aa (.rl (ns.map W.str)),o]/\V=M) ⟨_,rfl,rfl⟩ ?_ ?_
 .rintro i w U V hw ⟨o,rfl,rfl⟩;let⟨t,ht,rfl⟩:=Ar.mp (Ao hw);let⟨O,L⟩:=G t ht;refine⟨t,rfl,O,fU (λZ=>⟨rfl,pY ns,fU (λa=>?_) λ_=>⟨_,aW,_,rfl,rfl⟩⟩) λ_=>⟨_,aW,_,rfl,rfl⟩⟩;rw[show(!inW (.str t) (ns.map W.str))=ac by rw[pX,Wc (L Z)];rfl]at a;cases a
 .rintro U V ⟨o,rfl,rfl⟩;exact⟨_,aW,r⟩
theorem zcn:bE rS zbH zbG:=by
 rintro _ M R ⟨g,k,e,hi,hk,r⟩;have go:decide (k<↥g)=ab->so (bR g k) λw=>∃V,L2.Sub V M/\R w V:=λhd=>by
  let⟨x,e,_,m⟩:=uN hk (Wa hd);let⟨i,rfl⟩:=hi x m;exact so.of e ⟨_,aW,r i⟩
 rcases e with rfl|rfl
 .exact fU go λ_=>⟨_,aW,r 0⟩
 .exact fU go λ_=>⟨_,aW,r 0⟩
abbrev gR(c k:Int):Int:=c % 10 ^ 40*48271+3 ^ 60*(k+1)*(k+1)+k
theorem zco:bE vA zbM zbI:=by
 rintro _ M R ⟨c,k,rfl,J,O,r⟩;have Q:(gR c k).natAbs<2 ^ 200:=VE (a:=c % 10 ^ 40) (k:=k) (Fq _ ∅) (Ei _ ∅) J O;have U:(gR c k*gR c k).natAbs<2 ^ 400:=D0 Q Q;have n:(69621*gR c k:Int).natAbs<2 ^ 400:=tQ (D0 (m:=17) (i:=69621) ∅ Q) ∅;have t:(gR c k*gR c k+69621*gR c k).natAbs<2 ^ 401:=VF U n;have e:(gR c k).natAbs<2 ^ 4096:=tQ Q ∅;have d:(gR c k*gR c k+69621*gR c k).natAbs<2 ^ 4096:=tQ t ∅;have b:(0:Int)<10 ^ (61:Int).toNat+7:=by decide
 refine⟨⟨by decide,by decide,by decide⟩,(by decide:(0:Int)<10 ^ (40:Int).toNat),.inl (.inr ⟨by decide,by decide⟩),⟨by decide,by decide,by decide⟩,.inl (.inr ⟨by lia,by lia⟩),.inl (.inr ⟨by lia,by lia⟩),.inr ⟨e,e⟩,.inl (.inl ⟨by decide,by decide⟩),.inr ⟨d,d⟩,⟨by decide,by decide,by decide⟩,b,⟨by decide,by decide⟩,_,aW,r _ ?_ ?_⟩
 .exact Int.ediv_nonneg (Fq _ (Int.ne_of_gt b)) ∅
 .have L:=Ei ((gR c k*gR c k+69621*gR c k)*(gR c k*gR c k+69621*gR c k)) b;have h3:(10:Int) ^ (61:Int).toNat+7=10 ^ 61+7:=rfl;rw[h3]at L;refine Int.ediv_lt_of_lt_mul ∅ ?_;refine Tu L ∅
def eK(k:Av×Int):↑aC:=[Sum.inr k.1,Sum.inl k.2]
abbrev eT(t:Av):↑aC:=eK (t,0)
theorem IS:∀a b:Av,eT a=eT b->a=b:=λa b h=>Qq (List.cons.inj h).1
def vD(c:cZ):W:=.tup [.int 0,cW c]
noncomputable def rV(y:cZ×Nat×Nat):W:=.tup [.int y.2.1,gQ (rep y.2.2),cW y.1]
def fK(f:cE):↑aC:=[Sum.inr f.1,Sum.inl f.2.1,Sum.inl f.2.2]
def eJ(e:cZ×Nat×↑Int):W:=.tup [cW e.1,.int e.2.1,gQ e.2.2]
theorem nD:∀a b:cE,fK a=fK b->a=b:=λa b h=>by
 unfold fK at h;simp only[Fh,Pd,Sa,and_true]at h;let⟨f,Z,D⟩:=a;let⟨Q,U,n⟩:=b;simp only at h;let⟨O,L,h3⟩:=h;rw[O,L,h3]
section
variable {U J:Type}[DecidableEq U]{kk:U->↑aC}{f:J->W}
abbrev eA(kk:U->↑aC)(f:J->W)(t:↑(U×J)):↑(↑aC×W):=t.map λe=>(kk e.1,f e.2)
theorem pZ(c:∀a b,kk a=kk b->a=b)(t:↑(U×J))(k:U):aQ (eA kk f t) (kk k)=(cG t k).map f:=by
 induction t with
 | nil=>rfl
 | cons e t E=>
  show aQ ((kk e.1,f e.2)::eA kk f t) (kk k)=_;rw[pQ,nC,E]
  by_cases h:e.1=k
  .rw[Vz (by rw[h]),Vz h];rfl
  .rw[Vy (λz=>h (c _ _ z)),Vy h]
theorem IT(c:∀a b,kk a=kk b->a=b)(t:↑(U×J))(k:U)(v:J):bY (eA kk f t) (kk k) (f v)=eA kk f (nB t k v):=by
 unfold bY nB;rw[show((eA kk f t).any λg=>decide (g.1=kk k))=(aQ (eA kk f t) (kk k)).isSome from j7 _ _,pZ c,j7];cases cG t k with
 | none=>simp
 | some w=>
  simp only[Option.map_some,Option.isSome_some,if_true,Bp];apply Fb;intro e _;simp only[Ln]
  by_cases h:e.1=k
  .rw[Vz (by rw[h]),Vz h]
  .rw[Vy (λz=>h (c _ _ z)),Vy h]
end
structure Env where
 rs:↑aD
 own:↑(aC×W)
 stp:↑(↑aC×W)
structure Ad where
 s:Am
 d:Am
 Q:Aq
 r:Am
 b:Am
 e:Am
 g:Am
noncomputable def sf(E:Env)(A:Ad):↑(Av×W):=[("grammar",(bC E.rs)),("own",(.dk E.own)),("steps",(.dt E.stp)),("queue",(.ref A.Q.o)),("reached",(.ref A.r)),("best",(.ref A.b)),("ends",(.ref A.e)),("begun",(.ref A.g))]
theorem IU:Cm ("grammar" : Av) (sf E A)=aa (bC E.rs):=by kernel_rfl
theorem zcp:Cm ("own" : Av) (sf E A)=aa (W.dk E.own):=by kernel_rfl
theorem zcq:Cm ("steps" : Av) (sf E A)=aa (W.dt E.stp):=by kernel_rfl
theorem zU:Cm ("queue" : Av) (sf E A)=aa (W.ref A.Q.o):=by kernel_rfl
theorem zV:Cm ("reached" : Av) (sf E A)=aa (W.ref A.r):=by kernel_rfl
theorem zW:Cm ("best" : Av) (sf E A)=aa (W.ref A.b):=by kernel_rfl
theorem IV:Cm ("ends" : Av) (sf E A)=aa (W.ref A.e):=by kernel_rfl
theorem IW:Cm ("begun" : Av) (sf E A)=aa (W.ref A.g):=by kernel_rfl
theorem vE:Cm ("reach" : Av) (sf E A)=ae:=by kernel_rfl
theorem zcr:Cm ("take_next" : Av) (sf E A)=ae:=by kernel_rfl
theorem zcs:Cm ("step_by_name" : Av) (sf E A)=ae:=by kernel_rfl
theorem zct:Cm ("settle" : Av) (sf E A)=ae:=by kernel_rfl
structure Mn(C:Cc)(E:Env)(M0 M:Mm)(A:Ad)(rk:↑(↑aC×W))(bs:c8):Prop where
 sub:L2.Sub M0 M
 ns:M0 A.s=ae
 nr:M0 A.r=ae
 nb:M0 A.b=ae
 sr:A.s≠A.r
 sb:A.s≠A.b
 rb:A.r≠A.b
 os:M A.s=aa (.ins C.s A.d (sf E A))
 or:M A.r=aa (.dT rk)
 ob:M A.b=aa (.dT (eA fK eJ bs))
def Kept(M:Mm):Option (Am×↑W)->Prop
 | none=>True
 | some x=>M x.1=aa (.lst x.2)
structure SK(C:Cc)(E:Env)(M0 M:Mm)(A:Ad)(st:SS)(kp:Option (Am×↑W)):Prop where
 ex:∃M1 M2 M3 e g,Mn C E M0 M1 A st.rk st.best/\c9 eT M1 M2 A.e e (λt=>lo vD (st.en t))/\c9 eT M2 M3 A.g g (λt=>lo rV (st.bg t))/\QR C M3 M A.Q st.q st.n/\↥st.rk<=st.n/\↥e<=↥st.best/\↥g<=st.bn/\Kept M3 kp
abbrev SR(C:Cc)(E:Env)(M0 M:Mm)(A:Ad)(st:SS):Prop:=SK C E M0 M A st ae
theorem c9.get{U B:Type}[DecidableEq U]{kk:U->↑aC}{M0 M:Mm}{a:Am}{kvs:↑(↑aC×W)}{f:B->W}{h:U->↑B}(t:c9 kk M0 M a kvs λk=>lo f (h k))(k:U):(aQ kvs (kk k)=ae/\h k=[])\/∃p,aQ kvs (kk k)=aa (.ref p)/\M p=aa (.lst ((h k).map f)):=by
 cases e:h k with
 | nil=>exact .inl ⟨t.non k (by show lo f (h k)=_;rw[e];rfl),rfl⟩
 | cons y ys=>exact .inr (t.has (by show lo f (h k)=_;rw[e];rfl))
section
variable {C:Cc}{E:Env}{M0 M:Mm}{A:Ad}{st:SS}{kp:Option (Am×↑W)}
theorem SK.up(h:SK C E M0 M A st kp):∃I,Mn C E M0 I A st.rk st.best/\L2.Sub I M/\↥st.rk<=st.n:=by
 let⟨I,f,B,e,g,O,L,h3,m,Y,_⟩:=h.ex;exact⟨I,O,(L.sub.trans h3.sub).trans m.sub,Y⟩
theorem SK.os(h:SK C E M0 M A st kp):M A.s=aa (.ins C.s A.d (sf E A)):=let ⟨_,m,s,_⟩:=h.up;s _ _ m.os
theorem SK.or(h:SK C E M0 M A st kp):M A.r=aa (.dT st.rk):=let ⟨_,m,s,_⟩:=h.up;s _ _ m.or
theorem SK.ob(h:SK C E M0 M A st kp):M A.b=aa (.dT (eA fK eJ st.best)):=let ⟨_,m,s,_⟩:=h.up;s _ _ m.ob
theorem SK.free(h:SK C E M0 M A st kp):SR C E M0 M A st:=by
 let⟨I,f,B,e,g,O,L,h3,m,Y,l,i,_⟩:=h.ex;exact⟨I,f,B,e,g,O,L,h3,m,Y,l,i,trivial⟩
theorem SK.kept(h:SK C E M0 M A st (aa (p,ws))):M p=aa (.lst ws):=by
 let⟨I,f,B,e,g,O,L,h3,m,Y,l,_,i⟩:=h.ex;exact m.sub _ _ i
theorem SK.rpush(h:SK C E M0 M A st kp)(k:↑aC)(w:W):∃B,QR C B (put M A.r (.dT (bY st.rk k w))) A.Q st.q st.n/\put M A.r (.dT (bY st.rk k w)) A.s=aa (.ins C.s A.d (sf E A))/\∀V q,QR C B V A.Q q (st.n+1)->SK C E M0 V A {st with rk:=bY st.rk k w,q:=q,n:=st.n+1} kp:=by
 let⟨I,f,B,e,g,m,L,h3,D,Y,l,i,a⟩:=h.ex;have F:=L.sub _ _ m.or;have v:=h3.sub _ _ F;refine⟨_,D.lift (.inr ⟨_,v⟩),by rw[aY m.sr];exact h.os,λV q N=>⟨_,_,_,e,g,⟨gP m.sub m.nr,m.ns,m.nr,m.nb,m.sr,m.sb,m.rb,by rw[aY m.sr];exact m.os,aJ,by rw[aY (Ca m.rb)];exact m.ob⟩,L.lift (.inr ⟨_,m.or⟩),h3.lift (.inr ⟨_,F⟩),N,Ap (zN ..) (Eu Y),l,i,?_⟩⟩;cases kp with
 | none=>trivial
 | some x=>
  have a:B x.1=aa (.lst x.2):=a;show put B A.r _ x.1=aa (.lst x.2);rw[aY (λz=>by rw[z,v]at a;cases a)];exact a
theorem SK.que(h:SK C E M0 M A st kp):∃B,QR C B M A.Q st.q st.n/\∀V q,QR C B V A.Q q st.n->SK C E M0 V A {st with q:=q} kp:=by
 let⟨I,f,B,e,g,O,L,h3,m,Y⟩:=h.ex;exact⟨B,m,λV q N=>⟨I,f,B,e,g,O,L,h3,N,Y⟩⟩
theorem SK.bo(h:SR C E M0 M A st):put M A.b o A.s=aa (.ins C.s A.d (sf E A)):=by
 let⟨_,m,_⟩:=h.up;rw[aY m.sb];exact h.os
theorem SK.epush(h:SR C E M0 M A st){v:cE×cZ×Nat×↑Int}{t:Av}{c:cZ}{R:K3}{T:W->Mm->Prop}(Z:∀y f,dJ y [vD c] f R->T y f)(hn:↥st.best<100000)(hl:st.en t=[])(r:∀V,SR C E M0 V A {st with best:=st.best++[v],en:=λj=>if t=j then [c] else st.en j}->R .non V):
  jY "dict" (.ref A.e) (put M A.b (.dT (eA fK eJ (st.best++[v]))))/\∀p,put M A.b (.dT (eA fK eJ (st.best++[v]))) p=ae->pN (.ref A.e) [.tup [.str t,.int 0],.ref p] (put (put M A.b (.dT (eA fK eJ (st.best++[v])))) p (.lst [])) λy f=>jY "list" y f/\T y f:=by
 let⟨I,f,B,e,g,m,L,h3,D,Y,K,i,_⟩:=h.ex;have F:=L.sub _ _ m.ob;refine c9.push (Q:=λN s=>∃B g,c9 eT N B A.g g (λt=>lo rV (st.bg t))/\QR C B s A.Q st.q st.n/\↥g<=st.bn) (k:=t) IS (λ⟨_,g,a,b,l⟩ G=>⟨_,g,a.lift (G.imp_left b.sub.non),b.lift (G.imp_right λd=>by let⟨u,z⟩:=d;exact⟨u,a.sub _ _ z⟩),l⟩) (λS=>by let⟨_,_,a,b,_⟩:=S;exact a.sub.trans b.sub) ⟨_,g,h3.lift (.inr ⟨_,F⟩),D.lift (.inr ⟨_,h3.sub _ _ F⟩),i⟩ (L.lift (p:=A.b) (o:=.dT (eA fK eJ (st.best++[v]))) (.inr ⟨_,m.ob⟩)) Z (by lia) (by rw[hl];decide) λN s kvs t' ⟨B,g,a,b,l⟩ hk=>r _ ⟨_,_,_,_,g,⟨gP m.sub m.nb,m.ns,m.nr,m.nb,m.sr,m.sb,m.rb,by rw[aY m.sb];exact m.os,by rw[aY m.rb];exact m.or,aJ⟩,t'.same λj=>?_,a,b,Y,?_,l,trivial⟩
 .show lo _ (if t=j then _ else _)=_;rw[hl]
  by_cases hj:t=j
  .rw[Vz hj,Vz hj];rfl
  .rw[Vy hj,Vy hj]
 .show _<=↥(_++[v]);rw[Aj];exact Ap hk (Eu K)
theorem SK.gpush(h:SR C E M0 M A st)(hn:st.bn<100000)(hl:↥(st.bg t)<100000)(r:∀V,SR C E M0 V A {st with bg:=λj=>if t=j then st.bg j++[y] else st.bg j,bn:=st.bn+1}->R .non V):
  jY "dict" (.ref A.g) M/\∀p,M p=ae->pN (.ref A.g) [.tup [.str t,.int 0],.ref p] (put M p (.lst [])) λz f=>jY "list" z f/\dJ z [rV y] f R:=by
 let⟨I,f,B,e,g,m,L,h3,D,Y,l,i,_⟩:=h.ex;refine c9.push (Q:=λN s=>QR C N s A.Q st.q st.n) (k:=t) IS QR.lift QR.sub D h3 (λ_ _ h=>h) (by lia) (by rw[u3,Ab];lia) λN s kvs t' u hk=>r _ ⟨_,_,_,e,_,m,L,t'.same λj=>?_,u,Y,l,Ap hk (Eu i),trivial⟩;show lo _ (if t=j then _ else _)=_
 by_cases hj:t=j
 .subst hj;rw[Vz rfl,Vz rfl];exact zP ..
 .rw[Vy hj,Vy hj]
theorem SK.ends_at(h:SR C E M0 M A st)(t:Av):∃kvs,M A.e=aa (.dT kvs)/\((aQ kvs (eT t)=ae/\st.en t=[])\/∃p,aQ kvs (eT t)=aa (.ref p)/\SK C E M0 M A st (aa (p,(st.en t).map vD))):=by
 let⟨I,f,B,e,g,O,L,h3,m,Y,l,i,_⟩:=h.ex;exact⟨e,m.sub _ _ (h3.sub _ _ L.at_),(L.get t).imp_right λ⟨p,a,b⟩=>⟨p,a,I,f,B,e,g,O,L,h3,m,Y,l,i,h3.sub _ _ b⟩⟩
theorem SK.begun_at(h:SR C E M0 M A st)(t:Av):∃kvs,M A.g=aa (.dT kvs)/\((aQ kvs (eT t)=ae/\st.bg t=[])\/∃p,aQ kvs (eT t)=aa (.ref p)/\SK C E M0 M A st (aa (p,(st.bg t).map rV))):=by
 let⟨I,f,B,e,g,O,L,h3,m,Y,l,i,_⟩:=h.ex;exact⟨g,m.sub _ _ h3.at_,(h3.get t).imp_right λ⟨p,a,b⟩=>⟨p,a,I,f,B,e,g,O,L,h3,m,Y,l,i,b⟩⟩
end
def mB:aV:=λws M R=>∃ts:↑Av,ws=[.rl (ts.map W.str)]/\↥ts<=400/\R (.dk ((ts.foldl c7 []).map cH)) M
def ownOf(rs:↑aD):↑(aC×W):=((namesOf rs).foldl c7 []).map cH
def vF:aV:=λws M R=>∃a b:cZ,ws=[cW a,cW b]/\R (cW (HI a b)) M
def p6(C:Cc):aV:=λws M R=>∃(G:Sr) (E:Env) (M0:Mm) (A:Ad) (st:SS) (P X:↑(Nat×Nat)) (x:Nat×Nat) (c:cZ) (kp:Option (Am×↑W)),ws=[.ref A.s,.int x.1,gQ (rep x.2),cW c]/\SK C E M0 M A st kp/\J G st P (x::X)/\∀V m,SK C E M0 V A m kp->J G m P X->R .non V
structure Tk(C:Cc)(G:Sr)(E:Env)(M0 M:Mm)(A:Ad)(st:SS)(P:↑(Nat×Nat))(c:cZ)(x:Nat×Nat)(r:aD)(R:K3):Prop where
 j:J G st P []
 q:∃q1 q2,st.q=q1++(c,x)::q2/\SR C E M0 M A {st with q:=q1++q2}
 r:G.rs[x.1]? = aa r
 k:∀M' st',SR C E M0 M' A st'->J G st' (P++[x]) []->R .non M'
def IX(C:Cc):aV:=λws M R=>∃(G:Sr) (E:Env) (M0:Mm) (A:Ad) (st:SS) (P:↑(Nat×Nat)) (c:cZ) (x:Nat×Nat) (r:aD) (t:Av),ws=[.ref A.s,.int x.1,gQ (rep x.2),cW c,.tup [.str t,.int 0]]/\Tk C G E M0 M A st P c x r R/\r.parts[x.2-1]? = aa t/\G.own t=ab
def IY(C:Cc):aV:=λws M R=>∃(G:Sr) (E:Env) (M0:Mm) (A:Ad) (st:SS) (P:↑(Nat×Nat)) (c:cZ) (x:Nat×Nat) (r:aD),ws=[.ref A.s,.int x.1,gQ (rep x.2),cW c]/\Tk C G E M0 M A st P c x r R/\r.parts[x.2-1]? = ae/\G.rs=E.rs
structure IZ(G:Sr)(E:Env):Prop where
 rs:G.rs=E.rs
 own:∀t,(aQ E.own (Sum.inr t:aC)).isSome=G.own t
 stp:∀t p,(aQ E.stp (eK (t,p))=ae/\G.steps t p=[])\/aQ E.stp (eK (t,p))=aa (.rl ((G.steps t p).map λz=>.tup [.int z.1,.int z.2]))
def I0(C:Cc):aV:=λws M R=>∃(G:Sr) (E:Env) (M0:Mm) (A:Ad) (st:SS) (P:↑(Nat×Nat)),ws=[.ref A.s]/\SR C E M0 M A st/\IZ G E/\J G st P []/\st.q≠[]/\∀V m x,SR C E M0 V A m->J G m (P++[x]) []->R .non V
def JA(C:Cc):aV:=λws M R=>∃(M0:Mm) (s dx:Am) (rs:↑aD) (stp:↑(↑aC×W)),ws=[.ref s,bC rs,.dt stp]/\↥rs<=100/\M=put M0 s (.ins C.s dx [])/\M0 s=ae/\∀V (A:Ad),A.s=s->SR C ⟨rs,ownOf rs,stp⟩ M0 V A zR->R .non V
def zX(C:Cc):aV:=λws M R=>∃(G:Sr) (E:Env),ws=[bC E.rs,.rl [.int 0],.dt E.stp,.rl ((Cp ↥G.rs).map λn=>.int (G.wt n))]/\↥E.rs<=100/\E.own=ownOf E.rs/\IZ G E/\One G/\(∀r∈G.rs,↥r.parts<=900)/\∀B,l8 G B->jW (eA fK eJ B) M R
abbrev zcu:↑Av:=["things"]
abbrev zcv:aE:=
   (bG (bH GN (aA (bJ (dR (bT cD aG) (aX 0) eR (bA (aA aG (aA (vC (.bl ab)) aB))) [ae])) aB)))
abbrev zcw:↑Av:=["cost","other"]
abbrev zcx:aE:=
   (bG (bA (aA (aH cU (vX aG a6) (vX aM a6)) (aA (aH cU (vX aG a8) (vX aM a8)) aB))))
abbrev zcy:↑Av:=["self","grammar","steps"]
abbrev JB(C:Cc):aE:=
   (jA C.s aG "queue" (lY C.q (HQ C) aB))
abbrev zcz(C:Cc):aE:=(aF (jA C.s aG "grammar" aM) (aF (jA C.s aG "own" (aS mB (aA (bJ (aS jB (aA aM aB))) aB))) (aF (jA C.s aG "steps" aT) (aF (JB C) (aF (jA C.s aG "reached" lQ) (aF (jA C.s aG "best" lQ) (aF (jA C.s aG "ends" lQ) (jA C.s aG "begun" lQ))))))))
abbrev zcA:↑Av:=["self","number","cut","cost","key"]
abbrev zcB(C:Cc):aE:=
   (aF (aN 4 (bA (aA aM (aA (bH cP (aA aT aB)) (aA (vX aT a6) (aA (vX aT (kM kQ a8)) aB))))))
   (bW (kN (bK (aH (cA ab) a9 (cY C.s aG "reached"))) (bK (aH rO a7 (vX (cY C.s aG "reached") a9))))
    (aF (fJ a7 (gY (cY C.s aG "reached") a9))
   (bZ (dY C.q "put" (HS C) (cY C.s aG "queue") (aA a7 (aA (bA (aA aM (aA aT aB))) aB)))))
    cB))
noncomputable abbrev zcC:↑Av:=["self","taken","cost","number","cut","parts","end","price"]
abbrev zcD(C:Cc):aE:=
   (bW (bK (aH rO (vX (cY C.s aG "reached") (bA (aA a7 (aA (bH cP (aA a9 aB)) (aA (vX a9 a6) (aA (vX a9 (kM kQ a8)) aB)))))) aT))
    yQ
    cB)
abbrev zcE(C:Cc):aE:=
   (bW (bK (aH t6 (bH cP (aA a9 aB)) (bH cP (aA b9 aB))))
    (bZ (dY C.s "settle" (IY C) aG (aA a7 (aA a9 (aA aT aB)))))
    (bW (bK (aH (cA ac) (vX b9 (aH kP (bH cP (aA a9 aB)) a8)) (cY C.s aG "own")))
    (bZ (dY C.s "step_by_name" (IX C) aG (aA a7 (aA a9 (aA aT (aA (bA (aA (vX b9 (aH kP (bH cP (aA a9 aB)) a8)) (aA (vX a9 (kM kQ a8)) aB))) aB))))))
    (cC (bT kT (cN "dict" uR (cY C.s aG "steps") (aA (bA (aA (vX b9 (aH kP (bH cP (aA a9 aB)) a8)) (aA (vX a9 (kM kQ a8)) aB))) (aA (eY aB) aB)))) (fS 2 (cL (aX 6) (cL (aX 7) fR)))
    (bZ (dY C.s "reach" (p6 C) aG (aA a7 (aA (aH cU a9 (bA (aA cF aB))) (aA (bA (aA (aH cU (vX aT a6) cT) (aA (vX aT a8) aB))) aB))))))))
abbrev zcF(C:Cc):aE:=(aF (aN 1 (dY C.q "take" (HU C) (cY C.s aG "queue") aB)) (aF (aN 2 (vX aM a6)) (aF (aN 3 (vX (vX aM a8) a6)) (aF (aN 4 (vX (vX aM a8) a8)) (aF (zcD C) (aF (aN 5 (vX (vX (cY C.s aG "grammar") a7) a8)) (zcE C)))))))
noncomputable abbrev zcG:↑Av:=["self","number","cut","cost","key","end","more"]
abbrev zcH(C:Cc):aE:=
   (aF (bZ (cN "list" dJ (cN "dict" pN (cY C.s aG "begun") (aA a9 (aA (fH aB) aB))) (aA (bA (aA aM (aA aT (aA a7 aB)))) aB)))
   (cC (bT kT (cN "dict" uR (cY C.s aG "ends") (aA a9 (aA (eY aB) aB)))) (fS 2 (cL (aX 5) (cL (aX 6) fR)))
    (bZ (dY C.s "reach" (p6 C) aG (aA aM (aA (aH cU aT (bA (aA b9 aB))) (aA (aS vF (aA a7 (aA cF aB))) aB)))))))
noncomputable abbrev zcI:↑Av:=["self","number","cut","cost","key","fact","other","before","paid"]
abbrev zcJ(C:Cc):aE:=
   (bZ (cN "list" dJ (cN "dict" pN (cY C.s aG "ends") (aA a9 (aA (fH aB) aB))) (aA (bA (aA (vX aT (kM kQ a8)) (aA a7 aB))) aB)))
abbrev zcK(C:Cc):aE:=
   (bZ (dY C.s "reach" (p6 C) aG (aA cF (aA (aH cU cT (bA (aA (vX aT (kM kQ a8)) aB))) (aA (aS vF (aA eI (aA a7 aB))) aB)))))
abbrev zcL(C:Cc):aE:=(aF (aN 4 (bA (aA (vX (vX (cY C.s aG "grammar") aM) a6) (aA (vX aT a6) aB)))) (aF (aN 5 (aH cU a9 (bA (aA (vX aT (kM kQ a8)) aB)))) (aF (bW (bK (aH (cA ac) b9 (cY C.s aG "best"))) yQ cB) (aF (fJ (bA (aA a7 (aA aM (aA aT aB)))) (gY (cY C.s aG "best") b9)) (aF (zcJ C) (cC (bT kT (cN "dict" uR (cY C.s aG "begun") (aA a9 (aA (eY aB) aB)))) (fS 3 (cL (aX 6) (cL (aX 7) (cL (aX 8) fR)))) (zcK C)))))))
noncomputable abbrev zcM:↑Av:=["grammar","places","steps","weights","search","number","place"]
abbrev zcN(C:Cc):aE:=
   (cC (bT cD aM) (aX 6)
    (bZ (dY C.s "reach" (p6 C) a9 (aA b9 (aA (bA (aA cF aB)) (aA (bA (aA (vX a7 b9) (aA a8 aB))) aB))))))
abbrev zcO(C:Cc):aE:=(aF (aN 4 (lY C.s (JA C) (aA aG (aA aT aB)))) (aF (cC (n9 (aA (bH cP (aA aG aB)) aB)) (aX 5) (zcN C)) (aF (kS (kO (dQ (dY C.q "is_done" (zQ C) (cY C.s a9 "queue") aB))) (bZ (dY C.s "take_next" (I0 C) a9 aB))) (bG (cY C.s a9 "best")))))
theorem JC:∀(ts acc:↑Av),j1 (acc.map cH) (ts.map cH)=(ts.foldl c7 acc).map cH
 | [],acc=>rfl
 | t::r,acc=>by
  show j1 (bY (acc.map cH) (Sum.inr t) (.bl ab)) (r.map cH)=_;rw[vB,JC,Gf]
theorem zcP:bE mB zcv zcu:=by
 rintro _ M R ⟨ts,rfl,hl,r⟩;have l:↥(ts.map W.str)<=Au:=small (by rw[Ab];exact Ap hl ∅);refine(lX (rest:=[]) (λw=>.tup [w,.bl ab]) l (λ_ _=>trivial) (λw hw V C sb O=>O) (aP.frz ⟨ts.map cH,?_,by rw[Ab];exact l,_,aW,?_⟩))
 .unfold oC;rw[Bp,Bp];rfl
 .rw[show([]:↑(aC×W))=([]:↑Av).map cH from rfl,JC];exact r
theorem zcQ:bE vF zcx zcw:=by
 rintro _ M R ⟨a,b,rfl,r⟩;exact⟨_,aW,r⟩
theorem vG(k:Nat):(rep k).map W.int++[W.int 0]=(rep (k+1)).map W.int:=by
 rw[show rep (k+1)=rep k++[0] from List.replicate_succ' ..,Ax];rfl
theorem zY{k:Nat}{Q:W->Prop}(h:1<=k)(r:Q (.int 0)):so (bR ((rep k).map W.int) 0) Q:=by
 cases k with
 | zero=>cases h
 | succ k=>exact so.of (oB _ _) r
theorem oH{k:Nat}{Q:W->Prop}(h:1<=k)(r:Q (.int 0)):so (bR ((rep k).map W.int) (-1)) Q:=by
 cases k with
 | zero=>cases h
 | succ k=>rw[<-vG];exact so.of (CW _ _) r
theorem zZ{k:Nat}(h:1<=k):(rep k).map W.int≠[]:=by
 cases k with
 | zero=>cases h
 | succ k=>exact Gw _ _
theorem nE(k:Nat):↥((rep k).map W.int)=k:=by rw[Ab,Jh]
theorem zcR:bE (p6 C) (zcB C) zcA:=by
 rintro _ M R ⟨G,E,M0,A,st,P,X,x,c,kp,rfl,F,j,r⟩;let⟨_,s⟩:=j.sd x (Bo _ (Bl ..));let⟨_,_,_,hl⟩:=F.up;have hn:=j.small.1;let⟨B,N,f,back⟩:=F.rpush (kx x) (cW c);refine zY s.one (oH s.one ?_);rw[nE];refine fI F.os zV (.inr ⟨_,.inr ⟨_,kx x,F.or,rfl,rfl⟩,?_⟩);rw[j.free];exact fI F.os zV (pM (k:=kx x) F.or (cM (by lia)) (fI f zU (mI N.ob za0 ⟨B,A.Q,_,_,c,x,rfl,N,(by lia),λV h'=>⟨V,aW,r V _ (back V _ h') j.reach⟩⟩)))
theorem z9{C:Cc}{G:Sr}{E:Env}{M0 M:Mm}{A:Ad}{st:SS}{P X:↑(Nat×Nat)}{x:Nat×Nat}{c:cZ}{kp:Option (Am×↑W)}{ws:↑W}{R:K3}(e:ws=[.ref A.s,.int x.1,gQ (rep x.2),cW c])(F:SK C E M0 M A st kp)(j:J G st P (x::X))(r:∀V m,SK C E M0 V A m kp->J G m P X->R .non V):p6 C ws M R:=⟨G,E,M0,A,st,P,X,x,c,kp,e,F,j,r⟩
theorem JD(r:R (cW (HI a b)) M):vF [cW a,cW b] M R:=⟨a,b,rfl,r⟩
theorem vH{B j:Type}{f:B->j}{l:↑B}{i:Nat}{a:B}(h:l[i]? = aa a):(l.map f).drop i=f a::(l.map f).drop (i+1):=by
 let⟨O,rfl⟩:=An.mp h;rw[Fw (by rw[Ab];exact O),List.getElem_map]
theorem vJ{B j:Type}{f:B->j}{l:↑B}{n:Nat}(h:n=↥l):(l.map f).drop n=[]:=List.drop_eq_nil_of_le (by rw[Ab,h];exact Ai _)
theorem zcS{C:Cc}:bE (IX C) (zcH C) zcG:=by
 rintro _ M R ⟨G,E,M0,A,st,P,c,x,Q,t,rfl,⟨j,⟨Y,W,N,F⟩,T,r⟩,S,f⟩;let⟨l,s⟩:=j.at_ N;have hk:=j.g.p l (Ao s.ru);have q:=s.le;have ok:eE G st.best t↔told st.best t:=by unfold eE;rw[Vz f]
 have jp:=j.part (X:=(st.en t).map λ_=>(x.1,x.2+1)) (b:=λj=>if t=j then st.bg j++[(c,x)] else st.bg j) N T S (Ai _) (by
  rw[ok];rcases j.en t with⟨h,n⟩|⟨d,h,n⟩
  .rw[h];exact .inl ⟨rfl,n⟩
  .rw[h];exact .inr ⟨rfl,n⟩) λt'=>by
  by_cases h:t=t'
  .rw[Vz h,Vz ⟨f,h⟩]
  .rw[Vy h,Vy λz=>h z.2]
 refine fI F.os IW (F.gpush (t:=t) (y:=(c,x)) j.small.2.1 j.bl λI u=>?_);let⟨kvs,Z,hc⟩:=u.ends_at t;refine fI u.os IV ⟨uZ Z,_,.inr ⟨kvs,eT t,Z,rfl,rfl⟩,?_⟩;rcases hc with⟨O,L⟩|⟨p,O,hk⟩
 .rw[O];rw[show st.en t=[] from L]at jp;exact l7 (λi U V=>V=I) rfl (λi w U V hw=>nomatch hw) λU V e=>⟨_,aW,r _ _ (e▸u) jp⟩
 .rw[O];refine⟨_,hk.kept,yR (λi U V=>∃m o v,U=[aa (.ref A.s),aa (.int x.1),aa (gQ (rep x.2)),aa (cW c),aa (.tup [.str t,.int 0]),o,v]/\SK C E M0 V A m (aa (p,(st.en t).map vD))/\J G m (P++[x]) (((st.en t).map λ_=>(x.1,x.2+1)).drop i)) ⟨_,_,_,rfl,hk,jp⟩ (λi U V _ B=>by let⟨_,_,_,_,h,_⟩:=B;exact h.kept) ?_ ?_⟩
  .rintro i w U V hw ⟨m,o,v,rfl,a,k⟩;rw[Ay]at hw;let⟨z,hz,rfl⟩:=Ba.mp hw;rw[vH hz]at k;exact⟨rfl,rfl,mI a.os vE ⟨zZ s.one,by rw[nE];exact small (show x.2+1<=_ by lia),JD (z9 (x:=(x.1,x.2+1)) (by rw[gQ,<-vG]) a k λK D H j2=>⟨K,aW,D,_,_,rfl,H,j2⟩)⟩⟩
  .rintro U V ⟨m,o,v,rfl,a,k⟩;rw[vJ (Ab _)]at k;exact⟨_,aW,r _ _ a.free k⟩
theorem j8{rs:↑aD}{n:Nat}(h:n<↥rs):∃r,rs[n]? = aa r/\bR (rs.map bF) (n:Int)=aa (bF r):=by
 refine⟨rs[n],Bg h,gW ?_⟩;rw[Ay,Bg h];rfl
theorem zcT:(cG B (t,0,0)).isSome=ab↔told B t:=by
 rw[<-j7,Gx];exact⟨λ⟨e,O,L⟩=>Ar.mpr ⟨e,O,Wa L⟩,λz=>let ⟨e,O,L⟩:=Ar.mp z;⟨e,O,Wc L⟩⟩
theorem zcU{bs:c8}{k:cE}{v:cZ×Nat×↑Int}(h:cG bs k=ae):bY (eA fK eJ bs) (fK k) (eJ v)=eA fK eJ (bs++[(k,v)]):=by
 rw[IT nD,HL h]
theorem zcV{C:Cc}:bE (IY C) (zcL C) zcI:=by
 rintro _ M R ⟨G,E,M0,A,st,P,c,x,ru,rfl,⟨j,⟨n,u,N,F⟩,T,r⟩,S,hG⟩;let⟨_,s⟩:=j.at_ N;have O:=s.one;let⟨o,hr1,hr2⟩:=j8 (An.mp T).1;rw[T]at hr1;cases hr1;rw[hG]at hr2;refine fI F.os IU (so.of hr2 (zY O (oH O ⟨(λh=>nomatch h),z3,fI F.os zW (.inr ⟨_,.inr ⟨_,fK (ru.name,0,0),F.ob,rfl,rfl⟩,?_⟩)⟩)));rw[pZ nD];show if ((cG st.best (ru.name,0,0)).map eJ).isSome=ab then _ else _;have ti:=zcT (B:=st.best) (t:=ru.name);cases Z:cG st.best (ru.name,0,0) with
 | some v=>
  rw[Z]at ti;exact⟨M,aW,r M _ F (j.old N T S (ti.mp rfl))⟩
 | none=>
  rw[Z]at ti;have nt:¬told st.best ru.name:=λz=>nomatch ti.mpr z;have js:=j.set N T S nt;have H:st.en ru.name=[]:=(j.en ru.name).elim (λh=>h.1) λd=>by let⟨_,_,h⟩:=d;exact absurd h nt
  refine fI F.os zW (pM (k:=fK (ru.name,0,0)) F.ob (cM (by rw[Ab];exact Cb j.small.2.2 ∅)) ?_);rw[show bY (eA fK eJ st.best) _ (W.tup [cW c,W.int x.1,gQ (rep x.2)])=_ from zcU (v:=(c,x.1,rep x.2)) Z];refine fI F.bo IV (F.epush (v:=((ru.name,0,0),c,x.1,rep x.2)) (t:=ru.name) (c:=c) (λ_ _ h=>oH O h) j.small.2.2 H λI f=>?_);let⟨kvs,hg,hc⟩:=f.begun_at ru.name;refine fI f.os IW ⟨uZ hg,_,.inr ⟨kvs,eT ru.name,hg,rfl,rfl⟩,?_⟩;rcases hc with⟨O,L⟩|⟨p,L,hk⟩
  .rw[O];rw[show st.bg ru.name=[] from L]at js;exact l7 (λi U V=>V=I) rfl (λi w U V hw=>nomatch hw) λU V e=>⟨_,aW,r _ _ (e▸f) js⟩
  .rw[L];refine⟨_,hk.kept,yR (λi U V=>∃m X Q l,U=[aa (.ref A.s),aa (.int x.1),aa (gQ (rep x.2)),aa (cW c),aa (.tup [.str ru.name,.int 0]),aa (.tup ([.str ru.name,.int 0]++[.int 0])),X,Q,l]/\SK C E M0 V A m (aa (p,(st.bg ru.name).map rV))/\J G m (P++[x]) (((st.bg ru.name).map λe:cZ×Nat×Nat=>(e.2.1,e.2.2+1)).drop i)) ⟨_,_,_,_,rfl,hk,js⟩ (λi U V _ q=>by let⟨_,_,_,_,_,h,_⟩:=q;exact h.kept) ?_ ?_⟩
   .rintro i w U V hw ⟨m,X,Q,l,rfl,a,Y⟩;rw[Ay]at hw;let⟨y,K,rfl⟩:=Ba.mp hw;rw[vH K]at Y;let⟨D,sy⟩:=j.sd y.2 (Bf _ (Bf _ ((j.bg _ _).mp (Ar.mpr ⟨y,Ao K,rfl⟩)).1));have hly:=sy.le;have hlp:=j.g.p D (Ao sy.ru);exact⟨rfl,rfl,mI a.os vE (oH O ⟨zZ sy.one,by rw[nE];exact small (show y.2.2+1<=_ by lia),JD (z9 (x:=(y.2.1,y.2.2+1)) (by rw[gQ,<-vG]) a Y λb st2 hk2 j2=>⟨b,aW,st2,_,_,_,rfl,hk2,j2⟩)⟩)⟩
   .rintro U V ⟨m,X,Q,l,rfl,a,Y⟩;rw[vJ (Ab _)]at Y;exact⟨_,aW,r _ _ a.free Y⟩
theorem zcW{C:Cc}:bE (I0 C) (zcF C) zcC:=by
 rintro _ M R ⟨G,E,M0,A,st,P,rfl,F,ev,j,N,r⟩;let⟨l,K,back⟩:=F.que;refine fI F.os zU (mI K.ob za1 ⟨l,A.Q,_,_,rfl,K,N,λI Y c x B e hQ1=>?_⟩);have u:=back I _ hQ1;let⟨ru,s⟩:=j.at_ e;have O:=s.one;have hk:=j.it (c,x) (by rw[e];simp);have ht:∀{V:Mm} {R':K3},SR C E M0 V A {st with q:=Y++B}->(∀M,R .non M->R' .non M)->Tk C G E M0 V A st P c x ru R':=λF k=>⟨j,⟨Y,B,e,F⟩,s.ru,λV m a b=>k _ (r V m x a b)⟩
 refine fI u.os zV (zY O (oH O ?_));rw[nE];refine pV (k:=kx x) u.or hk ⟨c.1,c.2,c.1,c.2,rfl,rfl,λz hz=>?_⟩;cases hz rfl rfl;let⟨y,hr1,hr2⟩:=j8 (An.mp s.ru).1;rw[s.ru]at hr1;cases hr1;rw[ev.rs]at hr2;have hlp:↥(Si W.str ru.parts)=↥ru.parts:=Ab _;refine fI u.os IU (so.of hr2 (bP (λT=>?_) λT=>?_))
 .have T:=Wa T;rw[nE,hlp]at T;exact mI u.os zct ⟨G,E,M0,A,st,P,c,x,ru,rfl,ht u λM h=>⟨M,aW,h⟩,Oz (by lia),ev.rs⟩
 have T:=of_decide_eq_false T;rw[nE,hlp]at T;obtain⟨t,S⟩:∃t,ru.parts[x.2-1]? = aa t:=⟨_,Bg (by lia)⟩;have hat:bR (ru.parts.map W.str) (↥((rep x.2).map W.int)-1)=aa (.str t):=by
  rw[nE,show((x.2:Int)-1)=((x.2-1:Nat):Int) by lia];exact gW (by rw[Ay,S];rfl)
 refine(so.of hat (fI u.os zcp ⟨_,⟨Sum.inr t,rfl,rfl⟩,(bP (λf=>?_) λf=>?_)⟩))
 .exact mI u.os zcs (so.of hat (oH O ⟨G,E,M0,A,st,P,c,x,ru,t,rfl,ht u λM h=>⟨M,aW,h⟩,S,(ev.own t).symm.trans f⟩))
 have f:G.own t=ac:=(ev.own t).symm.trans f;have hval:(aQ E.stp (eK (t,0))).getD (.rl [])=.rl ((G.steps t 0).map λz=>.tup [.int z.1,.int z.2]):=by
  rcases ev.stp t 0 with⟨O,L⟩|O
  .rw[O,L];rfl
  .rw[O];rfl
 have ok:eE G st.best t↔G.steps t 0≠[]:=by unfold eE;rw[Vy (by rw[f];decide)]
 have jp:=j.part (X:=(G.steps t 0).map λ_=>(x.1,x.2+1)) (b:=st.bg) e s.ru S (Hi _) (by
  rw[ok];rcases j.g.o.st t with h|⟨d,h⟩
  .rw[h];exact .inl ⟨rfl,λz=>z rfl⟩
  .rw[h];exact .inr ⟨rfl,Gw _ _⟩) λt'=>by rw[Vy λz=>by rw[f]at z;cases z.1]
 have hz:∀z∈G.steps t 0,z.1=0:=λz hz=>by
  rcases j.g.o.st t with h|⟨d,h⟩
  .rw[h]at hz;cases hz
  .rw[h]at hz;rw[Ag.mp hz]
 have hle:=j.g.p ru (Ao s.ru);refine fI u.os zcq ⟨rfl,(so.of hat (oH O ⟨_,⟨eK (t,0),rfl,rfl⟩,zbf hval (dB (λi U V=>∃m v o7,U=[aa (.ref A.s),aa (.tup [cW c,k7 x]),aa (cW c),aa (.int x.1),aa (gQ (rep x.2)),aa (.tup (ru.parts.map W.str)),v,o7]/\SR C E M0 V A m/\J G m (P++[x]) (((G.steps t 0).map λ_=>(x.1,x.2+1)).drop i)) ⟨_,_,_,rfl,u,jp⟩ ?_ ?_)⟩))⟩
 .rintro i w U V hw ⟨m,v,o7,rfl,hk,j'⟩ D H;rw[Ay]at hw;let⟨z,hi,rfl⟩:=Ba.mp hw;rw[vH hi]at j';have n:=hz z (Ao hi);exact⟨rfl,rfl,mI hk.os vE ⟨zZ O,by rw[nE];exact small (show x.2+1<=_ by lia),G,E,M0,A,m,_,_,(x.1,x.2+1),(c.1+z.2,c.2),_,by rw[gQ,<-vG,n];rfl,hk,j',λZ st2 hk2 j2=>H _ _ ⟨_,_,_,rfl,hk2,j2⟩⟩⟩
 .rintro U V ⟨m,v,o7,rfl,hk,j'⟩;rw[vJ (Ab _)]at j';exact⟨_,aW,r _ _ _ hk j'⟩
theorem zcX:d8 "begun" (.ref A.g) (d8 "ends" (.ref A.e) (d8 "best" (.ref A.b) (d8 "reached" (.ref A.r) (d8 "queue" (.ref A.Q.o) ([("grammar",(bC E.rs)),("own",(W.dk E.own)),("steps",(W.dt E.stp))]:↑(Av×W))))))=sf E A:=by kernel_rfl
theorem AA(f:Av)(w:W):∀fs:↑(Av×W),↥(d8 f w fs)<=↥fs+1
 | []=>Ai _
 | (k,x)::r=>by
  rw[d8];split
  .simp
  .have:=AA f w r;simp only[Bv];lia
structure Bu(C:Cc)(M0 B Mt:Mm)(A:Aq)(s dx:Am)(fs:↑(Av×W))(ps:↑Am):Prop where
 sub:L2.Sub M0 B
 at_:B s=aa (.ins C.s dx fs)
 nd:(s::ps).Nodup
 at':∀p∈ps,M0 p=ae/\B p=aa (.dT [])
 q:QR C B Mt A [] 0
 len:↥fs<=4+↥ps
section
variable {C:Cc}{M0 B Mt:Mm}{A:Aq}{s dx p:Am}{fs:↑(Av×W)}{ps:↑Am}
theorem Bu.set(h:Bu C M0 B Mt A s dx fs ps)(J:M0 s=ae)(hl:↥ps<=4)(k:∀p B M,Bu C M0 B M A s dx (d8 f (.ref p) fs) (ps++[p])->D.nx (aa (.ref s)::U) M):jA C.s (dH 0) f lQ D (aa (.ref s)::U) Mt:=λp G=>by
 have F:=h.q.sub _ _ h.at_;have ne:s≠p:=λe=>by rw[<-e,F]at G;cases G
 have Z:=h.q.sub.non G;have nd:=Cj.mp h.nd;have o:put B p (.dT []) s=aa (.ins C.s dx fs):=by rw[aY ne];exact h.at_
 have up:p∉ps:=λz=>by have:=(h.at' p z).2;rw[Z]at this;cases this
 have l:=h.len;refine⟨s,dx,fs,rfl,by rw[aY ne];exact F,by lia,k p (put (put B p (.dT [])) s (.ins C.s dx (d8 f (.ref p) fs))) _ ⟨gP (gP h.sub (h.sub.non Z)) J,aJ,Cj.mpr ⟨λz=>(Bb.mp z).elim nd.1 λz=>ne (Ag.mp z),Cv.mpr ⟨nd.2,by simp,λa m b Z e=>up (by rw[<-Ag.mp Z,<-e];exact m)⟩⟩,λa m=>?_,(h.q.lift (.inl G)).lift (.inr ⟨_,o⟩),?_⟩⟩
 .rcases Bb.mp m with m|m
  .rw[aY (λz:a=s=>nd.1 (z▸m)),aY (λz:a=p=>up (z▸m))];exact h.at' a m
  .rw[Ag.mp m,aY (Ca ne),aJ];exact⟨h.sub.non Z,rfl⟩
 .rw[Aj];exact Ap (AA ..) (Eu h.len)
end
theorem JE(h:L2.Sub M0 M)(n:M0 p=ae):L2.Sub M0 (del M p):=λa u e=>by rw[jV (λz=>by rw[z,n]at e;cases e)];exact h a u e
theorem JF{g:Av->Option (↑W)}(h:B p=aa (.dT []))(hg:∀k,g k=ae):c9 eT (del B p) B p [] g:=⟨λa u e=>by unfold del at e;split at e;cases e;exact e,Vz rfl,h,(λ_ _=>rfl),(λk ws e=>by rw[hg]at e;cases e),(λk j p e=>nomatch e)⟩
theorem zcY:bE (JA C) (zcz C) zcy:=by
 rintro _ M R ⟨M0,s,dx,rs,stp,rfl,hl,rfl,J,r⟩;refine⟨s,dx,⟨_,rfl,aJ,by decide,?_⟩⟩;rw[b7];have T:∀w:W,d8 "own" w (d8 "grammar" (bC rs) [])=([("grammar",bC rs),("own",w)]:↑(Av×W)):=λw=>by kernel_rfl
 have P:∀w:W,d8 "steps" w ([("grammar",bC rs),("own",.dk (ownOf rs))]:↑(Av×W))=([("grammar",bC rs),("own",.dk (ownOf rs)),("steps",w)]:↑(Av×W)):=λw=>by kernel_rfl
 refine⟨rs,rfl,Ap hl ∅,aP.frz ⟨namesOf rs,rfl,?_,⟨s,dx,⟨_,rfl,aJ,(show(1:Nat)<1000 by decide),⟨s,dx,⟨_,rfl,aJ,?_,?_⟩⟩⟩⟩⟩⟩
 .have:=rP (rs.map aD.name) [];rw[Ab]at this;unfold namesOf l5;simp at this;simp;lia
 .rw[T];exact(show(2:Nat)<1000 by decide)
 rw[b7,b7,T];show JB C _ _ (put M0 s (.ins C.s dx (d8 "steps" (.dt stp) [("grammar",bC rs),("own",.dk (ownOf rs))])));rw[P];refine λa c m z S=>?_;have hsa:s≠a:=λe=>by rw[<-e,aJ]at m;cases m
 obtain⟨i,b⟩:∃F:↑(Av×W),F=([("grammar",bC rs),("own",.dk (ownOf rs)),("steps",.dt stp)]:↑(Av×W)):=⟨_,rfl⟩;rw[<-b]at m z⊢;refine⟨_,a,c,rfl,rfl,m,λI Aq hAq H=>⟨rfl,⟨s,dx,i,rfl,H.sub _ _ aJ,by rw[b];exact(show(3:Nat)<1000 by decide),?_⟩⟩⟩;have b0:Bu C M0 _ (put I s (.ins C.s dx (d8 "queue" (.ref a) i))) Aq s dx (d8 "queue" (.ref a) i) []:=⟨gP (gP (aW) J) J,aJ,by simp,(λ_ h=>nomatch h),H.lift (p:=s) (o:=.ins C.s dx (d8 "queue" (.ref a) i)) (.inr ⟨_,aJ⟩),by have:=AA "queue" (.ref a) i;rw[b]at this⊢;exact this⟩;refine b0.set J (Cs _) λO _ _ Q=>Q.set J (show 1<=4 by decide) λd _ _ U=>U.set J (show 2<=4 by decide) λX _ _ n=>n.set J (show 3<=4 by decide) λL B _ t=>⟨_,aW,r _ ⟨s,dx,Aq,O,d,X,L⟩ rfl ?_⟩
 have v:=zcX (E:=⟨rs,ownOf rs,stp⟩) (A:=⟨s,dx,Aq,O,d,X,L⟩);rw[hAq,<-b]at v;dsimp only at v;rw[v]at t;have nd : [s,O,d,X,L].Nodup:=t.nd;simp only[Cj,Aw,not_or,Em,not_false_eq_true,and_true]at nd;obtain⟨⟨f,Z,D,a4⟩,⟨u,V,g⟩,⟨d3,x⟩,l,_⟩:=nd;let⟨N,Y⟩:=t.at' O (by simp);let⟨G,k⟩:=t.at' d (by simp);let⟨z3,j⟩:=t.at' X (by simp);let⟨K,y⟩:=t.at' L (by simp);exact⟨del (del B L) X,del B L,B,[],[],⟨JE (JE t.sub K) z3,J,N,G,f,Z,u,by rw[jV D,jV a4];exact t.at_,by rw[jV V,jV g];exact Y,by rw[jV d3,jV x];exact k⟩,JF (by rw[jV l];exact j) λ_=>rfl,JF y λ_=>rfl,t.q,Ai _,Ai _,Ai _,trivial⟩
theorem SK.told{C:Cc}{E:Env}{M0 M:Mm}{A:Ad}{st:SS}{kp:Option (Am×↑W)}(h:SK C E M0 M A st kp):M0 A.b=ae/\L2.Sub (put M0 A.b (.dT (eA fK eJ st.best))) M:=by
 let⟨I,m,s,_⟩:=h.up;refine⟨m.nb,λb u e=>?_⟩
 by_cases Z:b=A.b
 .subst Z;rw[aJ]at e;cases e;exact h.ob
 .rw[aY Z]at e;exact s _ _ (m.sub _ _ e)
theorem rW{lo:Int}{n i:Nat}(h:(lU lo n)[i]? = aa w):i<n/\w=.int (lo+i):=by
 unfold lU at h;rw[Ay]at h;let⟨j,hj,rfl⟩:=Ba.mp h;let⟨O,L⟩:=An.mp hj;simp at O L;subst L;exact⟨O,rfl⟩
theorem vK{lo:Int}{n:Nat}:↥(lU lo n)=n:=by unfold lU;simp
theorem zcZ{C:Cc}:bE (zX C) (zcO C) zcM:=by
 rintro _ M R ⟨G,E,rfl,hrs,hown,y,o,S,r⟩;refine(λa dx g hdx Y=>⟨M,a,dx,E.rs,E.stp,rfl,hrs,rfl,g,λI A z F=>⟨rfl,?_⟩⟩);rw[<-hown]at F;have F:SR C E M I A zR:=F;subst z;have t:↥G.rs<=100:=by rw[y.rs];exact hrs
 refine⟨(↥G.rs:Int),by rw[Ab,y.rs],by lia,by lia,?_⟩;rw[Dl];refine dB (λi U V=>∃st X v,U=[aa (bC E.rs),aa (.rl [.int 0]),aa (.dt E.stp),aa (.rl ((Cp ↥G.rs).map λn=>.int (G.wt n))),aa (.ref A.s),X,v]/\SR C E M V A st/\J G st [] (((Cp ↥G.rs).map λn=>(n,1)).drop i)) ⟨_,_,_,rfl,F,J.start ⟨o,t,S⟩⟩ ?_ ?_
 .rintro i w U Z hw ⟨st,X,v,rfl,D,j2⟩ D1 hD1;let⟨hi,e⟩:=rW hw;rw[Oq]at e;subst e;have T:=Qa hi;refine dB (λk U V=>∃st v,U=[aa (bC E.rs),aa (.rl [.int 0]),aa (.dt E.stp),aa (.rl ((Cp ↥G.rs).map λn=>.int (G.wt n))),aa (.ref A.s),aa (.int i),v]/\SR C E M V A st/\J G st [] (((Cp ↥G.rs).map λn=>(n,1)).drop (i+k))) ⟨_,_,rfl,D,j2⟩ ?_ λU B d=>by let⟨st,v,e,p,j3⟩:=d;exact hD1 _ _ ⟨st,_,_,e,p,j3⟩
  rintro k w U B hw ⟨st,v,rfl,p,j3⟩ D2 hD2;cases k with
  | succ k=>cases hw
  | zero=>
   cases hw;rw[Nat.add_zero,vH T]at j3;exact mI p.os vE (so.of (a:=W.int (G.wt i)) (gW (by rw[Ay,T];rfl)) (z9 (x:=(i,1)) (c:=(G.wt i,1)) rfl p j3 λO st4 hs4 j4=>hD2 _ _ ⟨_,_,rfl,hs4,j4⟩))
 .rintro U Z ⟨st,X,v,rfl,D,j2⟩;rw[vK,vJ Jl.symm]at j2;refine pU (λm U V=>∃st P X v,U=[aa (bC E.rs),aa (.rl [.int 0]),aa (.dt E.stp),aa (.rl ((Cp ↥G.rs).map λn=>.int (G.wt n))),aa (.ref A.s),X,v]/\SR C E M V A st/\J G st P []/\m=90100-↥P) ⟨_,_,_,_,_,rfl,D,j2,rfl⟩ ?_;rintro m U B ⟨st,P,X,v,rfl,p,j,rfl⟩ D3 hD3;let⟨O,H,back⟩:=p.que;refine fI p.os zU (mI H.ob za2 ⟨O,A.Q,st.q,_,rfl,H,bP (b:=!decide (st.q=[])) (λh=>?_) λh=>?_⟩)
  .have N:¬st.q=[]:=of_decide_eq_false (by rw[<-Hb (decide _),h];rfl);have f:=j.few;have l:=Ir.mpr N;unfold al at f;rw[Bs,Aj,Ab]at f;exact mI p.os zcr ⟨G,E,M,A,st,P,rfl,p,y,j,N,λM5 L x hs5 j5=>hD3 _ _ _ (by rw[Aj];show 90100-(↥P+1)<90100-↥P;lia) ⟨_,_,_,_,rfl,hs5,j5,rfl⟩⟩
  .have N:st.q=[]:=Wa (by rw[<-Hb (decide _),h];rfl);let⟨u,K⟩:=p.told;exact fI p.os zW ⟨_,K,r st.best (j.done N) A.b u⟩
section
variable {X:Cx}{af:Pn}{Z:St}{H:Hp}{s:Ak}{a:Am}{u:HO}
def IsDict(u:HO):Prop:=(∃ks,u=.dK ks)\/∃ks,u=.dT ks
theorem Inv.frzD(I:Inv X af Z H s)(e:H a=aa u)(hd:IsDict u):∃o,Inv X af Z (aL H a (.frz o u)) s:=by
 obtain⟨o,f⟩:∃o,s.heap.get? a=aa o:=by
  have:=I.hok a u e;rcases hd with⟨ks,rfl⟩|⟨ks,rfl⟩
  .let⟨_,_,_,_,o,_,_,e,_⟩:=this;exact⟨o,e⟩
  .let⟨_,_,_,_,o,_,_,e,_⟩:=this;exact⟨o,e⟩
 refine⟨o,?_⟩;have ne:∀{b:Am} {v:HO},H b=aa v->v≠u->b≠a:=λ{b v} D h z=>by subst z;rw[e]at D;exact h (Ct D).symm
 have g:∀{b:Am},H b=ae->b≠a:=λ{b} D z=>by subst z;rw[e]at D;cases D
 have d:∀b xs,H b=aa (.tup xs)->aL H a (.frz o u) b=aa (.tup xs):=λb xs T=>by
  rw[bD (ne T (λz=>by rcases hd with⟨ks,rfl⟩|⟨ks,rfl⟩<;>cases z))];exact T
 have i:∀b y,H b=aa (.own y)->aL H a (.frz o u) b=aa (.own y):=λb y T=>by
  rw[bD (ne T (λz=>by rcases hd with⟨ks,rfl⟩|⟨ks,rfl⟩<;>cases z))];exact T
 refine I.step (h':=s.heap) (g':=s.gens) (d':=s.drawn) (t':=s.toks) (ch:=[]) (λ_ z=>nomatch z) (λb o _ _ _ D _=>D) (λb o _ _ _ D _=>⟨o.slots,D⟩) (λb o _ _ n=>by rw[bD (g n)];exact n) (λb o _ D=>⟨o,D⟩) d
  (λb ob v T=>?_) (λb ps T=>⟨#[],?_⟩) (λm S=>S) (λb v T=>?_) I.bare
 .rw[bD (ne T (λz=>by rcases hd with⟨ks,rfl⟩|⟨ks,rfl⟩<;>cases z))];exact T
 .rw[bD (ne T (λz=>by rcases hd with⟨ks,rfl⟩|⟨ks,rfl⟩<;>cases z)),T];simp
 .by_cases Y:b=a
  .subst Y;rw[b8]at T;cases T;exact⟨f,(I.hok b u e).stay (λ_ _ _ q=>q) (λc q=>i c b q) d⟩
  .rw[bD Y]at T;exact(I.hok b v T).stay (λ_ _ _ q=>q) (λc q=>i c b q) d
def zc0(Q:VK):VK:=λv H=>∃a u,v=.ref a/\H a=aa u/\IsDict u/\∀o,Q v (aL H a (.frz o u))
theorem zc1(h:PE X e t):PE X e (λZ H Q=>t Z H (zc0 Q)):=λaf s Z H Q I q=>
 aZ (h af s Z H _ I q) λv U A=>by
  let⟨x,j,M,l,a,u,D,T,P,g⟩:=A;let⟨o,i⟩:=M.frzD T P;exact⟨x,_,i,l,g o⟩
def vL(a:Am)(o:Ms)(u:HO)(xs:↑V):It:=
 ⟨λi H=>H a=aa (.frz o u)/\i<↥xs,λi H x l=>l=H/\xs[i]? = aa x,λi H=>H a=aa (.frz o u)/\↥xs<=i⟩
theorem JG{P:Be}{w:Br}{K:Ac}{tg:Ck}(a it:Am)(o:Ms)(u:HO)(xs:↑V)(es:Array Eg)(ep:Nat)(hd:o.data=.dict es ep)(hn:es.size=↥xs)(J:∀(i:Nat) (e:Eg),es[i]? = aa e->∃x,xs[i]? = aa x/\RelV x e.key):
  i0 P w K tg (vL a o u xs) [it] it (λi h=>h.IsKeyIter it a i es.size ep) where
 mem:=by simp
 obj:=λi h st b Y=>by
  have e:b=it:=by simpa using Y
  subst e;let⟨o,e,c,d⟩:=st;exact⟨o,e,λv z=>by rw[d]at z;cases z⟩
 keep:=λi h h' st k=>st.at λo e=>k it (by simp) o e
 item:=by
  intro X R hw Q hc i af s Z H E I hf st hg;subst R hw Q;let⟨D,hi⟩:=hg;have f:s.heap.get? a=aa o:=(show b5 X.prog X.w H s.heap a (.frz o u) from I.hok a _ D).1;have g:i<es.size:=by lia
  let⟨x,B,G⟩:=J i es[i] (by simp[g]);let⟨f0,C,O,L,j,S⟩:=hf it (by simp);refine tT ac st f hd g λh' m sb=>?_;have M:Inv X af Z H {s with heap:=h'}:=I.turned (t':=s.toks) (λb o Y e=>(sb.2 b Y).trans e) f0 C L j S;let⟨U,e,c,d⟩:=id m;exact⟨_,rfl,oP (s:={s with heap:=h'}) e c d ∅ ⟨x,H,M,G,⟨rfl,B⟩,m,λb Y=>(hf b Y).1⟩⟩
 done:=by
  intro X R hw Q hc i af s Z H E I hf st hg;subst R hw Q;let⟨D,hi⟩:=hg;have f:s.heap.get? a=aa o:=(show b5 X.prog X.w H s.heap a (.frz o u) from I.hok a _ D).1;refine tU ac (I.ok.hd hc) st f hd (by lia) λh' hk=>⟨rfl,?_⟩
  exact I.turnedT (tk:=s.toks) hf λq o N eq=>hk q o (λz=>N (by simp[z])) eq
 self:=λ_ _ _ _ _ st h=>Qj st h
end
section
variable {X:Cx}{e:Ck}{te:aR}
abbrev rX(t:aR):aR:=λU M R=>t U M λw V=>∃p,w=.ref p/\((∃kvs,V p=aa (.dK kvs)/\R (.fk kvs) (del V p))\/∃kvs,V p=aa (.dT kvs)/\R (.ft kvs) (del V p))
theorem JH{K:Ac}{H:Hp}{M:Mm}{p:Am}{o:Ms}{u:HO}{x:MO}(Y:AM K H M)(e:M p=aa x)(hd:IsDict u)(W:H p=aa u):Go H M (aL H p (.frz o u)) (del M p)/\AM K (aL H p (.frz o u)) (del M p)/\Kp H M (aL H p (.frz o u)) (del M p):=by
 have g:∀{b:Am},M b=ae->b≠p:=λ{b} h z=>by subst z;rw[e]at h;cases h
 have go:Go H M (aL H p (.frz o u)) (del M p):=by
  refine⟨λb xs T=>?_,λb ob v T=>?_,λb v n T=>?_⟩
  .rw[bD (g (Y.noTup T))];exact T
  .rw[bD (g (Y.noFrz T))];exact T
  .rw[bD (g n),jV (g n)];exact⟨T,n⟩
 refine⟨go,λa t B=>?_,λa v n B=>?_,λa v B=>?_⟩
 .have ne:a≠p:=λz=>by rw[z,pA]at B;cases B
  rw[jV ne]at B;exact(Y a t B).go go (bD ne)
 .rw[bD (g n),jV (g n)];exact⟨B,n⟩
 .by_cases m:a=p
  .subst m;exact⟨_,b8⟩
  .let⟨y,q⟩:=(Y a v B).has;exact⟨y,by rw[bD m];exact q⟩
theorem zc2(h:E3 X e te):E3 X e (rX te):=
 (zc1 h).weak λZ H Q A=>A.el λU M R J Y h k=>⟨U,M,_,J,Y,h,λv l w V y t av ⟨p,hw,r⟩=>by
  subst hw;obtain rfl:=av.inv;rcases r with⟨kvs,e,r⟩|⟨kvs,e,r⟩
  .let⟨ks,f,q⟩:=t _ _ e;refine⟨p,.dK ks,rfl,f,.inl ⟨_,rfl⟩,λo=>?_⟩;let⟨g,E,F⟩:=JH (o:=o) t e (.inl ⟨_,rfl⟩) f;exact k _ _ _ _ (y.trans F) E (.fk b8 q.keys (q.vals.go g)) r
  .let⟨ks,f,q⟩:=t _ _ e;refine⟨p,.dT ks,rfl,f,.inr ⟨_,rfl⟩,λo=>?_⟩;let⟨g,E,F⟩:=JH (o:=o) t e (.inr ⟨_,rfl⟩) f;exact k _ _ _ _ (y.trans F) E (.ft b8 q.keys (q.vals.go g)) r⟩
abbrev rY:W->Mm->(↑W->(Mm->Prop)->Mm->Prop)->Prop
 | .fk kvs,I,R=>R (kvs.map λp=>wK p.1) (λ_=>True) I
 | .ft kvs,I,R=>R (kvs.map λp=>.tup (p.1.map wK)) (λ_=>True) I
 | _,_,_=>False
theorem JI{K:Ac}{j:Hp}{M0:Mm}{a:Am}{o:Ms}{u:HO}{xs:↑V}{ws:↑W}(L:AM K j M0)(e:j a=aa (.frz o u))(J:aK K j M0 xs ws):iC K j M0 (vL a o u xs) ws λ_=>True:=by
 have st:∀H M,Kp j M0 H M->H a=aa (.frz o u):=λH M k=>(k.fr _ _ (L.noFrz e) e).1;refine⟨λi H M k Y _ hi=>⟨st H M k,by rw[J.length];exact hi⟩,λH M k Y _=>⟨st H M k,by rw[J.length];exact Ai _⟩,λi H M x l k Y _ hi y=>?_⟩;let⟨rfl,y⟩:=y;let⟨w,hw,av⟩:=(J.kp L k).getV y;exact⟨w,hw,Kp.refl Y,Y,av⟩
theorem JJ{K:Ac}{H:Hp}{M:Mm}:∀k:aC,AV K H M (kV k) (wK k)
 | .inl i=>.int i
 | .inr x=>.str x
theorem zc3(ok:cS P w H h)(e:H a=aa (.frz o (.dK ks))):
  ∃es ep,gK h a es ep/\o.data=.dict es ep/\(a==Fu)=ac/\es.size=↥ks/\∀(i:Nat) (en:Eg),es[i]? = aa en->∃p,ks[i]? = aa p/\RelV (kV p.1) en.key/\RelV p.2 en.val:=by
 let⟨f,hz,S,vs,T,s,es,ep,O,L,h3,m,Y,l⟩:=(show b5 P w H h a (.frz o (.dK ks)) from ok a _ e);rw[f]at O;cases O;have F:=↥T;have Z:=↥Y;rw[Ey]at Z;refine⟨es,ep,⟨o,f,L,h3⟩,h3,S,by lia,λi en j=>?_⟩;have hi:=(Hu.mp j).1;obtain⟨⟨k,x⟩,c⟩:∃v,vs[i]? = aa v:=⟨_,Bg (by lia)⟩;let⟨C,R⟩:=Y.get? (by rw[Fd];exact j) c;have:∀{ks:↑(aC×V)} {vs:↑(aC×Ae)} {i:Nat},KV ks vs->vs[i]? = aa (k,x)->∃v,ks[i]? = aa (k,v)/\RelV v x:=by
  intro ks vs i r
  induction r generalizing i with
  | nil=>intro h;simp at h
  | @cons p q ps qs N t E=>
   intro h;cases i with
   | zero=>simp at h;subst h;let⟨X,d⟩:=p;cases N.1;exact⟨d,rfl,N.2⟩
   | succ i=>rw[Ep]at h⊢;exact E h
 let⟨v,g,n⟩:=this T c;exact⟨(k,v),g,tR C,by rw[R];exact n⟩
theorem zc4(ok:cS P w H h)(e:H a=aa (.frz o (.dT ks))):
  ∃es ep,gK h a es ep/\o.data=.dict es ep/\(a==Fu)=ac/\es.size=↥ks/\∃n:↑Am,↥n=↥ks/\(∀(i:Nat) (p:↑aC×V) (b:Am),ks[i]? = aa p->n[i]? = aa b->H b=aa (.tup (p.1.map kV)))/\
   ∀(i:Nat) (en:Eg),es[i]? = aa en->∃p b,ks[i]? = aa p/\n[i]? = aa b/\en.key=.ref b/\RelV p.2 en.val:=by
 let⟨f,hz,S,xs,K,s,es,ep,O,L,h3,m,R⟩:=(show b5 P w H h a (.frz o (.dT ks)) from ok a _ e);rw[f]at O;cases O;have F:=Lh m;have c:=Dg K;refine⟨es,ep,⟨o,f,L,h3⟩,h3,S,by lia,xs.map λx=>x.2.1,by rw[Ab];lia,λi p b G Z=>?_,λi en j=>?_⟩
 .rw[Ay]at Z;let⟨x,J,rfl⟩:=Ba.mp Z;have:∀{ks:↑(↑aC×V)} {xs:↑(↑aC×Am×Ae)} {i:Nat},Fz (λ(p:↑aC×V) (q:↑aC×Am×Ae)=>p.1=q.1/\H q.2.1=aa (.tup (p.1.map kV))/\RelV p.2 q.2.2) ks xs->ks[i]? = aa p->xs[i]? = aa x->H x.2.1=aa (.tup (p.1.map kV)):=by
   intro ks xs i r
   induction r generalizing i with
   | nil=>intro h;simp at h
   | @cons p q ps qs N t E=>
    intro h g;cases i with
    | zero=>simp at h g;subst h;subst g;exact N.2.1
    | succ i=>rw[Ep]at h g;exact E h g
  exact this K G J
 .rw[Ti m i]at j;let⟨x,J,rfl⟩:=Ba.mp j;have:∀{ks:↑(↑aC×V)} {xs:↑(↑aC×Am×Ae)} {i:Nat},Fz (λ(p:↑aC×V) (q:↑aC×Am×Ae)=>p.1=q.1/\H q.2.1=aa (.tup (p.1.map kV))/\RelV p.2 q.2.2) ks xs->xs[i]? = aa x->∃p,ks[i]? = aa p/\RelV p.2 x.2.2:=by
   intro ks xs i r
   induction r generalizing i with
   | nil=>intro h;simp at h
   | @cons p q ps qs N t E=>
    intro h;cases i with
    | zero=>simp at h;subst h;exact⟨p,rfl,N.2.2⟩
    | succ i=>rw[Ep]at h⊢;exact E h
  let⟨p,Y,B⟩:=this K J;exact⟨p,x.2.1,Y,by rw[Ay,J];rfl,rfl,B⟩
theorem zc5{tg:Ck}:lR X tg (rG X.K rY):=by
 rintro af s Z H x u Q I d ⟨t,M,R,N,Y,h,k⟩;cases N<;>first|exact Bq h|skip
 case fk a o ks kvs e ke q=>
  cases (show u=Value.ref a from d);let⟨es,ep,T,hd,S,hsz,j⟩:=zc3 I.hok e;have fp:∀b∈[⇑s],gU X af H b:=λb U=>by
   have e:b=⇑s:=by simpa using U
   subst e;exact I.fpOk (Ai _) (I.hok.fresh (Ai _))
  refine tV S T ⟨⇑s,[⇑s],_,vL a o (.dK ks) (ks.map λp=>kV p.1),H,rfl,I.kept (t':=s.toks) λb o e=>Af _ e,JG a _ o _ _ es ep hd (by rw[Ab];exact hsz) (λi en P=>?_),⟨_,Az _ rfl,rfl,rfl⟩,fp,k _ _ _ _ _ (Kp.refl Y) Y (JI Y e ?_) h⟩
  .let⟨p,O,L,_⟩:=j i en P;exact⟨kV p.1,by rw[Ay,O];rfl,L⟩
  .have hk:(ks.map λp=>kV p.1)=(ks.map Eb).map kV:=by rw[Bp];rfl
   have hw:(kvs.map λp=>wK p.1)=(kvs.map Eb).map wK:=by rw[Bp];rfl
   rw[hk,hw,ke];generalize kvs.map Eb=l
   induction l with
   | nil=>exact .nil
   | cons z l E=>exact .cons (JJ z) E
 case ft a o ks kvs e ke q=>
  cases (show u=Value.ref a from d);let⟨es,ep,T,hd,S,hsz,J,hl,m,j⟩:=zc4 I.hok e;have fp:∀b∈[⇑s],gU X af H b:=λb U=>by
   have e:b=⇑s:=by simpa using U
   subst e;exact I.fpOk (Ai _) (I.hok.fresh (Ai _))
  refine tV S T ⟨⇑s,[⇑s],_,vL a o (.dT ks) (J.map V.ref),H,rfl,I.kept (t':=s.toks) λb o e=>Af _ e,JG a _ o _ _ es ep hd (by rw[Ab];lia) (λi en P=>?_),⟨_,Az _ rfl,rfl,rfl⟩,fp,k _ _ _ _ _ (Kp.refl Y) Y (JI Y e ?_) h⟩
  .let⟨p,b,O,L,h3,_⟩:=j i en P;exact⟨.ref b,by rw[Ay,L];rfl,by rw[h3];rfl⟩
  .have hw:(kvs.map λp=>W.tup (p.1.map wK))=(ks.map Eb).map λz=>W.tup (z.map wK):=by rw[ke,Bp];rfl
   rw[hw];have:∀(ks:↑(↑aC×V)) (J:↑Am),J.length=↥ks->(∀(i:Nat) (p:↑aC×V) (b:Am),ks[i]? = aa p->J[i]? = aa b->H b=aa (.tup (p.1.map kV)))->aK X.K H M (J.map V.ref) ((ks.map Eb).map λz=>W.tup (z.map wK)):=by
    intro ks
    induction ks with
    | nil=>intro J hl _;cases J with
     | nil=>exact .nil
     | cons b r=>simp at hl
    | cons p ks E=>
     intro J hl m;cases J with
     | nil=>simp at hl
     | cons b r=>
      refine .cons (.tup (m 0 p b rfl rfl) (uS p.1)) (E r (by simpa using hl) λi p b O L=>m (i+1) p b (by simpa using O) (by simpa using L))
   exact this ks J hl m
theorem zc6(hl:E3 X l tl):PI X tg l (fT X.K (bT rY tl)):=uF hl zc5
end
end L2
namespace PySem
namespace Dt
open L2
open PySem.Zd (TK allH zH oF)
section
variable {prog:Be}{w:Br}{A:Cw}{E:Ae->Ak->Prop}{s:Ak}
theorem call_pairs{c:Nat}{Q:Ae->Ak->Prop}(hh:A.handled=ae)(W:A.units+2<Fg)(J:s.heap.get? l=aa {cls:=.type "list",data:=.seq items c})(hn:↥ps=items.size)(hz:items.size<=Au)(u:∀p∈ps,(TK prog w).is s.heap p.1 p.2.1)(G:∀(j:Nat) (p:↑aC×Am×Ae),ps[j]? = aa p->∃(a:Am),items[j]? = aa (.ref a)/\s.heap.IsTuple a #[.ref p.2.1,p.2.2])(h:∀h' tk,(∀b o,s.heap.get? b=aa o->h'.get? b=aa o)->h'.DictOfH (TK prog w) ⇑s (allH [] ps)->Q (.ref ⇑s) {s with heap:=h',toks:=tk}):
  Bm (De prog w) A (call (.type "dict") [.ref l]) Q E s:=by
 have y:∀p∈ps,@LT.lt Nat _ p.2.1 ⇑s:=λp G=>by
  let⟨o,items,n,e,_⟩:=u p G;exact Bd e
 refine Dp.callG (Dd:=λi h=>∃es,es=allH [] (ps.take i)/\h.DictOfH (TK prog w) ⇑s es/\↥es<=i/\∀e∈es,@LT.lt Nat _ e.2.1 ⇑s) hh J ⟨[],rfl,Heap.DictOfH.new s.heap,Ai _,λ_ h=>nomatch h⟩ ?_ (λ{i t} hi hd ext=>?_) λh' tk e d=>by let⟨es,B,v,_⟩:=d;exact h h' tk e (by rw[<-hn,Bw]at B;rw[<-B];exact v)
 .rintro i h h' ⟨es,Z,⟨o,en,ep,f,hc,C,r,V,z⟩,hl,M⟩ S;exact⟨es,Z,⟨o,en,ep,S _ o (Ai _) f,hc,C,r,λx H=>oF (V x H) λU e=>S _ U (Ht (M x H)) e,z⟩,hl,M⟩
 let⟨es,Z,hd,hl,M⟩:=hd;obtain⟨p,g⟩:∃p,ps[i]? = aa p:=⟨_,Bg (by lia)⟩;have F:p∈ps:=Ao g;let⟨a,N,P⟩:=G i p g;refine⟨a,_,p.2.2,N,P,λk=>Rm (knd:=TK prog w) (Ft (A:=A.in1) (show(A.units+1)+1<Fg from W)) (oF (u p F) (ext _)) hd (λL v Y=>k L _ ⟨_,?_,v,?_,λe Z=>?_⟩ Y) (by lia)⟩
 .rw[Z,Dp.take_at g];unfold allH;rw[Ll];rfl
 .have:=zH es p.1 p.2.1 p.2.2;lia
 unfold Ni at Z;split at Z
 .let⟨I,m,rfl⟩:=Ar.mp Z;rw[show(Vp p.1 p.2.2 I).2.1=I.2.1 by unfold Vp;split<;>rfl];exact M I m
 .rcases Bb.mp Z with q|q
  .exact M e q
  .rw[Ag.mp q];exact y p F
end
end Dt
end PySem
namespace L2
section
variable {X:Cx}
noncomputable def oI(ps:↑(↑aC×W)):↑W:=ps.map λp=>.tup [.tup (p.1.map wK),p.2]
theorem JK(I:L2.Inv X B C H s):∀{ps:↑(↑aC×W)} {vs:↑V} {its:↑Ae},aK X.K H M vs (oI ps)->a5 vs its->
  ∃(qs:↑(↑aC×Am×V)) (rs:↑(↑aC×Am×Ae)),bS X.K H M (↑aC) (qs.map λq=>(q.1,q.2.2)) ps/\(∀q∈qs,H q.2.1=aa (.tup (q.1.map kV)))/\Fz (λ(q:↑aC×Am×V) (p:↑aC×Am×Ae)=>q.1=p.1/\q.2.1=p.2.1/\RelV q.2.2 p.2.2) qs rs/\↥rs=↥its/\
   (∀z∈rs,H z.2.1=aa (.tup (z.1.map kV)))/\∀(j:Nat) (p:↑aC×Am×Ae),rs[j]? = aa p->∃(a:Am),its[j]? = aa (.ref a)/\s.heap.IsTuple a #[.ref p.2.1,p.2.2]
 | [],_,_,.nil,.nil=>⟨[],[],.nil,(λq N=>nomatch N),.nil,rfl,(λq N=>nomatch N),λj p h=>by simp at h⟩
 | (k,w)::ps,_,_,.cons av c,.cons U n=>by
  let⟨qs,rs,O,L,h3,m,Y,l⟩:=JK I c n;let⟨a,xs,y,e,q⟩:=av.inv;rw[y]at U;let⟨S,P,ex,i,Z⟩:=q.two;let⟨b,g,u,T,o⟩:=i.inv;rw[o.keys]at T;let⟨t,R,pl,_⟩:=I.tuple (bL.of e);rw[ex,u]at R;let⟨d,f,J,x1,x2⟩:=vals2 R;rw[J,show d=.ref b from x1]at pl;refine⟨(k,b,P)::qs,(k,b,f)::rs,.cons ⟨rfl,Z⟩ O,List.forall_mem_cons.mpr ⟨T,L⟩,.cons ⟨rfl,rfl,x2⟩ h3,congrArg (· + 1) m,List.forall_mem_cons.mpr ⟨T,Y⟩,λj p hj=>?_⟩;cases j with
  | zero=>rw[<-Ct hj];exact⟨a,congrArg aa U,pl⟩
  | succ j=>exact l j p hj
def AB:↑W->Mm->K3->Prop
 | [.rl ws],M,R=>∃ps:↑(↑aC×W),ws=oI ps/\↥ws<=Au/\jW (iD [] ps) M R
 | _,_,_=>False
theorem zc7(hc:X.calm=ab)(S:X.A.units+2<Fg):cR X (.type "dict") (e9 X.K AB):=by
 rintro B s C H xs us Q I rs ⟨ws,M,R,Y,d,h,k⟩
 match ws,h with
 | [.rl ws],h=>
  let⟨v,rfl,av⟩:=d.one;let⟨ps,rfl,hz,r⟩:=h;let⟨u,rfl,ru⟩:=vals1 rs;cases av with
  | rl f n q=>
   cases ru;let⟨z,its,c,U,hl,e⟩:=I.lstM f;let⟨qs,rs',O,L,h3,m,Z,N⟩:=JK I q U;have hz2:↥ps<=Au:=by simpa [oI] using hz
   have hql:↥qs=↥ps:=by have:=Dg O;rwa [Ab]at this
   refine Dt.call_pairs (items:=its.toArray) (ps:=rs') (I.ok.hd hc) S e (by simpa using m) (by rw[Bi];lia) (λp G=>i4 I.hok (Z p G)) (λj p hj=>by simpa using N j p hj) λh' tk hk x=>?_;have y:=I.hok.fresh (Ai _);have len:=zJ (qs.map λq=>(q.1,q.2.2)) [];rw[Ab]at len;have puts:∀{ps:↑(↑aC×W)} {qs:↑(↑aC×V)} {ks:↑(↑aC×V)} {kvs:↑(↑aC×W)},bS X.K H M (↑aC) qs ps->bS X.K H M (↑aC) ks kvs->bS X.K H M (↑aC) (j6 ks qs) (iD kvs ps):=by
    intro ps qs ks kvs h
    induction h generalizing ks kvs with
    | nil=>intro h;exact h
    | @cons q p qs ps r t E=>
     intro h;let⟨P,J⟩:=q;let⟨i,b⟩:=p;let⟨rfl,D⟩:=r;exact E (rC h P D)
   have g:=puts (ks:=[]) (kvs:=[]) O .nil;refine⟨.ref ⇑s,aL H ⇑s (.dT (j6 [] (qs.map λq=>(q.1,q.2.2)))),I.laid (o:=.dT (j6 [] (qs.map λq=>(q.1,q.2.2)))) (t':=tk) hk (Ai _) ⟨by simp at len;lia,beq_eq_false_iff_ne.mpr (Ca (Bn I.big)),_,(G5 h3 L .nil).keeps λc ys a=>?_,?_⟩,rfl,?_⟩
   .rw[bD (eO a y)];exact a
   .let⟨o,en,ep,l,D,w,r4,_,r5⟩:=x;exact⟨o,en,ep,l,D,w,r4,r5⟩
   .let⟨T,F⟩:=Y.laid (o:=.dT (iD [] ps)) (u:=.dT (j6 [] (qs.map λq=>(q.1,q.2.2)))) y ⟨_,b8,nY g.keys (g.vals.newL y)⟩;exact k _ _ _ _ F T (.ref _) (r _ (Y.nonM y))
end
def vM(rs:↑aD)(ws:↑Av):Prop:=∀r∈rs,∀t∈r.parts,ownB rs t=ac->t∈ws
structure GL(rs:↑aD):Prop where
 few:↥rs<=61
 prt:∀r∈rs,↥r.parts<=4
 wds:∃U:↑Av,↥U<64/\vM rs U
theorem AD(h:acc.Nodup):(c7 acc t).Nodup:=by
 unfold c7;split
 .exact h
 .rename_i hn;rw[Cv];refine⟨h,by simp,λa m b Z e=>hn ?_⟩;have:b=t:=by simpa using Z
  rw[<-this,<-e];exact m
theorem JL(rs:↑aD):↥(namesOf rs)<=↥rs:=by
 have:∀(qs:↑aD) (acc:↑Av),↥(l5 acc qs)<=↥acc+↥qs:=by
  intro qs
  induction qs with
  | nil=>intro acc;exact Ai _
  | cons r qs E=>
   intro acc;have O:=E (c7 acc r.name);have L:↥(c7 acc r.name)<=↥acc+1:=by unfold c7;split<;>simp
   show(l5 (c7 acc r.name) qs).length<=_;rw[Bv];lia
 have:=this rs [];rw[Jd,Mx]at this;exact this
theorem AE{O:Type}{l:↑O}{k:Nat}{x:O}(h:l[k]? = aa x):l.take (k+1)=l.take k++[x]:=by
 rw[List.take_succ,h];rfl
theorem iE{b j:Type}[DecidableEq b]{t:↑(b×j)}{k:b}:(cG t k).isSome=ab↔k∈t.map (·.1):=by
 rw[<-j7,Gx,Ar];exact⟨λ⟨x,h,e⟩=>⟨x,h,Wa e⟩,λ⟨x,h,e⟩=>⟨x,h,Wc e⟩⟩
theorem AF{P:Av->W->Prop}:∀{fs:↑cE} {ys:↑W},Fz (λw y=>∃f v,w=W.tup ((fK f).map wK)/\y=W.tup [.str f.1,v]/\P f.1 v) (fs.map λf=>W.tup ((fK f).map wK)) ys->∃kvs:↑(aC×W),ys=oC kvs/\kvs.map (·.1)=(fs.map λf=>(Sum.inr f.1:aC))/\∀e∈kvs,∀X,e.1=Sum.inr X->P X e.2
 | [],_,h=>by cases h;exact⟨[],rfl,rfl,λ_ h=>nomatch h⟩
 | f::fs,_,h=>by
  cases h with
  | cons a b=>
   obtain⟨⟨n,i,j⟩,v,e,rfl,hp⟩:=a;let⟨kvs,rfl,h2,h3⟩:=AF b;cases e;exact⟨(Sum.inr f.1,v)::kvs,rfl,by rw[Bh,Bh,h2],λe he X hX=>(Aw.mp he).elim (λz=>by subst z;cases hX;exact hp) λz=>h3 e z X hX⟩
theorem JM{k:aC}{v:W}:∀{ps acc:↑(aC×W)},aQ (j1 acc ps) k=aa v->(k,v)∈ps\/aQ acc k=aa v
 | [],acc,h=>.inr h
 | p::ps,acc,h=>by
  rcases JM (ps:=ps) (acc:=bY acc p.1 p.2) h with z|z
  .exact .inl (.tail _ z)
  .rw[l6]at z
   by_cases e:p.1=k
   .rw[Vz e]at z;cases z;rw[<-e];exact .inl (.head _)
   .rw[Vy e]at z;exact .inr z
theorem JN:∀{ps acc:↑(aC×W)},(aQ (j1 acc ps) k).isSome=((aQ acc k).isSome||ps.any λp=>decide (p.1=k))
 | [],acc=>by simp[j1]
 | p::ps,acc=>by
  show(aQ (j1 (bY acc p.1 p.2) ps) k).isSome=_;rw[JN,l6]
  by_cases e:p.1=k
  .rw[Vz e,Fp,Wc e];simp
  .rw[Vy e,Fp,We e,Nq]
theorem JO{w:Bool}(hw:∀r∈rs,∀t∈r.parts,ownB rs t=ac->(t∈ss↔w=ab))(F:l8 (jM rs ss) B)(h:kvs.map (·.1)=(B.map (·.1)).map λf=>(Sum.inr f.1:aC))(X:Av):(aQ (j1 [] kvs) (Sum.inr X:aC)).isSome=l9 rs w X:=by
 rw[JN,show(aQ ([]:↑(aC×W)) (Sum.inr X:aC)).isSome=ac from rfl,Nq,Ee,Gx,pW,<-zbm hw F X];have hm:(∃x∈kvs,decide (x.1=(Sum.inr X:aC))=ab)↔(Sum.inr X:aC)∈kvs.map (·.1):=by simp
 rw[hm,h,Ar];constructor
 .rintro⟨f,h1,h2⟩;let⟨r,_,e⟩:=HY F h1;cases h2;rw[e]at h1⊢;exact h1
 .exact λz=>⟨_,z,rfl⟩
def fB(rs:↑aD)(t:Av):Bool:=l9 rs ab t||!ownB rs t
def fV(rs:↑aD):↑aD:=rs.filter λr=>r.parts.all (fB rs)
def d9(rs:↑aD)(D:↑Av)(t:Av):Bool:=decide (t∈D)||!ownB rs t
def fL(rs:↑aD)(D:↑Av)(r:aD):↑Av:=if r.parts.any (d9 rs D)=ab then c7 D r.name else D
def jC(rs:↑aD)(D:↑Av):↑Av:=(fV rs).foldl (fL rs) D
def eL(rs:↑aD):Nat->↑Av
 | 0=>[]
 | n+1=>jC rs (eL rs n)
theorem JP(rs:↑aD)(D:↑Av)(r:aD):∃q,fL rs D r=D++q:=by
 unfold fL c7;split
 .split
  .exact⟨[],by simp⟩
  .exact⟨_,rfl⟩
 .exact⟨[],by simp⟩
theorem vN(rs:↑aD):∀(qs:↑aD) (D:↑Av),∃q,qs.foldl (fL rs) D=D++q
 | [],D=>⟨[],by simp⟩
 | r::qs,D=>by
  let⟨a,m⟩:=JP rs D r;let⟨b,Z⟩:=vN rs qs (fL rs D r);rw[Gf,Z,m,Bx];exact⟨_,rfl⟩
theorem zc8(h:↥(jC rs D)<=↥D):jC rs D=D:=by
 let⟨q,N⟩:=vN rs (fV rs) D;have e:jC rs D=D++q:=N;rw[e,Aj]at h;have:q=[]:=Fl.mp (by lia);rw[e,this,Bs]
structure Wd(rs:↑aD)(D:↑Av):Prop where
 nd:D.Nodup
 own:∀X∈D,ownB rs X=ab
 why:∀X∈D,∃r∈rs,r.name=X/\(∀t∈r.parts,fB rs t=ab)/\∃p∈r.parts,p≠X/\(p∈D\/ownB rs p=ac)
theorem Wd.nil(rs:↑aD):Wd rs []:=⟨Eo,(λ_ h=>nomatch h),(λ_ h=>nomatch h)⟩
theorem AG:r∈fV rs↔r∈rs/\∀t∈r.parts,fB rs t=ab:=by
 unfold fV;rw[Fo,Gy]
theorem Wd.step(d:Wd rs D)(T:r∈fV rs):Wd rs (fL rs D r):=by
 unfold fL;split
 .rename_i h
  by_cases S:r.name∈D
  .unfold c7;rw[Vz S];exact d
  .let⟨O,L⟩:=AG.mp T;let⟨p,G,a⟩:=Gx.mp h;have e:c7 D r.name=D++[r.name]:=by unfold c7;rw[Vy S]
   refine⟨AD d.nd,λX u=>?_,λX u=>?_⟩
   .rcases kY.mp u with z|z
    .exact d.own X z
    .rw[z];exact u6 O
   .rcases kY.mp u with z|z
    .let⟨q,W,P,f,t,w,M,b⟩:=d.why X z;refine⟨q,W,P,f,t,w,M,?_⟩;rcases b with y|y
     .exact .inl (kY.mpr (.inl y))
     .exact .inr y
    .unfold d9 at a;rw[Ru]at a;refine⟨r,O,z.symm,L,p,G,?_,?_⟩
     .rintro rfl;rcases a with y|y
      .rw[z]at y;exact S (Wa y)
      .rw[z,u6 O]at y;cases y
     .rcases a with y|y
      .exact .inl (kY.mpr (.inl (Wa y)))
      .right;cases e:ownB rs p with
       | false=>rfl
       | true=>rw[e]at y;cases y
 .exact d
theorem Wd.fold:∀{qs:↑aD} {D:↑Av},Wd rs D->(∀r∈qs,r∈fV rs)->Wd rs (qs.foldl (fL rs) D)
 | [],D,d,_=>d
 | r::qs,D,d,h=>Wd.fold (qs:=qs) (d.step (h r Bl)) λq N=>h q (Bj _ N)
theorem Wd.rounds(rs:↑aD):∀n,Wd rs (eL rs n)
 | 0=>Wd.nil rs
 | n+1=>Wd.fold (Wd.rounds rs n) λ_ h=>h
theorem Wd.len(d:Wd rs D):↥D<=↥(namesOf rs):=len_sub d.nd λx J=>Wa (d.own x J)
theorem zc9(h:jC rs D=D)(T:r∈fV rs)(G:∃p∈r.parts,d9 rs D p=ab):r.name∈D:=by
 have mono:∀(qs:↑aD) (E:↑Av),(∀x∈D,x∈E)->r∈qs->r.name∈qs.foldl (fL rs) E:=by
  intro qs
  induction qs with
  | nil=>intro E _ h;cases h
  | cons q qs m=>
   intro E Y S;rw[Gf];have a:∀x∈D,x∈fL rs E q:=λx J=>by
    let⟨z,e⟩:=JP rs E q;rw[e];exact Bf _ (Y x J)
   rcases Aw.mp S with rfl|z
   .let⟨z,e⟩:=vN rs qs (fL rs E r);rw[e];refine Bf _ ?_;unfold fL;rw[Vz]
    .exact kY.mpr (.inr rfl)
    .let⟨p,O,L⟩:=G;refine Gx.mpr ⟨p,O,?_⟩;unfold d9 at L⊢;rw[Ru]at L⊢;rcases L with y|y
     .exact .inl (Wc (Y p (Wa y)))
     .exact .inr y
   .exact m _ a z
 have:=mono (fV rs) D (λ_ h=>h) T;have e:(fV rs).foldl (fL rs) D=D:=h;rwa [e]at this
abbrev iF:=↑Av×↑W
noncomputable def gZ(keep drop:Av->Bool)(E:Av->W)(told:↑iF)(t:Av):↑iF:=
 (if keep t=ab then told.map λx=>(x.1++[t],x.2++[W.int ↥x.1]) else [])++(if drop t=ab then told.map λx=>(x.1,x.2++[W.tup [.str "whole",E t]]) else [])
def mC(keep drop:Av->Bool)(E:Av->W)(ps:↑Av):↑iF:=ps.foldl (gZ keep drop E) [([],[])]
section
variable {keep drop:Av->Bool}{E:Av->W}
theorem zda(told:↑iF)(t:Av):↥(gZ keep drop E told t)<=2*↥told:=by
 unfold gZ;rw[Aj];split<;>split<;>simp<;>lia
theorem JQ:∀(ps:↑Av) (told:↑iF),↥(ps.foldl (gZ keep drop E) told)<=2 ^ ↥ps*↥told
 | [],told=>by simp
 | t::ps,told=>by
  have O:=JQ ps (gZ keep drop E told t);have L:=zda (keep:=keep) (drop:=drop) (E:=E) told t;rw[Gf,Bv,Nat.pow_succ]
  calc _<=2 ^ ↥ps*↥(gZ keep drop E told t):=O
   _<=2 ^ ↥ps*(2*↥told):=Qf _ L
   _=2 ^ ↥ps*2*↥told:=by rw[Nat.mul_assoc]
end
theorem zdb(H:jC rs D=D)(h:iU rs ab X):X∈D\/iU rs ac X:=by
 induction h with
 | @mk r T G _ E=>
  by_cases hw:∃p∈r.parts,d9 rs D p=ab
  .refine .inl (zc9 H (AG.mpr ⟨T,λt ht=>?_⟩) hw);unfold fB;cases f:ownB rs t with
   | true=>rw[pW.mpr (G t ht f)];rfl
   | false=>exact Og _
  .have no:∀t∈r.parts,ownB rs t=ac->False:=λt ht f=>hw ⟨t,ht,by unfold d9;rw[f];exact Og _⟩;exact .inr (.mk T (λt ht f=>(E t ht f).resolve_left λz=>hw ⟨t,ht,by unfold d9;rw[Wc z];rfl⟩) λt ht f=>(no t ht f).elim)
theorem zdc(H:jC rs D=D)(h:fB rs t=ab):d9 rs D t=ab\/iU rs ac t:=by
 unfold fB at h;rw[Ru]at h;rcases h with z|z
 .rcases zdb H (pW.mp z) with y|y
  .left;unfold d9;rw[Wc y];rfl
  .exact .inr y
 .left;unfold d9;rw[z];simp
theorem JR{Q ss:↑Int}{i:Nat}{s d:Int}(h:Drawn Q (ss.take i))(F:ss[i]? = aa s)(hd:Below d s):Drawn (Q++[d]) (ss.take (i+1)):=by
 rw[Cf,F];exact Te h hd
theorem zdd{f:Int->W}{ss:↑Int}{i:Nat}{s:Int}(h:ss[i]? = aa s):bR (ss.map f) (i:Int)=aa (f s):=gW (by rw[Ay,h];rfl)
theorem vO{ts:↑Av}{k:Int}(J:0<=k)(O:k<↥ts):∃t,bR (ts.map W.str) k=aa (.str t)/\t∈ts:=by
 let⟨x,e,T,_⟩:=uN (xs:=ts.map W.str) J (by rw[Ab];exact O);rw[Ay]at T;let⟨t,ht,rfl⟩:=Ba.mp T;exact⟨t,e,Ao ht⟩
theorem zde:bE rT zbT zbN:=by
 rintro _ M R ⟨c,ss,rfl,hl,F,r⟩;have a:oS 10 18:=⟨by decide,by decide,by decide⟩;refine(λp G=>⟨a,_,rfl,by rw[Ab];lia,by rw[Ab];lia,?_⟩);rw[Ab,Dl];refine dB (λi U V=>∃Q rest o,U=[aa (.int c),aa (.rl (ss.map W.int)),aa (.ref p),aa (.int rest),o]/\V=put M p (.lst (Q.map W.int))/\Drawn Q (ss.take i)) ⟨[],_,_,rfl,rfl,by rw[List.take_zero];exact .nil⟩ ?_ ?_
 .rintro i w U V hw ⟨Q,rest,o,rfl,rfl,hd⟩ A H;let⟨hi,rfl⟩:=rW hw;rw[Oq];obtain⟨s,u⟩:∃s,ss[i]? = aa s:=⟨_,Bg hi⟩;let⟨b,g⟩:=F s (Ao u);have B:bR (ss.map W.int) (i:Int)=aa (.int s):=zdd u;have C:=Dg hd;rw[Cg]at C;have x:↥(Q.map W.int)<Au:=by rw[Ab];exact cM (by lia)
  refine⟨a,fU (λ_=>?_) λ_=>?_⟩
  .refine⟨.inl ⟨rfl,_,aJ⟩,so.of B ⟨b,_,aJ,x,so.of B ⟨⟨b,Int.lt_of_le_of_lt g ∅⟩,H _ _ ⟨Q++[rest % s],_,_,rfl,by rw[b7,Ax];rfl,JR hd u ⟨Fq _ (by lia),Ei _ b⟩⟩⟩⟩⟩
  .refine⟨.inl ⟨rfl,_,aJ⟩,c,_,rfl,by lia,by lia,λz J O=>(so.of B ⟨b,_,aJ,x,H _ _ ⟨Q++[z % s],_,_,rfl,by rw[b7,Ax];rfl,JR hd u ⟨Fq _ (by lia),Ei _ b⟩⟩⟩)⟩
 .rintro U V ⟨Q,rest,o,rfl,rfl,hd⟩;rw[vK,Bw]at hd;exact⟨_,aW,r Q hd p G⟩
theorem zdf:bE zT zbY zbU:=by
 rintro _ M R ⟨n,m,g,rfl,P,O,r⟩;have key:∀L,L=kZ g->(aF IG (aF II (aF IJ (aF IK (aF IL (aF IM IP)))))) (i8 R) [aa (.int n),aa (.int m),aa (.bl g),aa (.str L),ae,ae,ae,ae,ae,ae,ae] M:=by
  rintro L rfl;let⟨k,ecp,Y⟩:=HF (zL g) n;have j:↥(kZ g)<=16777216:=by rw[<-qQ,zL];decide
  have hsz0:0<=n/26 % 8:=Fq _ ∅;have hsz1:n/26 % 8<8:=Ei _ ∅;have l:0<=n/208 % (1+n/26 % 8):=Fq _ (by lia);have s:n/208 % (1+n/26 % 8)<1+n/26 % 8:=Ei _ (by lia);have y:(0:Int)<26:=by decide
  have p8:(0:Int)<8:=by decide
  refine⟨y,j,so.of ecp ⟨⟨by decide,by decide⟩,p8,⟨by decide,by decide⟩,show 0<1+n/26 % 8 by lia,⟨by decide,by decide⟩,y,λp G=>⟨m,rfl,by lia,by lia,?_⟩⟩⟩;have a:↥(⟨#[k]⟩:Av)=1:=rfl;obtain⟨T,hfi⟩:∃T,T=n/1664 % 26:=⟨_,rfl⟩;obtain⟨o,Q⟩:∃o,o=n/26 % 8:=⟨_,rfl⟩;rw[<-Q]at hsz0 hsz1 l s;obtain⟨av,S⟩:∃av,av=n/208 % (1+o):=⟨_,rfl⟩;rw[<-S]at l s;refine dB (λi U V=>∃(ts:↑Av) (c e:Option W),U=[aa (.int n),aa (.int m),aa (.bl g),aa (.str (kZ g)),aa (.str ⟨#[k]⟩),aa (.int (1+o)),aa (.int av),aa (.int T),aa (.ref p),c,e]/\
   V=put M p (.lst (ts.map W.str))/\↥ts=i/\∀t∈ts,uX g t) ⟨[],ae,ae,by rw[hfi,S,Q];rfl,rfl,rfl,λt ht=>nomatch ht⟩ ?_ ?_
  .rintro i w U V hw ⟨ts,c,e,rfl,rfl,b,ht⟩ A H;let⟨hi,rfl⟩:=rW hw;rw[Oq];let⟨d,hd,hdm⟩:=HF (zL g) (T+3*(i:Int));have B:(↥(Iu (⟨#[k]⟩:Av) av):Int)=av:=HE a l;have Z:(↥(Iu (⟨#[k]⟩:Av) (1+o-av-1)):Int)=1+o-av-1:=HE a (by lia);have C:↥(⟨#[d]⟩:Av)=1:=rfl;have l12:↥(Iu (⟨#[k]⟩:Av) av++(⟨#[d]⟩:Av))=↥(Iu (⟨#[k]⟩:Av) av)+1:=by rw[Ml,C]
   have K:↥(Iu (⟨#[k]⟩:Av) av++(⟨#[d]⟩:Av)++Iu (⟨#[k]⟩:Av) (1+o-av-1))=↥(Iu (⟨#[k]⟩:Av) av)+1+↥(Iu (⟨#[k]⟩:Av) (1+o-av-1)):=by rw[Ml,l12]
   refine⟨.inl (.inl ⟨by decide,by decide⟩),y,j,so.of hd ?_⟩;refine⟨.inl ⟨rfl,_,aJ⟩,_,_,rfl,rfl,by rw[a];decide,by lia,by lia,_,_,rfl,rfl,small (by lia),_,_,rfl,rfl,by rw[a];decide,by lia,by lia,_,_,rfl,rfl,small (by lia),_,aJ,cM (by rw[Ab];lia),?_⟩;generalize J:Iu (⟨#[k]⟩:Av) av++(⟨#[d]⟩:Av)++Iu (⟨#[k]⟩:Av) (1+o-av-1)=x at K⊢;have N:↥x<=8:=by lia
   have hxm:∀z∈cs x,z∈cs (kZ g):=λz hz=>by
    rw[<-J,oY,oY]at hz;rcases Bb.mp hz with q|q
    .rcases Bb.mp q with q|q
     .have:=HD q;rw[zM,Ag]at this;rw[this];exact Y
     .rw[zM,Ag]at q;rw[q];exact hdm
    .have:=HD q;rw[zM,Ag]at this;rw[this];exact Y
   have F:cs x≠[]:=λz=>by
    have:↥x=0:=by rw[<-qQ,z];rfl
    lia
   have D:ts.map W.str++[W.str x]=(ts++[x]).map W.str:=by rw[Ax];rfl
   rw[b7,D];have f:∀I u,A.nx [aa (.int n),aa (.int m),aa (.bl g),aa (.str (kZ g)),aa (.str ⟨#[k]⟩),aa (.int (1+o)),aa (.int av),aa (.int T),aa (.ref p),I,u] (put M p (.lst ((ts++[x]).map W.str))):=λI u=>by
    refine H _ _ ⟨ts++[x],_,_,rfl,rfl,by rw[Aj,b];rfl,λt h=>?_⟩;rcases Bb.mp h with q|q
    .exact ht t q
    .rw[Ag.mp q];exact zaR N F hxm
   refine(fU (λhg=>⟨⟨by decide,by decide⟩,(by decide:(0:Int)<3),fU (λ_=>⟨⟨by decide,by decide⟩,Nd i,fU (λ_=>?_) λ_=>f _ _⟩) λ_=>f _ _⟩) λ_=>f _ _);have hk:bR ((ts++[x]).map W.str) (i:Int)=aa (.str x):=by
    refine gW ?_;rw[Ay,Hx (by lia),b];simp
   have v:↥("_" : Av)=1:=by decide +kernel
   have E:0<=n/129792 % 10000:=Fq _ ∅;have X:n/129792 % 10000<10000:=Ei _ ∅;have hfl:↥(Bz (toString (n/129792 % 10000)))<=10:=Ox E (by lia);have hxu:↥(x++("_" : Av))=↥x+1:=by rw[Ml,v]
   subst hg;refine jK aJ hk (⟨_,_,rfl,rfl,small (by lia),⟨by decide,by decide⟩,(by decide:(0:Int)<10000),HH E X,_,_,rfl,rfl,small (by lia),zA aJ (by lia) (by rw[Ab,Aj,Co];lia) (H _ _ ⟨ts++[x++("_" : Av)++Bz (toString (n/129792 % 10000))],_,_,rfl,?_,by rw[Aj,b];rfl,λt h=>?_⟩)⟩)
   .rw[b7,Ax,Ax];congr 2;rw[List.set_append_right _ _ (by rw[Ab,b];lia),Ab,b,Dl,Ol];rfl
   .rcases Bb.mp h with q|q
    .exact ht t q
    .rw[Ag.mp q];exact HG _ E X N F hxm
  .rintro U V ⟨ts,c,e,rfl,rfl,b,ht⟩;rw[vK]at b;exact⟨_,aW,r ts b ht p G⟩
 cases g with
 | true=>exact⟨rfl,by decide +kernel,key _ rfl⟩
 | false=>exact(key _ rfl)
theorem zdg(m:Nat):(Ce m [W.int 6]).flatten=(Ce m (6:Int)).map W.int:=by
 induction m with
 | zero=>rfl
 | succ m E=>rw[Ez,Hk,E,Ez];rfl
theorem zdh{x1 x2 x3 x4:Int}{v:↑Int}{hi:Option Int}{w:W}(h:w∈dX (([x1,x2,x3,x4]++v).map W.int) (aa 4) hi):∃d∈v,w=.int d:=by
 unfold dX at h;have e:HT.sIx ↥(([x1,x2,x3,x4]++v).map W.int) 0 (aa 4)=4:=by
  have:=HT.sIx_nat ↥(([x1,x2,x3,x4]++v).map W.int) 0 4;simp at this⊢;lia
 rw[e]at h;have h:=Hh h;let⟨d,hd,rfl⟩:=Ar.mp (show w∈v.map W.int from h);exact⟨d,hd,rfl⟩
theorem zdi:bE ID zb5 zbZ:=by
 rintro _ M R ⟨c,F,wds,f,rfl,hh0,hh1,hw,hm0,X,r⟩;have pw:oS 10 59:=⟨by decide,by decide,by decide⟩;have z6:∀{n:Nat},n<=20->n<=Au:=λh=>small (Ap h ∅);refine⟨pw,by lia,by lia,z6 (by show 1*f.toNat<=20;lia),?_⟩;rw[zdg];refine⟨z6 (by show 4+↥(Si W.int _)<=20;rw[Ab,Jh];lia),c,[(↥F:Int),f+1,3,10 ^ 59]++Ce f.toNat 6,by rw[Ax,Ab];rfl,by rw[Aj,Jh];show 4+_<=100;lia,λs K=>?_,λQ hd=>aP.frz ?_⟩
 .rcases Bb.mp K with q|q
  .simp at q;rcases q with rfl|rfl|rfl|rfl
   .exact⟨by lia,Rb (show(↥F:Int)<=12 by lia) ∅⟩
   .exact⟨by lia,Rb (show f+1<=5 by lia) ∅⟩
   .exact⟨by decide,by decide⟩
   .exact⟨by decide,by decide⟩
  .rw[(List.mem_replicate.mp q).2];exact⟨by decide,by decide⟩
 .let⟨N,v,rfl,D,T⟩:=zaS hd;let⟨x1,x2,x3,x4,rfl,l,y,E,L⟩:=zaT D;have b6:=zaU T (s:=6) λz hz=>(List.mem_replicate.mp hz).2;have a:bR (([x1,x2,x3,x4]++v).map W.int) 0=aa (.int x1):=oB _ _;have o:bR (([x1,x2,x3,x4]++v).map W.int) 1=aa (.int x2):=gW (j:=1) rfl;have Z:bR (([x1,x2,x3,x4]++v).map W.int) 2=aa (.int x3):=gW (j:=2) rfl;have a3:bR (([x1,x2,x3,x4]++v).map W.int) 3=aa (.int x4):=gW (j:=3) rfl;refine(λp G=>(so.of o ?_));show n8 (dX (([x1,x2,x3,x4]++v).map W.int) (aa 4) (aa (4+x2))) _ _ _ _ _ _;have O:=y9 (S:=([x1,x2,x3,x4]++v).map W.int) (i:=4) (j:=4+x2) ∅ (by have:=y.1;lia);have hcm:∀w∈dX (([x1,x2,x3,x4]++v).map W.int) (aa 4) (aa (4+x2)),∃d,Below d 6/\w=.int d:=λw hw'=>by
   let⟨d,hd,e⟩:=zdh hw';exact⟨d,b6 d hd,e⟩
  generalize dX (([x1,x2,x3,x4]++v).map W.int) (aa 4) (aa (4+x2))=cw at *;let⟨b10,b11⟩:=l;let⟨b20,b21⟩:=y;let⟨b30,b31⟩:=E;let⟨b40,b41⟩:=L;refine dB (λi U V=>∃(ts:↑Av) (I:Option W),U=[aa (.int c),aa (.rl (F.map W.str)),aa (.rl (wds.map W.str)),aa (.int f),aa (.rl (([x1,x2,x3,x4]++v).map W.int)),aa (.ref p),I]/\
   V=put M p (.lst (ts.map W.str))/\↥ts=i/\∀t∈ts,t∈wds\/t∈F) ⟨[],ae,rfl,rfl,rfl,λt ht=>nomatch ht⟩ ?_ ?_
  .rintro i w U V hw' ⟨ts,I,rfl,rfl,b,ht⟩ A H;have hi:=(An.mp hw').1;obtain⟨d,⟨P,hd1⟩,rfl⟩:=hcm w (Ao hw');have fin:∀t,(t∈wds\/t∈F)->A.nx [aa (.int c),aa (.rl (F.map W.str)),aa (.rl (wds.map W.str)),aa (.int f),aa (.rl (([x1,x2,x3,x4]++v).map W.int)),aa (.ref p),aa (.int d)] (put (put M p (.lst (ts.map W.str))) p (.lst (ts.map W.str++[.str t]))):=λt ht'=>
    H _ _ ⟨ts++[t],_,rfl,by rw[b7,Ax];rfl,by rw[Aj,b];rfl,λu B=>(Bb.mp B).elim (ht u) λq=>by rw[Ag.mp q];exact ht'⟩
   have x:↥(ts.map W.str)<Au:=by rw[Ab];exact cM (by lia)
   refine(fU (λh3=>?_) λ_=>?_)
   .have h3:d<3:=Wa h3;let⟨t,e,m⟩:=vO (ts:=wds) (k:=d) P (by lia);exact⟨.inl ⟨rfl,_,aJ⟩,so.of e ⟨_,aJ,x,fin t (.inl m)⟩⟩
   .have hpos:(0:Int)<(↥(F.map W.str):Int):=by rw[Ab];lia
    let⟨t,e,m⟩:=vO (ts:=F) (k:=(d-3+x1) % (↥(F.map W.str):Int)) (Fq _ (by lia)) (by have:=Ei (d-3+x1) hpos;rw[Ab]at this⊢;exact this);exact⟨.inl ⟨rfl,_,aJ⟩,so.of a ⟨hpos,so.of e ⟨_,aJ,x,fin t (.inr m)⟩⟩⟩
  .rintro U V ⟨ts,I,rfl,rfl,b,ht⟩;let⟨nm,en,mn⟩:=vO (ts:=F) (k:=x1) b10 b11;let⟨cb,ecb,_,mcb⟩:=uN (xs:=[W.int 1,W.int 10,W.int (10 ^ (59:Int).toNat)]) (i:=x3) b30 (by show x3<3;lia);have C:∃q:Int,cb=.int q/\0<q/\q<=10 ^ 59:=by
    rcases Aw.mp mcb with rfl|mcb
    .exact⟨_,rfl,by decide,by decide⟩
    rcases Aw.mp mcb with rfl|mcb
    .exact⟨_,rfl,by decide,by decide⟩
    .rw[Ag.mp mcb];exact⟨_,rfl,by decide,by decide⟩
   let⟨q,rfl,J,g⟩:=C;have Y:=Ei x4 J;refine(so.of a (so.of en ⟨_,aJ,so.of a3 ⟨pw,so.of Z (so.of ecb ⟨J,_,Sub.new G,r ⟨nm,ts,x4 % q⟩ ⟨mn,ht,by show ↥ts<=4;lia,Fq _ (by lia),Int.lt_of_lt_of_le Y (Rb g ∅)⟩ (by show(↥ts:Int)<=f;lia)⟩)⟩⟩))
theorem Paired.rules{f:Int}(h:Fz (λ_ y=>∃r,y=bF r/\mZ F wds r/\(↥r.parts:Int)<=f) xs ys):∃rs:↑aD,ys=rs.map bF/\↥rs=↥xs/\∀r∈rs,mZ F wds r/\(↥r.parts:Int)<=f:=by
 induction h with
 | nil=>exact⟨[],rfl,rfl,λr T=>nomatch T⟩
 | cons a b E=>
  let⟨r,rfl,O⟩:=a;let⟨rs,rfl,hl,L⟩:=E;refine⟨r::rs,rfl,by simp[hl],λq N=>?_⟩;rcases Aw.mp N with rfl|N
  .exact O
  .exact L q N
theorem zdj:bE IE zce zb6:=by
 rintro _ M R ⟨g,d,f,rfl,hi,hl,hm0,B,ho0,ho1,r⟩;have pw:oS 10 9:=⟨by decide,by decide,by decide⟩;have Y:∀{n:Nat},n<=3->n<=Au:=λh=>small (Ap h ∅);refine⟨g,0,.inr rfl,hi,by decide,λc=>⟨pw,pw,c,[10 ^ 9,10 ^ 9],rfl,by decide,λs F=>?_,λQ hd=>aP.frz ?_⟩⟩
 .rcases Aw.mp F with rfl|F
  .exact⟨by decide,by decide⟩
  .rw[Ag.mp F];exact⟨by decide,by decide⟩
 let⟨x1,x2,rfl,l,v⟩:=zaV hd;refine⟨rfl,rfl,x1,d,ab,rfl,by lia,by lia,λF hsl hhs=>aP.frz ⟨x2,3,ac,rfl,by decide,by decide,λwds K sN=>aP.frz ?_⟩⟩;have K:↥wds=3:=K;refine uL (ws:=dX g (aa 1) ae) (rest:=[aa (.rl (F.map W.str)),aa (.rl (wds.map W.str)),aa (.int f)]) (λ_ y=>∃r,y=bF r/\mZ F wds r/\(↥r.parts:Int)<=f) (small (by have:=GD (ws:=g) (lo:=aa 1) (hi:=ae);lia)) (λ_ _=>trivial) (λw hw V C sb O=>?_) λys m p G=>?_
 .let⟨i,rfl⟩:=hi w (GC hw);exact⟨i,F,wds,f,rfl,by lia,by lia,K,by lia,by lia,λr L h3=>O _ ⟨r,rfl,L,h3⟩⟩
 let⟨rs,rfl,hrl,hrs⟩:=Paired.rules m;have P:=GD (ws:=g) (lo:=aa 1) (hi:=ae);have j:↥(dX g (aa 1) ae)<=↥g-1:=by
  unfold dX;have D:HT.sIx ↥g 0 (aa ((1:Nat):Int))=min 1 ↥g:=by rw[HT.sIx_nat]
  rw[show(aa 1:Option Int)=aa ((1:Nat):Int) from rfl,D,Cg,Gv];refine Ap (Oa _ _) ?_;cases ↥g
  .exact Ai _
  .rw[Nat.min_eq_left (Oy 1 _)];exact Ai _
 let⟨E,Z,mw⟩:=vO (ts:=wds) (k:=0) ∅ (by lia);refine dB (λi U V=>∃(qs:↑aD) (A:Option W),U=[aa (.rl g),aa (.int d),aa (.int f),aa (.int x1),aa (.int x2),aa (.rl (F.map W.str)),aa (.rl (wds.map W.str)),aa (.ref p),A]/\
   V=put M p (.lst (qs.map bF))/\↥qs<=↥rs+i/\(∀r∈qs,mZ F wds r/\(↥r.parts:Int)<=f)/\(∀t∈F.take i,∃r∈qs,r.name=t)/\∀r∈qs.drop ↥rs,↥r.parts<=1) ⟨rs,_,rfl,rfl,by lia,hrs,by simp,by simp⟩ ?_ ?_
 .rintro i w U V hw ⟨qs,A,rfl,rfl,hql,N,o,J⟩ x H;rw[Ay]at hw;let⟨t,ht,rfl⟩:=Ba.mp hw;have hilt:=(An.mp ht).1;have htm:t∈F:=Ao ht;refine⟨_,aJ,?_⟩;refine lX (rest:=[]) (λw=>match w with|.tup (n::_)=>n|_=>.non) (small (by rw[Ab];lia)) (λV sb=>sb _ _ aJ) (λw hw V C sb O=>?_) (aP.frz ?_)
  .let⟨q,_,rfl⟩:=Ar.mp hw;exact O
  have em:(qs.map bF).map (λw=>match w with|.tup (n::_)=>n|_=>W.non)=(qs.map aD.name).map W.str:=by
   rw[Bp,Bp];rfl
  rw[em];refine⟨rfl,pY _,?_⟩;show if (!inW (.str t) ((qs.map aD.name).map W.str))=ab then _ else _;rw[pX];have cov:∀qs':↑aD,(∀r∈qs,r∈qs')->(∃r∈qs',r.name=t)->∀u∈F.take (i+1),∃r∈qs',r.name=u:=λqs' z hex u S=>by
   rw[Cf,ht]at S;rcases Bb.mp S with q|q
   .let⟨r,T,e⟩:=o u q;exact⟨r,z r T,e⟩
   .simp at q;subst q;exact hex
  refine fU (λ_=>?_) λX=>?_
  .refine⟨.inl ⟨rfl,_,aJ⟩,so.of Z ⟨_,aJ,cM (by rw[Ab];lia),H _ _ ⟨qs++[⟨t,[E],0⟩],_,rfl,by rw[b7,Ax];rfl,by rw[Aj,Co];lia,λr T=>?_,cov _ (λr T=>Bf _ T) ⟨⟨t,[E],0⟩,by simp,rfl⟩,λr T=>by
    rw[Rl]at T;rcases Bb.mp T with T|T
    .exact J r T
    .rw[Ag.mp (Jr T)];exact Ai 1⟩⟩⟩
   rcases Bb.mp T with T|T
   .exact N r T
   .rw[Ag.mp T];exact⟨⟨htm,λu S=>.inl (by rw[Ag.mp S];exact mw),by show 1<=4;decide,by show(0:Int)<=0;decide,by show(0:Int)<10 ^ 60;decide⟩,by show(1:Int)<=f;lia⟩
  .have hin':t∈qs.map aD.name:=Wa (by rw[<-Hb (decide _),X];rfl);let⟨r0,hr0,I⟩:=Ar.mp hin';exact H _ _ ⟨qs,_,rfl,rfl,by lia,N,cov _ (λr T=>T) ⟨r0,hr0,I⟩,J⟩
 .rintro U V ⟨qs,A,rfl,rfl,hql,N,o,J⟩;rw[Ab]at hql;rw[Ab,Bw]at o;have hsn:↥F=d.toNat:=hsl;refine⟨_,aW,r qs ⟨λe=>?_,by lia,F,wds,by lia,λt ht=>hhs t ht,λt ht=>sN t ht,λr T=>(N r T).1,o⟩ (λr T=>(N r T).2) ⟨F,wds,by lia,K,λt ht=>hhs t ht,λt ht=>sN t ht,λr T=>(N r T).1,o,by lia,↥rs,by lia,J⟩ p G⟩;subst e;cases F with
  | nil=>simp at hsn;lia
  | cons a b=>let⟨r,T,_⟩:=o a Bl;cases T
theorem JS:∀d,d<10->(Ta d).toNat=48+d:=by decide
theorem zdk{m:Nat}(h:10<=m):Ij 10 m=Ij 10 (m/10)++[Ta (m % 10)]:=Nat.toDigits_of_base_le ∅ h
theorem zdl:∀m:Nat,PySem.NumText.digitsVal ((Ij 10 m).map Uk)=m:=by
 intro m
 induction m using Nat.strongRecOn with
 | ind m ih=>
  by_cases h:m<10
  .rw[Nz h];show 0*10+((Ta m).toNat-48)=m;rw[JS m h];lia
  .rw[zdk (by lia),Ax,Bh,Mu,PySem.NumText.digitsVal_snoc,ih (m/10) (by lia),JS _ (Nat.mod_lt _ ∅)];lia
def jN(m:Nat):Av:=Bz (toString ((m:Nat):Int))
theorem JT(m:Nat):cs (jN m)=(Ij 10 m).map Uk:=PySem.W.KIN.signs_num m
theorem zdm{m:Nat}(h:m<10 ^ 60):↥(jN m)<=60:=by
 rw[<-qQ,JT,Ab];exact(Nat.length_toDigits_le_iff ∅ ∅).mpr h
theorem zdn{c:Nat}(h:c∈cs mP):48<=c/\c<=57:=by
 have key:∀c∈cs mP,48<=c/\c<=57:=by decide +kernel
 exact key c h
theorem JU{m:Nat}(h:m<10 ^ 60):PySem.intText? (jN m)=aa (m:Int):=by
 let⟨O,L⟩:=DZ (m:=m);have:=PySem.intText_digits (x:=jN m) (λc hc=>zdn (O c hc)) L (by have:=zdm h;lia);rw[this];congr 2;have e:=zdl m;rw[<-JT]at e;exact e
def jO{O:Type}[DecidableEq O](acc:↑O)(t:O):↑O:=if t∈acc then acc else acc++[t]
section
variable {O:Type}[DecidableEq O]
theorem zdo{acc:↑O}{t u:O}:u∈jO acc t↔u∈acc\/u=t:=by
 unfold jO;split
 .rename_i h;constructor
  .exact .inl
  .rintro(q|q)
   .exact q
   .rw[q];exact h
 .rw[Bb,Ag]
theorem zdp{acc:↑O}{t:O}:↥(jO acc t)<=↥acc+1:=by
 unfold jO;split
 .lia
 .rw[Aj];exact Ai _
theorem zdq{acc:↑O}{t:O}(h:acc.Nodup):(jO acc t).Nodup:=by
 unfold jO;split
 .exact h
 .rename_i n;rw[Cv];refine⟨h,by simp,λx J y K=>?_⟩;rw[Ag]at K;subst K;exact λe=>n (e▸J)
def jP(acc ts:↑O):↑O:=ts.foldl jO acc
theorem JV:∀{ts acc:↑O} {u:O},u∈jP acc ts↔u∈acc\/u∈ts
 | [],acc,u=>by simp[jP]
 | t::r,acc,u=>by
  show u∈jP (jO acc t) r↔_;rw[JV,zdo,Aw,or_assoc]
theorem vP:∀{ts acc:↑O},↥(jP acc ts)<=↥acc+↥ts
 | [],acc=>Ai _
 | t::r,acc=>by
  have Z:=vP (ts:=r) (acc:=jO acc t);have L:=zdp (acc:=acc) (t:=t);show(jP (jO acc t) r).length<=_;rw[Bv];lia
theorem JW:∀{ts acc:↑O},acc.Nodup->(jP acc ts).Nodup
 | [],_,h=>h
 | t::r,acc,h=>JW (ts:=r) (zdq h)
end
def gS(ps:↑Av):↑(↑Av):=(Cp (↥ps-2)).map λk=>ps.drop (k+1)
def iG(rs:↑aD):↑(↑Av):=(rs.map λr=>gS r.parts).flatten
def cI(rs:↑aD):↑(↑Av):=jP [] (iG rs)
theorem JX:e∈gS ps↔∃k,k+2<↥ps/\e=ps.drop (k+1):=by
 unfold gS;rw[Ar];constructor
 .rintro⟨k,hk,rfl⟩;rw[Hf]at hk;exact⟨k,by lia,rfl⟩
 .rintro⟨k,hk,rfl⟩;exact⟨k,by rw[Hf];lia,rfl⟩
theorem vQ:e∈cI rs↔∃r∈rs,∃k,k+2<↥r.parts/\e=r.parts.drop (k+1):=by
 unfold cI iG;rw[JV];simp only[Em,false_or,List.mem_flatten,Ar];constructor
 .rintro⟨l,⟨r,T,rfl⟩,Z⟩;exact⟨r,T,JX.mp Z⟩
 .rintro⟨r,T,h⟩;exact⟨_,⟨r,T,rfl⟩,JX.mpr h⟩
theorem JY(T:r∈rs)(h:2<↥r.parts):r.parts.drop 1∈cI rs:=vQ.mpr ⟨r,T,0,by lia,rfl⟩
theorem JZ(Z:e∈cI rs)(h:2<↥e):e.drop 1∈cI rs:=by
 let⟨r,T,k,hk,rfl⟩:=vQ.mp Z;rw[Gv]at h;exact vQ.mpr ⟨r,T,k+1,by lia,by rw[List.drop_drop]⟩
theorem AH:∀{rs:↑aD},(∀r∈rs,↥r.parts<=4)->↥(iG rs)<=2*↥rs
 | [],_=>Ai _
 | r::rs,h=>by
  have O:=AH (rs:=rs) λq N=>h q (Bj _ N);have L:=h r Bl;unfold iG at O⊢;rw[Bh,Hk,Aj,Bv];unfold gS;rw[Ab,Jl];unfold gS at O;lia
theorem AI(h:∀r∈rs,↥r.parts<=4):↥(cI rs)<=2*↥rs:=by
 have O:=vP (ts:=iG rs) (acc:=[]);have L:=AH h;unfold cI;simp at O;lia
theorem zdr:(cI rs).Nodup:=JW Eo
def eZ(i:Nat):Av:="M"++"_"++jN i
theorem J0(i:Nat):cs (eZ i)=77::95::cs (jN i):=by
 unfold eZ;rw[oY,oY,DW];rfl
theorem zds{i j:Nat}(hi:i<10 ^ 60)(hj:j<10 ^ 60)(h:cs (jN i)=cs (jN j)):i=j:=by
 have e:jN i=jN j:=by
  generalize jN i=a at h⊢;generalize jN j=b at h⊢;obtain⟨⟨a⟩⟩:=a;obtain⟨⟨b⟩⟩:=b;simp[cs]at h;rw[h]
 have O:=JU hi;rw[e,JU hj]at O;injection O with h2;lia
theorem J1{i j:Nat}(hi:i<10 ^ 60)(hj:j<10 ^ 60)(h:eZ i=eZ j):i=j:=by
 have e:=congrArg cs h;rw[J0,J0]at e;simp only[Fh,true_and]at e;exact zds hi hj e
noncomputable def gT(old:↑Av)(t:Nat):↑Av:=((Cp t).map eZ).filter λn=>!decide (n∈old)
theorem J2(old:↑Av)(t:Nat):gT old (t+1)=if eZ t∈old then gT old t else gT old t++[eZ t]:=by
 unfold gT;rw[List.range_succ,Ax,Iz]
 by_cases h:eZ t∈old
 .simp[h]
 .simp[h]
theorem J3(old:↑Av)(t:Nat)(ht:t<10 ^ 60):t<=↥(gT old t)+↥old:=by
 have key:↥(((Cp t).map eZ).filter λn=>decide (n∈old))<=↥old:=by
  refine List.Nodup.length_le_of_subset ?_ λn hn=>by simpa using (Fo.mp hn).2
  refine List.Nodup.sublist Qb ?_;rw[Gm,Jk];refine List.Pairwise.imp_of_mem ?_ (Rj (n:=t));intro a b m Z k e;rw[Hf]at m Z;exact k (J1 (by lia) (by lia) e)
 have e:=List.length_eq_countP_add_countP (λn=>decide (n∈old)) (l:=(Cp t).map eZ);rw[List.countP_eq_length_filter,List.countP_eq_length_filter]at e;rw[Ab,Jl]at e;unfold gT;have T:(((Cp t).map eZ).filter λn=>!decide (n∈old))=(((Cp t).map eZ).filter λa=>decide ¬decide (a∈old)=ab):=by
  congr 1;funext a;simp
 rw[T];lia
def k9(old:↑Av)(n:Nat):↑Av:=(gT old (n+↥old)).take n
theorem zdt(old:↑Av){t u:Nat}(h:t<=u):∃r,gT old u=gT old t++r:=by
 induction u with
 | zero=>
  cases Nat.le_zero.mp h;exact⟨[],by simp⟩
 | succ u E=>
  by_cases e:t=u+1
  .subst e;exact⟨[],by simp⟩
  .let⟨r,T⟩:=E (by lia);rw[J2];split
   .exact⟨r,T⟩
   .exact⟨r++[eZ u],by rw[T,Bx]⟩
theorem zdu{n t:Nat}(hn:↥(gT old t)=n)(ht:t<=n+↥old):gT old t=k9 old n:=by
 let⟨r,T⟩:=zdt old ht;unfold k9;rw[T,<-hn,Rt];rfl
theorem J4{n:Nat}(h:n+↥old<10 ^ 60):↥(k9 old n)=n:=by
 have:=J3 old (n+↥old) h;unfold k9;rw[Cg];lia
theorem J5{n:Nat}(h:t∈k9 old n):t∉old/\∃i,i<n+↥old/\t=eZ i:=by
 unfold k9 at h;have h:=Hh h;unfold gT at h;let⟨O,L⟩:=Fo.mp h;let⟨i,hi,rfl⟩:=Ar.mp O;rw[Hf]at hi;exact⟨by simpa using L,i,hi,rfl⟩
def fD(e:↑Av):↑aC:=e.map Sum.inr
theorem AJ:∀{a b:↑Av},a.map (Sum.inr:Av->aC)=b.map Sum.inr->a=b
 | [],[],_=>rfl
 | [],_::_,h=>by cases h
 | _::_,[],h=>by cases h
 | x::a,y::b,h=>by
  simp only[Bh,Fh,Sa]at h;rw[h.1,AJ h.2]
theorem AK(h:fD a=fD b):a=b:=AJ h
def jQ(rs:↑aD):↑Av:=k9 (namesOf rs) ↥(cI rs)
def oJ(rs:↑aD):↑(↑Av×Av):=(cI rs).zip (jQ rs)
def iH(rs:↑aD):↑(↑aC×W):=(oJ rs).map λp=>(fD p.1,.str p.2)
def fE(rs:↑aD)(e:↑Av):Av:=((oJ rs).lookup e).getD ""
theorem vR:∀{es:↑(↑Av)} {ns:↑Av} {e:↑Av},↥es=↥ns->e∈es->∃n∈ns,(es.zip ns).lookup e=aa n
 | [],_,e,_,h=>by cases h
 | x::es,[],e,h,_=>by cases h
 | x::es,n::ns,e,h,Z=>by
  rw[Kt,Ea]
  by_cases J:e=x
  .subst J;rw[beq_self_eq_true];exact⟨n,Bl,rfl⟩
  .rw[beq_eq_false_iff_ne.mpr J];rcases Aw.mp Z with O|O
   .exact absurd O J
   .let⟨m,S,D⟩:=vR (es:=es) (ns:=ns) (by simpa using h) O;exact⟨m,Bj _ S,D⟩
theorem J6:∀(l:↑(↑Av×Av)) (e:↑Av),aQ (l.map λp=>((fD p.1,W.str p.2):↑aC×W)) (fD e)=(l.lookup e).map W.str
 | [],e=>rfl
 | (x,n)::l,e=>by
  unfold aQ;rw[Bh,Cz,Ea]
  by_cases J:e=x
  .subst J;simp
  .rw[beq_eq_false_iff_ne.mpr J,We (λh=>J (AK h).symm)];exact J6 l e
structure gA(rs:↑aD):Prop where
 few:↥rs<=60
 prt:∀r∈rs,↥r.parts<=4
theorem AL(rs:↑aD):↥(namesOf rs)<=↥rs:=by
 have:=rP (rs.map aD.name) [];unfold namesOf l5;simpa using this
theorem gA.sum(f:gA rs):↥(cI rs)+↥(namesOf rs)<=180:=by
 have O:=AI f.prt;have L:=AL rs;have:=f.few;lia
theorem gA.len(f:gA rs):↥(jQ rs)=↥(cI rs):=J4 (Gh f.sum ∅)
theorem AN(f:gA rs)(Z:e∈cI rs):aQ (iH rs) (fD e)=aa (.str (fE rs e))/\fE rs e∈jQ rs:=by
 let⟨n,hn,D⟩:=vR (ns:=jQ rs) f.len.symm Z;have T:fE rs e=n:=by unfold fE oJ;rw[D];rfl
 rw[T];refine⟨?_,hn⟩;unfold iH;rw[J6];unfold oJ;rw[D];rfl
noncomputable def fW(rs:↑aD)(ps:↑Av):↑Av:=if ↥ps<=2 then ps else [ps.headD "",fE rs (ps.drop 1)]
theorem vS(rs:↑aD)(ps:↑Av):↥(fW rs ps)<=2:=by
 unfold fW;split
 .assumption
 .simp
abbrev NP:=Av×↑Av
def rZ(ps:↑Av):W:=.tup ((Cp ↥ps).map λ(i:Nat)=>W.int i)
noncomputable def addT(acc:↑(NP×W))(it:NP×W):↑(NP×W):=if it.1∈acc.map Eb then acc else acc++[it]
def lA(x:NP):bQ:=(Sum.inr x.1,x.2.map Sum.inr)
theorem zdv(h:lA x=lA y):x=y:=by
 let⟨a,b⟩:=x;let⟨c,d⟩:=y;unfold lA at h;rw[Prod.mk.injEq]at h;have O:=h.1;injection O with O;exact Pe O (AJ h.2)
def kvsOf(l:↑(NP×W)):↑(bQ×W):=l.map λp=>(lA p.1,p.2)
theorem J7(l:↑(NP×W))(x:NP):(aQ (kvsOf l) (lA x)=ae/\x∉l.map Eb)\/(∃w,aQ (kvsOf l) (lA x)=aa w)/\x∈l.map Eb:=by
 induction l with
 | nil=>exact .inl ⟨rfl,by simp⟩
 | cons p l E=>
  unfold kvsOf aQ at E⊢;rw[Bh,Cz,Bh,Aw]
  by_cases h:p.1=x
  .rw[Wc (by rw[h])];exact .inr ⟨⟨_,rfl⟩,.inl h.symm⟩
  .rw[We (λe=>h (zdv e))];rcases E with⟨O,L⟩|⟨O,L⟩
   .exact .inl ⟨O,λe=>by rcases e with e|e;exact h e.symm;exact L e⟩
   .exact .inr ⟨O,.inr L⟩
def p7(x:NP):aD:=⟨x.1,x.2,0⟩
theorem J8(x:NP):gO [0] (lA x)=bF (p7 x):=by
 unfold gO lA bF p7;simp[wK,Ln]
structure Sh(t:Av):Prop where
 len:↥t<=60
 ne:cs t≠[]
 asc:uV t
theorem eS.sh(h:eS t):Sh t:=⟨by have:=h.len;lia,h.ne,h.asc⟩
theorem dA.sh(h:dA t):Sh t:=⟨by have:=h.len;lia,by let⟨c,r,e,_⟩:=h.hd;rw[e];simp,h.asc⟩
structure J9(rs:↑aD):Prop where
 ne:rs≠[]
 few:↥rs<=400
 ok:∀r∈rs,0<=r.cost/\∀t∈r.parts,↥t<=1000/\(bV t=ab->t∈namesOf rs)
theorem zdw{b:Type}[DecidableEq b]{kvs:↑(b×W)}{k:b}{v:W}(h:k∉kvs.map Eb):bY kvs k v=kvs++[(k,v)]:=by
 unfold bY;rw[Vy];rw[Gx];rintro⟨p,G,e⟩;exact h (Ar.mpr ⟨p,G,by simpa using e⟩)
theorem KA:∀{ps acc:↑(↑aC×W)},((acc++ps).map Eb).Nodup->iD acc ps=acc++ps
 | [],acc,_=>by simp[iD]
 | p::ps,acc,h=>by
  have hn:p.1∉acc.map Eb:=by
   rw[Ax,Bh,Cv]at h;intro S;exact h.2.2 _ S _ Bl rfl
  show iD (bY acc p.1 p.2) ps=_;rw[zdw hn];have e:acc++[(p.1,p.2)]++ps=acc++p::ps:=by simp
  rw[KA (by rw[e];exact h),e]
theorem KC(f:gA rs):(iH rs).map Eb=(cI rs).map fD:=by
 unfold iH oJ;rw[Bp];have:∀{es:↑(↑Av)} {ns:↑Av},↥es=↥ns->(es.zip ns).map (Eb ∘ λ(p:↑Av×Av)=>((fD p.1,W.str p.2):↑aC×W))=es.map fD:=by
  intro es
  induction es with
  | nil=>intro ns _;rfl
  | cons e es E=>
   intro ns h;cases ns with
   | nil=>cases h
   | cons n ns=>rw[Kt,Bh,Bh,E (by simpa using h)];rfl
 exact this f.len.symm
theorem zdx(f:gA rs):iD [] (iH rs)=iH rs:=by
 rw[KA]
 .simp
 .rw[Jc,KC f,Gm,Jk];exact(Gm.mp zdr).imp λh e=>h (AK e)
theorem zdy(f:gA rs):((iH rs).map λp=>p.2)=(jQ rs).map W.str:=by
 unfold iH oJ;rw[Bp];have:∀{es:↑(↑Av)} {ns:↑Av},↥es=↥ns->(es.zip ns).map ((λ(p:↑aC×W)=>p.2) ∘ λ(p:↑Av×Av)=>((fD p.1,W.str p.2):↑aC×W))=ns.map W.str:=by
  intro es
  induction es with
  | nil=>intro ns h;cases ns with|nil=>rfl|cons _ _=>cases h
  | cons e es E=>
   intro ns h;cases ns with
   | nil=>cases h
   | cons n ns=>rw[Kt,Bh,Bh,E (by simpa using h)];rfl
 exact this f.len.symm
theorem r6(l:↑Av):(fD l).map wK=l.map W.str:=by
 unfold fD;rw[Bp];rfl
theorem zdz(f:gA rs):((iH rs).map λp=>W.tup (p.1.map wK))=(cI rs).map λe=>W.tup (e.map W.str):=by
 have e:((iH rs).map λp=>W.tup (p.1.map wK))=((iH rs).map Eb).map λk=>W.tup (k.map wK):=by rw[Bp];rfl
 rw[e,KC f,Bp];exact Fb λl _=>by show W.tup ((fD l).map wK)=_;rw[r6]
def f0(rs:↑aD):Av:=(rs.headD ⟨"",[],0⟩).name
abbrev dN(l:↑(NP×W)):↑aD:=l.map λz=>p7 z.1
def Ex(Q:NP×W->Prop)(l:↑(NP×W))(k:Nat)(S:NP->Prop)(F:↑(NP×W)):Prop:=∃q,F=l++q/\↥q<=k/\(∀z∈q,Q z)/\∀x,S x->x∈F.map Eb
theorem KD{i:Nat}(h:i<10000):dA (eZ i):=HG (t:="M") (i:Int) (Nd i) (by lia) (by decide +kernel) (by decide +kernel) (by decide +kernel)
section
variable {l l1 l2:↑(NP×W)}{k j m:Nat}{S T U:NP->Prop}{Q Q':NP×W->Prop}
theorem Ex.len(h:Ex Q l k S l1):↥l1<=↥l+k:=by
 let⟨q,rfl,h,_⟩:=h;rw[Aj];exact Hm h _
theorem Ex.all{P:NP×W->Prop}(h:Ex Q l k S l1)(O:∀z∈l,P z)(L:∀z,Q z->P z):∀z∈l1,P z:=by
 let⟨q,rfl,_,h,_⟩:=h;exact λz hz=>(Bb.mp hz).elim (O z) λw=>L z (h z w)
theorem Ex.no(h:∀x,¬S x):Ex Q l k S l:=⟨[],(Bs l).symm,Cs _,(λ_ h=>nomatch h),λx z=>(h x z).elim⟩
theorem Ex.cg(h:Ex Q l k S l1)(f:∀z,Q z->Q' z)(e:∀x,T x->S x):Ex Q' l k T l1:=by
 let⟨q,O,L,h3,m⟩:=h;exact⟨q,O,L,λz hz=>f _ (h3 z hz),λx J=>m x (e x J)⟩
theorem Ex.le(h:Ex Q l k S l1)(e:k<=j):Ex Q l j S l1:=by
 let⟨q,O,L,h3⟩:=h;exact⟨q,O,Ap L e,h3⟩
theorem Ex.step{B:Type}{ys:↑B}{T:B->NP->Prop}{i:Nat}{y:B}(g:Ex Q l (k*i) (λx=>∃y∈ys.take i,T y x) l1)(h:ys[i]? = aa y)(b:Ex Q l1 k (T y) l2):Ex Q l (k*(i+1)) (λx=>∃y∈ys.take (i+1),T y x) l2:=by
 let⟨q,rfl,L,h3,m⟩:=g;let⟨p,rfl,F,V,e⟩:=b;refine⟨q++p,Bx ..,by rw[Aj];exact Nat.add_le_add L F,λz hz=>(Bb.mp hz).elim (h3 z) (V z),λx ⟨a,K,J⟩=>?_⟩;rw[Cf,h]at K;rcases Bb.mp K with K|K
 .rw[Ax];exact Bf _ (m x ⟨a,K,J⟩)
 .rw[Ag.mp K]at J;exact e x J
theorem Ex.start{B:Type}{ys:↑B}{T:B->NP->Prop}:Ex Q l (k*0) (λx=>∃y∈ys.take 0,T y x) l:=.no λ_ ⟨_,h,_⟩=>nomatch h
theorem Ex.addT(x:NP)(v:W):Ex (λz=>z=(x,v)) l 1 (λy=>y=x) (addT l (x,v)):=by
 unfold L2.addT;split
 .rename_i h;exact⟨[],(Bs l).symm,Cs _,(λ_ h=>nomatch h),λy e=>by rw[e];exact h⟩
 .exact⟨_,rfl,Ai _,λz hz=>Ag.mp hz,λy e=>by rw[e,Ax];exact Bo _ (.head _)⟩
theorem Ex.one{x:NP}{v:W}(h:Ex (λz=>z=(x,v)) l 1 (λy=>y=x) l1)(n:x∉l.map Eb):l1=l++[(x,v)]:=by
 let⟨q,rfl,O,L,h3⟩:=h
 match q,O,L with
 | [],_,_=>exact absurd (by simpa using h3 x rfl) n
 | [z],_,L=>rw[L z (.head _)]
 | _::_::_,O,_=>exact absurd (Hs O) (by simp)
theorem KG(h:rs≠[]):(namesOf rs)[0]? = aa (f0 rs):=by
 let⟨r,rs,rfl⟩:=Ec h;have:∀(ts acc:↑Av),(r.name::acc) <+: ts.foldl c7 (r.name::acc):=by
  intro ts
  induction ts with
  | nil=>exact λ_=>List.prefix_rfl
  | cons t ts E=>
   intro acc;rw[Gf];unfold c7;split
   .exact E acc
   .exact List.IsPrefix.trans (List.prefix_append _ _) (E (acc++[t]))
 let⟨q,N⟩:=this (rs.map aD.name) [];unfold namesOf l5;rw[Bh,Gf,show c7 [] r.name=[r.name] from rfl,<-N];rfl
def Hd(F:Av)(p:Prop)(l:↑(NP×W)):Prop:=p->∃z t,l=z::t/\z.1.1=F
theorem Hd.ex{p:Prop}(h:Hd F p l)(e:Ex Q l k S l1):Hd F p l1:=λG=>by
 let⟨z,t,rfl,O⟩:=h G;let⟨q,rfl,_⟩:=e;exact⟨z,_,rfl,O⟩
theorem Hd.f0(h:Hd F True l):f0 (dN l)=F:=by
 let⟨z,t,rfl,O⟩:=h trivial;exact O
theorem Hd.of{p:Prop}(h:Ex Q [] k S l1)(H:∀z,Q z->z.1.1=F)(G:p->∃x,S x):Hd F p l1:=λh'=>by
 let⟨x,J⟩:=G h';let⟨q,e,_,h3,m⟩:=h;rw[Jc]at e;cases l1 with
 | nil=>cases m x J
 | cons z t=>exact⟨z,t,rfl,H _ (h3 z (e▸.head _))⟩
end
abbrev gB(n:Nat)(us:↑W):W:=.tup [.int n,.tup us]
abbrev vT(T:W):W:=.tup [.str "whole",T]
inductive RT(nm:Av->Bool)(rs:↑aD):Nat->↑Av->↑W->↑Av->Prop
 | nil {h:Nat}:RT nm rs h [] [] []
 | word {h:Nat} {t:Av} {ps row:↑Av} {ws:↑W}:nm t=ac->RT nm rs h ps ws row->RT nm rs h (t::ps) (.str t::ws) (t::row)
 | knot {h k n:Nat} {r:aD} {us ws:↑W} {ps a b:↑Av}:nm r.name=ab->rs[n]? = aa r->h+1<=k->RT nm rs h r.parts us a->RT nm rs k ps ws b->RT nm rs k (r.name::ps) (gB n us::ws) (a++b)
section
variable {nm:Av->Bool}{rs:↑aD}{sem:Av->↑Av}
theorem RT.app{h:Nat}(x:RT nm rs h ps ws a)(k:RT nm rs h qs us b):RT nm rs h (ps++qs) (ws++us) (a++b):=by
 induction x with
 | nil=>exact k
 | word h _ E=>exact .word h (E k)
 | knot O L J h3 _ _ E=>rw[Bx];exact .knot O L J h3 (E k)
theorem RT.mono{h k:Nat}(x:RT nm rs h ps ws a)(hk:h<=k):RT nm rs k ps ws a:=by
 induction x with
 | nil=>exact .nil
 | word h _ E=>exact .word h (E hk)
 | knot O L J h3 _ _ E=>exact .knot O L (Ap J hk) h3 (E hk)
theorem RT.len{h:Nat}(x:RT nm rs h ps ws a):↥ws=↥ps:=by
 induction x with
 | nil=>rfl
 | word _ _ E=>exact congrArg (· + 1) E
 | knot _ _ _ _ _ _ E=>exact congrArg (· + 1) E
end
inductive Pt(rows:↑(↑W)):Nat->↑W->↑W->Prop
 | nil {d:Nat}:Pt rows d [] []
 | slot {d k:Nat} {r ps out:↑W}:rows[k]? = aa r->Pt rows d ps out->Pt rows d (.int k::ps) (r++out)
 | whole {d:Nat} {T:W} {ps out:↑W}:Pt rows d ps out->Pt rows d (vT T::ps) (T::out)
 | knot {d n:Nat} {us ps a b:↑W}:↥a<=100->Pt rows d us a->Pt rows (d+1) ps b->Pt rows (d+1) (gB n us::ps) (gB n a::b)
theorem Pt.mono{d e:Nat}(h:Pt rows d ps out):d<=e->Pt rows e ps out:=by
 induction h generalizing e with
 | nil=>exact λ_=>.nil
 | slot h _ E=>exact λl=>.slot h (E l)
 | whole _ E=>exact λl=>.whole (E l)
 | knot h _ _ c A=>
  intro l;cases e with
  | zero=>cases l
  | succ e=>exact .knot h (c (Hs l)) (A l)
inductive Pf(nm:Av->Bool)(rs:↑aD)(sem:Av->↑Av)(H:Nat):Nat->Nat->↑W->↑Av->↑Av->Prop
 | nil {d k:Nat}:Pf nm rs sem H d k [] [] []
 | slot {d k:Nat} {pcs:↑W} {p:Av} {parts ps:↑Av}:Pf nm rs sem H d (k+1) pcs parts ps->Pf nm rs sem H d k (.int k::pcs) (p::parts) (sem p++ps)
 | whole {d k:Nat} {T:W} {pcs:↑W} {X:Av} {parts ps:↑Av}:RT nm rs H [X] [T] []->Pf nm rs sem H d k pcs parts ps->Pf nm rs sem H d k (vT T::pcs) parts (X::ps)
 | knot {d k n:Nat} {r:aD} {us pcs:↑W} {pa pb ps:↑Av}:nm r.name=ab->rs[n]? = aa r->↥r.parts<=100->Pf nm rs sem H d k us pa r.parts->Pf nm rs sem H (d+1) (k+↥pa) pcs pb ps->Pf nm rs sem H (d+1) k (gB n us::pcs) (pa++pb) (r.name::ps)
inductive Vs(nm:Av->Bool)(rs:↑aD)(sem:Av->↑Av)(h:Nat):↑Av->↑(↑W)->↑Av->Prop
 | nil:Vs nm rs sem h [] [] []
 | cons {p:Av} {ps a b:↑Av} {r:↑W} {rows:↑(↑W)}:RT nm rs h (sem p) r a->Vs nm rs sem h ps rows b->Vs nm rs sem h (p::ps) (r::rows) (a++b)
section
variable {nm:Av->Bool}{rs:↑aD}{sem:Av->↑Av}{H h:Nat}
theorem Vs.split:∀{rows:↑(↑W)} {w:↑Av},Vs nm rs sem h (G++l) rows w->∃i rb u m,rows=i++rb/\w=u++m/\↥i=↥G/\Vs nm rs sem h G i u/\Vs nm rs sem h l rb m:=by
 induction G with
 | nil=>exact λh=>⟨[],_,[],_,rfl,rfl,rfl,.nil,h⟩
 | cons p G E=>
  intro rows w h;cases h with
  | cons x h=>
   let⟨i,rb,u,m,rfl,rfl,e,O,L⟩:=E h;exact⟨_::i,rb,_++u,m,rfl,by rw[Bx],congrArg (· + 1) e,.cons x O,L⟩
theorem Pf.run{d k:Nat}(x:Pf nm rs sem H d k j parts ps)(o:H<=h):∀{pre rows post:↑(↑W)} {w:↑Av},↥pre=k->Vs nm rs sem h parts rows w->∃out,Pt (pre++rows++post) d j out/\RT nm rs (h+d) ps out w:=by
 induction x with
 | nil=>
  intro pre rows post w _ v;cases v;exact⟨[],.nil,.nil⟩
 | @slot d k j p parts ps _ E=>
  intro pre rows post w e v;cases v with
  | @cons _ _ a b r rows x v=>
   let⟨out,O,L⟩:=E (pre:=pre++[r]) (rows:=rows) (post:=post) (by rw[Aj,e];rfl) v;have B:pre++[r]++rows++post=pre++r::rows++post:=by simp
   rw[B]at O;exact⟨r++out,.slot (by subst e;simp) O,(x.mono (Ka _ _)).app L⟩
 | @whole d k T j X parts ps t _ E=>
  intro pre rows post w e v;let⟨out,O,L⟩:=E (post:=post) e v;exact⟨_::out,.whole O,(t.mono (Ap o (Ka _ _))).app L⟩
 | @knot d k n r us j G l ps hn D hl _ _ c A=>
  intro pre rows post w e v;let⟨i,rb,u,m,rfl,rfl,el,q,z⟩:=v.split;let⟨g,f,Z⟩:=c (post:=rb++post) e q;let⟨s,Q,U⟩:=A (pre:=pre++i) (post:=post) (by rw[Aj,e,el]) z;rw[show pre++i++(rb++post)=pre++(i++rb)++post by simp]at f;rw[show pre++i++rb++post=pre++(i++rb)++post by simp]at Q;exact⟨_,.knot (by rw[Z.len];exact hl) f Q,.knot hn D (Ai _) Z U⟩
end
inductive Bk(backs:↑(↑W))(d:Nat):↑W->↑(↑W)->Prop
 | nil:Bk backs d [] []
 | word {t:Av} {ws:↑W} {rows:↑(↑W)}:Bk backs d ws rows->Bk backs d (.str t::ws) ([.str t]::rows)
 | knot {n:Nat} {pcs us out ws:↑W} {r1 rows:↑(↑W)}:backs[n]? = aa pcs->Bk backs d us r1->Pt r1 d pcs out->↥out<=100->Bk backs d ws rows->Bk backs d (gB n us::ws) (out::rows)
theorem RT.back{H h d:Nat}{nm:Av->Bool}{sem:Av->↑Av}(hw:∀t,nm t=ac->sem t=[t])(hl:∀t,↥(sem t)<=100)(hf:∀(n:Nat) (r:aD),ts[n]? = aa r->∃j,backs[n]? = aa j/\Pf nm rs sem H d 0 j r.parts (sem r.name))(x:RT nm ts h ps ws row):∃rows,Bk backs d ws rows/\Vs nm rs sem (H+d*h) ps rows row:=by
 induction x with
 | nil=>exact⟨[],.nil,.nil⟩
 | @word h t ps row ws ht _ E=>
  let⟨rows,O,L⟩:=E;exact⟨_,.word O,.cons (a:=[t]) (by rw[hw t ht];exact .word ht .nil) L⟩
 | @knot h k n r us ws ps a b _ T hk _ _ c A=>
  let⟨l,i,Z⟩:=c;let⟨rows,Q,U⟩:=A;let⟨j,e,f⟩:=hf _ _ T;let⟨out,O,L⟩:=f.run (h:=H+d*h) (Ka _ _) (pre:=[]) (post:=[]) rfl Z;rw[Jc,Bs]at O;have:=Qf d hk;rw[Nat.mul_add,Nat.mul_one]at this;exact⟨_,.knot e i O (by rw[L.len];exact hl _) Q,.cons (L.mono (by lia)) U⟩
theorem RT.pl{nm:Av->Bool}{h:Nat}(x:RT nm rs h ps ws a)(F:∀t∈a,Kz t=ab):∀w∈ws,Pl (2*h) w:=by
 induction x with
 | nil=>exact λ_ h=>nomatch h
 | @word h t ps row ws _ _ E=>
  intro w hw;rcases Aw.mp hw with rfl|hw
  .have:=F t (.head _);cases h<;>exact this
  .exact E (λu S=>F u (.tail _ S)) w hw
 | @knot h k n r us ws ps a b _ _ hk _ _ c A=>
  intro w hw;rcases Aw.mp hw with rfl|hw
  .let⟨j,rfl⟩:=Nat.exists_eq_add_of_le hk;have e:2*(h+1+j)=(2*h+2*j)+1+1:=by lia
   rw[e];intro w hw;rcases Aw.mp hw with rfl|hw
   .trivial
   .rw[Ag.mp hw];exact λu S=>(c (λt ht=>F t (Bf _ ht)) u S).mono (Ka _ _)
  .exact A (λu S=>F u (Bo _ S)) w hw
section
variable {nm:Av->Bool}{rs:↑aD}{sem:Av->↑Av}{H:Nat}
theorem Pf.app{d k:Nat}(h:Pf nm rs sem H d k a G c):Pf nm rs sem H d (k+↥G) b l f->Pf nm rs sem H d k (a++b) (G++l) (c++f):=by
 induction h with
 | nil=>exact id
 | @slot d k j p parts ps _ E=>
  intro g;rw[Bx];exact .slot (E (by rw[Bv,Tt ↥parts 1,<-Kn]at g;exact g))
 | whole t _ E=>exact λg=>.whole t (E g)
 | @knot d k n r us j G l ps O L J h3 _ _ E=>
  intro g;rw[Bx];exact .knot O L J h3 (E (by rw[Aj,<-Kn]at g;exact g))
theorem Pf.slots{d:Nat}:∀(parts:↑Av) (k:Nat),Pf nm rs sem H d k ((List.range' k ↥parts).map λi=>.int (i:Nat)) parts (parts.flatMap sem)
 | [],_=>.nil
 | p::parts,k=>.slot (Pf.slots parts (k+1))
theorem KH{ps:↑Av}(h:∀p∈ps,sem p=[p]):ps.flatMap sem=ps:=by
 induction ps with
 | nil=>rfl
 | cons p ps E=>rw[Nn,h p (Bl ..),E λq N=>h q (Bj _ N)];rfl
theorem Pf.one{d k n:Nat}(O:nm r.name=ab)(L:rs[n]? = aa r)(J:↥r.parts<=100)(h3:Pf nm rs sem H d k us G r.parts):Pf nm rs sem H (d+1) k [gB n us] G [r.name]:=by
 have:=Pf.knot O L J h3 (.nil (k:=k+↥G));rwa [Bs]at this
theorem Pf.mono{d e k:Nat}(h:Pf nm rs sem H d k j G ps):d<=e->Pf nm rs sem H e k j G ps:=by
 induction h generalizing e with
 | nil=>exact λ_=>.nil
 | slot _ E=>exact λl=>.slot (E l)
 | whole t _ E=>exact λl=>.whole t (E l)
 | knot O L J _ _ c A=>
  intro l;cases e with
  | zero=>cases l
  | succ e=>exact .knot O L J (c (Hs l)) (A l)
theorem Pf.pl{d k:Nat}(h:Pf nm rs sem H d k pcs pa ps):∀w∈pcs,Pl (2*d+2*H+1) w:=by
 induction h with
 | nil=>exact λ_ h=>nomatch h
 | slot _ ih=>exact λw hw=>(Aw.mp hw).elim (λz=>z▸trivial) (ih w)
 | whole t _ ih=>
  refine λw hw=>(Aw.mp hw).elim (λz=>?_) (ih w);subst z;intro w hw;rcases Aw.mp hw with rfl|hw
  .exact(show Pl 0 (.str "whole") from(by decide +kernel:Kz ("whole" : Av)=ab)).mono (Cs _)
  .exact(t.pl (λ_ h=>nomatch h) w hw).mono (by lia)
 | @knot d k n r us pcs pa pb ps _ _ _ _ _ ih1 ih2=>
  refine λw hw=>(Aw.mp hw).elim (λz=>?_) (ih2 w);subst z;rw[show 2*(d+1)+2*H+1=2*d+2*H+1+1+1 by lia];intro w hw;rcases Aw.mp hw with rfl|hw
  .trivial
  .rw[Ag.mp hw];exact ih1
end
def Hg:Nat->W->Prop
 | 0,_=>False
 | h+1,w=>(∃t,w=.str t)\/∃n us,w=gB n us/\↥us<=100/\∀u∈us,Hg h u
theorem Hg.mono:∀{h k:Nat} {w:W},Hg h w->h<=k->Hg k w
 | 0,_,_,x,_=>x.elim
 | _+1,0,_,_,l=>nomatch l
 | _+1,_+1,_,.inl x,_=>.inl x
 | _+1,_+1,_,.inr ⟨n,us,e,l,f⟩,z=>.inr ⟨n,us,e,l,λu S=>(f u S).mono (Hs z)⟩
theorem RT.hg{nm:Av->Bool}{h:Nat}(x:RT nm rs h ps ws a)(G:∀r∈rs,↥r.parts<=100):∀w∈ws,Hg (h+1) w:=by
 induction x with
 | nil=>exact λ_ h=>nomatch h
 | word _ _ E=>exact λw hw=>(Aw.mp hw).elim (λz=>.inl ⟨_,z⟩) (E w)
 | @knot h k n r us ws ps a b _ T hk S _ c A=>
  refine λw hw=>(Aw.mp hw).elim (λz=>?_) (A w);let⟨j,rfl⟩:=Nat.exists_eq_add_of_le hk;exact .inr ⟨n,us,z,by rw[S.len];exact G r (Ao T),λu S=>(c u S).mono (by lia)⟩
inductive Fn(d:Nat)(backs:↑(↑W))(out:↑W):Nat->↑(W×Bool)->↑(↑W)->Prop
 | done:Fn d backs out 0 [] [out]
 | word {m:Nat} {S:↑(W×Bool)} {T:↑(↑W)} {t:Av}:↥T<=100000->Fn d backs out m S (T++[[.str t]])->Fn d backs out (m+1) (S++[(.str t,ac)]) T
 | down {m n:Nat} {S:↑(W×Bool)} {T:↑(↑W)} {us:↑W}:↥S+↥us<=100000->Fn d backs out m (S++[(gB n us,ab)]++us.reverse.map λu=>(u,ac)) T->Fn d backs out (m+1) (S++[(gB n us,ac)]) T
 | up {m n:Nat} {S:↑(W×Bool)} {T rows:↑(↑W)} {us pcs o:↑W}:↥T<=100000->↥rows=↥us->↥us<=100->backs[n]? = aa pcs->Pt rows d pcs o->↥o<=100->Fn d backs out m S (T++[o])->Fn d backs out (m+1) (S++[(gB n us,ab)]) (T++rows)
theorem Bk.len{d:Nat}(h:Bk backs d ws rows):↥rows=↥ws:=by
 induction h with
 | nil=>rfl
 | word _ E=>exact congrArg (· + 1) E
 | knot _ _ _ _ _ _ E=>exact congrArg (· + 1) E
theorem Bk.fn{d:Nat}(x:Bk backs d ws rows):∀{h m:Nat} {S:↑(W×Bool)} {T:↑(↑W)},(∀w∈ws,Hg h w)->↥S+↥ws+101*h<=100000->↥T+↥ws+101*h<=100000->Fn d backs out m S (T++rows)->∃q,Fn d backs out q (S++ws.reverse.map λu=>(u,ac)) T:=by
 induction x with
 | nil=>
  intro h m S T _ _ _ f;rw[Bs]at f;exact⟨m,by rw[List.reverse_nil,Mu,Bs];exact f⟩
 | @word t ws rows _ E=>
  intro h m S T hg M I f;rw[Bv]at M I;let⟨q,g⟩:=E (S:=S) (T:=T++[[.str t]]) (λw hw=>hg w (Bj _ hw)) (by lia) (by rw[Aj,Co];lia) (by rw[Bx];exact f);refine⟨q+1,?_⟩;rw[Nm,Ax,<-Bx];exact .word (by lia) g
 | @knot n j us o ws l rows Z O G Y _ c A=>
  intro h m S T hg M I f;rw[Bv]at M I;let⟨q,g⟩:=A (S:=S) (T:=T++[o]) (λw hw=>hg w (Bj _ hw)) (by lia) (by rw[Aj,Co];lia) (by rw[Bx];exact f);cases h with
  | zero=>exact(hg _ (Bl ..)).elim
  | succ h=>
   rcases hg _ (Bl ..) with⟨_,z⟩|⟨D,i,z,hl,B⟩
   .cases z
   .cases z;have a:↥(S++ws.reverse.map λu=>(u,ac))=↥S+↥ws:=by rw[Aj,Ab,Ej]
    let⟨m2,P⟩:=c B (by rw[Aj,a,Co];lia) (by lia) (Fn.up (by lia) O.len hl Z G Y g);refine⟨m2+1,?_⟩;rw[Nm,Ax,<-Bx];exact .down (by rw[a];lia) P
theorem Bk.start{d:Nat}{h:Nat}(x:Bk backs d [w] [o])(hg:Hg h w)(hh:h<=900):∃m,Fn d backs o m [(w,ac)] []:=x.fn (S:=[]) (T:=[]) (λu B=>by rw[Ag.mp B];exact hg) (by show 0+1+101*h<=_;lia) (by show 0+1+101*h<=_;lia) .done
inductive Th(keep drop:Av->Bool):↑Av->↑Av->Prop
 | nil:Th keep drop [] []
 | kp {t:Av} {ps l:↑Av}:keep t=ab->Th keep drop ps l->Th keep drop (t::ps) (t::l)
 | dr {t:Av} {ps l:↑Av}:drop t=ab->Th keep drop ps l->Th keep drop (t::ps) l
section
variable {keep drop:Av->Bool}{E:Av->W}{ps l:↑Av}
theorem KI:∀{ps l:↑Av} {told:↑iF},(∃x∈ps.foldl (gZ keep drop E) told,x.1=l)↔∃y∈told,∃q,l=y.1++q/\Th keep drop ps q
 | [],l,told=>⟨λA=>by let⟨x,h,e⟩:=A;exact⟨x,h,[],by rw[Bs,e],.nil⟩,λC=>by let⟨y,h,q,e,k⟩:=C;exact⟨y,h,by cases k;rw[e,Bs]⟩⟩
 | t::ps,l,told=>by
  rw[Gf,KI];unfold gZ;constructor
  .rintro⟨y,K,q,rfl,k⟩;rcases Bb.mp K with K|K<;>split at K
   .rename_i h;let⟨z,hz,rfl⟩:=Ar.mp K;exact⟨z,hz,t::q,Bx ..,.kp h k⟩
   .cases K
   .rename_i h;let⟨z,hz,rfl⟩:=Ar.mp K;exact⟨z,hz,q,rfl,.dr h k⟩
   .cases K
  .rintro⟨y,K,q,rfl,k⟩;cases k with
   | kp h k=>exact⟨_,Bf _ (by rw[Vz h];exact Ar.mpr ⟨y,K,rfl⟩),_,by simp,k⟩
   | dr h k=>exact⟨(y.1,y.2++[W.tup [.str "whole",E t]]),Bo _ (by rw[Vz h];exact Ar.mpr ⟨y,K,rfl⟩),_,rfl,k⟩
theorem KJ:(∃x∈mC keep drop E ps,x.1=l)↔Th keep drop ps l:=by
 unfold mC;rw[KI];exact⟨λ⟨y,h,q,e,k⟩=>by rw[Ag.mp h]at e;rw[e];exact k,λk=>⟨_,Ag.mpr rfl,_,rfl,k⟩⟩
theorem Th.len(h:Th keep drop ps l):↥l<=↥ps:=by
 induction h with
 | nil=>exact Ai _
 | kp _ _ E=>exact Eu E
 | dr _ _ E=>exact Nat.le_succ_of_le E
theorem Th.sub(h:Th keep drop ps l):∀t∈l,t∈ps/\keep t=ab:=by
 induction h with
 | nil=>exact λ_ h=>nomatch h
 | kp k _ E=>
  intro t ht;rcases Aw.mp ht with rfl|ht
  .exact⟨.head _,k⟩
  .exact⟨.tail _ (E t ht).1,(E t ht).2⟩
 | dr _ _ E=>exact λt ht=>⟨.tail _ (E t ht).1,(E t ht).2⟩
theorem Th.all:∀{ps:↑Av},(∀t∈ps,keep t=ab\/drop t=ab)->∃l,Th keep drop ps l/\∀t∈ps,keep t=ab->t∈l
 | [],_=>⟨[],.nil,λ_ h=>nomatch h⟩
 | t::ps,h=>by
  let⟨l,k,m⟩:=Th.all λt ht=>h t (.tail _ ht);cases e:keep t with
  | true=>exact⟨_,.kp e k,λp G hk=>(Aw.mp G).elim (λz=>z▸.head _) λz=>.tail _ (m p z hk)⟩
  | false=>exact⟨_,.dr ((h t (.head _)).resolve_left λz=>by rw[e]at z;cases z) k,λp G hk=>(Aw.mp G).elim (λz=>by rw[z,e]at hk;cases hk) λz=>m p z hk⟩
end
section
variable {rs:↑aD}{D:↑Av}{drop:Av->Bool}
theorem vU(h:rs≠[]):∃r∈rs,r.name=f0 rs:=by
 cases rs with
 | nil=>exact absurd rfl h
 | cons r rs=>exact⟨r,.head _,rfl⟩
theorem KL{nm:Av->Bool}{sem:Av->↑Av}{H d:Nat}{keep drop:Av->Bool}{E:Av->W}(Y:∀t,drop t=ab->RT nm rs H [t] [E t] []):∀{ps qs:↑Av} {told:↑iF} {y:iF},(∀t∈ps,sem t=[t])->(∀x∈told,Pf nm rs sem H d 0 x.2 x.1 qs)->y∈ps.foldl (gZ keep drop E) told->Pf nm rs sem H d 0 y.2 y.1 (qs++ps)
 | [],qs,told,y,_,h,K=>by rw[Bs];exact h y K
 | t::ps,qs,told,y,F,h,K=>by
  rw[List.append_cons];refine KL Y (λu S=>F u (.tail _ S)) (λx J=>?_) K;unfold gZ at J;rcases Bb.mp J with J|J<;>split at J
  .let⟨z,hz,rfl⟩:=Ar.mp J;have:=Pf.app (h z hz) (b:=[.int ((0+↥z.1:Nat):Int)]) (.slot (p:=t) .nil);rw[Bs,F t (.head _),Mx]at this;exact this
  .cases J
  .rename_i hd;let⟨z,hz,rfl⟩:=Ar.mp J;have:=Pf.app (h z hz) (.whole (Y t hd) .nil);rw[Bs]at this;exact this
  .cases J
def vV(rs:↑aD)(D:↑Av)(drop:Av->Bool)(X:Av)(l:↑Av):Prop:=∃r∈rs,r.name=X/\Th (d9 rs D) drop r.parts l/\l≠[]/\l≠[X]
theorem zdA(d:Wd rs D)(H:jC rs D=D)(hd:∀t,drop t=ab↔iU rs ac t)(u:X∈D):∃l,vV rs D drop X l:=by
 let⟨r,T,en,hf,p,G,S,hw⟩:=d.why X u;let⟨l,O,L⟩:=Th.all (keep:=d9 rs D) (drop:=drop) λt ht=>(zdc H (hf t ht)).imp_right (hd t).mpr;have a:=L p G (by unfold d9;rcases hw with z|z;rw[Wc z];rfl;rw[z];exact Og _);exact⟨l,r,T,en,O,(λe=>by rw[e]at a;cases a),λe=>by rw[e]at a;exact S (Ag.mp a)⟩
end
def AQ:aV:=λws M R=>∃rs:↑aD,ws=[bC rs]/\↥rs<=100/\aP (rs.map λ_=>W.int 0) M R
abbrev zdB:↑Av:=["grammar"]
abbrev zdC:aE:=
   (bG (dR (bT cD aG) (aX 0) eR a6 [ae]))
theorem zdD:bE AQ zdC zdB:=by
 rintro _ M R ⟨rs,rfl,hl,r⟩;refine(lX (rest:=[]) (λ_=>.int 0) (small (by rw[Ab];lia)) (λ_ _=>trivial) (λw hw V C sb O=>O) ?_)
 .intro p G;refine⟨_,aW,?_⟩;have e:(rs.map bF).map (λ_=>W.int 0)=rs.map λ_=>W.int 0:=by rw[Bp];rfl
  rw[e];exact r p G
def KN:aV:=λws M R=>∃(rs:↑aD) (U:↑Av),ws=[bC rs]/\↥rs<=100/\↥U<64/\vM rs U/\∀ss:↑Av,vM rs ss->ss.Nodup->(∀t∈ss,t∈U)->R (.rl (ss.map W.str)) M
def AR:aV:=λws M R=>∃rs:↑aD,ws=[bC rs]/\GL rs/\∀kvs:↑(aC×W),(∀X:Av,(aQ kvs (Sum.inr X:aC)).isSome=l9 rs ab X)->iO kvs M R
abbrev zdE:↑Av:=["grammar","own","found","rule","part"]
abbrev zdF:aE:=
   (aN 1 (aS mB (aA (bJ (aS jB (aA aG aB))) aB)))
abbrev zdG:aE:=
   (aN 2 rE)
abbrev zdH:aE:=
   (cC (bT cD (vX a7 a8)) (aX 4)
    (bW (bK (aH (cA ab) a9 aM))
    (fJ (vC (.bl ab)) (gY aT a9))
    cB))
abbrev zdI:aE:=
   (cC (bT cD aG) (aX 3) zdH)
abbrev zdJ:aE:=
   (bG (bH zC (aA (bJ aT) aB)))
abbrev zdK:aE:=(aF zdF (aF zdG (aF zdI zdJ)))
abbrev zdL:↑Av:=["grammar","steps","best"]
abbrev zdM(C:Cc):aE:=
   (aN 1 (bJ (bH AB (aA (bJ (dR (bT cD (aS KN (aA aG aB))) (aX 0) eR (bA (aA (bA (aA aG (aA a6 aB))) (aA (eY (aA (bA (aA a6 (aA a8 aB))) aB)) aB))) [ae])) aB))))
abbrev zdN(C:Cc):aE:=
   (bG (bH zD (aA (bJ (dR (bT rY aT) (aX 0) eR (bA (aA (vX aG a6) (aA (vX (vX (vX aM aG) a6) a6) aB))) [ae,aa 2])) aB)))
abbrev zdO(C:Cc):aE:=(aF (zdM C) (aF (aN 2 (rX (aS (zX C) (aA aG (aA (eY (aA a6 aB)) (aA aM (aA (bJ (aS AQ (aA aG aB))) aB))))))) (zdN C)))
theorem r9(ts:↑Av)(n:Av):(aQ (ts.map cH) (Sum.inr n:aC)).isSome=decide (n∈ts):=by
 induction ts with
 | nil=>rfl
 | cons t ts ih=>
  unfold aQ at ih⊢;rw[Bh,Cz]
  by_cases h:t=n
  .subst h;simp[cH]
  .rw[show decide ((cH t).1=(Sum.inr n:aC))=ac by simp[cH,h]];rw[ih];have h2:¬n=t:=λe=>h e.symm;simp[h2]
theorem mD(rs:↑aD)(t:Av):(aQ (ownOf rs) (Sum.inr t:aC)).isSome=ownB rs t:=by
 unfold ownOf ownB;rw[r9,Ee];simp only[decide_eq_true_eq];rw[uW];simp
theorem zdP:bE KN zdK zdE:=by
 rintro _ M R ⟨rs,U,rfl,hl,hU,aU,r⟩;refine⟨rs,rfl,Ap hl ∅,aP.frz ?_⟩;refine⟨namesOf rs,rfl,by have:=JL rs;lia,?_⟩;obtain⟨ow,how⟩:∃ow,ow=(((namesOf rs).foldl c7 []).map cH):=⟨_,rfl⟩;have lo:∀t,(aQ ow (Sum.inr t:aC)).isSome=ownB rs t:=λt=>by rw[how];exact mD rs t
 rw[<-how];refine λp hp=>?_;refine l7 (λi τ M'=>∃(ss:↑Av) (o3 o4:Option W),τ=[aa (.rl (rs.map bF)),aa (.dk ow),aa (.ref p),o3,o4]/\M'=put M p (.dK (ss.map cH))/\ss.Nodup/\(∀t∈ss,t∈U)/\∀q∈rs.take i,∀t∈q.parts,ownB rs t=ac->t∈ss) ⟨[],_,_,rfl,rfl,Eo,by simp,by simp⟩ ?_ ?_
 .rintro i w τ M' hw ⟨ss,o3,o4,rfl,rfl,nd,hsU,hin⟩;rw[Ay]at hw;let⟨q,hq,rfl⟩:=Ba.mp hw;refine ?_;refine l7 (ws:=q.parts.map W.str) (λj τ M'=>∃(s2:↑Av) (o4:Option W),τ=[aa (.rl (rs.map bF)),aa (.dk ow),aa (.ref p),aa (bF q),o4]/\M'=put M p (.dK (s2.map cH))/\s2.Nodup/\(∀t∈s2,t∈U)/\(∀t∈ss,t∈s2)/\∀t∈q.parts.take j,ownB rs t=ac->t∈s2) ⟨ss,_,rfl,rfl,nd,hsU,λ_ h=>h,by simp⟩ ?_ ?_
  .rintro j w τ M' hw ⟨s2,o4,rfl,rfl,nd2,hsU2,hs2,hin2⟩;rw[Ay]at hw;let⟨t,ht,rfl⟩:=Ba.mp hw;refine⟨_,⟨Sum.inr t,rfl,rfl⟩,?_⟩;show if (!(aQ ow (Sum.inr t:aC)).isSome)=ab then _ else _;rw[lo t];cases ho:ownB rs t with
   | true=>
    refine⟨_,aW,s2,_,rfl,rfl,nd2,hsU2,hs2,λx hx hox=>?_⟩;rw[AE ht]at hx;rcases Bb.mp hx with z|z
    .exact hin2 x z hox
    .rw[Ag.mp z,ho]at hox;cases hox
   | false=>
    have hl2:↥s2<=↥U:=len_sub nd2 hsU2;refine(rK aJ (by rw[Ab];exact cM (by lia)) ⟨_,aW,c7 s2 t,_,rfl,by rw[b7,vB],AD nd2,λx hx=>?_,λx hx=>kY.mpr (.inl (hs2 x hx)),λx hx hox=>?_⟩)
    .rcases kY.mp hx with z|z
     .exact hsU2 x z
     .rw[z];exact aU q (Ao hq) t (Ao ht) ho
    .rw[AE ht]at hx;rcases Bb.mp hx with z|z
     .exact kY.mpr (.inl (hin2 x z hox))
     .exact kY.mpr (.inr (by simpa using z))
  .rintro τ M' ⟨s2,o4,rfl,rfl,nd2,hsU2,hs2,hin2⟩;rw[Ab,Bw]at hin2;refine⟨_,aW,s2,_,_,rfl,rfl,nd2,hsU2,λx hx t ht ho=>?_⟩;rw[AE hq]at hx;rcases Bb.mp hx with z|z
   .exact hs2 t (hin x z t ht ho)
   .rw[Ag.mp z]at ht;exact hin2 t ht ho
 .rintro τ M' ⟨ss,o3,o4,rfl,rfl,nd,hsU,hin⟩;rw[Ab,Bw]at hin;refine(ES hp ?_);have hl2:↥ss<=↥U:=len_sub nd hsU;refine⟨ss,by rw[Bp];rfl,by lia,λs3 hperm=>⟨_,aW,r s3 (λq hq t ht ho=>hperm.mem_iff.mpr (hin q hq t ht ho)) (hperm.nodup_iff.mpr nd) λt ht=>hsU t (hperm.mem_iff.mp ht)⟩⟩
noncomputable def mE(ss:↑Av):↑(↑aC×W):=ss.map λt=>([Sum.inr t,Sum.inl 0],.rl [.tup [.int 0,.int 1]])
theorem KO:∀{ps acc:↑(↑aC×W)},((acc++ps).map (·.1)).Nodup->iD acc ps=acc++ps
 | [],acc,_=>by simp[iD]
 | p::ps,acc,h=>by
  have hn:aQ acc p.1=ae:=by
   rw[Ax,Cv]at h;exact HK λe Z z=>h.2.2 _ (Ar.mpr ⟨e,Z,rfl⟩) p.1 (by simp) z
  have e:bY acc p.1 p.2=acc++[p]:=by
   unfold bY;rw[Vy (by rw[show(acc.any λg=>decide (g.1=p.1))=(aQ acc p.1).isSome from j7 acc p.1,hn];decide)]
  show iD (bY acc p.1 p.2) ps=_;rw[e,KO (by rw[Bx];exact h),Bx];rfl
theorem zdQ(h:ss.Nodup):((mE ss).map (·.1)).Nodup:=by
 unfold mE;rw[Bp]
 induction ss with
 | nil=>simp
 | cons t ss E=>
  rw[Cj]at h;rw[Bh,Cj];refine⟨λS=>?_,E h.2⟩;let⟨x,J,e⟩:=Ar.mp S;have:x=t:=by simpa using e
  exact h.1 (by rw[<-this];exact J)
theorem zdR(ss:↑Av)(t:Av)(p:Int):aQ (mE ss) (eK (t,p))=if p=0/\t∈ss then aa (.rl [.tup [.int 0,.int 1]]) else ae:=by
 unfold mE eK
 induction ss with
 | nil=>simp[aQ]
 | cons x ss E=>
  rw[Bh,pQ,E]
  by_cases O:p=0
  .subst O
   by_cases L:x=t
   .subst L;rw[Vz rfl,Vz ⟨rfl,by simp⟩]
   .rw[Vy (λz=>L (by simpa using z))]
    by_cases h3:t∈ss
    .rw[Vz ⟨rfl,h3⟩,Vz ⟨rfl,Bj _ h3⟩]
    .rw[Vy (λz=>h3 z.2),Vy (λz=>by rcases Aw.mp z.2 with q|q;exact L q.symm;exact h3 q)]
  .rw[Vy (λz=>O (by simp at z;exact z.2.symm)),Vy (λz=>O z.1),Vy (λz=>O z.1)]
theorem KP:((eA fK eJ B).map λp=>W.tup (p.1.map wK))=(B.map (·.1)).map λf=>W.tup ((fK f).map wK):=by rw[Bp,Bp];rfl
theorem KQ(n:Nat)(rs:↑aD)(h:n=↥rs):((Cp n).map λ_=>W.int 0)=rs.map λ_=>W.int 0:=by
 rw[List.map_const',List.map_const',Jl,h]
theorem zdS:bE AR (zdO C) zdL:=by
 rintro _ M R ⟨rs,rfl,g,r⟩;have hf:=g.few;let⟨U,A,u⟩:=g.wds;refine⟨rs,U,rfl,by lia,A,u,λss s nd e=>?_⟩;have d:↥ss<=↥U:=len_sub nd e;refine lX (rest:=[]) (λw=>.tup [.tup [w,.int 0],.rl [.tup [.int 0,.int 1]]]) (small (by rw[Ab];lia)) (λ_ _=>trivial) (λw hw V C sb O=>O) (aP.frz ?_);refine⟨mE ss,?_,small (by rw[Ab,Ab];lia),?_⟩
 .unfold oI mE;rw[Bp,Bp];rfl
 rw[KO (by simpa using zdQ nd),Jc];refine jW.frz ⟨rs,rfl,by lia,aP.frz ⟨jM rs ss,⟨rs,ownOf rs,mE ss⟩,by rw[<-KQ ↥rs rs rfl];rfl,by show ↥rs<=100;lia,rfl,⟨rfl,λt=>mD rs t,λt p=>?_⟩,HX rs ss,λq N=>Ap (g.prt q N) ∅,λB F i n=>⟨i,rfl,.inr ⟨_,aJ,?_⟩⟩⟩⟩
 .show(aQ (mE ss) (eK (t,p))=ae/\(if p=0/\t∈ss then [((0:Int),(1:Int))] else [])=[])\/aQ (mE ss) (eK (t,p))=aa (.rl ((if p=0/\t∈ss then [((0:Int),(1:Int))] else []).map λz=>.tup [.int z.1,.int z.2]));rw[zdR]
  by_cases h:p=0/\t∈ss
  .right;rw[Vz h,Vz h];rfl
  .left;rw[Vy h,Vy h];exact⟨rfl,rfl⟩
 .rw[i5 n];have a:=Ap (HZ F) (JL _);have a:↥B<=↥rs:=a;show fZ ((eA fK eJ B).map λp=>W.tup (p.1.map wK)) _ _ _ _ _ _ _;rw[KP];refine uL (rest:=[aa (.ft (eA fK eJ B))]) (λw y=>∃f v,w=W.tup ((fK f).map wK)/\y=W.tup [.str f.1,v]/\True) (small (by rw[Ab,Ab];lia)) (λ_ _=>trivial) (λw hw V C sb O=>?_) λys m=>aP.frz ?_
  .let⟨f,hf,rfl⟩:=Ar.mp hw;let⟨v,c⟩:=Dz.mp (iE.mpr hf);exact⟨eJ v,⟨fK f,rfl,by rw[pZ nD,c];rfl⟩,O _ ⟨f,_,rfl,rfl,trivial⟩⟩
  .let⟨kvs,rfl,hk,_⟩:=AF (P:=λ_ _=>True) m;have b:=Dg m;rw[Ab,Ab]at b;exact⟨kvs,rfl,small (by lia),λp G=>⟨_,aW,r _ (JO (λq N t ht Y=>⟨λ_=>rfl,λ_=>s q N t ht Y⟩) F hk) p G⟩⟩
def mF(l:↑(NP×W)):W:=.tup [.rl ((dN l).map bF),.rl (l.map λz=>z.2)]
def vW(rs:↑aD)(z:NP×W):Prop:=(∃n r,rs[n]? = aa r/\z=((r.name,fW rs r.parts),.tup [.tup [.int (n:Nat),rZ (fW rs r.parts)]]))\/∃e∈cI rs,z=((fE rs e,fW rs e),rZ (fW rs e))
def KR:aV:=λws M R=>∃rs:↑aD,ws=[.rl (rs.map bF)]/\J9 rs/\aP (rs.map bF) M R
def AU:aV:=λws M R=>∃(old:↑Av) (n:Nat),ws=[.rl (old.map W.str),.int n]/\n+↥old<=400/\aP ((k9 old n).map W.str) M R
def vY:aV:=λws M R=>∃ps:↑Av,ws=[.tup (ps.map W.str)]/\↥ps<=1000/\R (rZ ps) M
structure j9(P:Be)(w:Br)(C:Am)(M:Mm)(a d dx:Am)(l:↑(NP×W)):Prop where
 ob:M a=aa (.ins C dx [("backs",.ref d)])
 di:M d=aa (.dn P w [0] (kvsOf l))
def p9(P:Be)(w:Br)(C:Am):aV:=λws M R=>∃a s,ws=[.ref a]/\M a=aa (.ins C s [])/\∀d,M d=ae->R .non (put (put M d (.dn P w [0] [])) a (.ins C s [("backs",.ref d)]))
def nF(P:Be)(w:Br)(C:Am):aV:=λws M R=>∃a d s l,∃(x:NP) (v:W),ws=[.ref a,.str x.1,.tup (x.2.map W.str),v]/\j9 P w C M a d s l/\↥l<=100000/\∀F,Ex (λz=>z=(x,v)) l 1 (λy=>y=x) F->R .non (put M d (.dn P w [0] (kvsOf F)))
def qA(P:Be)(w:Br)(C:Am):aV:=λws M R=>∃a d s l,ws=[.ref a]/\j9 P w C M a d s l/\R (mF l) M
def KS:aV:=λws M R=>∃rs:↑aD,ws=[.rl (rs.map bF)]/\gA rs/\aP ((cI rs).map λe=>W.tup (e.map W.str)) M R
def AW:aV:=λws M R=>∃(rs:↑aD) (ps:↑Av),ws=[.tup (ps.map W.str),.dt (iH rs)]/\gA rs/\(2<↥ps->ps.drop 1∈cI rs)/\R (.tup ((fW rs ps).map W.str)) M
def KU:aV:=λws M R=>∃rs:↑aD,ws=[.rl (rs.map bF)]/\gA rs/\rs≠[]/\∀l,(∀z∈l,vW rs z)->↥l<=180->Hd (f0 rs) True l->R (mF l) M
abbrev zdT:↑Av:=["rules","known","rule"]
abbrev zdU:aE:=
   (bW (bK (aH (cV ac) (bH cP (aA aG aB)) a6))
    uH
    cB)
abbrev zdV:aE:=
   (aN 1 (bJ (aS jB (aA aG aB))))
abbrev zdW:aE:=
   (bZ (aS IC (aA aT (aA aM aB))))
abbrev zdX:aE:=
   (cC (bT cD aG) (aX 2) zdW)
abbrev zdY:aE:=
   (bG (bH uD (aA aG aB)))
abbrev zdZ:aE:=(aF zdU (aF zdV (aF zdX zdY)))
abbrev zd0:↑Av:=["old","count","taken","made","tried","name"]
abbrev zd1:aE:=
   (aN 2 (aS mB (aA aG aB)))
abbrev zd2:aE:=
   (aN 3 (fH aB))
abbrev zd3:aE:=
   (aN 4 a6)
abbrev zd4:aE:=
   (aF (aN 5 (aH oG (aH oG (aH u9 (vC (.str "M")) (aH cU a8 (aH iR a9 (vI 10000)))) (vC (.str "_"))) (bH yO (aA (aH fP a9 (vI 10000)) aB))))
   (aF (aN 4 (aH cU a9 a8))
   (bW (bK (aH (cA ab) b9 aT))
    (bZ (cN "list" dJ a7 (aA b9 aB)))
    cB)))
abbrev zd5:aE:=
   (kS (bK (aH lP (bH cP (aA a7 aB)) aM)) zd4)
abbrev zd6:aE:=
   (bG a7)
abbrev zd7:aE:=(aF zd1 (aF zd2 (aF zd3 (aF zd5 zd6))))
abbrev zd8:↑Av:=["parts"]
abbrev zd9:aE:=
   (bG (G1 (bH cP (aA aG aB))))
abbrev zea:↑Av:=["self"]
abbrev zeb(P:Be)(w:Br)(C:Am):aE:=
   (jA C aG "backs" (GX P w [0]))
abbrev zec:↑Av:=["self","name","parts","pieces"]
abbrev zed(P:Be)(w:Br)(C:Am):aE:=
   (bZ (GZ P w [0] (cY C aG "backs") (bA (aA aM (aA aT (aA a6 aB)))) a7))
abbrev zee:↑Av:=["self"]
abbrev zef(P:Be)(w:Br)(C:Am):aE:=
   (bG (bA (aA (bJ (bH (zG P w [0]) (aA (cY C aG "backs") aB))) (aA (bJ (bH (zG P w [0]) (aA (G0 P w [0] (cY C aG "backs")) aB))) aB))))
abbrev zeg:↑Av:=["grammar","found","rule","k"]
abbrev zeh:aE:=
   (aN 1 lQ)
abbrev zei:aE:=
   (cC (FU (aA a8 (aA (aH kP (bH cP (aA (vX aT a8) aB)) a8) aB))) (aX 3)
    (fJ (vC (.bl ab)) (gY aM (oA (vX aT a8) (kR a7) uC))))
abbrev zej:aE:=
   (cC (bT cD aG) (aX 2) zei)
abbrev zek:aE:=
   (bG (bH G2 (aA aM aB)))
abbrev zel:aE:=(aF zeh (aF zej zek))
abbrev zem:↑Av:=["parts","made"]
abbrev zen:aE:=
   (bG (yB (bK (aH yF (bH cP (aA aG aB)) kL)) aG (bA (aA (vX aG a6) (aA (vX aM (oA aG (kR a8) uC)) aB)))))
noncomputable abbrev zeo:↑Av:=["grammar","ends","made","plain","number","rule","parts","end"]
abbrev zep(P:Be)(w:Br)(C:Am):aE:=
   (aF (aN 6 (aS AW (aA (vX b9 a8) (aA aT aB))))
   (bZ (dY C "put_rule" (nF P w C) a7 (aA (vX b9 a6) (aA cF (aA (bA (aA (bA (aA a9 (aA (aS vY (aA cF aB)) aB))) aB)) aB))))))
abbrev zeq(P:Be)(w:Br)(C:Am):aE:=
   (aF (aN 6 (aS AW (aA cT (aA aT aB))))
   (bZ (dY C "put_rule" (nF P w C) a7 (aA (vX aT cT) (aA cF (aA (aS vY (aA cF aB)) aB))))))
abbrev zer(P:Be)(w:Br)(C:Am):aE:=(aF (aN 1 (bJ (aS KS (aA aG aB)))) (aF (aN 2 (G6 (aA aM (aA (bJ (aS AU (aA (bJ (aS jB (aA aG aB))) (aA (bH cP (aA aM aB)) aB)))) aB)))) (aF (aN 3 (lY C (p9 P w C) aB)) (aF (cC (uP (aA aG aB)) (fS 2 (cL (aX 4) (cL (aX 5) fR))) (zep P w C)) (aF (cC (bT cD aM) (aX 7) (zeq P w C)) (bG (dY C "grammar_and_backs" (qA P w C) a7 aB)))))))
theorem zes:bE KR zdZ zdT:=by
 rintro _ M R ⟨rs,rfl,g,r⟩;refine fU (λZ=>?_) λ_=>⟨rs,rfl,g.few,aP.frz ?_⟩
 .have h:=Wa Z;rw[Ab]at h;exact g.ne (Fl.mp (Int.ofNat.inj h))
 refine dB (λi U V=>∃o,U=[aa (.rl (rs.map bF)),aa (.rl ((namesOf rs).map W.str)),o]/\V=M) ⟨_,rfl,rfl⟩ ?_ ?_
 .rintro i w U V hw ⟨o,rfl,rfl⟩ A H;let⟨t,ht,rfl⟩:=Ar.mp (Ao hw);let⟨O,L⟩:=g.ok t ht;exact⟨t,_,rfl,O,L,H _ _ ⟨_,rfl,rfl⟩⟩
 .rintro U V ⟨o,rfl,rfl⟩;exact λq N=>⟨_,aW,r q N⟩
theorem AX{d:Am}:Cm ("backs" : Av) [(("backs" : Av),W.ref d)]=aa (.ref d):=by rw[Ea,beq_self_eq_true]
theorem KW:Iu ("M" : Av) 1 = "M":=by decide +kernel
theorem zet:bE AU zd7 zd0:=by
 rintro _ M R ⟨old,n,rfl,hl,r⟩;refine⟨old,rfl,by lia,λp G=>?_⟩;refine⟨λm U V=>∃t o,m=n+↥old-t/\t<=n+↥old/\↥(gT old t)<=n/\U=[aa (.rl (old.map W.str)),aa (.int n),aa (.dk ((old.foldl c7 []).map cH)),aa (.ref p),aa (.int (t:Nat)),o]/\V=put M p (.lst ((gT old t).map W.str)),⟨_,0,ae,rfl,Cs _,Cs _,rfl,rfl⟩,?_⟩;rintro m U V ⟨t,o,rfl,ht,Z,rfl,rfl⟩;have tl:=J3 old t (Gh ht (Gh hl ∅));refine .inl ⟨_,aJ,fU (λhc=>?_) λhc=>?_⟩
 .have hc:↥(gT old t)<n:=by have:=Wa hc;rw[Ab]at this;lia
  have D:(t:Int)/10000=0:=Int.ediv_eq_zero_of_lt (by lia) (by lia);have T:(t:Int) % 10000=t:=Int.emod_eq_of_lt (by lia) (by lia);have en:(Iu ("M" : Av) (1+(t:Int)/10000)++"_"++Bz (toString ((t:Int) % 10000)))=eZ t:=by
   rw[D,T,show((1:Int)+0)=1 from rfl,KW];rfl
  have E:↥("M" : Av)=1:=by decide +kernel
  have c:↥("_" : Av)=1:=by decide +kernel
  have a:↥(Bz (toString ((t:Int) % 10000)))<=10:=by rw[T];exact Ox (by lia) (by lia)
  have d:↥(Iu ("M" : Av) (1+(t:Int)/10000))=1:=by rw[D,show((1:Int)+0)=1 from rfl,KW];exact E
  refine⟨⟨by decide,by decide⟩,("M" : Av),1+(t:Int)/10000,rfl,rfl,by lia,by lia,by lia,_,_,rfl,rfl,small (by lia),(by decide:(0:Int)<10000),HH (Fq _ ∅) (Ei _ ∅),_,_,rfl,rfl,small (by rw[Ml];lia),?_⟩;rw[en];have b:decide (eZ t∈old.foldl c7 [])=decide (eZ t∈old):=by
   rw[Ee,decide_eq_true_eq,decide_eq_true_eq,uW];simp
  have ts:=J2 old t;refine⟨_,⟨Sum.inr (eZ t),rfl,rfl⟩,?_⟩;show if (!(aQ ((old.foldl c7 []).map cH) (Sum.inr (eZ t):aC)).isSome)=ab then _ else _;rw[r9,b];refine fU (λS=>?_) λS=>?_
  .have S:eZ t∉old:=λz=>by rw[Wc z]at S;cases S
   rw[Vy S]at ts;refine⟨.inl ⟨rfl,_,aJ⟩,_,aJ,cM (by rw[Ab];lia),_,_,?_,aW,t+1,_,rfl,by lia,by rw[ts,Aj,Co];lia,rfl,?_⟩
   .lia
   .rw[b7,ts,Ax];rfl
  .have S:eZ t∈old:=Wa (by rw[<-Hb (decide _),S];rfl);rw[Vz S]at ts;exact⟨_,_,by lia,aW,t+1,_,rfl,by lia,by rw[ts];exact Z,rfl,by rw[ts]⟩
 .have hc:¬↥(gT old t)<n:=λz=>by have:=of_decide_eq_false hc;rw[Ab]at this;lia
  have e:=zdu (old:=old) (n:=n) (t:=t) (by lia) ht;rw[e];exact⟨_,aW,r p G⟩
theorem zeu:bE vY zd9 zd8:=by
 rintro _ M R ⟨ps,rfl,hl,r⟩;exact⟨↥ps,by rw[Ab],hl,_,aW,r⟩
theorem zev{P:Be}{w:Br}{C:Am}:bE (p9 P w C) (zeb P w C) zea:=by
 rintro _ M R ⟨a,s,rfl,m,r⟩;refine λd hd=>?_;have S:a≠d:=λe=>by subst e;rw[m]at hd;cases hd
 exact⟨a,s,[],rfl,by rw[aY S];exact m,by decide,_,aW,r d hd⟩
theorem zew{P:Be}{w:Br}{C:Am}:bE (nF P w C) (zed P w C) zec:=by
 rintro _ M R ⟨a,d,s,l,x,v,rfl,i,hl,r⟩;have r:=r (addT l (x,v)) (Ex.addT x v);refine⟨a,s,_,.ref d,rfl,i.ob,AX,⟨d,_,rfl,i.di⟩,d,_,lA x,rfl,i.di,?_,by unfold kvsOf;rw[Ab];exact cM (by lia),?_,?_⟩
 .unfold gO lA;simp[wK,Ln]
 .intro E e;rcases J7 l x with⟨O,_⟩|⟨_,L⟩
  .rw[O]at e;cases e
  .unfold addT at r;rw[Vz L,xY i.di]at r;exact⟨_,aW,r⟩
 .intro e;rcases J7 l x with⟨_,L⟩|⟨⟨E,O⟩,_⟩
  .unfold addT at r;rw[Vy L]at r;unfold kvsOf at r;rw[Ax]at r;exact⟨_,aW,r⟩
  .rw[O]at e;cases e
theorem zex(l:↑(NP×W)):((kvsOf l).map λz=>gO [0] z.1)=(dN l).map bF:=by
 unfold kvsOf;rw[Bp,Bp];exact Fb λz _=>J8 z.1
theorem zey(l:↑(NP×W)):((kvsOf l).map λz=>z.2)=l.map λz=>z.2:=by unfold kvsOf;rw[Bp];rfl
theorem zez{P:Be}{w:Br}{C:Am}:bE (qA P w C) (zef P w C) zee:=by
 rintro _ M R ⟨a,d,s,l,rfl,i,r⟩;refine⟨a,s,_,.ref d,rfl,i.ob,AX,.inl ⟨_,i.di,aP.frz ⟨a,s,_,.ref d,rfl,i.ob,AX,d,_,rfl,i.di,λv c=>.inr ⟨d,_,aJ,by rw[aY λe=>by rw[<-e,i.di]at c;cases c];exact i.di,aP.frz ⟨_,Sub.new c,?_⟩⟩⟩⟩⟩;rw[zex,zey];exact r
def jR(e:↑Av):↑aC×W:=(fD e,.bl ab)
theorem zeA(acc:↑(↑Av))(e:↑Av):bY (acc.map jR) (fD e) (.bl ab)=(jO acc e).map jR:=by
 unfold bY jO;have h:((acc.map jR).any λg=>decide (g.1=fD e))=decide (e∈acc):=by
  rw[Mv,Ee,Gx,decide_eq_true_eq];constructor
  .rintro⟨x,J,h⟩;have:=AK (Wa h);rw[<-this];exact J
  .intro h;exact⟨e,h,by simp[jR]⟩
 rw[h]
 by_cases h:e∈acc
 .rw[Vz (Wc h),Vz h,Bp];refine Fb λu S=>?_;show(if (jR u).1=fD e then((jR u).1,W.bl ab) else jR u)=jR u
  by_cases hh:(jR u).1=fD e
  .rw[Vz hh];rfl
  .rw[Vy hh]
 .rw[Vy (by simpa using h),Vy h,Ax];rfl
theorem zeB{rs:↑aD}{i:Nat}{r:aD}(h:rs[i]? = aa r):iG (rs.take (i+1))=iG (rs.take i)++gS r.parts:=by
 unfold iG;rw[Cf,h,Ax,Mj];simp
theorem KY{B:Type}[DecidableEq B](acc a b:↑B):jP acc (a++b)=jP (jP acc a) b:=Ll
theorem zeC{rs:↑aD}{i:Nat}{r:aD}(h:rs[i]? = aa r):cI (rs.take (i+1))=jP (cI (rs.take i)) (gS r.parts):=by
 unfold cI;rw[zeB h,KY]
theorem zeD{ps:↑Av}{j:Nat}(h:j<↥ps-2):(gS ps).take (j+1)=(gS ps).take j++[ps.drop (j+1)]:=by
 have:(gS ps)[j]? = aa (ps.drop (j+1)):=by
  unfold gS;rw[Ay,Qa h];rfl
 rw[Cf,this];rfl
theorem gA.take{rs:↑aD}(f:gA rs)(i:Nat):gA (rs.take i):=⟨by rw[Cg];have:=f.few;lia,λr T=>f.prt r (Hh T)⟩
theorem KZ{ws:↑W}{k:Nat}(h:k<=↥ws):dX ws (aa (k:Int)) ae=ws.drop k:=by
 unfold dX;have D:HT.sIx ↥ws 0 (aa (k:Int))=k:=by
  rw[HT.sIx_nat];lia
 have T:HT.sIx ↥ws ↥ws ae=↥ws:=rfl;rw[D,T,Oe (by rw[Gv];exact Ai _)]
theorem zeE:bE AW zen zem:=by
 rintro _ M R ⟨rs,ps,rfl,f,Z,r⟩;unfold fW at r;have el:(↥(ps.map W.str):Int)<=2↔↥ps<=2:=by rw[Ab];lia
 refine fU (λh=>?_) λh=>?_
 .rw[Vz (el.mp (Wa h))]at r;exact⟨_,aW,r⟩
 .have hl:¬↥ps<=2:=λz=>of_decide_eq_false h (el.mpr z);rw[Vy hl]at r;cases ps with
  | nil=>simp at hl
  | cons x ps=>
   have S:=Z (by lia);have K:(1:Int)=((1:Nat):Int):=rfl;refine so.of (oB _ _) ⟨λJ=>?_,_,⟨fD ps,?_,(AN f S).1.symm⟩,_,aW,r⟩
   .have O:=J.1;rw[K,HT.sIx_nat]at O;simp at O
   .rw[K,KZ (by simp),r6];rfl
theorem zeF:bE KS zel zeg:=by
 rintro _ M R ⟨rs,rfl,f,r⟩;refine λp G=>dB (λi U V=>∃s t,U=[aa (.rl (rs.map bF)),aa (.ref p),s,t]/\V=put M p (.dT ((cI (rs.take i)).map jR))) ⟨_,_,rfl,rfl⟩ ?_ ?_
 .rintro i w U V hw ⟨s,t,rfl,rfl⟩ A H;rw[Ay]at hw;let⟨q,N,rfl⟩:=Ba.mp hw;have S:q∈rs:=Ao N;have m:=f.prt q S;have hi:i<↥rs:=(An.mp N).1;have u:=f.few;have c:=AI (f.take i).prt;rw[Cg]at c;have d:↥(q.parts.map W.str)=↥q.parts:=Ab ..;refine⟨1,_,rfl,⟨by decide,by decide,by lia,by lia⟩,?_⟩;have b:((↥(q.parts.map W.str):Int)-1-1).toNat=↥q.parts-2:=by lia
  rw[b];refine dB (λj U V=>∃t,U=[aa (.rl (rs.map bF)),aa (.ref p),aa (bF q),t]/\V=put M p (.dT ((jP (cI (rs.take i)) ((gS q.parts).take j)).map jR))) ⟨_,rfl,rfl⟩ ?_ ?_
  .rintro j w U V hw ⟨t,rfl,rfl⟩ A H;unfold lU at hw;rw[Ay]at hw;let⟨k,hj,rfl⟩:=Ba.mp hw;have a:j<↥q.parts-2:=by have:=(An.mp hj).1;simpa using this
   obtain rfl:k=j:=by rw[Qa a]at hj;exact(Ct hj).symm
   have K:((1:Int)+(k:Int))=((k+1:Nat):Int):=by lia
   rw[K];refine⟨λJ=>?_,?_⟩
   .rw[HT.sIx_nat]at J;have:=J.1;lia
   .rw[KZ (by lia),<-Qg,<-r6];have E:=vP (ts:=(gS q.parts).take k) (acc:=cI (rs.take i));have Z:=List.length_take_le k (gS q.parts);refine pM aJ (by rw[Ab];exact cM (by lia)) (H _ _ ⟨_,rfl,?_⟩);rw[b7,zeA,zeD a,KY];rfl
  .rintro U V ⟨t,rfl,rfl⟩;refine H _ _ ⟨_,_,rfl,?_⟩;have:↥(lU 1 (↥q.parts-2))=↥(gS q.parts):=by unfold lU gS;simp
   rw[this,Bw,zeC N]
 .rintro U V ⟨s,t,rfl,rfl⟩;rw[Ab,Bw];refine⟨_,aJ,λq N=>?_⟩;have D:q≠p:=λe=>by subst e;rw[aJ]at N;cases N
  rw[aY D]at N;refine⟨_,?_,r q N⟩;rw[Bp];have e:(cI rs).map ((λ(p:↑aC×W)=>W.tup (p.1.map wK)) ∘ jR)=(cI rs).map λe=>W.tup (e.map W.str):=Fb λl _=>by show W.tup ((fD l).map wK)=_;rw[r6]
  rw[e];exact Sub.put (Sub.new G)
noncomputable def Bt(P:Be)(w:Br)(C:Am)(M:Mm)(a d s:Am)(l:↑(NP×W)):Mm:=put (put M a (.ins C s [("backs",.ref d)])) d (.dn P w [0] (kvsOf l))
theorem Bt.pl{P:Be}{w:Br}{C:Am}{M:Mm}{a d s:Am}{l:↑(NP×W)}(h:a≠d):j9 P w C (Bt P w C M a d s l) a d s l:=⟨by unfold Bt;rw[aY h,aJ],aJ⟩
theorem Bt.sub{P:Be}{w:Br}{C:Am}{M:Mm}{a d s:Am}{l:↑(NP×W)}(m:M a=ae)(hd:M d=ae)(h:a≠d):Sub M (Bt P w C M a d s l):=(Sub.new m).trans (Sub.new (by rw[aY (Ca h)];exact hd))
theorem Bt.put{P:Be}{w:Br}{C:Am}{M:Mm}{a d s:Am}{l F:↑(NP×W)}:L2.put (Bt P w C M a d s l) d (.dn P w [0] (kvsOf F))=Bt P w C M a d s F:=b7
theorem Bt.first{P:Be}{w:Br}{C:Am}{M:Mm}{a d s:Am}{o:MO}(h:a≠d):L2.put (L2.put (L2.put M a o) d (.dn P w [0] [])) a (.ins C s [("backs",.ref d)])=Bt P w C M a d s []:=by
 unfold Bt kvsOf;rw[mQ (Ca h),b7];rfl
theorem nG{d:Am}:Cm ("put_rule" : Av) [(("backs" : Av),W.ref d)]=ae:=by
 rw[Ea,show(("put_rule" : Av)==("backs" : Av))=ac by decide +kernel];rfl
theorem sA{d:Am}:Cm ("grammar_and_backs" : Av) [(("backs" : Av),W.ref d)]=ae:=by
 rw[Ea,show(("grammar_and_backs" : Av)==("backs" : Av))=ac by decide +kernel];rfl
theorem zeG{P:Be}{w:Br}{C:Am}:bE KU (zer P w C) zeo:=by
 rintro _ M R ⟨rs,rfl,f,G,r⟩;have hf:=f.few;have t:=f.sum;have p:=AI f.prt;refine⟨rs,rfl,f,aP.frz ⟨rs,rfl,by lia,aP.frz ⟨namesOf rs,↥(cI rs),by rw[Ab],by lia,aP.frz ⟨iH rs,by rw[zdz f,zdy f];rfl,?_⟩⟩⟩⟩;rw[zdx f];refine λa s m y _=>⟨a,s,rfl,aJ,λd hd=>⟨rfl,?_⟩⟩
 have j:a≠d:=λe=>by rw[<-e,aJ]at hd;cases hd
 rw[aY (Ca j)]at hd;rw[Bt.first j];generalize Y:(cI rs).map (λe=>W.tup (e.map W.str))=E;refine dB (λi U V=>∃l n X I,U=[aa (.rl (rs.map bF)),aa (.rl E),aa (.dt (iH rs)),aa (.ref a),n,X,I,ae]/\V=Bt P w C M a d s l/\(∀z∈l,vW rs z)/\↥l<=i/\(0<i->Hd (f0 rs) True l)) ⟨[],_,_,_,rfl,rfl,(λ_ h=>nomatch h),Ai _,λh=>absurd h ∅⟩ ?_ ?_
 .rintro i v U V hw ⟨l,n,X,I,rfl,rfl,hl,c,hd⟩ T H;rw[rL,Ay,Option.map_map]at hw;let⟨q,N,rfl⟩:=Ba.mp hw;have L:=vS rs q.parts;have hi:i<↥rs:=(An.mp N).1;refine⟨rfl,rfl,rs,q.parts,rfl,f,JY (Ao N),mI (Bt.pl j).ob nG ⟨fW rs q.parts,rfl,by lia,a,d,s,l,(q.name,fW rs q.parts),_,rfl,Bt.pl j,by lia,λF g=>H _ _ ⟨F,_,_,_,rfl,Bt.put,g.all hl (λz e=>.inl ⟨i,q,N,by rw[e,Mx]⟩),Ap g.len (Eu c),λ_=>?_⟩⟩⟩;cases i with
  | zero=>
   cases l with
   | nil=>
    refine Hd.of g (λz e=>?_) λ_=>⟨_,rfl⟩
    cases rs with
    | nil=>cases N
    | cons A rs=>cases N;rw[e];rfl
   | cons z l=>cases c
  | succ i=>exact(hd (Tp i)).ex g
 .rintro U V ⟨u,n,X,I,rfl,rfl,Q,k,b⟩;rw[kW,Ab]at k b;have b:=b (Ir.mpr G);refine dB (λi U V=>∃l n X I o,U=[aa (.rl (rs.map bF)),aa (.rl E),aa (.dt (iH rs)),aa (.ref a),n,X,I,o]/\V=Bt P w C M a d s l/\(∀z∈l,vW rs z)/\↥l<=↥rs+i/\Hd (f0 rs) True l) ⟨u,_,_,_,_,rfl,rfl,Q,k,b⟩ ?_ ?_
  .rintro i v U V hw ⟨l,n,X,I,o,rfl,rfl,hl,c,hd⟩ T H;rw[<-Y,Ay]at hw;let⟨e,Z,rfl⟩:=Ba.mp hw;have S:e∈cI rs:=Ao Z;have L:=vS rs e;have hi:i<↥(cI rs):=(An.mp Z).1;exact⟨rs,e,rfl,f,JZ S,mI (Bt.pl j).ob nG ⟨.str (fE rs e),⟨fD e,by rw[r6],(AN f S).1.symm⟩,fW rs e,rfl,by lia,a,d,s,l,(fE rs e,fW rs e),_,rfl,Bt.pl j,by lia,λF g=>H _ _ ⟨F,_,_,_,_,rfl,Bt.put,g.all hl (λz q=>.inr ⟨e,S,q⟩),Ap g.len (Eu c),hd.ex g⟩⟩⟩
  .rintro U V ⟨l,n,X,I,o,rfl,rfl,hl,c,J⟩;rw[<-Y,Ab]at c;exact mI (Bt.pl j).ob sA ⟨a,d,s,l,rfl,Bt.pl j,_,Bt.sub m hd j,r l hl (by lia) J⟩
theorem nH{ps:↑Av}{M:Mm}(h:∀t∈ps,Sh t):Pl 2 (cX M (.tup (ps.map W.str))):=λw hw=>by
 let⟨t,ht,rfl⟩:=Ar.mp hw;exact m9 (h t ht).asc
section
variable {X:Cx}{pos:Hv}{a b:Ck}{ta tb te:aR}
theorem dO{i:Nat}{x:Av}(hi:X.N[i]? = aa x:=by rfl)(J:Loc X.env.scope x:=by first|exact .inl rfl|exact .inr rfl)(t:X.N.Nodup:=by exact Wa (by kernel_rfl))(hf:Fy X x:=by first|exact .inl rfl|exact .inr rfl|assumption):PG X (.Name x pos) (iS X.K (aX i)):=FO t hi J hf
variable {tg iter elt:Ck}{ifs:↑Ck}{sc:Le}{wi:gM}{g:eQ}{tt:dE}
end
theorem kA{N ps:↑Av}{sc:Le}(a:sc.kind=.function:=by rfl)(b:sc.isCoroutine=ac:=by rfl)(c:sc.isGenerator=ac:=by rfl)(d:N.Nodup:=by decide +kernel)(e:N.take ↥ps=ps:=by rfl)(f:∀x∈ps,sc.names.lookup x=aa .local\/sc.names.lookup x=aa .cell:=by decide +kernel)(g:∀y∈sc.names,y.2≠.free:=by decide +kernel):mL N ps sc:=⟨a,b,c,d,e,f,g⟩
theorem K0{C:↑Ae->Prop}(h:C [])(us:↑Ae)(e:↥us=0):C us:=by rw[Fl.mp e];exact h
theorem sC{C:↑Ae->Prop}{n:Nat}(k:∀a us,↥us=n->C (a::us)):∀us:↑Ae,↥us=n+1->C us
 | a::l,e=>k a l (Sg e)
theorem vZ{C:↑Ae->Prop}(h:∀a,C [a]):∀us:↑Ae,↥us=1->C us:=sC λa=>K0 (h a)
theorem v3{C:↑Ae->Prop}(h:∀a b,C [a,b]):∀us:↑Ae,↥us=2->C us:=sC λa=>vZ (h a)
theorem v5{C:↑Ae->Prop}(h:∀a b c,C [a,b,c]):∀us:↑Ae,↥us=3->C us:=sC λa=>v3 (h a)
theorem v7{C:↑Ae->Prop}(h:∀a b c d,C [a,b,c,d]):∀us:↑Ae,↥us=4->C us:=sC λa=>v5 (h a)
theorem AY{C:↑Ae->Prop}(h:∀a b c d e,C [a,b,c,d,e]):∀us:↑Ae,↥us=5->C us:=sC λa=>v7 (h a)
def AZ(x q:Av)(st:Jy)(ps:↑Av):Prop:=∀(kV doc pm:Ae) (an:Option Am) (cdv ct:Ae) (us:↑Ae),↥us=↥ps->bindArgs (Gb x q (jF st) (gD st) (dP st) .none kV doc pm an cdv ct) ⟨us,[]⟩=pure (ps.zip us)
section
variable {K:Ac}{mg:Av->Option Ae}{h:Du}{x q:Av}{st:Jy}{C f:Am}{ps:↑Av}{an:Option Am}{kV doc pm cdv ct:Ae}
theorem dF(X:K.In h)(G:h.Ns Ed mg)(Z:AZ x x st ps:=by first|exact λ_ _ _ _ _ _=>vZ λ_=>rfl|exact λ_ _ _ _ _ _=>v3 λ_ _=>rfl|exact λ_ _ _ _ _ _=>v5 λ_ _ _=>rfl|exact λ_ _ _ _ _ _=>v7 λ_ _ _ _=>rfl|exact λ_ _ _ _ _ _=>AY λ_ _ _ _ _=>rfl|exact λ_ _ _ _ _ _=>ar6 λ_ _ _ _ _ _=>rfl|exact λ_ _ _ _ _ _=>ar7 λ_ _ _ _ _ _ _=>rfl|exact λ_ _ _ _ _ _=>K0 rfl)(n:Sn K Ed x=aa (aa (.ref f)):=by kernel_rfl)(l:K.lookup f=aa ⟨.type "function",ae,.func (Gb x x (jF st) (gD st) (dP st) .none kV doc pm an cdv ct),#[]⟩:=by kernel_rfl)(c:Kw K cdv x=ab:=by kernel_rfl)(k:Gj K (.ref f)=ab:=by kernel_rfl):Df K mg x st ps f (Gb x x (jF st) (gD st) (dP st) .none kV doc pm an cdv ct):=⟨oX l c k,Jz X G n,(oX l c k).binds Z⟩
theorem dM(Z:AZ x q st ps:=by first|exact λ_ _ _ _ _ _=>vZ λ_=>rfl|exact λ_ _ _ _ _ _=>v3 λ_ _=>rfl|exact λ_ _ _ _ _ _=>v5 λ_ _ _=>rfl|exact λ_ _ _ _ _ _=>v7 λ_ _ _ _=>rfl|exact λ_ _ _ _ _ _=>AY λ_ _ _ _ _=>rfl)(a:Fj K (.ref C) x=aa (aa (.ref f)):=by kernel_rfl)(n:Nv K (.ref f)=ab:=by kernel_rfl)(l:K.lookup f=aa ⟨.type "function",ae,.func (Gb x q (jF st) (gD st) (dP st) .none kV doc pm an cdv ct),#[]⟩:=by kernel_rfl)(c:Kw K cdv q=ab:=by kernel_rfl)(k:Gj K (.ref f)=ab:=by kernel_rfl):Dm K C x q st ps f (Gb x q (jF st) (gD st) (dP st) .none kV doc pm an cdv ct):=⟨oX l c k,⟨a,n,k⟩,(oX l c k).binds Z⟩
theorem dI(Z:AZ x q st ps:=by first|exact λ_ _ _ _ _ _=>vZ λ_=>rfl|exact λ_ _ _ _ _ _=>v3 λ_ _=>rfl|exact λ_ _ _ _ _ _=>v5 λ_ _ _=>rfl|exact λ_ _ _ _ _ _=>v7 λ_ _ _ _=>rfl|exact λ_ _ _ _ _ _=>AY λ_ _ _ _ _=>rfl)(m:Qx K C=ab:=by kernel_rfl)(a:Fj K (.ref C) "__init__" = aa (aa (.ref f)):=by kernel_rfl)(n:Nv K (.ref f)=ab:=by kernel_rfl)(d:Gj K (.ref C)=ab:=by kernel_rfl)(l:K.lookup f=aa ⟨.type "function",ae,.func (Gb x q (jF st) (gD st) (dP st) .none kV doc pm an cdv ct),#[]⟩:=by kernel_rfl)(c:Kw K cdv q=ab:=by kernel_rfl)(k:Gj K (.ref f)=ab:=by kernel_rfl):Di K C x q st ps f (Gb x q (jF st) (gD st) (dP st) .none kV doc pm an cdv ct):=⟨oX l c k,⟨m,a,n,d⟩,(oX l c k).binds Z⟩
variable {P:Be}{w:Br}{base:Du}{fd:Ff}{N:↑Av}{k:Nat}{sp:aV}{rd:aE}
theorem v8(P:Be)(w:Br)(mg:Av->Option Ae)(base:Du)(k:Nat)(F:jH K x q st f fd)(_:Binds K fd ps [])(S:mL N ps (dP st))(len:∀ws M R,sp ws M R->↥ws=↥ps)(a:bE sp rd N)(d:∀{cdv:Ae} {A:Cw} {outer:↑Uv} {s:Ak} {H:Hp} {E:XK},cQ k (A.deeper (Ma q (dP st) ⇑s f cdv))->(A.deeper (Ma q (dP st) ⇑s f cdv)).units+1<Fg->N.Nodup->jL (kF eD P w K mg base N q (dP st) f cdv A outer s H E).nox (gD st) rd):hW P w K mg base eD (k+1) f fd ps (eW K sp):=
 pJ F S len λ_ _ _ _ _ _ _ _ _ T h=>⟨rd,d T (DK T) S.nd,a _ _ _ h⟩
theorem A1(P:Be)(w:Br)(mg:Av->Option Ae)(base:Du)(k:Nat)(F:jH K x q st f fd)(_:Binds K fd ps [])(S:mL N ps (dP st))(a:bE sp rd N)(d:∀{cdv:Ae} {A:Cw} {outer:↑Uv} {s:Ak} {H:Hp} {E:XK},cQ k (A.deeper (Ma q (dP st) ⇑s f cdv))->(A.deeper (Ma q (dP st) ⇑s f cdv)).units+1<Fg->N.Nodup->jL (kF eD P w K mg base N q (dP st) f cdv A outer s H E).nox (gD st) rd)(len:∀ws M R,sp ws M R->↥ws=↥ps:=by intro _ _ _ h;repeat (first|(let⟨rfl,_⟩:=h;exact rfl)|let⟨_,h⟩:=h)):hW P w K mg base eD (k+1) f fd ps (eW K sp):=
 pJ F S len λ_ _ _ _ _ _ _ _ _ T h=>⟨rd,d T (DK T) S.nd,a _ _ _ h⟩
end
section
variable {X:Cx}{pos p:Hv}{x:Av}{st:Jy}{e:Ck}{es:↑Ck}{t:c0}{k j:Nat}{f:Am}{fd:Ff}{ps:↑Av}{sp:aV}
theorem bX(F:X.f eD k f fd ps (eW X.K sp))(D:Df X.K X.mg x st ps f fd)(T:cQ j X.A)(m:A3 X (e::es) t)(hj:k<=j:=by decide)(hg:Gl X x:=by rfl)(o:Db x:=by decide)(Z:Se X e es:=by rfl)(a:Sb X pos es:=by rfl):
  E3 X (.Call (.Name x p) (e::es) [] pos) (aS sp t):=n5 F (T.mono hj) hg D.at_ D.fn.kp D.bi m o Z a
end
section
variable {X:Cx}
def zeH(tk D:TE):TE:=λC H Q=>∀p,H p=ae->tK [(tk,D)] C (aL H p (.dT [])) λps w=>∃(b:Am) (y:V) (k:↑aC),ps=[(.ref b,y)]/\w p=aa (.dT [])/\w b=aa (.tup (k.map kV))/\Q (.ref p) (aL w p (.dT [(k,y)]))
theorem zeI{k v:Ck}{tk tv:TE}{pos:Hv}(hu:X.A.units+1<Fg)(hk:PE X k tk)(hv:PE X v tv):PE X (.Dict [aa k] [v] pos) (zeH tk tv):=by
 intro af s Z H Q I q;have hn:=I.hok.fresh (Ai ⇑s);have I1:=I.laid (a:=⇑s) (o:=.dT []) (h':=s.heap.push {cls:=.type "dict",data:=.dict #[]}) (t':=s.toks) (λ_ _ q=>Af _ q) (Ai _) (DD s.heap I.big);refine wpAny_Dict_any rfl rfl (λh=>nomatch h) (by decide:1<=15) (aZ (DF hk hv DE af _ Z _ _ I1 (q _ hn)) λws s2 z0=>?_);let⟨ps,H2,I2,rel,b,y,k,ep,e,eb,q2⟩:=z0;subst ep;cases rel with
 | @cons a1 b1 _ _ r1 r2=>
  cases r2;let⟨u1,u2⟩:=b1;let⟨ru,rv⟩:=r1;cases (show u1=Value.ref b from ru);let⟨z,hd,xs,rel,dd⟩:=qO I2.hok e;cases rel;unfold storeAll;rw[Ko];refine Aa (Aa (Rm (hsz:=Cs _) (Lm hu) (i4 I2.hok eb) dd λh' dd' hs=>Ah ?_));show Bm _ _ (pure PUnit.unit) _ _ _;refine Ah ⟨.ref _,_,?_,rfl,q2⟩;let⟨q,es,ep,hq,h2,h3,h4,_,h5⟩:=dd';refine nT I2 (by rw[e];exact True.intro) hs ⟨q,hq⟩ ⟨show 1<=Au by decide,hd,_,((show KT H2 [] [] from .nil).put k eb rv).keeps λc ys ec=>?_,q,es,ep,hq,h2,h3,h4,h5⟩;rw[bD (sO ec e (λz=>nomatch z))];exact ec
end
section
variable {X:Cx}{a b:Ck}{ta tb:aR}{pos p:Hv}
abbrev K1(ta tb:aR):aR:=λU M R=>∀p,M p=ae->ta U (put M p (.dT [])) λx I=>tb U I λy f=>f p=aa (.dT [])/\∃k:↑aC,x=.tup (k.map wK)/\R (.ref p) (put f p (.dT [(k,y)]))
theorem zeJ(W:X.A.units+1<Fg)(m:E3 X a ta)(Z:E3 X b tb):E3 X (.Dict [aa a] [b] pos) (K1 ta tb):=
 (zeI W m Z).weak λC H Q d=>d.el λU M R J Y h k=>λp G=>by
  let⟨L,i⟩:=Y.laid (o:=.dT []) (u:=.dT []) G ⟨[],b8,.nil⟩;refine⟨U,_,_,J.kp Y i,L,h p (Y.nonM G),λx j t I B P N O=>⟨U,I,_,(J.kp Y i).kp L B,P,O,λy w l s F E S ⟨e,n,ex,r⟩=>?_⟩⟩;subst ex;let⟨ks,f,q⟩:=E _ _ e;cases q;have z:=N.kp P F;exact z.tupE λc xs K D v=>by
   let⟨g,V⟩:=E.write (o:=.dT [(n,l)]) (u:=.dT [(n,y)]) e ⟨_,b8,.cons ⟨rfl,S.wr E e⟩ .nil⟩;exact⟨c,y,n,by rw[K],f,by rw[<-v.keys];exact D,k _ _ _ _ (((i.trans B).trans F).trans V) g (.ref _) r⟩
variable {x:Av}{e:Ck}{es:↑Ck}{t:c0}{k j i:Nat}{f:Am}{fd:Ff}{ps:↑Av}{sp:aV}
abbrev A2(i:Nat)(f:Am)(sp:aV)(t:c0):aR:=λU M R=>U[i]? = aa (aa (.ref f))/\aS sp t U M R
theorem K2{g:Am}(ef:g=f)(F:X.f eD k f fd ps (eW X.K sp))(T:cQ j X.A)(hk:Gj X.K (.ref f)=ab)(Z:Binds X.K fd ps [])(m:A3 X (e::es) t)(hj:k<=j:=by decide)(L:X.N[i]? = aa x:=by rfl)(c:sQ X.env.scope x:=by first|exact Or.inl rfl|exact Or.inr (Or.inl rfl)|exact Or.inr (Or.inr rfl))(hd:Db x:=by decide)(o:(x==("__classdict__" : Av))=ac:=by decide)(d:Se X e es:=by rfl)(a:Sb X pos es:=by rfl):
  E3 X (.Call (.Name x p) (e::es) [] pos) (A2 i g sp t):=by
 subst ef;intro B s C H Q I ⟨U,M,R,J,Y,⟨O,h⟩,y⟩;have gc:=EV (K:=X.K) ⟨U,M,R,J,Y,h,y⟩;let⟨v,D,av⟩:=J.get O;refine Dy (aZ (B3 (pos:=p) L c hd o B s C H (λw l=>w=.ref g/\l=H) I ⟨v,D,av.inv,rfl⟩) λu P E=>?_);let⟨w,G,n,W,ew,eH⟩:=E;subst ew eH;cases W;exact Mh (h₀:=X.base) n.ok.mod.kin hk (aZ (m pos B P C G _ n gc) λus V b=>by let⟨vs,z,S,r,q⟩:=b;exact⟨S.kIn,tE F (T.mono hj) Z .nil oW S r q⟩) d a
theorem K4{g f:Am}{fd:Ff}{ps:↑Av}{x:Av}{pos:Hv}{st:Jy}(a:g=f)(D:Df X.K X.mg x st ps f fd)(hg:Gl X x:=by rfl)(hd:Db x:=by decide):E3 X (.Name x pos) (vC (.ref g)):=by
 subst a;exact qW (y:=.ref g) hg D.at_ rfl (λ_ _=>.ref _) hd
end
end L2
namespace PySem
namespace Et
open L2
section
variable {prog:Be}{w:Br}{A:Cw}{E:Ae->Ak->Prop}{s:Ak}
theorem draws(hh:A.handled=ae)(it l:Am)(S:l≠it)(items:Array Ae):Draws prog w A it [it,l] items.size (λi v=>items[i]? = aa v) (λi h=>h.IsTupleIter it l i/\h.IsTuple l items) where
 live:=λ_ _ st=>let ⟨o,ho,_⟩:=st.1;⟨o,ho⟩
 frame:=λk h h' st hk=>(Zt.side_tuple (prog:=prog) (w:=w) it l S items).keep k h h' st λc hc o e=>hk c (by rcases hc with rfl|rfl<;>simp) o e
 item:=λi s Q E hi st H=>(Zt.side_tuple it l S items).item A E s i items[i] Q st (by simp[hi]) λh' a b=>H _ h' s.toks (by simp[hi]) a b
 done:=λs Q E st Y=>(Zt.side_tuple it l S items).stop A E s _ Q hh st (by simp) Y
theorem meets_new(l:Am)(items:Array Ae)(n:Nat)(a:Option Am)(sl:Array (Option Ae)):
  Meets (Ha.«enumerate.__new__» ⟨[.type "enumerate",.ref l],[]⟩) (λ_ R s=>s.heap.get? l=aa {cls:=.type "tuple",dict:=a,data:=.seq items n,slots:=sl}/\
   R (.ok (.ret (.ref (s.heap.push {cls:=.type "tuple_iterator",data:=.fields #[.ref l,.int 0 0]}).objs.size)))
    {s with heap:=(s.heap.push {cls:=.type "tuple_iterator",data:=.fields #[.ref l,.int 0 0]}).push {cls:=.type "enumerate",data:=.fields #[.none,.bool ac,.ref ⇑s,Hr 0,.none,.none]}}):=
 .of_wp λprog w A R s h=>by
  let⟨G,g,d,tk,os⟩:=s;let⟨hl,h⟩:=h;have z:=sub_enumerate;have j:Qv (Td ⟨G,g,d,tk,os⟩) l items:=⟨_,hl,rfl,n,rfl⟩
  wp_walk using Jx hl
  refine wpAny_stack_any λst=>Ah ?_;split
  .rename_i c _ _ _ _ _;cases (c==Value.type "enumerate")
   .wp_walk using Jx hl,Ji j
    exact⟨_,rfl,h⟩
   .wp_walk using Jx hl,Ji j
    exact⟨_,rfl,h⟩
  .wp_walk using Jx hl,Ji j
   exact⟨_,rfl,h⟩
theorem call_new{l:Am}{items:Array Ae}{Q:Ae->Ak->Prop}(j:s.heap.IsTuple l items)(h:∀h',IsEnum h' (⇑s+1) ⇑s 0 .none->h'.IsTupleIter ⇑s l 0->(∀b o,s.heap.get? b=aa o->h'.get? b=aa o)->Q (.ref (⇑s+1)) {s with heap:=h'}):
  Bm (De prog w) A (call (.type "enumerate") [.ref l]) Q E s:=by
 obtain⟨⟨c,a,dt,sl⟩,hl,hc,n,hd⟩:=j;cases (show c=.type "tuple" from hc);cases (show dt=.seq items n from hd);refine Ut F.called_enumerate ∅ (F.typeCall_enumerate_1 _) (F.newCall_enumerate_1 _) (λobj=>Qh obj _) F.entry_enumerate_new (meets_new l items n a sl) ⟨hl,?_⟩;have hz:(s.heap.push {cls:=.type "tuple_iterator",data:=.fields #[.ref l,.int 0 0]}).objs.size=⇑s+1:=Es ..;show _/\_;rw[hz];have Z:IsEnum ((s.heap.push {cls:=.type "tuple_iterator",data:=.fields #[.ref l,.int 0 0]}).push {cls:=.type "enumerate",data:=.fields #[.none,.bool ac,.ref ⇑s,Hr 0,.none,.none]}) (⇑s+1) ⇑s 0 .none:=by
  have:=Az (s.heap.push {cls:=.type "tuple_iterator",data:=.fields #[.ref l,.int 0 0]}) (o:={cls:=.type "enumerate",data:=.fields #[.none,.bool ac,.ref ⇑s,Hr 0,.none,.none]}) rfl;rw[hz]at this;exact this
 exact⟨⟨_,Z,rfl⟩,h _ Z ⟨_,Af _ (Az _ rfl),rfl,rfl⟩ λb o x=>Af _ (Af _ x)⟩
end
end Et
end PySem
namespace L2
section
variable {X:Cx}
def K5(K:Ac)(a:Am)(xs:↑V):It:=
 ⟨λi H=>bL K H a xs/\i<↥xs,
   λi H x l=>∃p u,xs[i]? = aa u/\H p=ae/\x=.ref p/\l=aL H p (.tup [.int (i:Nat),u]),
   λi H=>bL K H a xs/\i=↥xs⟩
theorem zeK{P:Be}{w:Br}{K:Ac}{es:↑Ck}{kx:Nat}{G:Hv}(a e it:Am)(xs:↑V)(S:e≠it)(hea:e≠a)(p:a≠it):
  i0 P w K (.Tuple es kx G) (K5 K a xs) [e,it] e (λi h=>(∃old,IsEnum h e it (i:Nat) old)/\h.IsTupleIter it a i) where
 mem:=by simp
 obj:=λi h st c hc=>by
  obtain⟨⟨old,O⟩,⟨n,m,_,L⟩⟩:=st;simp only[Aw,Ew,or_false]at hc;rcases hc with rfl|rfl
  .exact⟨_,O,λv q=>by cases q⟩
  .exact⟨_,m,λv q=>by rw[L]at q;cases q⟩
 keep:=λi h h' st k=>by
  obtain⟨⟨old,O⟩,⟨n,m,t⟩⟩:=st;exact⟨⟨old,k e (by simp) _ O⟩,⟨n,k it (by simp) _ m,t⟩⟩
 item:=by
  intro X R hw Q hc i B s C H E I hf st hg;subst R hw Q;obtain⟨⟨old,O⟩,m⟩:=st;let⟨r,hi⟩:=hg;let⟨its,U,pl,hz⟩:=I.tuple r;let⟨u,W,ru⟩:=U.get (Bg hi);have hl:=↥U;refine wpAny_pyNext_enum_itemD (Et.draws (A:=X.A.in1) (I.ok.hd hc) it a p its.toArray) O ⟨m,pl⟩ (by simp;lia) S (by simp[S,hea]) λx h' tk J f Z D T hk=>?_;have ex:x=u:=by
   have J:its.toArray[i]? = aa x:=J;rw[List.getElem?_toArray,W]at J;exact(Ct J).symm
  subst ex;refine⟨_,rfl,wpAny_letOwnedTupleGo_enum f λd g sb=>?_⟩;have y:H ⇑s=ae:=I.hok.fresh (Ai _);have b:e<⇑s:=Bd O;have Y:it<⇑s:=by let⟨_,q,_⟩:=m;exact Bd q
  have j:∀q o,q∉[e,it]->s.heap.get? q=aa o->d.get? q=aa o:=λq o N eq=>by
   simp only[Aw,Ew,or_false,not_or]at N;exact(sb.2 q N.1).trans (hk q o N.1 N.2 eq)
  have l:d.get? ⇑s=aa {cls:=.type "tuple",data:=.seq [.int (i:Nat) tk,x].toArray}:=(sb.2 _ (Cq b)).trans D;have M:Inv X B C (aL H ⇑s (.tup [.int (i:Nat),xs[i]])) {s with heap:=d,toks:=tk+1}:=I.laidT (its:=[.int (i:Nat) tk,x]) hf j (by show 2<=Au;decide) (.cons ⟨_,rfl⟩ (.cons ru .nil)) l;refine⟨.ref ⇑s,_,M,rfl,⟨⇑s,xs[i],Bg hi,y,rfl,rfl⟩,⟨⟨x,by rw[Sf];exact g⟩,Z.1.extBut sb.extBut S.symm⟩,λq N=>?_⟩;rw[bD]
  .exact(hf q N).1
  .intro eq;subst eq;simp only[Aw,Ew,or_false]at N;rcases N with q|q
   .exact Cq b q
   .exact Cq Y q
 done:=by
  intro X R hw Q hc i B s C H E I hf st hg;subst R hw Q;obtain⟨⟨old,O⟩,m⟩:=st;let⟨r,rfl⟩:=hg;let⟨its,U,pl,hz⟩:=I.tuple r;have F:=↥U;refine wpAny_pyNext_enum_endD (Et.draws (A:=X.A.in1) (I.ok.hd hc) it a p its.toArray) O (show Heap.IsTupleIter s.heap it a its.toArray.size/\Qv s.heap a its.toArray from⟨by rw[Bi,<-F];exact m,pl⟩) λh' hk=>⟨rfl,?_⟩
  exact I.turnedT (tk:=s.toks) hf λq o N eq=>hk q o (λz=>N (by simp[z])) eq
 self:=λ_ _ _ _ _ st h=>by
  obtain⟨⟨old,O⟩,_⟩:=st;exact Od O h
def zeL(K:Ac)(ta:TA):TI:=λC H R=>ta C H λvs j=>∃a xs,vs=[.ref a]/\bL K j a xs/\R (K5 K a xs) j
theorem zeM{a:Ck}{ta:TA}{p pos:Hv}{es:↑Ck}{kx:Nat}{G:Hv}(hg:Gl X "enumerate")(S:X.mg "enumerate" = ae)(m:PA X [a] ta)(F:Ci [a] X.env=[(ac,Ef a X.env)]:=by rfl):
  PI X (.Tuple es kx G) (.Call (.Name "enumerate" p) [a] [] pos) (zeL X.K ta):=by
 intro B s C H R I h;refine Vr (gE I hg S boot_enumerate (Cd (aZ (m pos B s C H _ I h) λus U A=>?_) F rfl));let⟨vs,j,M,l,g⟩:=A;let⟨a,xs,rfl,r,q⟩:=g;let⟨u,rfl,ru⟩:=vals1 l;cases ru;let⟨its,n,pl,hz⟩:=M.tuple r;have z:a<⇑U:=by let⟨o,e,_⟩:=pl;exact Bd e
 refine Et.call_new pl λh' W P k=>?_;refine Od W ?_;refine⟨⇑U+1,[⇑U+1,⇑U],_,_,j,rfl,M.kept (t':=U.toks) k,zeK a _ _ xs (D5 1 ∅) (Ca (Bn (Np z))) (Bn z),⟨⟨_,W⟩,P⟩,λq N=>?_,q⟩;have b:⇑U<=q:=by
  simp only[Aw,Ew,or_false]at N;rcases N with e|e
  .rw[e];exact D6 1
  .rw[e];exact Ai _
 exact M.fpOk b (M.hok.fresh b)
end
section
variable {X:Cx}{a:Ck}
abbrev A4(ta:c0):gM:=λU M R=>ta U M λws I=>∃g,ws=[.tup g]/\R (gN 0 g) (λ_=>True) I
theorem zeN{c:c0}{p pos:Hv}{es:↑Ck}{kx:Nat}{G:Hv}(hg:Gl X "enumerate")(S:X.mg "enumerate" = ae)(m:A3 X [a] c)(F:Ci [a] X.env=[(ac,Ef a X.env)]:=by rfl):PI X (.Tuple es kx G) (.Call (.Name "enumerate" p) [a] [] pos) (fT X.K (A4 c)):=
 (zeM hg S m F).weak λC H Q A=>A.el λU M R J Y h k=>⟨U,M,_,J,Y,h,λvs j ws I B P N ⟨g,e,r⟩=>by
  subst e;let⟨v,rfl,av⟩:=N.one;exact av.tupE λb xs T z f=>⟨b,xs,by rw[T],bL.of z,k _ _ _ _ _ B P (by
   have st:∀H M,Kp j I H M->AM X.K H M->bL X.K H b xs:=λH M k _=>bL.of (k.fr _ _ (P.noTup z) z).1;refine⟨λi H M k Y kp hi=>⟨st H M k Y,by rw[kW]at hi;rw[↥f];exact hi⟩,λH M k Y kp=>⟨st H M k Y,by rw[kW,↥f]⟩,λi H M x l k Y kp hi y=>?_⟩;let⟨n,u,W,hn,rfl,rfl⟩:=y;let⟨w,hw,av⟩:=(f.kp P k).getV W;let⟨E,t⟩:=Y.tup (u:=.tup [.int (i:Nat),u]) hn;exact⟨.tup [.int ((i:Nat):Int),w],by rw[rL,hw];simp,t,E,.tup b8 (.cons (.int _) (.cons (av.go (go_same hn)) .nil))⟩) r⟩⟩
end
section
variable {X:Cx}
theorem v9{P:Be}{w:Br}{H:Hp}{h:Du}{a:Am}{ks:↑(aC×V)}{o:Ms}(ok:cS P w H h)(e:H a=aa (.frz o (.dK ks))):∃vs es ep,KV ks vs/\o.data=.dict es ep/\h.DictAt (bU P w) a vs ep/\(a==Fu)=ac:=by
 let⟨f,hz,S,vs,T,t,es,ep,O,r⟩:=(show b5 P w H h a (.frz o (.dK ks)) from ok a _ e);rw[f]at O;cases O;exact⟨vs,es,ep,T,r.2.1,⟨o,es,f,r⟩,S⟩
def wA(a:Am)(o:Ms)(ks:↑(aC×V)):It:=
 ⟨λi H=>H a=aa (.frz o (.dK ks))/\i<↥ks,
   λi H x l=>∃p z,ks[i]? = aa z/\H p=ae/\x=.ref p/\l=aL H p (.tup [kV z.1,z.2]),
   λi H=>H a=aa (.frz o (.dK ks))/\i=↥ks⟩
theorem zeO{ks:↑(aC×V)}{vs:↑(aC×Ae)}(r:KV ks vs){i:Nat}{z:aC×V}(h:ks[i]? = aa z):∃x,vs[i]? = aa (z.1,x)/\RelV z.2 x:=by
 induction r generalizing i with
 | nil=>cases h
 | @cons p q ps qs N t E=>
  cases i with
  | zero=>cases h;let⟨g,n⟩:=q;cases N.1;exact⟨n,rfl,N.2⟩
  | succ i=>rw[Ep]at h⊢;exact E h
theorem zeP{P:Be}{w:Br}{K:Ac}{es:↑Ck}{kx:Nat}{L:Hv}(a it:Am)(o:Ms)(ks:↑(aC×V))(en:Array Eg)(ep:Nat)(hd:o.data=.dict en ep)(c:a≠it):
  i0 P w K (.Tuple es kx L) (wA a o ks) [it] it (λi h=>∃ok p,IsItemIter h it a i ↥ks ep ok p) where
 mem:=by simp
 obj:=λi h st b Z=>by
  cases (by simpa using Z:b=it);let⟨ok,p,e⟩:=st;exact⟨_,e,λv z=>by cases z⟩
 keep:=λi h h' st k=>by
  let⟨ok,p,e⟩:=st;exact⟨ok,p,k it (by simp) _ e⟩
 item:=by
  intro X R hw Q hc i B s C H E I hf st hg;subst R hw Q;let⟨ok,p,O⟩:=st;let⟨D,hi⟩:=hg;let⟨vs,A,F,T,n,m,_⟩:=v9 I.hok D;cases hd.symm.trans n;obtain⟨z,hz⟩:∃z,ks[i]? = aa z:=⟨_,Bg hi⟩;let⟨x,J,G⟩:=zeO T hz;rw[↥T]at O;refine wpAny_pyNext_items_item O m J λkey h' r f u hsz hk=>?_;refine⟨_,rfl,wpAny_letOwnedTupleGo_items f λd g sb=>?_⟩;have y:H ⇑s=ae:=I.hok.fresh (Ai _);have Y:it<⇑s:=Bd O;have j:∀q o,q∉[it]->s.heap.get? q=aa o->d.get? q=aa o:=λq o N eq=>by
   have N:q≠it:=by simpa using N
   exact(sb.2 q N).trans (hk q o N eq)
  have l:d.get? ⇑s=aa {cls:=.type "tuple",data:=.seq [key,x].toArray}:=(sb.2 _ (Cq Y)).trans u;have M:Inv X B C (aL H ⇑s (.tup [kV z.1,z.2])) {s with heap:=d,toks:=s.toks}:=I.laidT (its:=[key,x]) hf j (by show 2<=Au;decide) (.cons (tR r) (.cons G .nil)) l;refine⟨.ref ⇑s,_,M,rfl,⟨⇑s,z,hz,y,rfl,rfl⟩,⟨key,x,by rw[↥T];exact g⟩,λq N=>?_⟩;rw[bD]
  .exact(hf q N).1
  .cases (by simpa using N:q=it);exact Bn Y
 done:=by
  intro X R hw Q hc i B s C H E I hf st hg;subst R hw Q;let⟨ok,p,O⟩:=st;let⟨D,rfl⟩:=hg;let⟨vs,A,F,T,n,m,_⟩:=v9 I.hok D;cases hd.symm.trans n;rw[↥T]at O;refine wpAny_pyNext_items_end (I.ok.hd hc) O m (by simp) λh' hk=>⟨rfl,?_⟩
  exact I.turnedT (tk:=s.toks) hf λq o N eq=>hk q o (λz=>N (by simp[z])) eq
 self:=λ_ _ _ _ _ st h=>by
  let⟨ok,p,e⟩:=st;exact PySem.W.kcp_self e h
abbrev rItems:V->↑V->Hp->VK->Prop:=λx vs H Q=>∃a o ks,x=.ref a/\vs=[]/\H a=aa (.frz o (.dK ks))/\∀p,H p=ae->Q (.ref p) (aL H p (.ext λh=>h.IsItemsView p a))
theorem zeQ:e8 X "dict.items" rItems:=by
 rintro B s C H x vs v us Q I G rs ⟨a,o,ks,rfl,rfl,e,q⟩;cases (show v=Value.ref a from G);cases rs;let⟨vs,es,ep,T,hd,m,S⟩:=v9 I.hok e;refine Jj PySem.F.slot_dict_items m.dictOf.typeIs PySem.F.entry_dict_items (PySem.F.args_dict_items_1 _) (meets_dict_items (bU X.prog X.w) a S) ⟨⟨vs,m.dictOf⟩,?_⟩;have hf:=I.hok.fresh (Ai ⇑s);exact⟨.ref ⇑s,_,I.laid (a:=⇑s) (o:=.ext λh=>h.IsItemsView ⇑s a) (t':=s.toks) (λ_ _ z=>Af _ z) (Ai _) ⟨⟨_,Az _ rfl,rfl,rfl⟩,⟨_,Az _ rfl⟩,λO L ⟨o,f,r⟩ n=>⟨o,n o f,r⟩⟩,rfl,q _ hf⟩
end
section
variable {X:Cx}
abbrev K6(to:aR):gM:=λU M R=>to U M λd I=>∃kvs,d=.fk kvs/\R (kvs.map λp=>.tup [wK p.1,p.2]) (λ_=>True) I
theorem zeR{K:Ac}{j:Hp}{m:Mm}{a:Am}{o:Ms}{ks:↑(aC×V)}{kvs:↑(aC×W)}(L:AM K j m)(e:j a=aa (.frz o (.dK ks)))(J:bS K j m aC ks kvs):iC K j m (wA a o ks) (kvs.map λp=>.tup [wK p.1,p.2]) λ_=>True:=by
 have st:∀H M,Kp j m H M->H a=aa (.frz o (.dK ks)):=λH M k=>(k.fr _ _ (L.noFrz e) e).1;have hl:=Dg J;refine⟨λi H M k Y _ hi=>⟨st H M k,by rw[Ab]at hi;lia⟩,λH M k Y _=>⟨st H M k,by rw[Ab];lia⟩,λi H M x l k Y _ hi y=>?_⟩;let⟨n,z,hz,hn,rfl,rfl⟩:=y;obtain⟨y,I,D,av⟩:∃y,kvs[i]? = aa y/\z.1=y.1/\AV K j m z.2 y.2:=by
  have:∀{ks:↑(aC×V)} {kvs:↑(aC×W)} {i:Nat},bS K j m aC ks kvs->ks[i]? = aa z->∃y,kvs[i]? = aa y/\z.1=y.1/\AV K j m z.2 y.2:=by
   intro ks kvs i r
   induction r generalizing i with
   | nil=>intro h;cases h
   | @cons p q ps qs N t E=>
    intro h;cases i with
    | zero=>cases h;exact⟨q,rfl,N⟩
    | succ i=>rw[Ep]at h⊢;exact E h
  exact this J hz
 let⟨S,F⟩:=Y.tup (u:=.tup [kV z.1,z.2]) hn;exact⟨.tup [wK y.1,y.2],by rw[Ay,I];rfl,F,S,.tup b8 (.cons (by rw[D];exact JJ _) (.cons ((av.kp L k).go (go_same hn)) .nil))⟩
theorem zeS{o:Ck}{to:aR}{es:↑Ck}{kx:Nat}{O apos cpos:Hv}(f:E3 X o to)(W:Gq o "items" X.env (Ef o X.env)=Ef o X.env:=by rfl)(y:(apos.endLine==cpos.line)=ab:=by rfl):
  PI X (.Tuple es kx O) (.Call (.Attribute o "items" apos) [] [] cpos) (fT X.K (K6 to)):=by
 intro B s C H Q I ⟨U,M,R,J,Y,h,k⟩;refine aZ (C3 Nk PySem.F.slot_dict_items PySem.F.type_dict_items zeQ f W y B s C H (λx L=>∃p a o ks,x=.ref p/\L p=aa (.ext λh=>h.IsItemsView p a)/\L a=aa (.frz o (.dK ks))/\Q (wA a o ks) L) I ⟨U,M,_,J,Y,h,λd j wd T z P ad ⟨kvs,D,r⟩=>?_⟩) λv V ⟨x,L,i,N,p,a,o,ks,ex,ep,l,q⟩=>?_
 .subst D;cases ad with
  | @fk a A ks _ e ke q=>
   refine⟨.inr (.inr (.inl ⟨rfl,.inl ⟨_,.inr ⟨_,e⟩⟩⟩)),a,A,ks,rfl,rfl,e,λp G=>?_⟩;let⟨E,t⟩:=P.tup (u:=.ext λh=>h.IsItemsView p a) G;have g:aL j p (.ext λh=>h.IsItemsView p a) a=aa (.frz A (.dK ks)):=(bD (eO e G)).trans e;exact⟨p,a,A,ks,rfl,b8,g,k _ _ _ _ _ (z.trans t) E (zeR E g (nY ke (q.newT G))) r⟩
 .subst ex;cases (show v=Value.ref p from N);have c:V.heap.IsItemsView p a:=(show b5 X.prog X.w L V.heap p (.ext λh=>h.IsItemsView p a) from i.hok p _ ep).1;let⟨vs,S,ep',n,hd,m,_⟩:=v9 i.hok l;have hge:⇑V<=⇑V:=Ai _;refine wpAny_pyIter_items c m ⟨⇑V,[⇑V],_,wA a o ks,L,rfl,i.kept (t':=V.toks) λb o e=>Af _ e,zeP a _ o ks S ep' hd (Bn m.lt_size),⟨.none,.none,by rw[↥n];exact Az _ rfl⟩,λb Z=>?_,q⟩;cases (by simpa using Z:b=⇑V);exact i.fpOk hge (i.hok.fresh hge)
end
section
variable {X:Cx}
theorem zeT:bB X (Eh .Add) (λx y H Q=>∃a b xs,x=.ref a/\y=.ref b/\bL X.K H a []/\bL X.K H b xs/\Q (.ref b) H):=by
 rintro B s C H x y v u Q I G P ⟨a,b,xs,rfl,rfl,m,Z,q⟩;cases (show v=Value.ref a from G);cases (show u=Value.ref b from P);obtain⟨its,U,⟨⟨cls,M,data,sl⟩,f,hc,n,hd⟩,_⟩:=I.tuple m;obtain⟨t,h,⟨⟨p,k,o,l⟩,d,j,i,g⟩,_⟩:=I.tuple Z;cases U;simp only at hc hd j g;subst hc hd j g;exact Ur ⟨_,f,rfl⟩ ⟨_,d,rfl⟩ Sm Tw Nw Nl (Na _ _) (tuple_addW0 a b _ t.toArray n i M k sl l rfl) ⟨f,d,.ref b,H,I,rfl,q⟩
theorem zeU:qN X "list.pop" (λx vs H Q=>∃l y ys,x=.ref l/\vs=[.int 0]/\H l=aa (.lst (y::ys))/\Q y (aL H l (.lst ys))):=by
 intro B s C H x vs v us Q I G U h;let⟨l,y,ys,rfl,rfl,o,q⟩:=h;cases G;let⟨a,rfl,f,d⟩:=vals1 U;subst d;let⟨z,its,n,r,hl,e⟩:=I.lstM o;cases r with
 | @cons _ u _ i ru r=>
  refine Kf Pj ⟨_,e,rfl⟩ F.entry_list_pop (F.args_list_pop_2 _ _) (MeetsSeq.list_pop_at l _ n 0 f 0 u ∅ (by simp[Vt]) rfl (by rw[Bi];lia)) ⟨e,?_⟩;refine⟨y,_,I.lset (its':=i) o e ?_ r ?_,ru,q⟩
  .rw[List.eraseIdxIfInBounds_toArray];rfl
  .exact Ap (Hi _) z
def K7(K:Ac)(a:Am)(xs:↑V):It:=
 ⟨λi H=>bL K H a xs/\i<↥xs,λi H x l=>l=H/\xs.reverse[i]? = aa x,λi H=>bL K H a xs/\i=↥xs⟩
theorem zeV{P:Be}{w:Br}{K:Ac}{tg:Ck}(a it:Am)(xs:↑V)(c:a≠it):i0 P w K tg (K7 K a xs) [it] it (λi h=>Rv.IsRv h it a ((↥xs:Int)-1-(i:Int))) where
 mem:=by simp
 obj:=λi h st b Z=>by
  cases (by simpa using Z:b=it);exact⟨_,st,λv z=>by cases z⟩
 keep:=λi h h' st k=>k it (by simp) _ st
 item:=by
  intro X R hw Q hc i B s C H E I hf st hg;subst R hw Q;let⟨N,hi⟩:=hg;let⟨its,U,p,hz⟩:=I.tuple N;have hl:=↥U;have J:xs.reverse[i]? = aa xs[↥xs-1-i]:=by rw[Lp hi];exact Bg (by lia)
  let⟨u,W,ru⟩:=U.get (Bg (l:=xs) (i:=↥xs-1-i) (by lia));let⟨f0,F,O,L,j,S⟩:=hf it (by simp);rw[show(↥xs:Int)-1-(i:Int)=((↥xs-1-i:Nat):Int) by lia]at st;refine Rv.next_item st p (x:=u) (by simpa using W) (by have:=lG;lia) λh' tk m sb=>?_;have M:Inv X B C H {s with heap:=h',toks:=tk}:=I.turned (t':=tk) (λb o Z e=>(sb.2 b Z).trans e) f0 F L j S;refine⟨u,rfl,oP (s:={s with heap:=h',toks:=tk}) m rfl rfl ∅ ⟨_,H,M,ru,⟨rfl,J⟩,?_,λb Z=>(hf b Z).1⟩⟩;rw[show(↥xs:Int)-1-((i+1:Nat):Int)=((↥xs-1-i:Nat):Int)-1 by lia];exact m
 done:=by
  intro X R hw Q hc i B s C H E I hf st hg;subst R hw Q;let⟨N,rfl⟩:=hg;rw[show(↥xs:Int)-1-(↥xs:Int) = -1 by lia]at st;refine Rv.next_end (I.ok.hd hc) st λh' hk=>⟨rfl,?_⟩
  exact I.turnedT (tk:=s.toks) hf λq o N eq=>hk q o (λz=>N (by simp[z])) eq
 self:=λ_ _ _ _ _ st h=>Rv.iter_self st h
theorem zeW(hg:Gl X "reversed")(S:X.mg "reversed" = ae)(m:PA X [a] ta)(F:Ci [a] X.env=[(ac,Ef a X.env)]:=by rfl):
  PI X tg (.Call (.Name "reversed" p) [a] [] pos) (λC H R=>ta C H λvs j=>∃a xs,vs=[.ref a]/\bL X.K j a xs/\R (K7 X.K a xs) j):=by
 intro B s C H R I h;refine Vr (gE I hg S EF (Cd (aZ (m pos B s C H _ I h) λus U A=>?_) F rfl));let⟨vs,j,M,l,g⟩:=A;let⟨a,xs,rfl,r,q⟩:=g;let⟨u,rfl,ru⟩:=vals1 l;cases ru;let⟨its,n,pl,hz⟩:=M.tuple r;have hl:=↥n;have z:a<⇑U:=by let⟨o,e,_⟩:=pl;exact Bd e
 refine Rv.call_rev pl (by rw[Bi,<-hl];exact hz) λtk=>?_;have st:Rv.IsRv (U.heap.push (Rv.rvObj a ((its.toArray.size:Int)-1))) ⇑U a ((its.toArray.size:Int)-1):=Az _ rfl;refine Rv.iter_self st ⟨⇑U,[⇑U],_,_,j,rfl,M.kept (t':=tk) (λb o e=>Af _ e),zeV a _ xs (Bn z),?_,λb Z=>?_,q⟩
 .rw[Bi,<-hl]at st;show Rv.IsRv _ _ _ ((↥xs:Int)-1-((0:Nat):Int));rw[show(↥xs:Int)-1-((0:Nat):Int)=(↥xs:Int)-1 by lia,show(its.toArray.size:Int)=(↥xs:Int) by rw[Bi,hl]];exact st
 .cases (by simpa using Z:b=⇑U);exact M.fpOk (Ai _) (M.hok.fresh (Ai _))
end
section
variable {X:Cx}{a b:Ck}{ta tb:aR}{pos:Hv}
abbrev nJ:R3:=λx y M R=>∃xs ys,x=.tup xs/\y=.tup ys/\↥xs+↥ys<=Au/\R (.tup (xs++ys)) M
theorem zeX:bB X (Eh .Add) (cJ X.K nJ):=by
 rintro B s C H x y v u Q I G P ⟨t,l,M,R,Y,N,S,⟨xs,ys,rfl,rfl,hl,r⟩,k⟩
 by_cases J:xs=[]
 .subst J;refine N.tupE λf q D F g=>S.tupE λZ z T O n=>?_;cases g.nil_;exact zeT B s C H x y v u Q I G P ⟨f,Z,z,D,T,bL.of F,bL.of O,by rw[<-T];exact k.at Y S r⟩
 .exact F6 B s C H x y v u Q I G P ⟨.tup xs,.tup ys,M,R,Y,N,S,⟨J,hl,r⟩,k⟩
def K8:W->↑W->Mm->K3->Prop:=λx vs M R=>∃l y ys,x=.ref l/\vs=[.int 0]/\M l=aa (.lst (y::ys))/\R y (put M l (.lst ys))
theorem zeY:e8 X "list.pop" (jJ X.K K8):=by
 rintro B s C H x xs v us Q I G rs ⟨t,ws,M,R,Y,N,d,⟨l,y,ys,rfl,rfl,e,r⟩,k⟩;let⟨vs,f,q⟩:=Y.lst e;cases q with
 | @cons a p _ _ av q=>
  let⟨z,D,m⟩:=d.one;let⟨E,F⟩:=Y.write (o:=.lst ys) (u:=.lst p) e ⟨_,b8,q.wr Y e⟩;exact zeU B s C H x xs v us Q I G rs ⟨l,a,p,N.inv,by rw[D,m.inv],f,k _ _ _ _ F E (av.wr Y e) r⟩
abbrev A5(ta:c0):gM:=λU M R=>ta U M λws I=>∃g,ws=[.tup g]/\R g.reverse (λ_=>True) I
theorem zeZ(hg:Gl X "reversed")(S:X.mg "reversed" = ae)(m:A3 X [a] c)(F:Ci [a] X.env=[(ac,Ef a X.env)]:=by rfl):PI X tg (.Call (.Name "reversed" p) [a] [] pos) (fT X.K (A5 c)):=
 (zeW hg S m F).weak λC H Q A=>A.el λU M R J Y h k=>⟨U,M,_,J,Y,h,λvs j ws I B P N ⟨g,e,r⟩=>by
  subst e;let⟨v,rfl,av⟩:=N.one;exact av.tupE λb xs T z f=>⟨b,xs,by rw[T],bL.of z,k _ _ _ _ _ B P (by
   have st:∀H M,Kp j I H M->bL X.K H b xs:=λH M k=>bL.of (k.fr _ _ (P.noTup z) z).1;refine⟨λi H M k Y kp hi=>⟨st H M k,by rw[Ej]at hi;rw[↥f];exact hi⟩,λH M k Y kp=>⟨st H M k,by rw[Ej,↥f]⟩,λi H M x l k Y kp hi y=>?_⟩;let⟨rfl,y⟩:=y;let⟨w,hw,av⟩:=((f.kp P k).reverse).getV y;exact⟨w,hw,Kp.refl Y,Y,av⟩) r⟩⟩
abbrev K9(ta tb:aR):aR:=λU M R=>∀p,M p=ae->ta U (put M p (.dK [])) λx I=>tb U I λy f=>f p=aa (.dK [])/\∃k:aC,x=wK k/\R (.ref p) (put f p (.dK [(k,y)]))
theorem ze0(m:E3 X a ta)(Z:E3 X b tb):E3 X (.Dict [aa a] [b] pos) (K9 ta tb):=
 (UL (DF m Z DE) rfl rfl (by simp) (by simp)).weak λC H Q A=>A.el λU M R J Y h k=>λp G=>by
  let⟨L,i⟩:=Y.laid (o:=.dK []) (u:=.dK []) G ⟨[],b8,.nil⟩;refine⟨U,_,_,J.kp Y i,L,h p (Y.nonM G),λx j t I B P N O=>⟨U,I,_,(J.kp Y i).kp L B,P,O,λy w l c F E S ⟨e,n,ex,r⟩=>?_⟩⟩;subst ex;let⟨ks,f,q⟩:=E _ _ e;cases q;let⟨g,V⟩:=E.write (o:=.dK [(n,l)]) (u:=.dK [(n,y)]) e ⟨_,b8,.cons ⟨rfl,S.wr E e⟩ .nil⟩;exact⟨f,[(n,y)],by rw[(N.kp P F).key];rfl,by simp,k _ _ _ _ (((i.trans B).trans F).trans V) g (.ref _) r⟩
end
abbrev CT:=↑(Av×↑Nat)
structure eU(rs:↑aD):Prop where
 ne:rs≠[]
 few:↥rs<=17
 nam:↥(namesOf rs)<=3
 prt:∀r∈rs,↥r.parts<=4
 wds:∃U:↑Av,↥U<64/\vM rs U
 hd:∀r∈rs,dA r.name
 pt:∀r∈rs,∀t∈r.parts,dA t\/eS t
 own:∀r∈rs,∀t∈r.parts,bV t=ownB rs t
theorem nK(h:dA p\/eS p):Sh p:=h.elim dA.sh eS.sh
theorem eU.shn(g:eU rs):∀r∈rs,Sh r.name:=λr T=>(g.hd r T).sh
theorem eU.sh(g:eU rs):∀r∈rs,∀t∈r.parts,Sh t:=λr T t ht=>nK (g.pt r T t ht)
noncomputable def dC(rs:↑aD)(f:Av->↑Av)(t:Av):↑Av:=if t∈namesOf rs\/bV t=ac then [t] else f t
theorem mG{f:Av->↑Av}(h:t∈namesOf rs\/bV t=ac):dC rs f t=[t]:=Vz h
theorem eU.sem{f:Av->↑Av}(g:eU rs)(T:r∈rs):∀t∈r.parts,dC rs f t=[t]:=λt ht=>mG (by
 rw[g.own r T t ht];cases e:ownB rs t with
 | true=>exact .inl (Wa e)
 | false=>exact .inr rfl)
theorem eU.semN{f:Av->↑Av}(T:r∈rs):dC rs f r.name=[r.name]:=mG (.inl (iT.mpr ⟨r,T,rfl⟩))
def Qz(rs:↑aD)(f:Av->↑Av)(H d:Nat)(z:NP×W):Prop:=∃j,z.2=.tup j/\Pf bV rs (dC rs f) H d 0 j z.1.2 (dC rs f z.1.1)
def Pz(rs:↑aD)(z:NP×W):Prop:=(∀t∈z.1.2,dA t\/eS t)/\↥z.1.2<=4
theorem eU.gl(g:eU rs):GL rs:=⟨Ap g.few ∅,g.prt,g.wds⟩
theorem eU.few100(g:eU rs):↥rs<=100:=Ap g.few ∅
def jD(c:↑Nat):↑W:=c.map λn=>W.int (n:Nat)
noncomputable def fX(c:CT):↑(aC×W):=c.map λe=>(Sum.inr e.1,W.tup (jD e.2))
inductive Cn(rs:↑aD)(X:Av):↑Nat->Av->Prop
 | nil:Cn rs X [] X
 | snoc {c:↑Nat} {n:Nat} {r:aD} {Z:Av}:Cn rs X c r.name->rs[n]? = aa r->r.parts=[Z]->Cn rs X (c++[n]) Z
noncomputable def wB(c:↑Nat)(us:↑W):↑W:=c.foldr (λn acc=>[gB n acc]) us
theorem Cn.pf{sem:Av->↑Av}(h:Cn rs X c Z)(g:∀r∈rs,dA r.name){H d:Nat}(G:Pf bV rs sem H d 0 us ps [Z]):Pf bV rs sem H (d+↥c) 0 (wB c us) ps [X]:=by
 induction h generalizing us d with
 | nil=>exact G
 | @snoc c n r Z _ T e E=>
  have:=E (Pf.one (g r (Ao T)).nm T (by rw[e];exact(by decide:1<=100)) (by rw[e];exact G));unfold wB;rw[List.foldr_append,Aj,<-Kn,Nat.add_right_comm];exact this
def sglB(rs:↑aD)(r:aD):Bool:=match r.parts with
 | [t]=>ownB rs t
 | _=>ac
noncomputable def numsOf(rs:↑aD)(X:Av):↑Nat:=(rs.zipIdx.filter λx=>decide (x.1.name=X)).map (·.2)
theorem qB{n:Nat}:n∈numsOf rs X↔∃r,rs[n]? = aa r/\r.name=X:=by
 unfold numsOf;rw[Ar];constructor
 .rintro⟨⟨r,k⟩,h,rfl⟩;rw[Fo,decide_eq_true_eq]at h;exact⟨r,(Hl.mp h.1),h.2⟩
 .rintro⟨r,h,e⟩;exact⟨(r,n),by rw[Fo,decide_eq_true_eq];exact⟨Hl.mpr h,e⟩,rfl⟩
inductive Rc(rs:↑aD):Av->Av->Prop
 | rf {X:Av}:Rc rs X X
 | st {r:aD} {Y Z:Av}:r∈rs->r.parts=[Y]->ownB rs Y=ab->Rc rs Y Z->Rc rs r.name Z
def LA(rs:↑aD)(X:Av)(l:↑Av):Prop:=∃r∈rs,Rc rs X r.name/\r.parts=l/\sglB rs r=ac/\∀t∈l,fB rs t=ab
def wC:aV:=λws M R=>∃(rs:↑aD) (X:Av),ws=[bC rs,.str X]/\↥rs<=100/\aP ((numsOf rs X).map λ(n:Nat)=>W.int n) M R
def A6:aV:=λws M R=>∃(rs:↑aD) (r:aD),ws=[.dk (ownOf rs),bF r]/\R (.bl (sglB rs r)) M
def LB:aV:=λws M R=>∃(rs:↑aD) (X:Av),ws=[bC rs,.dk (ownOf rs),.str X]/\eU rs/\X∈namesOf rs/\∀c:CT,(∀Z,Rc rs X Z->Z∈c.map (·.1))->↥c<=3->(∀e∈c,↥e.2<=2/\Cn rs X e.2 e.1)->iO (fX c) M R
def LC:aV:=λws M R=>∃(c:↑Nat) (n:Nat) (ps:↑Av),ws=[.tup (jD c),.int n,.tup (ps.map W.str)]/\↥ps<=1000/\R (.tup (wB c [.tup [.int (n:Nat),rZ ps]])) M
def LD(P:Be)(w:Br)(C:Cc):aV:=λws M R=>∃(a d dx:Am) (l:↑(NP×W)) (rs:↑aD) (X:Av) (kvs:↑(aC×W)) (f:Av->↑Av),ws=[.ref a,bC rs,.str X,.dk kvs]/\j9 P w C.p M a d dx l/\↥l<=50000/\eU rs/\X∈namesOf rs/\(∀t,(aQ kvs (Sum.inr t:aC)).isSome=l9 rs ab t)/\∀l',Ex (λz=>z.1.1=X/\Qz rs f 0 3 z/\Pz rs z) l 68 (λx=>x.1=X/\LA rs X x.2) l'->R .non (put M d (.dn P w [0] (kvsOf l')))
noncomputable abbrev oK(F:Av):↑(NP×W):=[((F,[F,F]),.tup [.tup [.int 0,.tup [.int 0,.int 1]]])]
def A7:aV:=λws M R=>∃rs:↑aD,ws=[bC rs]/\rs≠[]/\R (mF (oK (f0 rs))) M
abbrev ze1:↑Av:=["grammar","name"]
abbrev ze2:aE:=
   (bG (dR (uP (aA aG aB)) (fS 2 (cL (aX 0) (cL (aX 1) fR))) (bK (aH (cV ac) (vX aM a6) aT)) aG [ae,ae,aa 1]))
abbrev ze3:↑Av:=["grammar","name","plain"]
abbrev ze4(P:Be)(w:Br)(C:Cc):aE:=
   (bZ (dY C.p "put_rule" (nF P w C.p) aT (aA aM (aA (bA (aA aM (aA aM aB))) (aA (bA (aA (bA (aA a6 (aA (bA (aA a6 (aA a8 aB))) aB))) aB)) aB)))))
abbrev ze5(P:Be)(w:Br)(C:Cc):aE:=(aF (aN 1 (aS rR (aA aG aB))) (aF (aN 2 (lY C.p (p9 P w C.p) aB)) (aF (ze4 P w C) (bG (dY C.p "grammar_and_backs" (qA P w C.p) aT aB)))))
abbrev ze6:↑Av:=["own","rule"]
abbrev ze7:aE:=
   (bG (tZ (aH (cV ac) (bH cP (aA (vX aM a8) aB)) a8) (aH (cA ac) (vX (vX aM a8) a6) aG)))
noncomputable abbrev ze8:↑Av:=["grammar","own","name","chains","waiting","here","number","part"]
abbrev ze9:aE:=
   (aN 3 (K9 aT (bA aB)))
abbrev zfa:aE:=
   (aN 4 (fH (aA aT aB)))
abbrev zfb:aE:=
   (aF (aN 5 (cN "list" K8 a9 (aA a6 aB)))
   (cC (bT cD (bJ (aS wC (aA aG (aA b9 aB))))) (aX 6)
    (aF (aN 7 (yB (dQ (aS A6 (aA aM (aA (vX aG cF) aB)))) (vX (vX (vX aG cF) a8) a6) b9))
   (bW (bK (aH (cA ab) cT a7))
    (aF (fJ (aH nJ (vX a7 b9) (bA (aA cF aB))) (gY a7 cT))
   (bZ (cN "list" dJ a9 (aA cT aB))))
    cB))))
abbrev zfc:aE:=
   (kS (dQ a9) zfb)
abbrev zfd:aE:=
   (bG a7)
abbrev zfe:aE:=(aF ze9 (aF zfa (aF zfc zfd)))
abbrev zff:↑Av:=["chain","number","parts","pieces","single"]
abbrev zfg:aE:=
   (aN 3 (bA (aA (bA (aA aM (aA (aS vY (aA aT aB)) aB))) aB)))
abbrev zfh:aE:=
   (aN 3 (bA (aA (bA (aA a9 (aA a7 aB))) aB)))
abbrev zfi:aE:=
   (cC (A5 (aA aG aB)) (aX 4) zfh)
abbrev zfj:aE:=
   (bG a7)
abbrev zfk:aE:=(aF zfg (aF zfi zfj))
noncomputable abbrev zfl:↑Av:=["plain","grammar","name","fruitful","own","here","chain","number","parts","is_fruitful"]
abbrev zfm(P:Be)(w:Br)(C:Cc):aE:=
   (cC (bT cD (bJ (aS wC (aA aM (aA b9 aB))))) (aX 7)
    (aF (aN 8 (vX (vX aM cT) a8))
   (aF (aN 9 (bH uE (aA (bJ (dR (bT cD eI) (aX 0) eR (n4 (aH (cA ac) aG aM) (aH (cA ab) aG aT)) [ae,aa 3,aa 4])) aB)))
   (bW (iQ (dQ gX) (kO (dQ (aS A6 (aA a9 (aA (vX aM cT) aB))))))
    (bZ (dY C.p "put_rule" (nF P w C.p) aG (aA aT (aA eI (aA (aS LC (aA cF (aA cT (aA eI aB)))) aB)))))
    cB))))
abbrev zfn(P:Be)(w:Br)(C:Cc):aE:=(aF (aN 4 (aS mB (aA (bJ (aS jB (aA aM aB))) aB))) (cC (K6 (rX (aS LB (aA aM (aA a9 (aA aT aB)))))) (fS 2 (cL (aX 5) (cL (aX 6) fR))) (zfm P w C)))
noncomputable def wF(X:Av):W->Option W
 | .tup [.int i,.tup (.str n::_)]=>if n=X then aa (.int i) else ae
 | _=>ae
theorem A8(rs:↑aD):∀n:Nat,gN n (rs.map bF)=(rs.zipIdx n).map λx=>W.tup [.int (x.2:Int),bF x.1]:=by
 induction rs with
 | nil=>intro n;rfl
 | cons r rs E=>intro n;rw[Bh,Lu,Bh,<-E];rfl
theorem zfo{F:W->Option W}{ws:↑W}{os:↑(Option W)}(h:Fz (λw o=>o=F w) ws os):os.filterMap id=ws.filterMap F:=by
 induction h with
 | nil=>rfl
 | cons a _ E=>rw[a,Fc,Fc,E];rfl
theorem zfp(rs:↑aD)(X:Av):(gN 0 (rs.map bF)).filterMap (wF X)=(numsOf rs X).map λ(n:Nat)=>W.int n:=by
 unfold numsOf;rw[A8,Ku,Bp];generalize rs.zipIdx=l
 induction l with
 | nil=>rfl
 | cons x l E=>
  rw[Fc,Er,E];have e:(wF X ∘ λx:aD×Nat=>W.tup [.int (x.2:Int),bF x.1]) x=if x.1.name=X then aa (.int x.2) else ae:=rfl;rw[e]
  by_cases h:x.1.name=X
  .rw[Vz h,Vz (Wc h)];rfl
  .rw[Vy h,Vy (by rw[We h];decide)]
theorem zfq:bE wC ze2 ze1:=by
 rintro _ M R ⟨rs,X,rfl,hl,r⟩;refine y6 (rest:=[aa (.str X)]) (λw o=>o=wF X w) (λw hw=>?_) (small (by rw[kW,Ab];lia)) (λ_ _=>trivial) (λa b S V C D sb O L=>?_) λos po=>?_
 .rw[A8]at hw;let⟨x,_,rfl⟩:=Ar.mp hw;exact⟨_,_,rfl⟩
 .rw[A8]at S;obtain⟨⟨q,k⟩,J,e⟩:=Ar.mp S;cases e;have ep:wF X (.tup [.int (k:Int),bF q])=if q.name=X then aa (.int k) else ae:=rfl;exact bP (b:=decide (q.name=X)) (λz=>O _ (by rw[ep,Vz (Wa z)])) λz=>L (by rw[ep,Vy (of_decide_eq_false z)])
 .rw[zfo po,zfp];exact λp G=>⟨_,aW,r p G⟩
theorem zfr:bE A6 ze7 ze6:=by
 rintro _ M R ⟨rs,⟨nm,ps,c⟩,rfl,r⟩
 match ps,r with
 | [],r=>exact⟨_,aW,r⟩
 | [t],r=>
  have e:sglB rs ⟨nm,[t],c⟩=(aQ (ownOf rs) (Sum.inr t:aC)).isSome:=(mD rs t).symm;rw[e]at r;exact⟨_,⟨Sum.inr t,rfl,rfl⟩,_,aW,r⟩
 | a::b::l,r=>exact⟨_,aW,r⟩
theorem zfs:bE LC zfk zff:=by
 rintro _ M R ⟨c,n,ps,rfl,hl,r⟩;refine⟨ps,rfl,hl,_,rfl,?_⟩;refine dB (λi U V=>∃o,U=[aa (.tup (jD c)),aa (.int n),aa (.tup (ps.map W.str)),aa (.tup (wB (c.drop (↥c-i)) [.tup [.int n,rZ ps]])),o]/\V=M) ⟨_,by rw[Ts,List.drop_length];rfl,rfl⟩ ?_ ?_
 .rintro i w U V hw ⟨o,rfl,rfl⟩ A H;have hi:=(An.mp hw).1;rw[Ej]at hi;unfold jD at hi hw;rw[Ab]at hi;rw[Lp (by rw[Ab];exact hi),Ab,Ay]at hw;let⟨k,hk,rfl⟩:=Ba.mp hw;let⟨O,rfl⟩:=An.mp hk;have e:c.drop (↥c-(i+1))=c[↥c-1-i]::c.drop (↥c-i):=by
   rw[show ↥c-(i+1)=↥c-1-i by lia,Fw O,show ↥c-1-i+1=↥c-i by lia]
  exact H _ _ ⟨_,by rw[e];rfl,rfl⟩
 .rintro U V ⟨o,rfl,rfl⟩;have e:(jD c).reverse.length=↥c:=by unfold jD;rw[Ej,Ab]
  rw[e,Ol];exact⟨_,aW,r⟩
theorem A9(c:CT)(Z:Av):aQ (fX c) (Sum.inr Z:aC)=(cG c Z).map λv=>W.tup (jD v):=by
 unfold fX aQ cG
 induction c with
 | nil=>rfl
 | cons e c ih=>
  rw[Bh,Cz,Cz]
  by_cases h:e.1=Z
  .rw[Wc h,Wc (show(Sum.inr e.1:aC)=Sum.inr Z by rw[h])];rfl
  .rw[We h,We (λz:(Sum.inr e.1:aC)=Sum.inr Z=>h (Qq z))];exact ih
theorem zft{c:CT}{Z:Av}(h:cG c Z=ae)(v:↑Nat):bY (fX c) (Sum.inr Z:aC) (.tup (jD v))=fX (c++[(Z,v)]):=by
 unfold bY;rw[Vy (by rw[show((fX c).any λkv=>decide (kv.1=(Sum.inr Z:aC)))=(aQ (fX c) (Sum.inr Z:aC)).isSome from j7 _ _,A9,h];decide)];unfold fX;rw[Ax];rfl
abbrev zfu:aE:=bW (bK (aH (L2.cA ab) cT a7)) (aF (fJ (aH nJ (aH L2.rD a7 b9) (bA (aA cF aB))) (gY a7 cT)) (bZ (cN "list" L2.dJ a9 (aA cT aB)))) cB
structure g9(rs:↑aD)(X:Av)(m:Nat)(E:aD->Prop)(ch:CT)(wt:↑Av):Prop where
 nd:(ch.map (·.1)).Nodup
 own:∀k∈ch.map (·.1),k∈namesOf rs
 wk:∀k∈wt,k∈ch.map (·.1)
 top:X∈ch.map (·.1)
 cl:∀r∈rs,∀Y,r.parts=[Y]->ownB rs Y=ab->r.name∈ch.map (·.1)->r.name∈wt\/E r\/Y∈ch.map (·.1)
 len:∀e∈ch,↥e.2<↥ch/\Cn rs X e.2 e.1
 ms:↥wt+↥(namesOf rs)=↥ch+m
 mn:m<=↥(namesOf rs)
theorem g9.few{m:Nat}{E:aD->Prop}(I:g9 rs X m E ch wt):↥ch<=↥(namesOf rs):=by
 have:=len_sub I.nd I.own;rwa [Ab]at this
theorem g9.to{m:Nat}{E l:aD->Prop}(I:g9 rs X m E ch wt)(h:∀r∈rs,∀Y,r.parts=[Y]->ownB rs Y=ab->E r->l r\/Y∈ch.map (·.1)):g9 rs X m l ch wt:=
 ⟨I.nd,I.own,I.wk,I.top,λr T Y e o hk=>(I.cl r T Y e o hk).imp_right λz=>z.elim (h r T Y e o) .inr,I.len,I.ms,I.mn⟩
theorem g9.add{rs:↑aD}{X y:Av}{m:Nat}{E:aD->Prop}{ch:CT}{wt:↑Av}{v:↑Nat}(I:g9 rs X m E ch wt)(K:y∈namesOf rs)(hn:cG ch y=ae)(c:↥v<=↥ch/\Cn rs X v y):g9 rs X m E (ch++[(y,v)]) (wt++[y]):=by
 have hn:y∉ch.map (·.1):=λz=>by rw[<-iE,hn]at z;cases z
 have e:↥(ch++[(y,v)])=↥ch+1:=Aj;have i:(ch++[(y,v)]).map (·.1)=ch.map (·.1)++[y]:=Ax;have all:∀{p:Av->Prop},(∀k∈ch.map (·.1),p k)->p y->∀k∈(ch++[(y,v)]).map (·.1),p k:=λO L k hk=>by
  rw[i]at hk;rcases Bb.mp hk with h|h
  .exact O k h
  .rw[Ag.mp h];exact L
 refine⟨?_,all I.own K,λk hk=>?_,by rw[i];exact Bf _ I.top,λr T Y e o hk=>?_,λx J=>?_,?_,I.mn⟩
 .rw[i,Cv];exact⟨I.nd,by simp,λa g b Z z=>hn (by rw[<-Ag.mp Z,<-z];exact g)⟩
 .rw[i];rcases Bb.mp hk with h|h
  .exact Bf _ (I.wk k h)
  .exact Bo _ h
 .rw[i]at hk⊢;rcases Bb.mp hk with h|h
  .exact(I.cl r T Y e o h).imp (Bf _) λz=>z.imp_right (Bf _)
  .exact .inl (Bo _ h)
 .rw[e];rcases Bb.mp J with h|h
  .exact⟨Np (I.len x h).1,(I.len x h).2⟩
  .rw[Ag.mp h];exact⟨Nat.lt_succ_of_le c.1,c.2⟩
 .have:=I.ms;rw[e,Aj,Co];lia
theorem g9.done{m:Nat}(I:g9 rs X m (λ_=>False) ch [])(Z:Av)(h:Rc rs X Z):Z∈ch.map (·.1):=by
 have:∀{A B},Rc rs A B->A∈ch.map (·.1)->B∈ch.map (·.1):=λh=>by
  induction h with
  | rf=>exact id
  | st a b c _ E=>exact λk=>E (((I.cl _ a _ b c k).resolve_left λz=>nomatch z).resolve_left id)
 exact this h I.top
theorem zfv:bE LB zfe ze8:=by
 rintro _ M R ⟨rs,X,rfl,g,hX,r⟩;have hf:=g.few;have hnm:=g.nam;refine λp hp=>⟨aJ,Sum.inr X,rfl,?_⟩
 rw[b7];refine λq hq=>?_;have hpq:q≠p:=λe=>by rw[e,aJ]at hq;cases hq
 have hq0:M q=ae:=by rw[aY hpq]at hq;exact hq
 have atp:∀{A B:MO},put (put M p A) q B p=aa A:=λ{A B}=>by rw[aY (Ca hpq),aJ]
 have setp:∀{A A' B:MO},put (put (put M p A) q B) p A'=put (put M p A') q B:=λ{A A' B}=>by rw[mQ hpq,b7]
 refine pU (λm τ M'=>∃ch wt o5 o6 o7,τ=[aa (bC rs),aa (.dk (ownOf rs)),aa (.str X),aa (.ref p),aa (.ref q),o5,o6,o7]/\M'=put (put M p (.dK (fX ch))) q (.lst (wt.map W.str))/\g9 rs X m (λ_=>False) ch wt)
  ⟨_,[(X,[])],[X],_,_,_,rfl,rfl,⟨by simp,λk hk=>by rw[Ag.mp hk];exact hX,λ_ h=>h,Ag.mpr rfl,λr _ Y _ _ hk=>.inl hk,λe he=>by rw[Ag.mp he];exact⟨Nat.one_pos,.nil⟩,rfl,Ai _⟩⟩ ?_
 rintro m τ M' ⟨ch,wt,o5,o6,o7,rfl,rfl,I⟩ Dw hDw;refine .inl ⟨_,aJ,bP (λh=>?_) λh=>?_⟩
 .cases wt with
  | nil=>cases h
  | cons hr wt=>
  have hms:(↥wt+1)+↥(namesOf rs)=↥ch+m:=I.ms;have hcl:=I.few;obtain⟨m,rfl⟩:∃m',m=m'+1:=⟨m-1,by lia⟩;have Ip:g9 rs X m (λr=>r.name=hr) ch wt:=⟨I.nd,I.own,λk h=>I.wk k (Bj _ h),I.top,λr h Y e o hk=>(I.cl r h Y e o hk).elim (λz=>(Aw.mp z).elim (λz=>.inr (.inl z)) .inl) λz=>.inr (.inr (z.resolve_left id)),I.len,by lia,by have:=I.mn;lia⟩;have hh:hr∈ch.map (·.1):=I.wk hr Bl;refine⟨dU aJ,_,_,_,rfl,rfl,aJ,?_⟩;rw[b7];refine⟨rs,hr,rfl,by lia,aP.frz ?_⟩;refine dB (λj τ M'=>∃ch2 wt2 o6 o7,τ=[aa (bC rs),aa (.dk (ownOf rs)),aa (.str X),aa (.ref p),aa (.ref q),aa (.str hr),o6,o7]/\M'=put (put M p (.dK (fX ch2))) q (.lst (wt2.map W.str))/\g9 rs X m (λr=>r.name=hr/\∀n∈(numsOf rs hr).take j,rs[n]?≠aa r) ch2 wt2/\hr∈ch2.map (·.1)) ⟨ch,wt,_,_,rfl,rfl,Ip.to (λ_ _ _ _ _ z=>.inl ⟨z,λ_ h=>nomatch h⟩),hh⟩ ?_ ?_
  .rintro j x τ M' hx ⟨ch2,wt2,o6,o7,rfl,rfl,I2,hh2⟩ Dx hD;rw[Ay]at hx;let⟨n,hn,rfl⟩:=Ba.mp hx;have hc2:=I2.few;have hms2:=I2.ms;have hmn2:=I2.mn;let⟨ru,hru,en⟩:=qB.mp (Ao hn);let⟨ru',h1,h2⟩:=j8 (rs:=rs) (n:=n) (An.mp hru).1;cases (show aa ru'=aa ru from h1.symm.trans hru);let⟨v,hv⟩:=Dz.mp (iE.mpr hh2);have hvl:↥v<↥ch2/\Cn rs X v hr:=by
    let⟨a,b,e3⟩:=rQ hv;exact I2.len (hr,v) (by rw[e3];simp)
   have fin:∀{D:D3} {y:Av},y∈namesOf rs->(y∉ch2.map (·.1)->Cn rs X (v++[n]) y)->(∀Y,ru.parts=[Y]->ownB rs Y=ab->Y=y)->(∀ch3 wt3,g9 rs X m (λr=>r.name=hr/\∀n∈(numsOf rs hr).take (j+1),rs[n]?≠aa r) ch3 wt3->hr∈ch3.map (·.1)->D.nx [aa (bC rs),aa (.dk (ownOf rs)),aa (.str X),aa (.ref p),aa (.ref q),aa (.str hr),aa (.int n),aa (.str y)] (put (put M p (.dK (fX ch3))) q (.lst (wt3.map W.str))))->zfu D [aa (bC rs),aa (.dk (ownOf rs)),aa (.str X),aa (.ref p),aa (.ref q),aa (.str hr),aa (.int n),aa (.str y)] (put (put M p (.dK (fX ch2))) q (.lst (wt2.map W.str))):=λ{D y} hy hyc hyY k=>by
    have nx:∀{ch3 wt3},g9 rs X m (λr=>r.name=hr/\∀n∈(numsOf rs hr).take j,rs[n]?≠aa r) ch3 wt3->y∈ch3.map (·.1)->g9 rs X m (λr=>r.name=hr/\∀n∈(numsOf rs hr).take (j+1),rs[n]?≠aa r) ch3 wt3:=λI3 h3=>I3.to λr h Y e o z=>by
     by_cases er:rs[n]? = aa r
     .rw[hru]at er;cases er;exact .inr (hyY Y e o▸h3)
     .refine .inl ⟨z.1,λn' hn'=>?_⟩;rw[Cf,hn]at hn';rcases Bb.mp hn' with q|q
      .exact z.2 n' q
      .rw[Ag.mp q];exact er
    refine .inr ⟨_,.inl ⟨fX ch2,Sum.inr y,atp,rfl,rfl⟩,?_⟩;show if (!(aQ (fX ch2) (Sum.inr y:aC)).isSome)=ab then _ else _;rw[A9,La];refine bP (λhn=>?_) λhn=>k ch2 wt2 (nx I2 (iE.mp (by rw[<-Hb (cG ch2 y).isSome,hn];rfl))) hh2;have hn:cG ch2 y=ae:=by
     cases e:cG ch2 y with
     | none=>rfl
     | some z=>rw[e]at hn;cases hn
    refine FC (.inl ⟨fX ch2,Sum.inr hr,atp,rfl,(by rw[A9,hv];rfl)⟩) ⟨_,_,rfl,rfl,?_,rK atp (by unfold fX;rw[Ab];exact cM (by lia)) ?_⟩
    .exact small (by unfold jD;rw[Ab];show ↥v+1<=10000000;lia)
    .rw[show W.tup (jD v++[W.int n])=.tup (jD (v++[n])) by unfold jD;rw[Ax];rfl,zft hn,setp];refine⟨dU aJ,_,aJ,cM (by rw[Ab];lia),?_⟩;rw[b7,show(Si W.str wt2++[W.str y])=Si W.str (wt2++[y]) by rw[Ax];rfl];exact k _ _ (nx (I2.add hy hn ⟨by rw[Aj];exact hvl.1,hyc λz=>by rw[<-iE,hn]at z;cases z⟩) (by rw[Ax];exact Bo _ (.head _))) (by rw[Ax];exact Bf _ hh2)
   refine so.of h2 ⟨rs,ru,rfl,bP (b:=sglB rs ru) (λhs1=>?_) λhs1=>?_⟩
   .obtain⟨t,et,ot⟩:∃t,ru.parts=[t]/\ownB rs t=ab:=by
     unfold sglB at hs1;split at hs1
     .rename_i t e;exact⟨t,e,hs1⟩
     .cases hs1
    refine so.of h2 (so.of (o:=bR (ru.parts.map W.str) 0) (a:=.str t) (by rw[et];rfl) (fin (Wa ot) (λ_=>.snoc (en▸hvl.2) hru et) (λY e _=>by rw[et]at e;cases e;rfl) λch3 wt3 I3 hh3=>?_));exact hD _ _ ⟨ch3,wt3,_,_,rfl,rfl,I3,hh3⟩
   .refine fin (I2.own _ hh2) (λz=>absurd hh2 z) (λY e o=>by unfold sglB at hs1;rw[e]at hs1;exact absurd o (by rw[show ownB rs Y=ac from hs1];decide)) λch3 wt3 I3 hh3=>?_;exact hD _ _ ⟨ch3,wt3,_,_,rfl,rfl,I3,hh3⟩
  .rintro τ M' ⟨ch2,wt2,o6,o7,rfl,rfl,I2,_⟩;rw[Ab,Bw]at I2;refine hDw m _ _ (Gz m) ⟨ch2,wt2,_,_,_,rfl,rfl,I2.to λr h Y _ _ z=>?_⟩;let⟨n,hn⟩:=Ii h;exact absurd hn (z.2 n (qB.mpr ⟨r,hn,z.1⟩))
 .have hcl:=I.few;cases wt with
  | cons _ _=>cases h
  | nil=>
  refine⟨_,?_,r ch I.done (by lia) (λe he=>⟨by have:=(I.len e he).1;lia,(I.len e he).2⟩) p hp⟩;exact Sub.new (by rw[aY hpq];exact hq0)
theorem LF(h:M d=aa o):put M d o=M:=by
 funext b
 by_cases e:b=d
 .subst e;rw[aJ,h]
 .rw[aY e]
theorem BA{ts:↑Av}{rest:S3}{m:aR}{o:Option W}{keep:Mm->Prop}{M:Mm}{R:K3}(f:Av->Bool)(hl:↥ts<=1000)(hk:∀M,keep M)(F:∀t∈ts,∀V (C:K3),L2.Sub M V->C (.bl (f t)) V->m (aa (.str t)::rest) V C)(r:R (.rl (bools (ts.map f))) M):
  fZ (ts.map W.str) keep (aX 0) eR m (o::rest) M λw V=>frz w V R:=by
 refine uL (rest:=rest) (λw y=>∃t,w=.str t/\y=.bl (f t)) (small (by rw[Ab];lia)) (λ_ _=>hk _) (λw hw V C sb O=>?_) λys po=>aP.frz ?_
 .let⟨t,ht,rfl⟩:=Ar.mp hw;exact F t ht V C sb (O _ ⟨t,rfl,rfl⟩)
 .have e:ys=bools (ts.map f):=by
   clear F r hl
   induction ts generalizing ys with
   | nil=>cases po;rfl
   | cons t ts E=>
    cases po with
    | cons a b=>
     let⟨t',D,rfl⟩:=a;cases D;rw[E _ b];rfl
  rw[e];exact r
theorem wH(rs:↑aD)(X:Av):↥(numsOf rs X)<=↥rs:=by
 unfold numsOf;rw[Ab];exact Ap (Gr _ _) (Om (List.length_zipIdx))
section
variable {P:Be}{w:Br}{C:Cc}
theorem j9.putD(pl:j9 P w c M a d s l)(F:↑(NP×W)):j9 P w c (put M d (.dn P w [0] (kvsOf F))) a d s F:=⟨by
 have:a≠d:=λe=>by have O:=pl.ob;rw[e,pl.di]at O;cases O
 rw[aY this];exact pl.ob,aJ⟩
theorem Pf.slot0{nm:Av->Bool}{sem:Av->↑Av}{H d:Nat}(h:ps.flatMap sem=qs):Pf nm rs sem H d 0 ((Cp ↥ps).map λ(i:Nat)=>W.int i) ps qs:=by
 have:=Pf.slots (nm:=nm) (rs:=rs) (sem:=sem) (H:=H) (d:=d) ps 0;rwa [<-List.range_eq_range',h]at this
def BB(rs:↑aD)(X:Av)(n:Nat)(x:NP):Prop:=x.1=X/\∃r,rs[n]? = aa r/\r.parts=x.2/\sglB rs r=ac/\∀t∈r.parts,fB rs t=ab
theorem zfw:bE (LD P w C) (zfn P w C) zfl:=by
 rintro _ M R ⟨a,d,dx,l,rs,X,kvs,f,rfl,pl,hl,g,hX,hkv,r⟩;have hf:=g.few;have hnl:=g.nam;refine⟨rs,rfl,by lia,aP.frz ⟨namesOf rs,rfl,by lia,rs,X,rfl,g,hX,λc hcX hc3 hcn p0 hp0=>⟨p0,rfl,.inl ⟨_,aJ,?_⟩⟩⟩⟩;rw[i5 hp0];refine⟨_,rfl,?_⟩;refine dB (λi τ M'=>∃l1 o5 o6 o7 o8 o9,τ=[aa (.ref a),aa (bC rs),aa (.str X),aa (.dk kvs),aa (.dk (ownOf rs)),o5,o6,o7,o8,o9]/\M'=put M d (.dn P w [0] (kvsOf l1))/\Ex (λz=>z.1.1=X/\Qz rs f 0 3 z/\Pz rs z) l (17*i) (λx=>∃e∈c.take i,∃n∈numsOf rs e.1,BB rs X n x) l1) ⟨l,_,_,_,_,_,rfl,(LF pl.di).symm,Ex.start⟩ ?_ ?_
 .rintro i v τ M' hv ⟨l1,o5,o6,o7,o8,o9,rfl,rfl,g1⟩ Dx hD;rw[Ay]at hv;let⟨e',he',rfl⟩:=Ba.mp hv;unfold fX at he';rw[Ay]at he';obtain⟨⟨Z,ci⟩,he,rfl⟩:=Ba.mp he';have hi:=(An.mp he).1;let⟨hc2,hcn⟩:=hcn _ (Ao he);have g1l:=g1.len;show _/\_;refine⟨rfl,rfl,rs,Z,rfl,by lia,aP.frz ?_⟩;refine dB (λj τ M'=>∃l2 o7 o8 o9,τ=[aa (.ref a),aa (bC rs),aa (.str X),aa (.dk kvs),aa (.dk (ownOf rs)),aa (.str Z),aa (.tup (jD ci)),o7,o8,o9]/\M'=put M d (.dn P w [0] (kvsOf l2))/\Ex (λz=>z.1.1=X/\Qz rs f 0 3 z/\Pz rs z) l1 (1*j) (λx=>∃n∈(numsOf rs Z).take j,BB rs X n x) l2) ⟨l1,_,_,_,rfl,rfl,Ex.start⟩ ?_ ?_
  .rintro j y τ M' hy ⟨l2,o7,o8,o9,rfl,rfl,g2⟩ Dx hD;rw[Ay]at hy;let⟨n,hn,rfl⟩:=Ba.mp hy;let⟨ru,hru,en⟩:=qB.mp (Ao hn);let⟨ru',h1,h2⟩:=j8 (rs:=rs) (n:=n) (An.mp hru).1;cases (show aa ru'=aa ru from h1.symm.trans hru);have hpr:=g.prt ru (Ao hru);have hjl:=Cb (An.mp hn).1 (wH rs Z);have g2l:=g2.len;have no:(ru.parts.all (fB rs)=ab->sglB rs ru=ab)->Ex (λz=>z.1.1=X/\Qz rs f 0 3 z/\Pz rs z) l1 (1*(j+1)) (λx=>∃n∈(numsOf rs Z).take (j+1),BB rs X n x) l2:=λhno=>g2.step hn (.no λx z0=>by
    let⟨_,q,hq,_,h3,h4⟩:=z0;rw[hru]at hq;cases hq;rw[hno (Gy.mpr h4)]at h3;cases h3)
   refine so.of h2 ?_;refine BA (rest:=[aa (.dk kvs),aa (.dk (ownOf rs))]) (fB rs) (by lia) (λ_=>trivial) (λt ht M' C sb h1=>?_) ?_
   .unfold fB at h1;rw[<-hkv]at h1;refine⟨_,⟨Sum.inr t,rfl,rfl⟩,bP (b:=(aQ kvs (Sum.inr t:aC)).isSome) (λz=>by rw[z]at h1;exact h1) λz=>⟨_,⟨Sum.inr t,rfl,rfl⟩,?_⟩⟩;rw[z,Nq,<-mD]at h1;exact h1
   refine⟨_,rfl,?_⟩;have e2:(ru.parts.map (fB rs)).all id=ru.parts.all (fB rs):=by rw[Of];rfl
   rw[e2];refine bP (b:=ru.parts.all (fB rs)) (λha=>?_) λha=>hD _ _ ⟨l2,_,_,_,rfl,rfl,no λz=>by rw[ha]at z;cases z⟩;refine so.of h2 ⟨rs,ru,rfl,bP (b:=!sglB rs ru) (λhs=>?_) λhs=>?_⟩
   .refine mI (pl.putD l2).ob nG ⟨ci,n,ru.parts,rfl,by lia,a,d,dx,l2,(X,ru.parts),_,rfl,pl.putD l2,by lia,λl' g'=>hD _ _ ⟨l',_,_,_,rfl,b7,g2.step hn (g'.cg (λz ez=>?_) λx=>?_)⟩⟩
    .have hm:=Ao hru;rw[ez];refine⟨rfl,⟨_,rfl,?_⟩,g.pt ru hm,hpr⟩;show Pf _ _ _ _ _ _ _ _ (dC rs f X);rw[mG (.inl hX)];exact(hcn.pf g.hd (d:=1) (by
      rw[show Z=ru.name from en.symm];exact Pf.one (g.hd ru hm).nm hru (by lia) (Pf.slot0 (KH (g.sem hm))))).mono (show 1+↥ci<=3 by have:↥ci<=2:=hc2;lia)
    .rintro⟨rfl,q,hq,h3,_⟩;rw[hru]at hq;cases hq;rw[h3]
   .exact hD _ _ ⟨l2,_,_,_,rfl,rfl,no λ_=>by cases q:sglB rs ru;rw[q]at hs;cases hs;rfl⟩
  .rintro τ M' ⟨l2,o7,o8,o9,rfl,rfl,g2⟩;rw[Ab,Bw]at g2;have:=wH rs Z;exact hD _ _ ⟨l2,_,_,_,_,_,rfl,rfl,g1.step he (g2.le (by lia))⟩
 .rintro τ M' ⟨l1,o5,o6,o7,o8,o9,rfl,rfl,g1⟩;have e:↥((fX c).map λp=>W.tup [wK p.1,p.2])=↥c:=by unfold fX;rw[Ab,Ab]
  rw[e,Bw]at g1;refine⟨_,aW,r l1 ((g1.le (by lia)).cg (λ_ h=>h) λx=>?_)⟩;rintro⟨h1,q,hq,hc,h2,h3,h4⟩;let⟨e,he,en⟩:=Ar.mp (hcX _ hc);let⟨n,hn⟩:=Ii hq;exact⟨e,he,n,qB.mpr ⟨q,hn,en.symm⟩,h1,q,hn,h2,h3,h2▸h4⟩
theorem zfx:bE A7 (ze5 P w C) ze3:=by
 rintro _ M R ⟨rs,rfl,hn,r⟩;obtain⟨J,l,rfl⟩:∃q l,rs=q::l:=by
  cases rs with
  | nil=>exact absurd rfl hn
  | cons q l=>exact⟨q,l,rfl⟩
 refine⟨J,l,rfl,λa s m y S=>⟨a,s,rfl,aJ,λd hd=>⟨rfl,?_⟩⟩⟩;have j:a≠d:=λe=>by rw[<-e,aJ]at hd;cases hd
 rw[aY (Ca j)]at hd;rw[Bt.first j];refine mI (Bt.pl j).ob nG ⟨a,d,s,[],(J.name,[J.name,J.name]),_,rfl,Bt.pl j,Cs _,λF g=>?_⟩;rw[Bt.put];obtain rfl:=g.one (λh=>nomatch h);exact mI (Bt.pl j).ob sA ⟨a,d,s,_,rfl,Bt.pl j,_,Bt.sub m hd j,r⟩
end
section
variable {X:Cx}{a:Ck}{ta:TA}{p p2 pos pos2:Hv}
def zfy(ta:TA):TE:=λC H Q=>ta C H λvs j=>∃n:Nat,vs=[.int n]/\n<=1000/\∀q,j q=ae->Q (.ref q) (aL j q (.lst ((Cp n).map λ(i:Nat)=>V.int i)))
theorem zfz(hc:X.calm=ab)(hg:Gl X "list")(hm:X.mg "list" = ae)(hg2:Gl X "range")(hm2:X.mg "range" = ae)(ha:PA X [a] ta)(hs1:Ci [.Call (.Name "range" p2) [a] [] pos2] X.env=[(ac,Ef (.Call (.Name "range" p2) [a] [] pos2) X.env)]:=by rfl)(hs2:Ci [a] X.env=[(ac,Ef a X.env)]:=by rfl):
  PE X (.Call (.Name "list" p) [.Call (.Name "range" p2) [a] [] pos2] [] pos) (zfy ta):=by
 intro af s Z H Q I h;refine Dy (gE I hg hm (by decide +kernel:Cu "list" = aa (.type "list")) (Cd ?_ hs1 rfl));rw[hs1];refine Kq (Dy (gE I hg2 hm2 (by decide +kernel:Cu "range" = aa (.type "range")) (Cd (aZ (ha pos2 af s Z H _ I h) λus s1 z0=>?_) hs2 rfl)));let⟨vs,H1,I1,r1,q1⟩:=z0;let⟨n,rfl,hn,q⟩:=q1;let⟨u,rfl,ru⟩:=vals1 r1;let⟨t,rfl⟩:=ru;refine Us (Lf ?_);have sz:Ic 0 (n:Int) 1=(n:Nat):=by rw[Tz];split<;>lia
 refine call_list_range (n:=n) (b:=(n:Int)) (I1.ok.hd hc) (Tb _ _ _ _ _ _ _) (PySem.small_one ∅ ∅ (by lia) (by lia)) sz (by lia) λh' tk acc c hk hS hacc=>?_;have up:∀b o,s1.heap.get? b=aa o->h'.get? b=aa o:=λb o e=>hk b o (Af _ e);have ez:(s1.heap.push {cls:=.type "range",data:=.fields #[.int 0 0,.int (n:Int) t,.int 1 0]}).objs.size=⇑s1+1:=Es _ _;refine⟨.ref _,_,I1.laid (o:=.lst ((Cp n).map λ(i:Nat)=>V.int i)) (t':=tk) up ?_ ⟨by simp[Ke];lia,acc.toList,c,?_,by rw[He];exact hS⟩,rfl,q _ (I1.hok.fresh ?_)⟩
 .first|exact Ht (Nat.lt_of_lt_of_eq (Gz _) (Es _ _).symm)|(rw[Es];exact Hi _)
 .refine oZ (by simp[hacc.1]) λj v hv=>?_;have hv':acc[j]? = aa v:=by simpa using hv
  let⟨t',rfl⟩:=hacc.2 j v hv';have hj:j<n:=by have:=(Hu.mp hv').1;rw[hacc.1]at this;exact this
  refine⟨.int j,?_,t',by simp⟩;simp[hj]
 .first|exact Ht (Nat.lt_of_lt_of_eq (Gz _) (Es _ _).symm)|(rw[Es];exact Hi _)
end
section
variable {X:Cx}{a:Ck}{ta:aR}
def LG(ta:aR):aR:=λU M R=>ta U M λw I=>∃n:Nat,w=.int n/\n<=1000/\aP ((Cp n).map λ(i:Nat)=>W.int i) I R
theorem zfA(hg:Gl X "list")(S:X.mg "list" = ae)(d:Gl X "range")(Z:X.mg "range" = ae)(m:E3 X a ta)(hc:X.calm=ab:=by rfl)(u:Ci [.Call (.Name "range" p2) [a] [] pos2] X.env=[(ac,Ef (.Call (.Name "range" p2) [a] [] pos2) X.env)]:=by rfl)(D:Ci [a] X.env=[(ac,Ef a X.env)]:=by rfl):
  E3 X (.Call (.Name "list" p) [.Call (.Name "range" p2) [a] [] pos2] [] pos) (LG ta):=
 (zfz hc hg S d Z (pC m qZ (D.trans rfl)) u D).weak λC H Q A=>A.el λU M R J Y h k=>⟨U,M,λws I=>∃n:Nat,ws=[.int n]/\n<=1000/\aP ((Cp n).map λ(i:Nat)=>W.int i) I R,J,Y,(show aA ta aB U M _ from(show ta U M _ from by
  refine(id h:ta U M _) |> λz=>?_
  exact Eq.mp (congrArg (ta U M) (funext λw=>funext λI=>propext ⟨λ⟨n,e,r⟩=>⟨n,by rw[e],r⟩,λ⟨n,e,r⟩=>⟨n,(List.cons.inj e).1,r⟩⟩)) z)),λvs j ws I B P t ⟨n,e,hn,r⟩=>by
  subst e;let⟨v,rfl,av⟩:=t.one;obtain rfl:=av.inv;refine⟨n,rfl,hn,λq N=>gL P (k.kp B) N ?_ r⟩;have:∀l:↑Nat,aK X.K j I (l.map λ(i:Nat)=>V.int i) (l.map λ(i:Nat)=>W.int i):=by
   intro l
   induction l with
   | nil=>exact .nil
   | cons i r E=>exact .cons (.int _) E
  exact this _⟩
end
abbrev En:=cE×cZ×Nat×↑Int
structure BC(G:Sr)(pre:c8)(e:En)(r:aD):Prop where
 no:cG pre e.1=ae
 ru:G.rs[e.2.2.1]? = aa r
 fa:e.1=(r.name,e.2.2.2.headD 0,e.2.2.2.getLastD 0)
 ln:↥r.parts+1<=↥e.2.2.2
 pn:∀k t,r.parts[k]? = aa t->G.own t=ab/\(cG pre (t,e.2.2.2.getD k 0,e.2.2.2.getD (k+1) 0)).isSome=ab
def wI(G:Sr)(B:c8):Prop:=∀pre e post,B=pre++e::post->∃r,BC G pre e r
theorem zfB(F:l8 (jM rs []) B):wI (jM rs []) B:=λpre e post Z=>by
 let⟨r,O,L,h3,m,Y⟩:=F.bs pre e post Z;have z:∀k,e.2.2.2.getD k 0=0:=λk=>by
  rw[h3,List.getD_eq_getElem?_getD,List.getElem?_replicate];split<;>rfl
 refine⟨r,Option.not_isSome_iff_eq_none.mp λh=>Y ?_,O,?_,by rw[h3,Jh];exact Ai _,λk t ht=>?_⟩
 .rw[L]at h;exact iE.mp h
 .rw[L,h3,show(rep (↥r.parts+1)).getLastD 0=0 by rw[List.getLastD_eq_getLast?,List.getLast?_replicate];rfl];rfl
 .let⟨l,i⟩:=u7.mp (m t (Ao ht));have f:ownB rs t=ab:=by
   cases e:ownB rs t with
   | true=>rfl
   | false=>cases i e
  rw[z,z,iE];exact⟨f,l f⟩
def qC(G:Sr)(n:Nat):↑Av:=((G.rs[n]?).map aD.parts).getD []
abbrev LH(row:↑Av):W:=.rl (row.map W.str)
def iV(fs:↑cE):↑(↑aC×W):=fs.map λf=>(fK f,.bl ab)
noncomputable def oM(row:↑Av):↑(↑aC×W):=(row.zipIdx).map λx=>([Sum.inr x.1,Sum.inl (x.2:Int)],.rl [.tup [.int ((x.2:Int)+1),.int 0]])
def LI:aV:=λws M R=>∃row:↑Av,ws=[LH row]/\↥row<=60/\aP ((Cp (↥row+1)).map λ(i:Nat)=>W.int i) M R
def LJ:aV:=λws M R=>∃row:↑Av,ws=[LH row]/\↥row<=60/\jW (oM row) M R
abbrev zfC:↑Av:=["row"]
abbrev zfD:aE:=
   (bG (LG (aH cU (bH cP (aA aG aB)) a8)))
abbrev zfE:↑Av:=["row"]
abbrev zfF:aE:=
   (bG (bH AB (aA (bJ (dR (uP (aA aG aB)) (fS 2 (cL (aX 0) (cL (aX 1) fR))) eR (bA (aA (bA (aA aM (aA aG aB))) (aA (eY (aA (bA (aA (aH cU aG a8) (aA a6 aB))) aB)) aB))) [ae,ae])) aB)))
theorem LK(r:aP ws M R):aP ws M λw V=>∃o,L2.Sub o V/\R w o:=λp G=>⟨_,aW,r p G⟩
theorem LL(r:jW ws M R):jW ws M λw V=>∃o,L2.Sub o V/\R w o:=λp G=>⟨_,aW,r p G⟩
theorem zfG:bE LI zfD zfC:=by
 rintro _ M R ⟨row,rfl,hl,r⟩;exact⟨↥row+1,by rw[Ab];rfl,by lia,LK r⟩
theorem enum_zip(ws:↑Av):∀n:Nat,gN n (ws.map W.str)=(ws.zipIdx n).map λx=>W.tup [.int (x.2:Int),.str x.1]:=by
 induction ws with
 | nil=>intro n;rfl
 | cons w ws E=>intro n;rw[Bh,gN,E,Lu,Bh]
theorem LM:∀{ps acc:↑(↑aC×W)},((acc++ps).map (·.1)).Nodup->iD acc ps=acc++ps
 | [],acc,_=>by simp[iD]
 | p::ps,acc,h=>by
  have hn:aQ acc p.1=ae:=by
   rw[Ax,Cv]at h;exact HK λe Z z=>h.2.2 _ (Ar.mpr ⟨e,Z,rfl⟩) p.1 (by simp) z
  have e:bY acc p.1 p.2=acc++[p]:=by
   unfold bY;rw[Vy (by rw[show(acc.any λg=>decide (g.1=p.1))=(aQ acc p.1).isSome from j7 acc p.1,hn];decide)]
  show iD (bY acc p.1 p.2) ps=_;rw[e,LM (by rw[Bx];exact h),Bx];rfl
theorem zfH(row:↑Av):((oM row).map (·.1)).Nodup:=by
 unfold oM;rw[Bp];have:∀(row:↑Av) (n:Nat),((row.zipIdx n).map ((λx:↑aC×W=>x.1) ∘ λx:Av×Nat=>(([Sum.inr x.1,Sum.inl (x.2:Int)]:↑aC),W.rl [.tup [.int ((x.2:Int)+1),.int 0]]))).Nodup:=by
  intro row
  induction row with
  | nil=>intro n;exact Eo
  | cons t row E=>
   intro n;rw[Lu,Bh,Cj];refine⟨λS=>?_,E _⟩;let⟨x,J,e⟩:=Ar.mp S;have O:=List.mem_zipIdx J;simp only[Ln,Fh,Sa,Pd,and_true]at e;lia
 exact this row 0
theorem zfI:bE LJ zfF zfE:=by
 rintro _ M R ⟨row,rfl,hl,r⟩;refine ?_;refine ZI (ws:=gN 0 (row.map W.str)) (rest:=[]) (λw y=>∃x:Av×Nat,w=W.tup [.int (x.2:Int),.str x.1]/\y=.tup [.tup (([Sum.inr x.1,Sum.inl (x.2:Int)]:↑aC).map wK),.rl [.tup [.int ((x.2:Int)+1),.int 0]]]) (λw hw=>?_) (small (by rw[kW,Ab];lia)) (λ_ _=>trivial) (λa b S V C sb O=>?_) λys po=>?_
 .rw[enum_zip]at hw;let⟨x,_,rfl⟩:=Ar.mp hw;exact⟨_,_,rfl⟩
 .rw[enum_zip]at S;let⟨x,_,e⟩:=Ar.mp S;simp only[W.tup.injEq,Fh,and_true]at e;let⟨rfl,rfl⟩:=e;exact(O _ ⟨x,rfl,rfl⟩)
 .have K:ys=oI (oM row):=by
   rw[enum_zip]at po;unfold oI oM;rw[Bp]
   revert po
   generalize row.zipIdx=l;intro po
   induction l generalizing ys with
   | nil=>cases po;rfl
   | cons x l E=>
    cases po with
    | cons h t=>
     let⟨c,D,rfl⟩:=h;simp only[W.tup.injEq,Fh,W.int.injEq,W.str.injEq,and_true]at D;have:x=c:=Pe D.2 (by lia);subst this;rw[E _ t];rfl
  subst K;refine aP.frz ⟨oM row,rfl,small (by unfold oI oM;rw[Ab,Ab,List.length_zipIdx];lia),?_⟩;rw[LM (by simpa using zfH row),Jc];exact LL r
theorem BD(fs:↑cE)(f:cE):(aQ (iV fs) (fK f)).isSome=decide (f∈fs):=by
 unfold iV
 induction fs with
 | nil=>rfl
 | cons g fs E=>
  rw[Bh,pQ]
  by_cases h:g=f
  .subst h;rw[Vz rfl];simp
  .rw[Vy (λz=>h (nD _ _ z)),E];have:¬f=g:=λz=>h z.symm;simp[this]
theorem zfJ{fs:↑cE}{f:cE}(h:f∉fs):bY (iV fs) (fK f) (.bl ab)=iV (fs++[f]):=by
 unfold bY;rw[Vy (by rw[show((iV fs).any λg=>decide (g.1=fK f))=(aQ (iV fs) (fK f)).isSome from j7 _ _,BD,decide_eq_true_eq];exact h)];unfold iV;rw[Ax];rfl
def eN(f:cE):W:=.tup ((fK f).map wK)
noncomputable def nL(own:Av->Bool)(ps:↑Av)(cut:↑Int):↑cE:=ps.zipIdx.filterMap λx=>if own x.1=ab then aa (x.1,cut.getD x.2 0,cut.getD (x.2+1) 0) else ae
structure Wb(G:Sr)(B:c8):Prop where
 own:∀t,G.own t=ownB G.rs t
 few:↥G.rs<=100
 ord:wI G B
 bl:↥B<=2000
 pl:∀r∈G.rs,↥r.parts<=100
 hd:∀r∈G.rs,bV r.name=ab
abbrev nM(B:c8):W:=.ft (eA fK eJ B)
def LN:aV:=λws M R=>∃(rs:↑aD) (ps:↑Av) (cut:↑Int),ws=[.dk (ownOf rs),.tup (ps.map W.str),gQ cut]/\↥ps+1<=↥cut/\↥ps<=100/\aP ((nL (ownB rs) ps cut).map eN) M R
def wJ(G:Sr)(B:c8)(p:cE->Bool):Prop:=∀e∈B,p e.1=ab->∀f∈nL G.own (qC G e.2.2.1) e.2.2.2,p f=ab
def LO:aV:=λws M R=>∃(G:Sr) (B:c8) (top:cE),ws=[bC G.rs,nM B,eN top]/\Wb G B/\top∈B.map (·.1)/\∀p:cE->Bool,p top=ab->wJ G B p->(∀q:cE->Bool,q top=ab->wJ G B q->∀f,p f=ab->q f=ab)->aP (((B.map (·.1)).filter p).map eN) M R
def LP:aV:=λws M R=>∃(t:Av) (b e:Int),ws=[.str t,.int b,.int e]/\R (.str t) M
def LQ:aV:=λws M R=>∃(n:Nat) (p:Am) (vs:↑W),ws=[.int n,.ref p]/\M p=aa (.lst vs)/\R (gB n vs) M
def LR(C:Cc):aV:=λws M R=>∃(G:Sr) (B:c8) (top:cE),ws=[bC G.rs,nM B,eN top,.ref C.f,.ref C.g]/\Wb G B/\top∈B.map (·.1)/\∀v,RT bV G.rs ↥B [top.1] [v] []->R v M
def LS(C:Cc):aV:=λws M R=>∃(G:Sr) (B:c8) (top:cE),ws=[bC G.rs,nM B,eN top]/\Wb G B/\top∈B.map (·.1)/\∀v,RT bV G.rs ↥B [top.1] [v] []->R v M
abbrev zfK:↑Av:=["own","parts","cut"]
abbrev zfL:aE:=
   (bG (dR (A4 (aA aM aB)) (fS 2 (cL (aX 0) (cL (aX 1) fR))) (bK (aH (cA ac) aM aT)) (bA (aA aM (aA (vX a7 aG) (aA (vX a7 (aH cU aG a8)) aB)))) [ae,ae,aa 0,aa 2]))
noncomputable abbrev zfM:↑Av:=["grammar","best","top","own","found","waiting","told","fact"]
abbrev zfN:aE:=
   (aN 3 (aS mB (aA (bJ (aS jB (aA aG aB))) aB)))
abbrev zfO:aE:=
   (aN 4 (K1 aT (vC (.bl ab))))
abbrev zfP:aE:=
   (aN 5 (fH (aA aT aB)))
abbrev zfQ:aE:=
   (aF (aN 6 (vX aM (mR "list" n6 b9)))
   (cC (bT cD (bJ (aS LN (aA a7 (aA (vX (vX aG (vX cF a8)) a8) (aA (vX cF kL) aB)))))) (aX 7)
    (bW (bK (aH (cA ab) cT a9))
    (aF (fJ (vC (.bl ab)) (gY a9 cT))
   (bZ (cN "list" dJ b9 (aA cT aB))))
    cB)))
abbrev zfR:aE:=
   (kS (dQ b9) zfQ)
abbrev zfS:aE:=
   (bG (dR (bT rY aM) (aX 0) (bK (aH (cA ac) aG aM)) aG [ae,aa 4]))
abbrev zfT:aE:=(aF zfN (aF zfO (aF zfP (aF zfR zfS))))
noncomputable abbrev zfU:↑Av:=["grammar","best","top","of_word","of_rule","own","made","fact","number","cut","values","k","part"]
abbrev zfV(C:Cc):aE:=
   (aF (aN 8 (vX (vX aM cT) a8))
   (aF (aN 9 (vX (vX aM cT) kL))
   (aF (aN 10 (fH aB))
   (aF (cC (A4 (aA (vX (vX aG eI) a8) aB)) (fS 2 (cL (aX 11) (cL (aX 12) fR)))
    (bW (bK (aH (cA ac) yA b9))
    (bZ (cN "list" dJ qX (aA (vX cF (bA (aA yA (aA (vX gX tX) (aA (vX gX (aH cU tX a8)) aB))))) aB)))
    (bZ (cN "list" dJ qX (aA (A2 3 C.f LP (aA yA (aA (vX gX tX) (aA (vX gX (aH cU tX a8)) aB)))) aB)))))
   (fJ (A2 4 C.g LQ (aA eI (aA qX aB))) (gY cF cT))))))
abbrev zfW(C:Cc):aE:=(aF (aN 5 (aS mB (aA (bJ (aS jB (aA aG aB))) aB))) (aF (aN 6 lQ) (aF (cC (bT cD (bJ (aS LO (aA aG (aA aM (aA aT aB)))))) (aX 7) (zfV C)) (bG (vX cF aT)))))
abbrev zfX:↑Av:=["word","begin","end"]
abbrev zfY:aE:=
   (bG aG)
abbrev zfZ:↑Av:=["number","children"]
abbrev zf0:aE:=
   (bG (bA (aA aG (aA (bH pH (aA aM aB)) aB))))
abbrev zf1:↑Av:=["grammar","best","top"]
abbrev zf2(C:Cc):aE:=
   (bG (aS (LR C) (aA aG (aA aM (aA aT (aA (vC (.ref C.f)) (aA (vC (.ref C.g)) aB)))))))
theorem wL(h:↥rs<=100):↥(namesOf rs)<=400:=by
 have O:=rP (rs.map aD.name) [];rw[Ab,Jd,Mx]at O;exact Ap O (Ap h ∅)
theorem wM{cut:↑Int}{k:Nat}(h:k<↥cut):bR (cut.map W.int) (k:Int)=aa (.int (cut.getD k 0)):=gW (by rw[Ay,List.getD_eq_getElem?_getD,Bg h];rfl)
theorem zf3:bE LP zfY zfX:=by
 rintro _ M R ⟨t,b,e,rfl,r⟩;exact⟨_,aW,r⟩
theorem zf4:bE LQ zf0 zfZ:=by
 rintro _ M R ⟨n,p,vs,rfl,e,r⟩;exact⟨_,e,_,aW,r⟩
theorem zf5:bE (LS C) (zf2 C) zf1:=by
 rintro _ M R ⟨G,B,top,rfl,w,ht,r⟩;exact⟨G,B,top,rfl,w,ht,λv h=>⟨_,aW,r v h⟩⟩
noncomputable def BE(rs:↑aD)(cut:↑Int):W->Option W
 | .tup [.int i,.str t]=>if ownB rs t=ab then aa (eN (t,cut.getD i.toNat 0,cut.getD (i.toNat+1) 0)) else ae
 | _=>ae
theorem zf6{F:W->Option W}{ws:↑W}{os:↑(Option W)}(h:Fz (λw o=>o=F w) ws os):os.filterMap id=ws.filterMap F:=by
 induction h with
 | nil=>rfl
 | cons a _ E=>rw[a,Fc,Fc,E];rfl
theorem zf7(rs:↑aD)(cut:↑Int)(ps:↑Av):(gN 0 (ps.map W.str)).filterMap (BE rs cut)=(nL (ownB rs) ps cut).map eN:=by
 unfold nL;rw[enum_zip,Ku,List.map_filterMap];refine congrArg (λf=>List.filterMap f ps.zipIdx) (funext λx=>?_);show(if ownB rs x.1=ab then _ else ae)=_;rw[Dl]
 by_cases h:ownB rs x.1=ab
 .rw[Vz h,Vz h];rfl
 .rw[Vy h,Vy h];rfl
theorem zf8:bE LN zfL zfK:=by
 rintro _ M R ⟨rs,ps,cut,rfl,hc,hp,r⟩;refine⟨_,rfl,y6 (rest:=[aa (.dk (ownOf rs)),aa (gQ cut)]) (λw o=>o=BE rs cut w) (λw hw=>?_) (small (by rw[kW,Ab];lia)) (λ_ _=>trivial) (λa b hm M' C D sb h1 h2=>?_) λos po=>?_⟩
 .rw[enum_zip]at hw;let⟨x,_,rfl⟩:=Ar.mp hw;exact⟨_,_,rfl⟩
 .rw[enum_zip]at hm;obtain⟨⟨t,k⟩,hx,e⟩:=Ar.mp hm;cases e;have hk:=(An.mp (Hl.mp hx)).1;have ep:BE rs cut (.tup [.int (k:Int),.str t])=if ownB rs t=ab then aa (eN (t,cut.getD k 0,cut.getD (k+1) 0)) else ae:=rfl;have ho:(aQ (ownOf rs) (Sum.inr t:aC)).isSome=ownB rs t:=mD rs t;exact⟨_,⟨Sum.inr t,rfl,rfl⟩,bP (λz=>(so.of (wM (by lia)) (so.of (wM (k:=k+1) (by lia)) (h1 _ (by rw[ep,Vz (ho.symm.trans z)];rfl))))) λz=>h2 (by rw[ep,Vy (ne_true_of_eq_false (ho.symm.trans z))])⟩
 .rw[zf6 po,zf7];exact LK r
structure FW(G:Sr)(B:c8)(top:cE)(ex:cE->Prop)(fs wt:↑cE):Prop where
 tp:top∈fs
 nd:fs.Nodup
 sub:∀f∈fs,f∈B.map (·.1)
 wq:∀f∈wt,f∈fs
 wl:↥wt<=↥fs
 cl:∀e∈B,e.1∈fs->e.1∈wt\/ex e.1\/∀f∈nL G.own (qC G e.2.2.1) e.2.2.2,f∈fs
 mn:∀q:cE->Bool,q top=ab->wJ G B q->∀f∈fs,q f=ab
theorem FW.len{G:Sr}{B:c8}{top:cE}{fs wt:↑cE}{ex:cE->Prop}(h:FW G B top ex fs wt):↥fs<=↥B:=by
 have:=len_sub h.nd h.sub;rw[Ab]at this;exact this
theorem FW.add{G:Sr}{B:c8}{top g:cE}{fs wt:↑cE}{ex:cE->Prop}(h:FW G B top ex fs wt)(hg:g∉fs)(Z:g∈B.map (·.1))(S:∀q:cE->Bool,q top=ab->wJ G B q->q g=ab):FW G B top ex (fs++[g]) (wt++[g]):=by
 refine⟨Bf _ h.tp,?_,λf hf=>?_,λf hf=>?_,(by rw[Aj,Aj];exact Nat.add_le_add_right h.wl _),λe Y hf=>?_,λq O L f hf=>(Bb.mp hf).elim (h.mn q O L f) λz=>by rw[Ag.mp z];exact S q O L⟩
 .rw[Cv];exact⟨h.nd,(by simp),λa m b Z e=>hg (by cases Ag.mp Z;rw[<-e];exact m)⟩
 .rcases Bb.mp hf with z|z
  .exact h.sub f z
  .cases Ag.mp z;exact Z
 .rcases Bb.mp hf with z|z
  .exact Bf _ (h.wq f z)
  .exact Bo _ z
 .rcases Bb.mp hf with z|z
  .rcases h.cl e Y z with y|y|y
   .exact .inl (Bf _ y)
   .exact .inr (.inl y)
   .exact .inr (.inr λf hf=>Bf _ (y f hf))
  .exact .inl (Bo _ z)
noncomputable def qD(fs:↑cE):W->Option W
 | .tup [.str n,.int b,.int e]=>if (n,b,e)∈fs then aa (.tup [.str n,.int b,.int e]) else ae
 | _=>ae
theorem zf9(fs i:↑cE):(i.map eN).filterMap (qD fs)=(i.filter λf=>decide (f∈fs)).map eN:=by
 induction i with
 | nil=>rfl
 | cons f i E=>
  have e:qD fs (eN f)=if f∈fs then aa (eN f) else ae:=rfl;rw[Bh,Fc,Er,e,E]
  by_cases h:f∈fs
  .rw[Vz h,Vz (Wc h),Bh]
  .rw[Vy h,Vy (by rw[We h];exact Bc)]
theorem LU(h:f∈B.map (·.1)):∃v,cG B f=aa v/\aQ (eA fK eJ B) (fK f)=aa (eJ v):=by
 let⟨v,c⟩:=Dz.mp (iE.mpr h);exact⟨v,c,by rw[pZ nD,c];rfl⟩
theorem zga{G:Sr}{B:c8}(o:wI G B){e:En}(Z:e∈B):cG B e.1=aa e.2:=by
 let⟨a,b,sp⟩:=List.append_of_mem Z;let⟨r,E⟩:=o a e b sp;rw[sp,HJ,E.no,nC,Vz rfl];rfl
theorem LV(E:BC G pre e r)(hg:g∈nL G.own r.parts e.2.2.2):g∈pre.map (·.1):=by
 obtain⟨⟨t,k⟩,J,D⟩:=Hw.mp hg;have J:=Hl.mp J
 by_cases f:G.own t=ab
 .rw[Vz f]at D;cases D;exact iE.mp (E.pn k t J).2
 .rw[Vy f]at D;cases D
theorem BF(E:BC G pre e r):qC G e.2.2.1=r.parts:=by unfold qC;rw[E.ru];rfl
theorem zgb:bE LO zfT zfM:=by
 rintro _ M R ⟨G,B,top,rfl,w,ht,r⟩;have hown:G.own=ownB G.rs:=funext w.own;refine⟨G.rs,rfl,(Ap w.few ∅),aP.frz ⟨namesOf G.rs,rfl,wL w.few,λp S=>⟨aJ,fK top,rfl,(λq N=>?_)⟩⟩⟩;rw[b7]at N⊢;have Q:q≠p:=λe=>by rw[e,aJ]at N;cases N
 have hq0:M q=ae:=by rw[aY Q]at N;exact N
 have atp:∀{X Y:MO},put (put M p X) q Y p=aa X:=λ{X Y}=>by rw[aY (Ca Q),aJ]
 have setp:∀{X X' Y:MO},put (put (put M p X) q Y) p X'=put (put M p X') q Y:=λ{X X' Y}=>by rw[mQ Q,b7]
 refine pU (λm U V=>∃fs wt I o,U=[aa (bC G.rs),aa (nM B),aa (eN top),aa (.dk (ownOf G.rs)),aa (.ref p),aa (.ref q),I,o]/\V=put (put M p (.dT (iV fs))) q (.lst (wt.map eN))/\FW G B top (λ_=>False) fs wt/\m=2*(↥B-↥fs)+↥wt)
  ⟨_,[top],[top],_,_,rfl,rfl,⟨List.mem_singleton_self _,(by simp),λf hf=>by cases Ag.mp hf;exact ht,λf hf=>hf,Ai _,λe _ hf=>.inl hf,λq O _ f hf=>by rw[Ag.mp hf];exact O⟩,rfl⟩ ?_
 rintro m U V ⟨fs,wt,I,o,rfl,rfl,F,rfl⟩ Dw hDw;refine(.inl ⟨_,aJ,bP (λh=>?_) λh=>?_⟩)
 .rcases Lq wt with e|⟨wt',f,e⟩
  .rw[e]at h;cases h
  rw[Lr]at e;subst e;let⟨v,c,lv⟩:=LU (F.sub f (F.wq f (by simp)));let⟨pre,post,sp⟩:=rQ c;let⟨ru,E⟩:=w.ord pre _ post sp;let⟨ru',O,L⟩:=j8 (rs:=G.rs) (n:=v.2.1) (An.mp E.ru).1;cases (show aa ru'=aa ru from O.symm.trans E.ru);refine⟨dU aJ,_,_,by rw[Ax];exact aJ,_,⟨fK f,rfl,lv.symm⟩,(so.of L ⟨G.rs,ru.parts,v.2.2,rfl,E.ln,w.pl ru (Ao O),aP.frz ?_⟩)⟩;rw[b7,<-hown];obtain⟨pf,hpf⟩:∃pf,pf=nL G.own ru.parts v.2.2:=⟨_,rfl⟩;rw[<-hpf];have hpB:∀g∈pf,g∈B.map (·.1):=λg hg=>by
   rw[hpf]at hg;rw[sp,Ax];exact Bf _ (LV E hg)
  have T:=F.len;refine dB (λj U V=>∃fs2 t o,U=[aa (bC G.rs),aa (nM B),aa (eN top),aa (.dk (ownOf G.rs)),aa (.ref p),aa (.ref q),aa (eJ v),o]/\V=put (put M p (.dT (iV fs2))) q (.lst (t.map eN))/\(∀g∈pf.take j,g∈fs2)/\FW G B top (λx=>x=f) fs2 t/\2*(↥B-↥fs2)+↥t+1<=2*(↥B-↥fs)+↥(wt'++[f])) ?_ ?_ ?_
  .refine⟨fs,wt',⟨_,rfl,rfl,(λg hg=>nomatch hg),⟨F.tp,F.nd,F.sub,λx J=>F.wq x (Bf _ J),Ap (by rw[Aj];exact Ka _ _) F.wl,λe Z hf=>?_,F.mn⟩,by rw[Aj];exact Ai _⟩⟩;rcases F.cl e Z hf with y|y|y
   .rcases Bb.mp y with y|y
    .exact .inl y
    .exact .inr (.inl (Ag.mp y))
   .exact y.elim
   .exact .inr (.inr y)
  .rintro j x U V J ⟨fs2,t,o,rfl,rfl,i,F2,P⟩ D1 hD1;rw[Ay]at J;let⟨g,hg,rfl⟩:=Ba.mp J;have hgm:=Ao hg;have hl2:=F2.len;have hbl:=w.bl;refine(.inr ⟨_,.inr ⟨iV fs2,fK g,atp,rfl,rfl⟩,?_⟩);show if (!(aQ (iV fs2) (fK g)).isSome)=ab then _ else _;rw[BD];refine bP (λhn=>?_) λhn=>?_
   .have hn:g∉fs2:=of_decide_eq_false (by rw[<-Hb (decide _),hn];rfl);have F3:=F2.add hn (hpB g hgm) λq O L=>L (f,v) (by rw[sp];simp) (F.mn q O L f (F.wq f (by simp))) g (by rw[show qC G v.2.1=ru.parts from BF E,<-hpf];exact hgm);have hl3:=F3.len;rw[Aj,Co]at hl3;have lw:=F2.wl;refine(pM (k:=fK g) atp (by unfold iV;rw[Ab];exact cM (by lia)) ?_);rw[zfJ hn,setp];refine⟨dU aJ,⟨_,aJ,cM (by rw[Ab];lia),hD1 _ _ ⟨fs2++[g],t++[g],⟨_,rfl,?_,λy K=>?_,F3,?_⟩⟩⟩⟩
    .rw[b7,Ax];rfl
    .rw[Cf,hg]at K;rcases Bb.mp K with z|z
     .exact Bf _ (i y z)
     .exact Bo _ z
    .rw[Aj,Aj,Co];lia
   .have hn:g∈fs2:=Wa (by rw[<-Hb (decide _),hn];rfl);refine hD1 _ _ ⟨fs2,t,⟨_,rfl,rfl,λy K=>?_,F2,P⟩⟩;rw[Cf,hg]at K;rcases Bb.mp K with z|z
    .exact i y z
    .cases Ag.mp z;exact hn
  .rintro U V ⟨fs2,t,o,rfl,rfl,i,F2,P⟩;rw[Ab,Bw]at i;refine hDw _ _ _ P ⟨fs2,t,_,⟨_,rfl,rfl,⟨F2.tp,F2.nd,F2.sub,F2.wq,F2.wl,λe Z hf=>?_,F2.mn⟩,rfl⟩⟩;rcases F2.cl e Z hf with y|y|y
   .exact .inl y
   .have:=zga w.ord Z;rw[y,c]at this;refine .inr (.inr λg hg=>i g ?_);rw[<-Ct this,show qC G v.2.1=ru.parts from BF E]at hg;rw[hpf];exact hg
   .exact .inr (.inr y)
 .have e:wt=[]:=by
   cases wt with
   | nil=>rfl
   | cons a b=>cases h
  subst e;have hbl:=w.bl;refine(uK (rest:=[aa (.ref p)]) (qD fs) (small (by rw[Ab,Ab];lia)) (λ_ _=>trivial) (λx J H C D sb d1 A=>?_) ?_)
  .rw[Bp]at J;let⟨e,Z,rfl⟩:=Ar.mp J;have ei:qD fs (eN e.1)=if e.1∈fs then aa (eN e.1) else ae:=rfl;refine(.inr ⟨_,.inr ⟨iV fs,fK e.1,sb _ _ atp,rfl,rfl⟩,?_⟩);show if (aQ (iV fs) (fK e.1)).isSome=ab then _ else _;rw[BD];exact bP (λz=>(d1 _ (by show qD fs (eN e.1)=_;rw[ei,Vz (Wa z)];rfl))) λz=>A (by show qD fs (eN e.1)=_;rw[ei,Vy (of_decide_eq_false z)])
  .have e:((eA fK eJ B).map λp=>W.tup (p.1.map wK))=(B.map (·.1)).map eN:=by rw[Bp,Bp];rfl
   rw[e,zf9];have z:=r (λf=>decide (f∈fs)) (Wc F.tp) λe Z hf f P=>by
    rcases F.cl e Z (Wa hf) with y|y|y
    .cases y
    .exact y.elim
    .exact Wc (y f P)
   have z:=z λq O L f hf=>F.mn q O L f (Wa hf);intro s l;have u:s≠q:=λe=>by rw[e,aJ]at l;cases l
   have d:s≠p:=λe=>by rw[e,atp]at l;cases l
   rw[aY u,aY d]at l;exact⟨_,Sub.put (gP (gP (aW) S) hq0),z s l⟩
theorem zgc(o:wI G B):(B.map (·.1)).Nodup:=by
 rw[Gm,Jk];refine List.pairwise_iff_getElem.mpr λi j hi hj p e=>?_;let⟨r,E⟩:=o (B.take j) B[j] (B.drop (j+1)) (by rw[<-Fw hj,Hz]);have S:B[j].1∈(B.take j).map (·.1):=by
  rw[<-e];exact List.mem_map_of_mem (List.mem_iff_getElem.mpr ⟨i,by rw[Cg];lia,by rw[List.getElem_take]⟩)
 rw[<-iE,E.no]at S;cases S
theorem zgd(nd:l.Nodup)(e:l=a++f::b){j:Nat}(h:l[j]? = aa f):l.take j=a:=by
 have:j=↥a:=(List.getElem?_inj (An.mp h).1 nd).mp (h.trans (by rw[e,Hx (Ai _),Ol];rfl));rw[this,e,List.take_left]
abbrev qE(T:↑(cE×W)):↑(↑aC×W):=eA fK (λw=>w) T
theorem zge{T:↑(cE×W)}{g:cE}{v:W}(h:g∉T.map (·.1)):bY (qE T) (fK g) v=qE (T++[(g,v)]):=by
 refine(IT (f:=λw=>w) nD _ g v).trans ?_;rw[HL (Option.not_isSome_iff_eq_none.mp λz=>h (iE.mp z))]
theorem zgf{C:Cc}:bE (LR C) (zfW C) zfU:=by
 rintro _ M R ⟨G,B,top,rfl,w,ht,r⟩;have hown:G.own=ownB G.rs:=funext w.own;have nd:=zgc w.ord;refine⟨G.rs,rfl,(Ap w.few ∅),aP.frz ⟨namesOf G.rs,rfl,wL w.few,λp hp=>⟨G,B,top,rfl,w,ht,λP hP hcl _=>aP.frz ?_⟩⟩⟩;obtain⟨F,hF⟩:∃F,F=(B.map (·.1)).filter P:=⟨_,rfl⟩;rw[<-hF];have ndF:F.Nodup:=by rw[hF];exact nd.filter _
 have lF:↥F<=2000:=Ap (by rw[hF];exact Gr _ _) (by rw[Ab];exact w.bl);refine l7 (λj τ M'=>∃T o7 o8 o9 o10 o11 o12,τ=[aa (bC G.rs),aa (nM B),aa (eN top),aa (.ref C.f),aa (.ref C.g),aa (.dk (ownOf G.rs)),aa (.ref p),o7,o8,o9,o10,o11,o12]/\M'=put M p (.dT (qE T))/\T.map (·.1)=F.take j/\∀e∈T,RT bV G.rs j [e.1.1] [e.2] []) ⟨[],_,_,_,_,_,_,rfl,rfl,rfl,λ_ h=>nomatch h⟩ ?_ ?_
 .rintro j x τ M' hx ⟨T,o7,o8,o9,o10,o11,o12,rfl,rfl,hT,hR⟩;rw[Ay]at hx;let⟨f,hf,rfl⟩:=Ba.mp hx;have hfm:f∈F:=Ao hf;have hfm2:=hfm;rw[hF]at hfm2;let⟨hfB,hfP⟩:=Fo.mp hfm2;let⟨v,hv,lv⟩:=LU hfB;let⟨pre,post,sp⟩:=rQ hv;let⟨ru,E⟩:=w.ord pre _ post sp;let⟨ru',h1,h2⟩:=j8 (rs:=G.rs) (n:=v.2.1) (An.mp E.ru).1;cases (show aa ru'=aa ru from h1.symm.trans E.ru);have hpl:=w.pl ru (Ao h1);have hcutl:↥ru.parts+1<=↥v.2.2:=E.ln;have htk:F.take j=(pre.map (·.1)).filter P:=zgd ndF (by rw[hF,sp,Ax,Bh,Iz,Er,Vz hfP]) hf;have hpf:∀k t,ru.parts[k]? = aa t->(t,v.2.2.getD k 0,v.2.2.getD (k+1) 0)∈F.take j:=λk t hk=>by
   have ho:=(E.pn k t hk).1;have hg:(t,v.2.2.getD k 0,v.2.2.getD (k+1) 0)∈nL G.own ru.parts v.2.2:=Hw.mpr ⟨(t,k),Hl.mpr hk,by rw[Vz ho]⟩;rw[htk];refine Fo.mpr ⟨LV E hg,hcl (f,v) (by rw[sp];simp) hfP _ ?_⟩;rw[BF E];exact hg
  have hnf:f∉F.take j:=λz=>by
   rw[htk]at z;have:=(Fo.mp z).1;rw[<-iE,E.no]at this;cases this
  refine⟨_,⟨fK f,rfl,lv.symm⟩,_,⟨fK f,rfl,lv.symm⟩,λq hq=>?_⟩;have hpq:q≠p:=λe=>by rw[e,aJ]at hq;cases hq
  have atp:∀{X Y:MO},put (put M p X) q Y p=aa X:=λ{X Y}=>by rw[aY (Ca hpq),aJ]
  refine(so.of h2 ⟨_,rfl,?_⟩);refine dB (λk τ M'=>∃vs o11 o12,τ=[aa (bC G.rs),aa (nM B),aa (eN top),aa (.ref C.f),aa (.ref C.g),aa (.dk (ownOf G.rs)),aa (.ref p),aa (eN f),aa (.int v.2.1),aa (gQ v.2.2),aa (.ref q),o11,o12]/\M'=put (put M p (.dT (qE T))) q (.lst vs)/\RT bV G.rs j (ru.parts.take k) vs []) ⟨[],_,_,rfl,rfl,.nil⟩ ?_ ?_
  .rintro k x τ M' hx ⟨vs,o11,o12,rfl,rfl,hvs⟩ Dx hD;rw[rL,Ay]at hx;cases hs:ru.parts[k]? with
   | none=>rw[hs]at hx;cases hx
   | some t=>
    rw[hs]at hx;cases hx;have hk1:=(An.mp hs).1;have ho:(aQ (ownOf G.rs) (Sum.inr t:aC)).isSome=G.own t:=by rw[hown];exact mD G.rs t
    have lk:↥vs<Au:=cM (by rw[hvs.len,Cg];lia);have c1:bR (v.2.2.map W.int) ((0+k:Nat):Int)=aa (.int (v.2.2.getD k 0)):=by rw[Mx];exact wM (by lia)
    have c2:bR (v.2.2.map W.int) (((0+k:Nat):Int)+1)=aa (.int (v.2.2.getD (k+1) 0)):=by rw[Mx];exact wM (k:=k+1) (by lia)
    have fin:∀y,put (put (put M p (.dT (qE T))) q (.lst vs)) q (.lst (vs++[y]))=put (put M p (.dT (qE T))) q (.lst (vs++[y])):=λy=>b7;refine⟨rfl,rfl,_,⟨Sum.inr t,rfl,rfl⟩,bP (λz=>?_) λz=>?_⟩
    .let⟨y,hy⟩:=Dz.mp (iE.mpr (by rw[hT];exact hpf k t hs:(t,v.2.2.getD k 0,v.2.2.getD (k+1) 0)∈T.map (·.1)));have hy2:RT bV G.rs j [t] [y] []:=by
      let⟨a,b,e⟩:=rQ hy;exact hR ((t,v.2.2.getD k 0,v.2.2.getD (k+1) 0),y) (by rw[e];simp)
     exact⟨dU aJ,so.of c1 (so.of c2 (pV (k:=fK (t,v.2.2.getD k 0,v.2.2.getD (k+1) 0)) (w:=y) atp (by rw[pZ nD,hy];rfl) ⟨_,aJ,lk,hD _ _ ⟨_,_,_,rfl,fin _,by rw[Cf,hs];exact hvs.app hy2⟩⟩))⟩
    .rw[ho,(E.pn k t hs).1]at z;cases z
  .rintro τ M' ⟨vs,o11,o12,rfl,rfl,hvs⟩;have hTl:↥T=j:=by
    have:=congrArg Ky hT;rw[Ab,Cg]at this;have:=(An.mp hf).1;lia
   have:=(An.mp hf).1;rw[kW,Ab,Bw]at hvs;refine⟨rfl,v.2.1,q,vs,rfl,aJ,pM (k:=fK f) atp (cM (by rw[Ab];lia)) ?_⟩;rw[zge (by rw[hT];exact hnf),mQ hpq,b7];refine⟨_,Sub.new ?_,T++[(f,gB v.2.1 vs)],_,_,_,_,_,_,rfl,rfl,?_,λe he=>?_⟩
   .rw[aY hpq];rw[aY hpq]at hq;exact hq
   .rw[Ax,hT,Cf,hf];rfl
   .rcases Bb.mp he with he|he
    .exact(hR e he).mono (Hi _)
    .rw[Ag.mp he];have:f.1=ru.name:=(congrArg Eb E.fa);rw[this];exact .knot (w.hd ru (Ao h1)) h1 (Ai _) hvs .nil
 .rintro τ M' ⟨T,o7,o8,o9,o10,o11,o12,rfl,rfl,hT,hR⟩;rw[Ab]at hR;rw[Ab,Bw]at hT;let⟨y,hy⟩:=Dz.mp (iE.mpr (by rw[hT,hF];exact Fo.mpr ⟨ht,hP⟩:top∈T.map (·.1)));have hy2:RT bV G.rs ↥B [top.1] [y] []:=by
   let⟨a,b,e⟩:=rQ hy;exact(hR (top,y) (by rw[e];simp)).mono (by rw[hF];exact Ap (Gr _ _) (by rw[Ab];exact Ai _))
  exact pV (k:=fK top) (w:=y) aJ (by rw[pZ nD,hy];rfl) ⟨_,Sub.new hp,r y hy2⟩
section
variable {X:Cx}{af:Pn}{Z:St}{H:Hp}{s:Ak}{a:Am}
theorem Inv.swap{F G:Du->Prop}(I:Inv X af Z H s)(e:H a=aa (.ext F))(hg:∀l,b5 X.prog X.w l s.heap a (.ext G)):Inv X af Z (aL H a (.ext G)) s:=by
 have ne:∀{b:Am} {v:HO},H b=aa v->v≠.ext F->b≠a:=λ{b v} D h z=>by subst z;rw[e]at D;exact h (Ct D).symm
 have g:∀{b:Am},H b=ae->b≠a:=λ{b} D z=>by subst z;rw[e]at D;cases D
 have d:∀b xs,H b=aa (.tup xs)->aL H a (.ext G) b=aa (.tup xs):=λb xs T=>by
  rw[bD (ne T (λz=>by cases z))];exact T
 have i:∀b y,H b=aa (.own y)->aL H a (.ext G) b=aa (.own y):=λb y T=>by
  rw[bD (ne T (λz=>by cases z))];exact T
 refine I.step (h':=s.heap) (g':=s.gens) (d':=s.drawn) (t':=s.toks) (ch:=[]) (λ_ z=>nomatch z) (λb o _ _ _ D _=>D) (λb o _ _ _ D _=>⟨o.slots,D⟩) (λb o _ _ n=>by rw[bD (g n)];exact n) (λb o _ D=>⟨o,D⟩) d
  (λb ob v T=>?_) (λb ps T=>⟨#[],?_⟩) (λm S=>S) (λb v T=>?_) I.bare
 .rw[bD (ne T (λz=>by cases z))];exact T
 .rw[bD (ne T (λz=>by cases z)),T];simp
 .by_cases Y:b=a
  .subst Y;rw[b8]at T;cases T;exact hg _
  .rw[bD Y]at T;exact(I.hok b v T).stay (λ_ _ _ q=>q) (λc q=>i c b q) d
def BG(P:Be)(w:Br)(tl:↑Int)(a:Am)(o:Ms)(n:Nat):It:=
 ⟨λi H=>(∃es,H a=aa (.ext (iA P w tl a es o)))/\i<n,λi H x l=>l=H/\∃b en J ep,o.data=.dict J ep/\J[i]? = aa en/\en.key=.ref b/\x=.ref b,λi H=>(∃es,H a=aa (.ext (iA P w tl a es o)))/\n<=i⟩
theorem zgg{P:Be}{w:Br}{K:Ac}{tg:Ck}{tl:↑Int}(a it:Am)(o:Ms)(J:Array Eg)(ep:Nat)(hd:o.data=.dict J ep)(hk:∀(i:Nat) (en:Eg),J[i]? = aa en->∃b,en.key=.ref b):
  i0 P w K tg (BG P w tl a o J.size) [it] it (λi h=>h.IsKeyIter it a i J.size ep) where
 mem:=by simp
 obj:=λi h st b Y=>by
  have e:b=it:=by simpa using Y
  subst e;let⟨o,e,c,d⟩:=st;exact⟨o,e,λv z=>by rw[d]at z;cases z⟩
 keep:=λi h h' st k=>st.at λo e=>k it (by simp) o e
 item:=by
  intro X R hw Q hc i af s Z H E I hf st hg;subst R hw Q;obtain⟨⟨es,D⟩,hi⟩:=hg;have f:s.heap.get? a=aa o:=(show b5 X.prog X.w H s.heap a (.ext (iA X.prog X.w tl a es o)) from I.hok a _ D).1.1;let⟨b,Y⟩:=hk i J[i] (by simp[hi]);let⟨f0,C,O,L,j,S⟩:=hf it (by simp);refine tT ac st f hd hi λh' m sb=>?_;have M:Inv X af Z H {s with heap:=h'}:=I.turned (t':=s.toks) (λb o Y e=>(sb.2 b Y).trans e) f0 C L j S;let⟨U,e,c,d⟩:=id m;exact⟨_,rfl,oP (s:={s with heap:=h'}) e c d ∅ ⟨.ref b,H,M,Y,⟨rfl,b,_,_,_,hd,by simp[hi],Y,rfl⟩,m,λb Y=>(hf b Y).1⟩⟩
 done:=by
  intro X R hw Q hc i af s Z H E I hf st hg;subst R hw Q;obtain⟨⟨es,D⟩,hi⟩:=hg;have f:s.heap.get? a=aa o:=(show b5 X.prog X.w H s.heap a (.ext (iA X.prog X.w tl a es o)) from I.hok a _ D).1.1;refine tU ac (I.ok.hd hc) st f hd (by lia) λh' hk=>⟨rfl,?_⟩
  exact I.turnedT (tk:=s.toks) hf λq o N eq=>hk q o (λz=>N (by simp[z])) eq
 self:=λ_ _ _ _ _ st h=>Qj st h
end
section
variable {X:Cx}
abbrev BH(P:Be)(w:Br)(tl:↑Int):W->Mm->(↑W->(Mm->Prop)->Mm->Prop)->Prop:=λx I R=>∃a kvs o,x=.ref a/\I a=aa (.dh P w tl kvs o)/\R (kvs.map λp=>gO tl p.1) (λM=>M a=aa (.dh P w tl kvs o)) I
theorem zgh{K:Ac}{j:Hp}{m:Mm}{P:Be}{w:Br}{tl:↑Int}{a:Am}{o:Ms}{kvs:↑(bQ×W)}{J:Array Eg}{ep:Nat}(hd:o.data=.dict J ep)(hn:J.size=↥kvs):iC K j m (BG P w tl a o J.size) (kvs.map λp=>gO tl p.1) λM=>M a=aa (.dh P w tl kvs o):=by
 refine⟨λi H M k Y e hi=>?_,λH M k Y e=>?_,λi H M x l k Y e hi y=>?_⟩
 .let⟨es,D,_⟩:=Y _ _ e;rw[Ab]at hi;exact⟨⟨es,D⟩,by lia⟩
 .let⟨es,D,_⟩:=Y _ _ e;exact⟨⟨es,D⟩,by rw[Ab];lia⟩
 .let⟨rfl,b,en,c,F,n,d,Z,rfl⟩:=y;cases hd.symm.trans n;obtain⟨es,D,⟨f,s,g,hsz,hz⟩,q⟩:=Y _ _ e;cases hd.symm.trans g;let⟨z,C,R⟩:=hz i en d;rw[Z]at R;cases R;have:∀{es:↑(bQ×Am×V)} {kvs:↑(bQ×W)} {i:Nat},PN K l M tl es kvs->es[i]? = aa z->∃p,kvs[i]? = aa p/\z.1=p.1/\iB l tl z.1 z.2.1:=by
   intro es kvs i r
   induction r generalizing i with
   | nil=>intro h;cases h
   | @cons p q ps qs N t E=>
    intro h;cases i with
    | zero=>cases h;exact⟨q,rfl,N.1,N.2.1⟩
    | succ i=>rw[Ep]at h⊢;exact E h
  let⟨p,O,L,X⟩:=this q C;exact⟨gO tl p.1,by rw[Ay,O];rfl,Kp.refl Y,Y,by rw[<-L];exact iB.av X⟩
theorem zgi{tg:Ck}{tl:↑Int}:lR X tg (rG X.K (BH X.prog X.w tl)):=by
 rintro af s Z H x u Q I l ⟨t,M,R,N,Y,⟨a,kvs,o,rfl,e,h⟩,k⟩;obtain rfl:=N.inv;cases (show u=Value.ref a from l);obtain⟨es,D,⟨J,ep,hd,hsz,hz⟩,q⟩:=Y _ _ e;have hl:=Dg q;have hh:=(show b5 X.prog X.w H s.heap a (.ext (iA X.prog X.w tl a es o)) from I.hok a _ D).1;let⟨c,F,T,_,_,S,_⟩:=rN hh.2;have fp:∀b∈[⇑s],gU X af H b:=λb V=>by
  have e:b=⇑s:=by simpa using V
  subst e;exact I.fpOk (Ai _) (I.hok.fresh (Ai _))
 have T:gK s.heap a J ep:=by
  let⟨U,W,C,f⟩:=T;rw[hh.1]at W;cases W;exact⟨o,hh.1,C,hd⟩
 exact tV S T ⟨⇑s,[⇑s],_,BG X.prog X.w tl a o J.size,H,rfl,I.kept (t':=s.toks) λb o e=>Af _ e,zgg a _ o J ep hd (λi en P=>(hz i en P).elim λz y=>⟨_,y.2⟩),⟨_,Az _ rfl,rfl,rfl⟩,fp,k _ _ _ _ _ (Kp.refl Y) Y (zgh hd (by lia)) h⟩
theorem zgj(hl:E3 X l tl):PI X tg l (fT X.K (bT (BH X.prog X.w n) tl)):=uF hl zgi
theorem BI{K:Ac}{H:Hp}{M:Mm}{a:Am}{s o:MO}{u:HO}(Y:AM K H M)(e:M a=aa s):Go H M (aL H a u) (put M a o):=by
 have g:∀{b:Am},M b=ae->b≠a:=λ{b} h z=>by subst z;rw[e]at h;cases h
 refine⟨λb xs T=>?_,λb ob v T=>?_,λb v n T=>?_⟩
 .rw[bD (g (Y.noTup T))];exact T
 .rw[bD (g (Y.noFrz T))];exact T
 .rw[bD (g n),aY (g n)];exact⟨T,n⟩
theorem LW{K:Ac}{H:Hp}{M:Mm}{a:Am}{s o:MO}{u:HO}(Y:AM K H M)(e:M a=aa s)(N:AO K (aL H a u) (put M a o) a o):AM K (aL H a u) (put M a o)/\Kp H M (aL H a u) (put M a o):=by
 have go:Go H M (aL H a u) (put M a o):=BI Y e;refine⟨λb t T=>?_,λb v n T=>go.hl b v n T,λb v T=>?_⟩
 .by_cases Z:b=a
  .subst Z;rw[aJ]at T;cases T;exact N
  .rw[aY Z]at T;exact(Y b t T).go go (bD Z)
 .by_cases Z:b=a
  .subst Z;exact⟨_,b8⟩
  .let⟨y,q⟩:=(Y b v T).has;exact⟨y,by rw[bD Z];exact q⟩
abbrev BJ(P:Be)(w:Br)(tl:↑Int)(m:aR):aR:=λU M R=>∃a kvs,M a=aa (.dn P w tl kvs)/\∀o,m U (put M a (.dh P w tl kvs o)) λx V=>V a=aa (.dh P w tl kvs o)/\R x (put V a (.dn P w tl kvs))
theorem zgk(h:E3 X e m):E3 X e (BJ X.prog X.w tl m):=by
 rintro af s σ H Q I ⟨U,M,R,n,Y,⟨a,kvs,B,h'⟩,k⟩;let⟨es,D,q⟩:=Y _ _ B;have J:=pO I D;let⟨C,ep,T,hsz,_,_,hz⟩:=rN J;let⟨o,f,hc,hd⟩:=T;have held:iA X.prog X.w tl a es o s.heap:=⟨f,J⟩;have i:=I.swap D (G:=iA X.prog X.w tl a es o) λ_=>held.ok;have go:Go H M (aL H a (.ext (iA X.prog X.w tl a es o))) (put M a (.dh X.prog X.w tl kvs o)):=BI Y B;let⟨E,F⟩:=LW (o:=.dh X.prog X.w tl kvs o) (u:=.ext (iA X.prog X.w tl a es o)) Y B ⟨es,b8,⟨C,ep,hd,hsz,λj en Z=>(hz j en Z).elim λz y=>⟨z,y.1,y.2.1⟩⟩,Paired.mapP q λp r z=>⟨z.1,let ⟨pa,n1,n2⟩:=z.2.1;⟨pa,go.ht _ _ n1,go.ht _ _ n2⟩,z.2.2.go go⟩⟩;refine aZ (h af s σ _ (λx K=>∃A,K a=aa (.ext (iA X.prog X.w tl a A o))/\Q x (aL K a (.ext (dG X.prog X.w tl a A)))) i ⟨U,_,_,n.kp Y F,E,h' o,λv l w V L t av ⟨eM,r⟩=>?_⟩) λv g ⟨x,K,O,c,A,P,d⟩=>?_
 .let⟨A,W,_,N⟩:=t _ _ eM;have go4:Go l V (aL l a (.ext (dG X.prog X.w tl a A))) (put V a (.dn X.prog X.w tl kvs)):=BI t eM;let⟨b,S⟩:=LW (o:=.dn X.prog X.w tl kvs) (u:=.ext (dG X.prog X.w tl a A)) t eM ⟨A,b8,Paired.mapP N λp r z=>⟨z.1,let ⟨pa,n1,n2⟩:=z.2.1;⟨pa,go4.ht _ _ n1,go4.ht _ _ n2⟩,z.2.2.go go4⟩⟩;exact⟨A,W,k _ _ _ _ ((F.trans L).trans S) b (av.go go4) r⟩
 .have h3:=(show b5 X.prog X.w K g.heap a (.ext (iA X.prog X.w tl a A o)) from O.hok a _ P).1;exact⟨x,_,O.swap P (λ_=>dG.ok h3.2),c,d⟩
end
def LX(P:Be)(w:Br)(C:Am):aV:=λws M R=>∃a d s l,∃x:Av,ws=[.ref a,.str x]/\j9 P w C M a d s l/\↥l<=100000/\∀b,R (.bl b) M
abbrev zgl:↑Av:=["self","name"]
abbrev zgm(P:Be)(w:Br)(C:Am):aE:=
   (bG (bH uO (aA (bJ (BJ P w [0] (dR (bT (BH P w [0]) (cY C aG "backs")) (aX 0) eR (aH (cA ac) aM (vX aG a8)) [ae,aa 1]))) aB)))
theorem zgn:bE (LX P w C) (zgm P w C) zgl:=by
 rintro _ M R ⟨a,d,s,l,x,rfl,pl,hl,r⟩;have j:a≠d:=λe=>by have O:=pl.ob;rw[e,pl.di]at O;cases O
 refine⟨d,kvsOf l,pl.di,λo=>?_⟩;have m:put M d (.dh P w [0] (kvsOf l) o) a=aa (.ins C s [("backs",.ref d)]):=by rw[aY j];exact pl.ob
 have y:Cm ("backs" : Av) [(("backs" : Av),W.ref d)]=aa (.ref d):=by rw[Ea,show(("backs" : Av)==("backs" : Av))=ab by decide +kernel]
 refine⟨a,s,_,_,rfl,m,y,d,kvsOf l,o,rfl,aJ,?_⟩;have u:((kvsOf l).map λp=>gO [0] p.1)=(l.map λz=>p7 z.1).map bF:=by
  unfold kvsOf;rw[Bp,Bp];exact Fb λz _=>J8 z.1
 rw[u];refine lX (rest:=[aa (.str x)]) (λw=>match w with|.tup [_,.tup ps,_]=>.bl (inW (.str x) ps)|_=>.non) (small (by rw[Ab,Ab];lia)) (λV sb=>sb _ _ aJ) (λw hw V C sb O=>?_) λp G=>?_
 .let⟨q,N,rfl⟩:=Ar.mp hw;exact⟨rfl,pY _,O⟩
 .have b:p≠d:=λe=>by rw[e,aJ]at G;cases G
  have n:M p=ae:=by rw[aY b]at G;exact G
  refine⟨by rw[aY (Ca b),aJ],?_⟩;rw[mQ b,b7,show put M d (.dn P w [0] (kvsOf l))=M from xY pl.di];refine ER n ?_;have D:(((l.map λz=>p7 z.1).map bF).map λw=>match w with|.tup [_,.tup ps,_]=>W.bl (inW (.str x) ps)|_=>.non)=bools (l.map λz=>inW (.str x) (z.1.2.map W.str)):=by
   unfold bools;rw[Bp,Bp,Bp];rfl
  rw[D];exact⟨_,rfl,_,aW,r _⟩
def zgo(rs:↑aD)(D:↑Av):Prop:=∃n,D=eL rs n/\jC rs D=D
noncomputable def drK(kvs:↑(aC×W))(t:Av):Bool:=(aQ kvs (Sum.inr t:aC)).isSome
def iW(kvs:↑(aC×W))(t:Av):W:=(aQ kvs (Sum.inr t:aC)).getD .non
abbrev wN(rs:↑aD)(D:↑Av)(kvs:↑(aC×W))(ps:↑Av):↑iF:=mC (d9 rs D) (drK kvs) (iW kvs) ps
def lB(x:iF):W:=.tup [.tup (x.1.map W.str),.tup x.2]
def LY(rs:↑aD)(kvs:↑(aC×W)):Prop:=∀X,drK kvs X=ab->RT bV rs 3 [X] [iW kvs X] []
def LZ(C:Cc):aV:=λws M R=>∃rs:↑aD,ws=[bC rs,.rl [],.rl (rs.map λ_=>W.int 0)]/\eU rs/\∀B,l8 (jM rs []) B->jW (eA fK eJ B) M R
def L0(C:Cc):aV:=λws M R=>∃rs:↑aD,ws=[bC rs]/\eU rs/\∀kvs,(∀X,drK kvs X=l9 rs ac X)->LY rs kvs->iO kvs M R
def L3:aV:=λws M R=>∃rs:↑aD,ws=[bC rs]/\eU rs/\∀D,zgo rs D->iO (D.map cH) M R
def L4:aV:=λws M R=>∃(rs:↑aD) (D:↑Av) (kvs:↑(aC×W)) (ps:↑Av),ws=[.tup (ps.map W.str),.dk (ownOf rs),.dk (D.map cH),.dk kvs]/\↥ps<=4/\R (.rl ((wN rs D kvs ps).map lB)) M
def L5(P:Be)(w:Br)(C:Cc):aV:=λws M R=>∃(a d s:Am) (l:↑(NP×W)) (rs:↑aD) (X:Av) (D:↑Av) (kvs:↑(aC×W)) (f:Av->↑Av),ws=[.ref a,bC rs,.str X,.dk (D.map cH),.dk kvs]/\j9 P w C.p M a d s l/\↥l<=50000/\eU rs/\X∈namesOf rs/\LY rs kvs/\∀F,Ex (λz=>z.1.1=X/\Qz rs f 3 1 z/\Pz rs z) l 272 (λx=>x.1=X/\vV rs D (drK kvs) X x.2) F->R .non (put M d (.dn P w [0] (kvsOf F)))
structure Tl(rs:↑aD)(m:Av)(f:Av->↑Av)(H d:Nat)(l:↑(NP×W)):Prop where
 hd:dA m
 len:↥l<=2000
 f0:l≠[]/\dC rs f (f0 (dN l))=[f0 rs]
 al:∀z∈l,(z.1.1=m\/z.1.1∈namesOf rs)/\Qz rs f H d z/\Pz rs z
 sl:∀t,↥(f t)<=100
def L6:aV:=λws M R=>∃rs:↑aD,ws=[bC rs]/\eU rs/\∀l,(l=oK (f0 rs)\/∃m f,Tl rs m f 3 1 l)->R (mF l) M
abbrev zgp:↑Av:=["grammar","row","weights"]
abbrev zgq(C:Cc):aE:=
   (bG (aS (zX C) (aA aG (aA (bJ (aS LI (aA aM aB))) (aA (bJ (aS LJ (aA aM aB))) (aA aT aB))))))
abbrev zgr:↑Av:=["grammar","best"]
abbrev zgs(C:Cc):aE:=
   (aF (aN 1 (rX (aS (LZ C) (aA aG (aA (eY aB) (aA (bJ (aS AQ (aA aG aB))) aB))))))
   (bG (bH zD (aA (bJ (dR (bT rY aM) (aX 0) eR (bA (aA (vX aG a6) (aA (aS (LS C) (aA aM (aA aT (aA aG aB)))) aB))) [ae,aa 0,aa 1])) aB))))
noncomputable abbrev zgt:↑Av:=["grammar","own","fruitful","rules","wordy","size","rule"]
abbrev zgu:aE:=
   (aN 1 (aS mB (aA (bJ (aS jB (aA aG aB))) aB)))
abbrev zgv:aE:=
   (aN 2 (bJ (aS AR (aA aG aB))))
abbrev zgw:aE:=
   (aN 3 (bJ (dR (bT cD aG) (aX 0) (dQ (bH uE (aA (bJ (dR (bT cD (vX aG a8)) (aX 0) eR (n4 (aH (cA ac) aG aM) (aH (cA ab) aG aT)) [ae,aa 1,aa 2])) aB))) aG [ae,aa 2,aa 1])))
abbrev L7:aE:=
   (aN 4 rE)
abbrev zgx:aE:=
   (aN 5 (kM kQ a8))
abbrev zgy:aE:=
   (aF (aN 5 (bH cP (aA a9 aB)))
   (cC (bT cD a7) (aX 6)
    (bW (dQ (bH uO (aA (bJ (dR (bT cD (vX cF a8)) (aX 0) eR (n4 (aH (cA ac) aG aM) (aH (cA ab) aG aT)) [ae,aa 4,aa 1])) aB)))
    (fJ (vC (.bl ab)) (gY a9 (vX cF a6)))
    cB)))
abbrev zgz:aE:=
   (kS (bK (aH lP b9 (bH cP (aA a9 aB)))) zgy)
abbrev zgA:aE:=
   (bG a9)
abbrev zgB:aE:=(aF zgu (aF zgv (aF zgw (aF L7 (aF zgx (aF zgz zgA))))))
noncomputable abbrev zgC:↑Av:=["parts","own","wordy","empties","told","part","kept","left"]
abbrev zgD:aE:=
   (aN 4 (eY (aA (bA (aA (bA aB) (aA (bA aB) aB))) aB)))
abbrev zgE:aE:=
   (aF (aN 6 (bJ (dR (bT kT a9) (fS 2 (cL (aX 0) (cL (aX 1) fR))) (kN (bK (aH (cA ac) aT a7)) (bK (aH (cA ab) aT a9))) (bA (aA (aH nJ aG (bA (aA aT aB))) (aA (aH nJ aM (bA (aA (bH cP (aA aG aB)) aB))) aB))) [ae,ae,aa 5,aa 2,aa 1])))
   (aF (aN 7 (bJ (dR (bT kT a9) (fS 2 (cL (aX 0) (cL (aX 1) fR))) (bK (aH (cA ac) aT a7)) (bA (aA aG (aA (aH nJ aM (bA (aA (bA (aA (vC (.str "whole")) (aA (vX a7 aT) aB))) aB))) aB))) [ae,ae,aa 5,aa 3])))
   (aN 4 (aH cU cF cT))))
abbrev zgF:aE:=
   (cC (bT cD aG) (aX 5) zgE)
abbrev zgG:aE:=
   (bG a9)
abbrev zgH:aE:=(aF zgD (aF zgF zgG))
noncomputable abbrev zgI:↑Av:=["plain","grammar","name","wordy","empties","own","number","parts","pieces"]
abbrev zgJ(P:Be)(w:Br)(C:Cc):aE:=
   (aF (aN 5 (aS mB (aA (bJ (aS jB (aA aM aB))) aB)))
   (cC (bT cD (bJ (aS wC (aA aM (aA aT aB))))) (aX 6)
    (cC (bT kT (bJ (aS L4 (aA (vX (vX aM cF) a8) (aA b9 (aA a7 (aA a9 aB))))))) (fS 2 (cL (aX 7) (cL (aX 8) fR)))
    (bW (iQ (bK (aH (cV ab) cT (bA aB))) (bK (aH (cV ab) cT (bA (aA aT aB)))))
    (bZ (dY C.p "put_rule" (nF P w C.p) aG (aA aT (aA cT (aA (bA (aA (bA (aA cF (aA eI aB))) aB)) aB)))))
    cB))))
noncomputable abbrev zgK:↑Av:=["grammar","first","wordy","empties","plain","name","ahead","begin","told","begun"]
abbrev L8(P:Be)(w:Br)(C:Cc):aE:=
   (aN 4 (lY C.p (p9 P w C.p) aB))
abbrev L9(P:Be)(w:Br)(C:Cc):aE:=
   (cC (bT cD (bJ (aS jB (aA aG aB)))) (aX 5) (bZ (aS (L5 P w C) (aA a9 (aA aG (aA b9 (aA aT (aA a7 aB))))))))
abbrev BK(P:Be)(w:Br)(C:Cc):aE:=
   (aN 6 (lY C.p (p9 P w C.p) aB))
abbrev MA(P:Be)(w:Br)(C:Cc):aE:=
   (bW (bK (aH (cA ac) aM a7))
    (aF (aN 7 aM)
   (aF (bW (dQ (dY C.p "is_part" (LX P w C.p) a9 (aA aM aB)))
    (aF (aN 7 (vX (bJ (aS AU (aA (bJ (aS jB (aA aG aB))) (aA a8 aB)))) a6))
   (bZ (dY C.p "put_rule" (nF P w C.p) cF (aA cT (aA (bA (aA aM aB)) (aA (bA (aA a6 aB)) aB))))))
    cB)
   (bZ (dY C.p "put_rule" (nF P w C.p) cF (aA cT (aA (bA aB) (aA (bA (aA (bA (aA (vC (.str "whole")) (aA (vX a7 aM) aB))) aB)) aB)))))))
    cB)
abbrev BL(P:Be)(w:Br)(C:Cc):aE:=
   (aN 8 (dY C.p "grammar_and_backs" (qA P w C.p) a9 aB))
abbrev BM(P:Be)(w:Br)(C:Cc):aE:=
   (aN 9 (dY C.p "grammar_and_backs" (qA P w C.p) cF aB))
abbrev BN(P:Be)(w:Br)(C:Cc):aE:=
   (bG (bA (aA (aH cU (vX gX a6) (vX eI a6)) (aA (aH cU (vX gX a8) (vX eI a8)) aB))))
abbrev zgL(P:Be)(w:Br)(C:Cc):aE:=(aF (aN 1 (aS rR (aA aG aB))) (aF (aN 2 (bJ (aS L3 (aA aG aB)))) (aF (aN 3 (bJ (aS (L0 C) (aA aG aB)))) (aF (bW (iQ (bK (aH (cA ab) aM aT)) (bK (aH (cA ab) aM a7))) (bG (aS A7 (aA aG aB))) cB) (aF (L8 P w C) (aF (L9 P w C) (aF (BK P w C) (aF (MA P w C) (aF (BL P w C) (aF (BM P w C) (BN P w C)))))))))))
theorem zgM{rs:↑aD}{keep:Mm->Prop}{j:dE}{m:aR}{o:Option W}{rest:S3}{I:Mm}{R:K3}(f:aD->Option W)(hl:↥rs<=1000)(hk:∀M,L2.Sub I M->keep M)(F:∀q∈rs,∀M (C:K3) (D:Mm->Prop),L2.Sub I M->(∀y,f q=aa y->C y M)->(f q=ae->D M)->j (aa (bF q)::rest) M λb B=>if b=ab then m (aa (bF q)::rest) B C else D B)(r:aP (rs.filterMap f) I R):fZ (rs.map bF) keep (aX 0) j m (o::rest) I R:=by
 unfold fZ;intro p G;refine⟨λi U acc M=>(∃o,U=o::rest)/\acc=(rs.take i).filterMap f/\M=I,⟨⟨_,rfl⟩,rfl,rfl⟩,?_,?_,?_⟩
 .rintro vs i U acc M _ d ⟨_,_,rfl⟩;exact hk _ (Sub.new G)
 .rintro vs i w U acc M hw d ⟨⟨o,rfl⟩,rfl,rfl⟩;rw[Ay]at hw;let⟨q,N,rfl⟩:=Ba.mp hw;have tk:rs.take (i+1)=rs.take i++[q]:=by rw[Cf,N];rfl
  have T:↥((rs.take i).filterMap f)<Au:=cM (by have O:=List.length_filterMap_le f (rs.take i);rw[Cg]at O;lia);refine F q (Ao N) _ _ _ (Sub.new G) (λy K=>⟨aJ,T,M,by rw[i5 G];exact aW,⟨_,rfl⟩,?_,rfl⟩) λhn=>⟨aJ,M,by rw[i5 G];exact aW,⟨_,rfl⟩,?_,rfl⟩
  .rw[tk,List.filterMap_append];simp[K]
  .rw[tk,List.filterMap_append];simp[hn]
 .rintro U acc M d ⟨_,rfl,rfl⟩;rw[Ab,Bw];exact r p G
theorem zgN(rs:↑aD)(p:aD->Bool):rs.filterMap (λq=>if p q=ab then aa (bF q) else ae)=(rs.filter p).map bF:=by
 induction rs with
 | nil=>rfl
 | cons q rs E=>
  rw[Fc,Er,E];cases p q<;>rfl
theorem zgO:bE (LZ C) (zgq C) zgp:=by
 rintro _ M R ⟨rs,rfl,g,r⟩;refine⟨[],rfl,by decide,aP.frz ⟨[],rfl,by decide,jW.frz ⟨jM rs [],⟨rs,ownOf rs,[]⟩,by rw[<-KQ ↥rs rs rfl];rfl,g.few100,rfl,⟨rfl,mD rs,λt p=>.inl ⟨rfl,Vy λz=>nomatch z.2⟩⟩,HX rs [],λq N=>Ap (g.prt q N) ∅,λB F=>LL (r B F)⟩⟩⟩
theorem zgP:bE (L0 C) (zgs C) zgr:=by
 rintro _ M R ⟨rs,rfl,g,r⟩;refine⟨rs,rfl,g.few100,aP.frz ⟨rs,rfl,g,λB F p G=>⟨p,rfl,.inr ⟨_,aJ,?_⟩⟩⟩⟩;rw[i5 G];have a:↥B<=3:=Ap (HZ F) g.nam;have T:=g.few100;have m:Wb (jM rs []) B:=⟨λ_=>rfl,T,zfB F,by lia,λq N=>Ap (g.prt q N) ∅,λq N=>(g.hd q N).nm⟩;show fZ ((eA fK eJ B).map λp=>W.tup (p.1.map wK)) _ _ _ _ _ _ _;rw[KP];refine uL (rest:=[aa (bC rs),aa (nM B)]) (λw y=>∃f v,w=W.tup ((fK f).map wK)/\y=W.tup [.str f.1,v]/\RT bV rs 3 [f.1] [v] []) (small (by rw[Ab,Ab];lia)) (λ_ _=>trivial) (λw hw V C sb O=>?_) λys po=>aP.frz ?_
 .let⟨f,hf,rfl⟩:=Ar.mp hw;exact⟨jM rs [],B,f,rfl,m,hf,λv c=>O _ ⟨f,v,rfl,rfl,c.mono a⟩⟩
 .let⟨kvs,rfl,hk,c⟩:=AF (P:=λX v=>RT bV rs 3 [X] [v] []) po;have b:=Dg po;rw[Ab,Ab]at b;refine⟨kvs,rfl,small (by lia),λq N=>⟨_,aW,r _ (JO (ss:=[]) (w:=ac) (λq N t ht Y=>⟨(λz=>nomatch z),λz=>(Bc z).elim⟩) F hk) (λX u=>?_) q N⟩⟩;let⟨v,e⟩:=Dz.mp u;unfold iW;rw[e];rcases JM e with z|z
  .exact c _ z X rfl
  .cases z
theorem zgQ{ts:↑Av}{f:Av->Bool}:(ts.map f).all id=ts.all f:=by rw[Of];rfl
theorem zgR{ts:↑Av}{f:Av->Bool}:(ts.map f).any id=ts.any f:=by rw[Mv];rfl
theorem MB{b:Bool}(h0:τ[0]? = aa (aa (.str t)))(hx:τ[1]? = aa (aa x))(hd:∀R:K3,R (.bl b) M->cA ac (.str t) x M R)(h2:τ[2]? = aa (aa (.dk (ownOf rs))))(r:R (.bl (b||!ownB rs t)) M):
  n4 (aH (cA ac) (dH 0) (dH 1)) (aH (cA ab) (dH 0) (dH 2)) τ M R:=by
 simp only[n4,aH,dH,h0,hx,h2];refine hd _ (bP (λz=>?_) λz=>⟨_,⟨Sum.inr t,rfl,rfl⟩,?_⟩)
 .rw[z]at r;exact r
 .show R (.bl (!(aQ (ownOf rs) (Sum.inr t:aC)).isSome)) M;rw[z,Nq]at r;rw[mD];exact r
theorem zgS:bE L3 zgB zgt:=by
 rintro _ M R ⟨rs,rfl,g,r⟩;have h17:=g.few;have h100:=g.few100;refine⟨rs,rfl,Ap h100 ∅,aP.frz ⟨namesOf rs,rfl,wL h100,rs,rfl,g.gl,λkvs hk=>iO.frz ?_⟩⟩;have hfr:∀t:Av,(aQ kvs (Sum.inr t:aC)).isSome=l9 rs ab t:=hk;refine(zgM (rest:=[aa (.dk kvs),aa (.dk (ownOf rs))]) (λq=>if q.parts.all (fB rs)=ab then aa (bF q) else ae) (by lia) (λ_ _=>trivial) (λq hq M' C D sb h1 h2=>?_) (aP.frz ?_))
 .have hp:=g.prt q hq;refine(BA (rest:=[aa (.dk kvs),aa (.dk (ownOf rs))]) (fB rs) (by lia) (λ_=>trivial) (λt ht M2 C2 sb2 h3=>MB (b:=l9 rs ab t) rfl rfl (λR h=>⟨_,⟨Sum.inr t,rfl,rfl⟩,by show R (.bl (aQ kvs (Sum.inr t:aC)).isSome) _;rw[hfr];exact h⟩) rfl h3) ⟨_,rfl,?_⟩);show qY (.bl ((q.parts.map (fB rs)).all id)) _ _;rw[zgQ];exact bP (λz=>(h1 _ (by rw[Vz z]))) λz=>h2 (by rw[Vy (by rw[z];exact Bc)])
 rw[zgN];show(aF L7 _) _ [aa (bC rs),aa (.dk (ownOf rs)),aa (.dk kvs),aa (.rl ((fV rs).map bF)),ae,ae,ae] _;refine λp hp=>?_;have lW:=λn=>Ap (Wd.rounds rs n).len g.nam;have lF:↥(fV rs)<=17:=Ap (Gr _ _) h17;refine pU (λm τ M'=>∃(n:Nat) (s:Int) (o6:Option W),τ=[aa (bC rs),aa (.dk (ownOf rs)),aa (.dk kvs),aa (.rl ((fV rs).map bF)),aa (.ref p),aa (.int s),o6]/\M'=put M p (.dK ((eL rs n).map cH))/\(s<↥(eL rs n)\/∃k,n=k+1/\s=↥(eL rs k))/\m=2*(10-↥(eL rs n))+(if s<↥(eL rs n) then 1 else 0)) ⟨_,0,_,_,rfl,rfl,.inl (by show(-1:Int)<0;decide),rfl⟩ ?_;rintro m τ M' ⟨n,s,o6,rfl,rfl,hs,rfl⟩ Dw hDw;refine(.inr ⟨_,aJ,bP (λz=>?_) λz=>?_⟩)
 .have z:=Wa z;rw[Ab]at z;rw[Vz z]at hDw;refine(.inr ⟨_,aJ,(dB (λj τ M'=>∃o6,τ=[aa (bC rs),aa (.dk (ownOf rs)),aa (.dk kvs),aa (.rl ((fV rs).map bF)),aa (.ref p),aa (.int ↥((eL rs n).map cH)),o6]/\M'=put M p (.dK ((((fV rs).take j).foldl (fL rs) (eL rs n)).map cH))) ⟨_,rfl,rfl⟩ ?_ ?_)⟩)
  .rintro j x τ M' hx ⟨o6,rfl,rfl⟩ Dx hN;rw[Ay]at hx;let⟨q,hq,rfl⟩:=Ba.mp hx;have hqm:=Ao hq;have hp4:=g.prt q (AG.mp hqm).1;obtain⟨D,hD⟩:∃D,D=((fV rs).take j).foldl (fL rs) (eL rs n):=⟨_,rfl⟩;have wD:Wd rs D:=by rw[hD];exact(Wd.rounds rs n).fold λr hr=>Hh hr
   have lD:=Ap wD.len g.nam;have hnx:((fV rs).take (j+1)).foldl (fL rs) (eL rs n)=fL rs D q:=by rw[Cf,hq,Ll,<-hD];rfl
   rw[<-hD];refine(BA (rest:=[aa (.ref p),aa (.dk (ownOf rs))]) (d9 rs D) (by lia) (λ_=>trivial) (λt ht M2 C2 sb2 h3=>MB (b:=decide (t∈D)) rfl rfl (λR h=>.inr ⟨_,.inl ⟨_,Sum.inr t,sb2 _ _ aJ,rfl,rfl⟩,by show R (.bl (aQ (D.map cH) (Sum.inr t:aC)).isSome) _;rw[r9];exact h⟩) rfl h3) ⟨_,rfl,?_⟩);show qY (.bl ((q.parts.map (d9 rs D)).any id)) _ _;rw[zgR];refine bP (λz=>(rK aJ (cM (by rw[Ab];lia)) (hN _ _ ⟨_,rfl,?_⟩))) λz=>hN _ _ ⟨_,rfl,?_⟩
   .rw[hnx,b7,vB];unfold fL;rw[Vz z]
   .rw[hnx];unfold fL;rw[Vy (by rw[z];exact Bc)]
  .rintro τ M' ⟨o6,rfl,rfl⟩;have ek:((fV rs).take ↥((fV rs).map bF)).foldl (fL rs) (eL rs n)=eL rs (n+1):=by rw[Ab,Bw];rfl
   rw[ek];refine hDw _ _ _ ?_ ⟨n+1,_,_,rfl,rfl,.inr ⟨n,rfl,by rw[Ab]⟩,rfl⟩;let⟨q,hq⟩:=vN rs (fV rs) (eL rs n);have e:↥(eL rs (n+1))=↥(eL rs n)+↥q:=by show(jC rs (eL rs n)).length=_;unfold jC;rw[hq,Aj]
   have:=lW (n+1);rw[Ab];split<;>lia
 .have z:=of_decide_eq_false z;rw[Ab]at z;rcases hs with hs|⟨k,rfl,rfl⟩
  .exact absurd hs z
  .have e:jC rs (eL rs k)=eL rs k:=zc8 (by have:↥(eL rs (k+1))=↥(jC rs (eL rs k)):=rfl;lia);have e1:eL rs (k+1)=eL rs k:=e;exact⟨_,aW,r _ ⟨k+1,rfl,by rw[e1];exact e⟩ p hp⟩
theorem MC{l:↑iF}{keep:Mm->Prop}{j:dE}{m:aR}{s t:Option W}{rest:S3}{I:Mm}{R:K3}(b:Bool)(f:iF->W)(hl:↥l<=1000)(hk:∀M,keep M)(F:∀x∈l,∀M (C:K3) (D:Mm->Prop),L2.Sub I M->(b=ab->C (f x) M)->(b=ac->D M)->j (aa (.tup (x.1.map W.str))::aa (.tup x.2)::rest) M λb B=>if b=ab then m (aa (.tup (x.1.map W.str))::aa (.tup x.2)::rest) B C else D B)(r:R (.rl (if b=ab then l.map f else [])) I):fZ (l.map lB) keep y0 j m (s::t::rest) I λw V=>frz w V R:=by
 unfold fZ;intro p G;refine⟨λi U acc M=>(∃s t,U=s::t::rest)/\acc=(if b=ab then(l.take i).map f else [])/\M=I,⟨⟨_,_,rfl⟩,by split<;>rfl,rfl⟩,λ_ _ _ _ _ _ _ _=>hk _,?_,?_⟩
 .rintro vs i w U acc M hw d ⟨⟨s,t,rfl⟩,rfl,rfl⟩;rw[Ay]at hw;let⟨x,J,rfl⟩:=Ba.mp hw;have hi:=(An.mp J).1;have T:↥(if b=ab then(l.take i).map f else [])<Au:=cM (by split<;>simp<;>lia);refine⟨rfl,rfl,F x (Ao J) _ _ _ (Sub.new G) (λZ=>⟨aJ,T,M,by rw[i5 G];exact aW,⟨_,_,rfl⟩,?_,rfl⟩) λZ=>⟨aJ,M,by rw[i5 G];exact aW,⟨_,_,rfl⟩,?_,rfl⟩⟩
  .rw[Vz Z,Vz Z,Cf,J,Ax];rfl
  .rw[Z];rfl
 .rintro U acc M d ⟨_,rfl,rfl⟩;rw[Ab,Bw];exact aP.frz r p G
theorem zgT{keep drop:Av->Bool}{E:Av->W}(h:x∈mC keep drop E ps):↥x.1<=↥ps/\↥x.2<=↥ps:=by
 have:∀(ps:↑Av) (told:↑iF) (n:Nat),(∀y∈told,↥y.1<=n/\↥y.2<=n)->∀x∈ps.foldl (gZ keep drop E) told,↥x.1<=n+↥ps/\↥x.2<=n+↥ps:=by
  intro ps
  induction ps with
  | nil=>intro told n h x J;exact h x J
  | cons t ps m=>
   intro told n h x J;have:=m (gZ keep drop E told t) (n+1) (λy K=>?_) x J
   .rw[Bv];lia
   .unfold gZ at K;rcases Bb.mp K with K|K
    .split at K
     .let⟨z,hz,rfl⟩:=Ar.mp K;have:=h z hz;simp only[Aj,Co];lia
     .cases K
    .split at K
     .let⟨z,hz,rfl⟩:=Ar.mp K;have:=h z hz;simp only[Aj,Co];lia
     .cases K
 have:=this ps [([],[])] 0 (λy K=>by rw[Ag.mp K];exact⟨Ai _,Ai _⟩) x h;lia
theorem zgU(h:R (.rl ws) M):frz (.rl ws) M R:=h
theorem MD{keep drop:Av->Bool}{E:Av->W}(h:↥ps<=4):↥(mC keep drop E ps)<=16:=by
 have:=JQ (keep:=keep) (drop:=drop) (E:=E) ps [([],[])];rw[Co,Nat.mul_one]at this;exact Ap this (Jt (n:=2) ∅ h)
theorem zgV:bE L4 zgH zgC:=by
 rintro _ M R ⟨rs,D,kvs,ps,rfl,hp4,r⟩;refine(l7 (ws:=ps.map W.str) (λi τ M'=>∃o5 o6 o7,τ=[aa (.tup (ps.map W.str)),aa (.dk (ownOf rs)),aa (.dk (D.map cH)),aa (.dk kvs),aa (.rl ((mC (d9 rs D) (drK kvs) (iW kvs) (ps.take i)).map lB)),o5,o6,o7]/\M'=M) ⟨_,_,_,rfl,rfl⟩ ?_ ?_)
 .rintro i x τ M' hx ⟨o5,o6,o7,rfl,rfl⟩;rw[Ay]at hx;let⟨t,ht,rfl⟩:=Ba.mp hx;obtain⟨l,hl⟩:∃l,l=mC (d9 rs D) (drK kvs) (iW kvs) (ps.take i):=⟨_,rfl⟩;have l16:↥l<=16:=by rw[hl];exact MD (by rw[Cg];lia)
  have lx:∀x∈l,↥x.1<=4/\↥x.2<=4:=λx hx=>by
   rw[hl]at hx;let⟨h1,h2⟩:=zgT hx;rw[Cg]at h1 h2;exact⟨by lia,by lia⟩
  have hnx:mC (d9 rs D) (drK kvs) (iW kvs) (ps.take (i+1))=gZ (d9 rs D) (drK kvs) (iW kvs) l t:=by
   rw[Cf,ht,hl];unfold mC;rw[Ll];rfl
  rw[hnx,<-hl];refine(MC (rest:=[aa (.str t),aa (.dk (D.map cH)),aa (.dk (ownOf rs))]) (d9 rs D t) (λx=>lB (x.1++[t],x.2++[W.int ↥x.1])) (by lia) (λ_=>trivial) (λx hx M C E sb h1 h2=>?_) ?_)
  .let⟨x1,x2⟩:=lx x hx;have go:d9 rs D t=ab->bA (aA (aH nJ (dH 0) (bA (aA (dH 2) aB))) (aA (aH nJ (dH 1) (bA (aA (bH cP (aA (dH 0) aB)) aB))) aB)) (aa (.tup (x.1.map W.str))::aa (.tup x.2)::[aa (.str t),aa (.dk (D.map cH)),aa (.dk (ownOf rs))]) M C:=λz=>by
    refine⟨_,_,rfl,rfl,small (by rw[Ab];show _+1<=_;lia),_,_,rfl,rfl,small (by show _+1<=_;lia),?_⟩;have:=h1 z;unfold lB at this;rw[Ax]at this;rw[Ab];exact this
   refine⟨_,⟨Sum.inr t,rfl,rfl⟩,?_⟩;show if (aQ (D.map cH) (Sum.inr t:aC)).isSome=ab then _ else _;rw[r9];refine bP (λz=>go (by unfold d9;rw[z];rfl)) λz=>⟨_,⟨Sum.inr t,rfl,rfl⟩,?_⟩
   show if (!(aQ (ownOf rs) (Sum.inr t:aC)).isSome)=ab then _ else _;rw[mD];exact bP (λy=>go (by unfold d9;rw[y,Og])) λy=>h2 (by unfold d9;rw[z,y];rfl)
  .refine(MC (rest:=[aa (.str t),aa (.dk kvs)]) (drK kvs t) (λx=>lB (x.1,x.2++[W.tup [.str "whole",iW kvs t]])) (by lia) (λ_=>trivial) (λx hx M C E sb h1 h2=>?_) ?_)
   .let⟨x1,x2⟩:=lx x hx;refine⟨_,⟨Sum.inr t,rfl,rfl⟩,?_⟩;show if (aQ kvs (Sum.inr t:aC)).isSome=ab then _ else _;refine bP (λz=>?_) λz=>h2 z;have lk:aa (iW kvs t)=aQ kvs (Sum.inr t:aC):=by
     let⟨v,hv⟩:=Dz.mp z;unfold iW;rw[hv];rfl
    exact⟨_,⟨Sum.inr t,rfl,lk⟩,_,_,rfl,rfl,small (by show _+1<=_;lia),h1 z⟩
   .refine⟨small ?_,?_⟩
    .split<;>split<;>simp<;>lia
    .have e:(if d9 rs D t=ab then l.map λx=>lB (x.1++[t],x.2++[W.int ↥x.1]) else [])++(if drK kvs t=ab then l.map λx=>lB (x.1,x.2++[W.tup [.str "whole",iW kvs t]]) else [])=(gZ (d9 rs D) (drK kvs) (iW kvs) l t).map lB:=by
      unfold gZ;rw[Ax];congr 1
      .split
       .rw[Bp];rfl
       .rfl
      .split
       .rw[Bp];rfl
       .rfl
     rw[<-e];exact⟨_,aW,_,_,_,rfl,rfl⟩
 .rintro τ M' ⟨o5,o6,o7,rfl,rfl⟩;rw[Ab,Bw];exact⟨_,aW,r⟩
theorem sD:∀{a b:↑Av},a.map W.str=b.map W.str->a=b
 | [],[],_=>rfl
 | [],_::_,h=>nomatch h
 | _::_,[],h=>nomatch h
 | x::a,y::b,h=>by
  rw[Bh,Bh,Fh,W.str.injEq]at h;rw[h.1,sD h.2]
section
variable {P:Be}{w:Br}{C:Cc}
def BO(X:Av)(y:iF)(x:NP):Prop:=x=(X,y.1)/\y.1≠[]/\y.1≠[X]
theorem zgW:bE (L5 P w C) (zgJ P w C) zgI:=by
 rintro _ M R ⟨a,d,s,l,rs,X,D,kvs,f,rfl,pl,hl,g,u,hem,r⟩;have c:=g.few100;have h17:=g.few;refine⟨rs,rfl,Ap c ∅,aP.frz ⟨namesOf rs,rfl,wL c,rs,X,rfl,c,aP.frz ?_⟩⟩;refine dB (λi U V=>∃E I o A,U=[aa (.ref a),aa (bC rs),aa (.str X),aa (.dk (D.map cH)),aa (.dk kvs),aa (.dk (ownOf rs)),I,o,A]/\V=put M d (.dn P w [0] (kvsOf E))/\Ex (λz=>z.1.1=X/\Qz rs f 3 1 z/\Pz rs z) l (16*i) (λx=>∃n∈(numsOf rs X).take i,∃r,rs[n]? = aa r/\∃y∈wN rs D kvs r.parts,BO X y x) E) ⟨l,_,_,_,rfl,(LF pl.di).symm,Ex.start⟩ ?_ ?_
 .rintro i y U V K ⟨E,I,o,A,rfl,rfl,W⟩ T H;rw[Ay]at K;let⟨n,hn,rfl⟩:=Ba.mp K;let⟨ru,v,en⟩:=qB.mp (Ao hn);let⟨p,O,L⟩:=j8 (rs:=rs) (n:=n) (An.mp v).1;cases (show aa p=aa ru from O.symm.trans v);have S:=Ao v;have hp4:=g.prt ru S;have hi:=Cb (An.mp hn).1 (wH rs X);have g1l:=W.len;refine so.of L ⟨rs,D,kvs,ru.parts,rfl,hp4,?_⟩;obtain⟨ys,hys⟩:∃ys,ys=wN rs D kvs ru.parts:=⟨_,rfl⟩;rw[<-hys];have y16:↥ys<=16:=by rw[hys];exact MD hp4
  refine zgU (dB (ws:=ys.map lB) (λj U V=>∃Z o A,U=[aa (.ref a),aa (bC rs),aa (.str X),aa (.dk (D.map cH)),aa (.dk kvs),aa (.dk (ownOf rs)),aa (.int n),o,A]/\V=put M d (.dn P w [0] (kvsOf Z))/\Ex (λz=>z.1.1=X/\Qz rs f 3 1 z/\Pz rs z) E (1*j) (λx=>∃y∈ys.take j,BO X y x) Z) ⟨E,_,_,rfl,rfl,Ex.start⟩ ?_ ?_)
  .rintro j y U V K ⟨Z,o,A,rfl,rfl,B⟩ T H;rw[Ay]at K;let⟨y,hyj,rfl⟩:=Ba.mp K;have hj:=(An.mp hyj).1;have g2l:=B.len;have ym:y∈wN rs D kvs ru.parts:=hys▸Ao hyj;have yth:Th _ _ _ _:=KJ.mp ⟨y,ym,rfl⟩;have ysh:∀t∈y.1,Sh t:=λt ht=>g.sh ru S t (yth.sub t ht).1;have Xsh:∀t∈[X],Sh t:=λt ht=>by rw[Ag.mp ht,<-en];exact g.shn ru S
   have no:(y.1≠[]->y.1=[X])->Ex (λz=>z.1.1=X/\Qz rs f 3 1 z/\Pz rs z) E (1*(j+1)) (λx=>∃y∈ys.take (j+1),BO X y x) Z:=λz=>B.step hyj (.no λx h=>h.2.2 (z h.2.1));refine⟨rfl,rfl,lV 2 ∅ (nH ysh) (nH (ps:=[]) (λt ht=>nomatch ht)) λQ hb1=>bP (λY=>?_) λY=>H _ _ ⟨Z,_,_,rfl,rfl,no λz=>?_⟩⟩
   .refine lV 2 ∅ (nH ysh) (nH (ps:=[X]) Xsh) λG hb2=>bP (λk=>?_) λk=>H _ _ ⟨Z,_,_,rfl,rfl,no λ_=>?_⟩
    .refine mI (pl.putD Z).ob nG ⟨a,d,s,Z,(X,y.1),_,rfl,pl.putD Z,by lia,λF g'=>H _ _ ⟨F,_,_,rfl,b7,B.step hyj (g'.cg (λz ez=>?_) λx h=>h.1)⟩⟩;rw[ez];refine⟨rfl,⟨_,rfl,?_⟩,λt ht=>g.pt ru S t (yth.sub t ht).1,Ap yth.len hp4⟩;show Pf _ _ _ _ _ _ _ _ (dC rs f X);rw[mG (.inl u),<-en];exact Pf.one (g.hd ru S).nm v (by lia) (KL hem (qs:=[]) (g.sem S) (λx J=>by rw[Ag.mp J];exact .nil) ym)
    .have k:G=ab:=by cases G;cases k;rfl
     exact sD (by have:=hb2.mp k;injection this)
   .have Y:Q=ab:=by cases Q;cases Y;rfl
    exact absurd (sD (b:=[]) (by have:=hb1.mp Y;injection this)) z
  .rintro U V ⟨Z,o,A,rfl,rfl,B⟩;rw[Ab,Bw,hys]at B;refine H _ _ ⟨Z,_,_,_,rfl,rfl,W.step hn ((B.le (by rw[<-hys];lia)).cg (λ_ h=>h) λx ⟨q,N,h⟩=>?_)⟩;rw[v]at N;cases N;exact h
 .rintro U V ⟨E,I,o,A,rfl,rfl,W⟩;rw[Ab,Bw]at W;have:=wH rs X;refine⟨_,aW,r E ((W.le (by lia)).cg (λ_ h=>h) λx=>?_)⟩;rintro⟨O,q,N,en,L,h3,m⟩;let⟨n,hn⟩:=Ii N;let⟨y,K,e⟩:=KJ.mpr L;exact⟨n,qB.mpr ⟨q,hn,en⟩,q,hn,y,K,by rw[e,<-O],e▸h3,e▸m⟩
end
section
variable {P:Be}{w:Br}{C:Cc}
theorem zgX:Cm ("is_part" : Av) [(("backs" : Av),W.ref d)]=ae:=by
 rw[Ea,show(("is_part" : Av)==("backs" : Av))=ac by decide +kernel];rfl
theorem zgY:bE L6 (zgL P w C) zgK:=by
 rintro _ M R ⟨rs,rfl,g,r⟩;have h100:=g.few100;have hnm:=g.nam;let⟨q0,l,e0⟩:=Ec g.ne;refine⟨q0,l,by rw[e0];rfl,rs,rfl,g,λD hD=>iO.frz ⟨rs,rfl,g,λkvs he hem=>iO.frz ?_⟩⟩;obtain⟨F,hF⟩:∃F,F=q0.name:=⟨_,rfl⟩;rw[<-hF];have hF0:f0 rs=F:=by rw[hF,e0];rfl
 have hFn:F∈namesOf rs:=iT.mpr ⟨q0,by rw[e0];exact .head _,hF.symm⟩;have hFh:dA F:=by rw[hF];exact g.hd q0 (by rw[e0];exact .head _)
 have hdr:∀t,drK kvs t=ab↔iU rs ac t:=λt=>by rw[he,pW]
 obtain⟨f,hf⟩:∃f:Av->↑Av,f=λ_=>[F]:=⟨_,rfl⟩;have sF:dC rs f F=[F]:=mG (.inl hFn);have go:F∈D\/drK kvs F=ab->(aF (L8 P w C) (aF (L9 P w C) (aF (BK P w C) (aF (MA P w C) (aF (BL P w C) (aF (BM P w C) (BN P w C))))))) (i8 R) [aa (bC rs),aa (.str F),aa (.dk (D.map cH)),aa (.dk kvs),ae,ae,ae,ae,ae,ae] M:=λhc=>by
  have has:drK kvs F=ac->∃l,vV rs D (drK kvs) F l:=λz=>by
   have hFD:=hc.resolve_right (by rw[z];exact Bc);let⟨n,e1,e2⟩:=hD;exact zdA (by rw[e1];exact Wd.rounds rs n) e2 hdr hFD
  refine λa dx ha hdx hne=>⟨a,dx,rfl,aJ,λd hd=>⟨rfl,?_⟩⟩
  have had:a≠d:=λe=>by rw[<-e,aJ]at hd;cases hd
  rw[aY (Ca had)]at hd;rw[Bt.first had];refine⟨rs,rfl,Ap h100 ∅,aP.frz ?_⟩;refine dB (λi τ M'=>∃T o5,τ=[aa (bC rs),aa (.str F),aa (.dk (D.map cH)),aa (.dk kvs),aa (.ref a),o5,ae,ae,ae,ae]/\M'=Bt P w C.p M a d dx T/\(∀z∈T,z.1.1∈namesOf rs/\Qz rs f 3 1 z/\Pz rs z)/\↥T<=272*i/\(0<i->Hd F (∃l,vV rs D (drK kvs) F l) T)) ⟨[],_,rfl,rfl,(λ_ h=>nomatch h),Ai _,λh=>absurd h ∅⟩ ?_ ?_
  .rintro i v τ M' hv ⟨T,o5,rfl,rfl,g1,g1l,h1⟩ Dx hD;rw[Ay]at hv;let⟨X,hX,rfl⟩:=Ba.mp hv;have hi:=(An.mp hX).1;have hXm:=Ao hX;refine⟨a,d,dx,T,rs,X,D,kvs,f,rfl,Bt.pl had,by lia,g,hXm,hem,λl' g'=>hD _ _ ⟨l',aa (.str X),rfl,Bt.put,g'.all g1 (λz hz=>⟨hz.1▸hXm,hz.2⟩),Ap g'.len (by lia),λ_=>?_⟩⟩;cases i with
   | zero=>
    cases T with
    | nil=>
     have:F=X:=by rw[KG g.ne,hF0]at hX;cases hX;rfl
     exact Hd.of g' (λx h=>h.1.trans this.symm) λ⟨l,hl⟩=>⟨(X,l),rfl,this▸hl⟩
    | cons z l=>cases g1l
   | succ i=>exact(h1 (Tp i)).ex g'
  .rintro τ M' ⟨T,o5,rfl,rfl,g1,g1l,h1⟩;rw[Ab]at h1 g1l;have hT:=h1 (Ir.mpr λz=>by rw[z]at hFn;cases hFn);have lT:↥T<=1500:=by lia
   show(aF (BK P w C) _) _ _ (Bt P w C.p M a d dx T);have sb1:L2.Sub M (Bt P w C.p M a d dx T):=Bt.sub ha hd had;have pl1:j9 P w C.p (Bt P w C.p M a d dx T) a d dx T:=Bt.pl had;generalize hM1:Bt P w C.p M a d dx T=M1 at sb1 pl1;refine λa2 dx2 ha2 hdx2 hne2=>⟨a2,dx2,rfl,aJ,λd2 hd2=>⟨rfl,?_⟩⟩
   have had2:a2≠d2:=λe=>by rw[<-e,aJ]at hd2;cases hd2
   rw[aY (Ca had2)]at hd2;rw[Bt.first had2];have sb2:∀l,L2.Sub M (Bt P w C.p M1 a2 d2 dx2 l):=λl=>sb1.trans (Bt.sub ha2 hd2 had2);have pl2:∀l,j9 P w C.p (Bt P w C.p M1 a2 d2 dx2 l) a d dx T:=λl=>⟨Bt.sub ha2 hd2 had2 _ _ pl1.ob,Bt.sub ha2 hd2 had2 _ _ pl1.di⟩
   have fin:∀(lb:↑(NP×W)) (o7:Option W) (m:Av),↥lb<=2->dA m->(lb++T≠[]/\dC rs f (f0 (dN (lb++T)))=[F])->(∀z∈lb,z.1.1=m/\Qz rs f 3 1 z/\Pz rs z)->(aF (BL P w C) (aF (BM P w C) (BN P w C))) (i8 R) [aa (bC rs),aa (.str F),aa (.dk (D.map cH)),aa (.dk kvs),aa (.ref a),o5,aa (.ref a2),o7,ae,ae] (Bt P w C.p M1 a2 d2 dx2 lb):=λlb o7 m BY hm h0 hal=>by
    refine mI (pl2 lb).ob sA ⟨a,d,dx,_,rfl,pl2 lb,mI (Bt.pl had2).ob sA ⟨a2,d2,dx2,_,rfl,Bt.pl had2,?_⟩⟩;have:=r (lb++T) (.inr ⟨m,f,hm,by rw[Aj];lia,by rw[hF0];exact h0,λz hz=>(Bb.mp hz).elim (λy=>⟨.inl (hal z y).1,(hal z y).2⟩) λy=>⟨.inr (g1 z y).1,(g1 z y).2⟩,λt=>by rw[hf];exact(by decide:1<=100)⟩);unfold mF dN at this;rw[Ax,Ax,Ax]at this;exact⟨small (by simp only[Ab];lia),small (by simp only[Ab];lia),_,sb2 lb,this⟩
   have f0l:∀{x:NP×W} {t:↑(NP×W)},f0 (dN (x::t))=x.1.1:=λ{x t}=>rfl;refine⟨_,⟨Sum.inr F,rfl,rfl⟩,bP (b:=drK kvs F) (λy1=>?_) λy1=>fin [] _ F (Cs _) hFh ?_ (λ_ h=>nomatch h)⟩
   .let⟨v,hv⟩:=Dz.mp y1;have ev:iW kvs F=v:=by unfold iW;rw[hv];rfl
    have hw:∀X,dC rs f X=[F]->Qz rs f 3 1 ((X,[]),.tup [vT v])/\Pz rs ((X,[]),.tup [vT v]):=λX e=>⟨⟨_,rfl,by
     show Pf _ _ _ _ _ _ _ _ (dC rs f X);rw[e];exact .whole (ev▸hem F y1) .nil⟩,(λ_ h=>nomatch h),Cs _⟩
    refine mI (pl2 []).ob zgX ⟨a,d,dx,T,F,rfl,pl2 [],by lia,λb=>bP (b:=b) (λ_=>?_) λ_=>?_⟩
    .refine⟨rs,rfl,Ap h100 ∅,aP.frz ⟨namesOf rs,1,rfl,by lia,aP.frz ?_⟩⟩;let⟨x,hx⟩:=List.length_eq_one_iff.mp (J4 (old:=namesOf rs) (n:=1) (Gh (show 1+↥(namesOf rs)<=5 by lia) ∅));rw[hx];refine mI (Bt.pl had2).ob nG ⟨a2,d2,dx2,[],(x,[F]),_,rfl,Bt.pl had2,Cs _,λl1 g2=>?_⟩;rw[Bt.put];obtain rfl:=g2.one (λh=>nomatch h);refine mI (Bt.pl had2).ob nG ⟨_,⟨Sum.inr F,rfl,hv.symm⟩,a2,d2,dx2,_,(x,[]),_,rfl,Bt.pl had2,by show 1<=_;lia,λl2 g3=>?_⟩;rw[Bt.put];obtain rfl:=g3.one (λh=>nomatch (My (Ag.mp h)).2);let⟨x1,i,xi,x2⟩:=J5 (by rw[hx];exact .head _:x∈k9 (namesOf rs) 1);have hxh:dA x:=x2▸KD (by lia);have sx:dC rs f x=[F]:=by
      unfold dC;rw[Vy (λz=>z.elim x1 λz=>by rw[hxh.nm]at z;cases z),hf]
     refine fin _ _ x (Ai _) hxh ⟨Gw _ _,sx⟩ λz hz=>?_;rcases Aw.mp hz with rfl|hz
     .refine⟨rfl,⟨_,rfl,?_⟩,λt ht=>.inl (by rw[Ag.mp ht];exact hFh),by show 1<=4;decide⟩;show Pf _ _ _ _ _ _ _ _ (dC rs f x);rw[sx];have:=Pf.slot (nm:=bV) (rs:=rs) (sem:=dC rs f) (H:=3) (d:=1) (k:=0) (p:=F) .nil;rw[sF]at this;exact this
     .rw[Ag.mp hz];exact⟨rfl,hw x sx⟩
    .refine mI (Bt.pl had2).ob nG ⟨_,⟨Sum.inr F,rfl,hv.symm⟩,a2,d2,dx2,[],(F,[]),_,rfl,Bt.pl had2,Cs _,λl2 g3=>?_⟩;rw[Bt.put];obtain rfl:=g3.one (λh=>nomatch h);exact fin _ _ F (by show 1<=2;lia) hFh ⟨Gw _ _,sF⟩ λz hz=>by rw[Ag.mp hz];exact⟨rfl,hw F sF⟩
   .let⟨z,t,e,e2⟩:=hT (has y1);rw[e,Jc,f0l,e2];exact⟨Gw _ _,sF⟩
 refine⟨_,⟨Sum.inr F,rfl,rfl⟩,?_⟩;show if (!(aQ (D.map cH) (Sum.inr F:aC)).isSome)=ab then _ else _;rw[r9];refine bP (λy1=>⟨_,⟨Sum.inr F,rfl,rfl⟩,bP (b:=!drK kvs F) (λy2=>?_) λy2=>go (.inr ?_)⟩) λy1=>go (.inl ?_)
 .exact⟨rs,rfl,g.ne,_,aW,r _ (.inl rfl)⟩
 .rw[<-Hb (drK kvs F),y2];rfl
 .exact Wa (by rw[<-Hb (decide (F∈D)),y1];rfl)
end
theorem zgZ(h:sglB rs r=ab):∃Y,r.parts=[Y]/\ownB rs Y=ab:=by
 unfold sglB at h;split at h
 .rename_i t e;exact⟨t,e,h⟩
 .cases h
theorem zg0(h:iU rs ab t):fB rs t=ab:=by unfold fB;rw[pW.mpr h];rfl
theorem zg1(h:ownB rs t=ac):fB rs t=ab:=by unfold fB;rw[h];exact Og _
theorem zg2(h:iU rs ab X):∃l,LA rs X l:=by
 induction h with
 | @mk r T G _ E=>
  cases F:sglB rs r with
  | false=>exact⟨_,r,T,.rf,rfl,F,λt ht=>by
    cases f:ownB rs t with
    | true=>exact zg0 (G t ht f)
    | false=>exact zg1 f⟩
  | true=>
   let⟨Y,e,o⟩:=zgZ F;let⟨l,q,O,L,h3⟩:=E Y (by rw[e];exact .head _) o;exact⟨l,q,O,.st T e o L,h3⟩
def wO(rs:↑aD):Prop:=∀r∈rs,r.parts=[]->r.name=f0 rs/\∀q∈rs,f0 rs∉q.parts
def ME:aV:=λws M R=>∃rs:↑aD,ws=[bC rs]/\eU rs/\wO rs/\R .non M
def MF:aV:=λws M R=>∃rs:↑aD,ws=[bC rs]/\eU rs/\wO rs/\∀l,(l=oK (f0 rs)\/∃f,Tl rs (f0 rs) f 0 3 l)->R (mF l) M
abbrev zg3:↑Av:=["grammar","first","is_part","rule"]
abbrev zg4:aE:=
   (bW (iQ (bK (aH (cV ac) (vX a7 a8) (bA aB))) (kN (bK (aH (cV ab) (vX a7 a6) aM)) (dQ aT)))
    uH
    cB)
abbrev zg5:aE:=(aF (aN 1 (aS rR (aA aG aB))) (aF (aN 2 (bH uO (aA (bJ (dR (bT cD aG) (aX 0) eR (aH (cA ac) aM (vX aG a8)) [ae,aa 1])) aB)))
   (cC (bT cD aG) (aX 3) zg4)))
abbrev zg6:↑Av:=["grammar","fruitful","plain","name"]
abbrev zg7(P:Be)(w:Br)(C:Cc):aE:=(aF (bZ (aS ME (aA aG aB))) (aF (aN 1 (bJ (aS AR (aA aG aB))))
   (aF (bW (bK (aH (cA ab) (aS rR (aA aG aB)) aM)) (bG (aS A7 (aA aG aB))) cB)
   (aF (aN 2 (lY C.p (p9 P w C.p) aB))
   (aF (cC (bT cD (bJ (aS jB (aA aG aB)))) (aX 3) (bZ (aS (LD P w C) (aA aT (aA aG (aA a7 (aA aM aB)))))))
   (bG (dY C.p "grammar_and_backs" (qA P w C.p) aT aB)))))))
theorem zg8:bE ME zg5 zg3:=by
 rintro _ M R ⟨rs,rfl,g,K,r⟩;have hf:=g.few;let⟨J,l,I⟩:=Ec g.ne;have E:f0 rs=J.name:=by rw[I];rfl
 refine⟨J,l,by rw[I];rfl,?_⟩;refine lX (rest:=[aa (.str J.name)]) (λw=>match w with|.tup [_,.tup ps,_]=>.bl (inW (.str J.name) ps)|_=>.non) (small (by rw[Ab];lia)) (λ_ _=>trivial) (λw hw V C sb O=>?_) (aP.frz ?_)
 .let⟨q,N,rfl⟩:=Ar.mp hw;exact⟨rfl,pY _,O⟩
 have D:((rs.map bF).map λw=>match w with|.tup [_,.tup ps,_]=>W.bl (inW (.str J.name) ps)|_=>.non)=bools (rs.map λq=>decide (J.name∈q.parts)):=by
  unfold bools;rw[Bp,Bp];refine Fb λz _=>?_;show W.bl (inW (.str J.name) (z.parts.map W.str))=.bl (decide (J.name∈z.parts));rw[pX]
 rw[D];refine⟨_,rfl,?_⟩;generalize Z:(rs.map λq=>decide (J.name∈q.parts)).any id=b;refine dB (λi U V=>∃o,U=[aa (.rl (rs.map bF)),aa (.str J.name),aa (.bl b),o]/\V=M) ⟨_,rfl,rfl⟩ ?_ ?_
 .rintro i w U V hw ⟨o,rfl,rfl⟩ A H;rw[Ay]at hw;let⟨q,N,rfl⟩:=Ba.mp hw;have S:=Ao N;refine lV 2 ∅ (nH (g.sh q S)) (nH (ps:=[]) (λt ht=>nomatch ht)) λc hc=>?_;have go:=H _ _ ⟨aa (bF q),rfl,rfl⟩;refine bP (b:=c) (λY=>?_) λY=>go;let⟨d,a⟩:=K q S (sD (b:=[]) (W.tup.inj (hc.mp Y)));refine bP (b:=!decide (q.name=J.name)) (λk=>?_) λk=>bP (b:=b) (λj=>?_) λj=>go
  .rw[Wc (d.trans E)]at k;cases k
  .rw[<-Z,Mv,Gx]at j;let⟨z,hz,h⟩:=j;exact absurd (Wa h) (E▸a z hz)
 .rintro U V ⟨o,rfl,rfl⟩;exact⟨_,aW,r⟩
section
variable {P:Be}{w:Br}{C:Cc}
theorem zg9:bE MF (zg7 P w C) zg6:=by
 rintro _ M R ⟨rs,rfl,g,fu,r⟩;have hfew:=g.few;have hnm:=g.nam;let⟨q0,l,e0⟩:=Ec g.ne;have hF:f0 rs=q0.name:=by rw[e0];rfl
 refine⟨rs,rfl,g,fu,rs,rfl,g.gl,λkvs hk=>iO.frz ⟨q0,l,by rw[e0];rfl,_,⟨Sum.inr q0.name,rfl,rfl⟩,bP (b:=!(aQ kvs (Sum.inr q0.name:aC)).isSome) (λhn=>?_) λhn=>?_⟩⟩
 .exact⟨rs,rfl,g.ne,_,aW,r _ (.inl rfl)⟩
 have hn:iU rs ab (f0 rs):=pW.mp (by rw[hF,<-hk,<-Hb (aQ kvs _).isSome,hn];rfl);refine λa dx ha hdx hne=>⟨a,dx,rfl,aJ,λd hd=>⟨rfl,?_⟩⟩
 have had:a≠d:=λe=>by rw[<-e,aJ]at hd;cases hd
 rw[aY (Ca had)]at hd;rw[Bt.first had];refine⟨rs,rfl,by lia,aP.frz ?_⟩;obtain⟨f,hf⟩:∃f:Av->↑Av,f=λ_=>[]:=⟨_,rfl⟩;refine dB (λi τ M'=>∃T o3,τ=[aa (bC rs),aa (.dk kvs),aa (.ref a),o3]/\M'=Bt P w C.p M a d dx T/\(∀z∈T,z.1.1∈namesOf rs/\Qz rs f 0 3 z/\Pz rs z)/\↥T<=68*i/\(0<i->Hd (f0 rs) True T)) ⟨[],_,rfl,rfl,(λ_ h=>nomatch h),Ai _,λh=>absurd h ∅⟩ ?_ ?_
 .rintro i v τ M' hv ⟨T,o3,rfl,rfl,g1,g1l,h1⟩ Dx hD;rw[Ay]at hv;let⟨X,hX,rfl⟩:=Ba.mp hv;have hi:=(An.mp hX).1;have hXm:=Ao hX;refine⟨a,d,dx,T,rs,X,kvs,f,rfl,Bt.pl had,by lia,g,hXm,hk,λl' g'=>hD _ _ ⟨l',aa (.str X),rfl,Bt.put,g'.all g1 (λz hz=>⟨hz.1▸hXm,hz.2⟩),Ap g'.len (by lia),λ_=>?_⟩⟩;cases i with
  | zero=>
   cases T with
   | nil=>
    have:f0 rs=X:=by rw[KG g.ne]at hX;cases hX;rfl
    exact Hd.of g' (λx h=>h.1.trans this.symm) λ_=>(zg2 hn).elim λl hl=>⟨(X,l),rfl,this▸hl⟩
   | cons z l=>cases g1l
  | succ i=>exact(h1 (Tp i)).ex g'
 .rintro τ M' ⟨T,o3,rfl,rfl,g1,g1l,h1⟩;rw[Ab]at h1 g1l;have n0:f0 rs∈namesOf rs:=(vU g.ne).elim λr h=>iT.mpr ⟨r,h.1,h.2⟩;let⟨z,t,e,e2⟩:=h1 (Ir.mpr λz=>by rw[z]at n0;cases n0) trivial;refine mI (Bt.pl had).ob sA ⟨a,d,dx,_,rfl,Bt.pl had,_,Bt.sub ha hd had,r T (.inr ⟨f,(vU g.ne).elim λr h=>h.2▸g.hd r h.1,by lia,⟨by rw[e];exact Gw _ _,?_⟩,λz hz=>⟨.inr (g1 z hz).1,(g1 z hz).2⟩,λt=>by rw[hf];exact Cs _⟩)⟩;rw[e];show dC rs f z.1.1=_;rw[e2];exact mG (.inl n0)
end
end L2
namespace PySem
namespace Rw
open L2
section
variable {prog:Be}{w:Br}{A:Cw}{E:Ae->Ak->Prop}{s:Ak}
theorem zha:Mf (.type "list_reverseiterator") "__len__" = pure ae:=by rw[Hq,Fi];kernel_rfl
theorem zhb:Mf (.type "list_reverseiterator") "__length_hint__" = pure (aa (.builtin "list_reverseiterator.__length_hint__")):=by rw[Hq,Fi];kernel_rfl
theorem hint{r l:Am}{i:Int}{Q:Bool->Ak->Prop}(D:s.heap.IsRevIter r l i)(h:Q ac s):Bm (De prog w) A (Builtin.List.listLengthHint (.ref r)) Q E s:=by
 unfold Builtin.List.listLengthHint;refine Aa (Gu D.typeIs zha ?_)
 try dsimp only
 rw[Vy ∅];rw[Vy ∅];refine Aa (Gu D.typeIs zhb ?_);generalize c:("list_reverseiterator.__length_hint__" : String)=id0
 try dsimp only
 rw[show splitId id0=aa ("list_reverseiterator","__length_hint__") from by subst c;decide +kernel];subst c;refine Aa (Fx (T:="list_reverseiterator") (b:=ab) D.typeIs (by rw[Nt];kernel_rfl) ?_)
 try dsimp only
 rw[Vy ∅];rw[Vz (by decide +kernel)];rw[Vy ∅];exact Ah h
theorem zhc{R:To->Ak->Prop}{S r t:Am}{items:Array Ae}{a:Nat}(hh:A.handled=ae)(D:s.heap.IsRevIter r t ((items.size:Int)-1))(ht:s.heap.IsList t items)(hz:items.size<=Au)(h:S≠r)(m:S≠t)(g:t≠r)(M:s.heap.get? S=aa {cls:=.type "list",data:=.seq #[] a})(q:∀h' tk c Y,(∀b o,b≠S->b≠r->s.heap.get? b=aa o->h'.get? b=aa o)->h'.get? S=aa {cls:=.type "list",dict:=ae,data:=.seq c Y,slots:=#[]}->Qt (λi v=>items[items.size-1-i]? = aa v) c items.size->R (.ok (.ret .none)) {s with heap:=h',toks:=tk}):
  Bm (De prog w) A.in1 (Iy (.ref S) (.ref r) .none)
   (λfin j=>match fin with|.done f=>R (.ok f) j|.again Y=>Y.quiet=ab/\Mp (De prog w) A Y R j) (λe j=>R (.error e) j) s:=by
 have W:=Walks.listRev (prog:=prog) (w:=w) (A:=A.in1) hh r t g items;have n:S∉[r,t]:=by simp[h,m]
 unfold Iy;refine Aa (Lx (T:="list_reverseiterator") D.typeIs ?_);rw[Vy (by simp[Builtin.List.listSameRef,h])];refine Aa (wpAny_pyIter_revIter D (Aa (Dq (hint D ?_))));refine wpAny_ite_split (λk=>absurd k ∅) (λ_=>Ah ⟨Mo PySem.F.plain_extend_loop _,?_⟩);refine codeAny_extend_loopS W.toS hz S n .none items.size 0 _ #[] a rfl (Cs _) ⟨Cs _,by simpa using D,ht⟩ M (ItemsOf.nil _) λj c Y P d N=>?_;rw[Moved.eq_with P];exact q j.heap j.toks c Y (λb o Z l e=>P.heap b o (by simp[Z,l]) e) d N
theorem list_rev{Q:Ae->Ak->Prop}(hh:A.handled=ae)(T:s.heap.IsRevIter r t ((items.size:Int)-1))(ht:s.heap.IsList t items)(hz:items.size<=Au)(g:t≠r)(H:∀h' tk f Y,(∀b o,b≠r->s.heap.get? b=aa o->h'.get? b=aa o)->h'.get? ⇑s=aa {cls:=.type "list",dict:=ae,data:=.seq f Y,slots:=#[]}->Qt (λi v=>items[items.size-1-i]? = aa v) f items.size->
   Q (.ref ⇑s) {s with heap:=h',toks:=tk}):Bm (De prog w) A (call (.type "list") [.ref r]) Q E s:=by
 have c:r<⇑s:=by let⟨o,e,_⟩:=id T;exact Bd e
 have lt:t<⇑s:=by let⟨o,e,_⟩:=id ht;exact Bd e
 refine Tn (Q₁:=λobj y=>obj=.ref ⇑s/\y = {s with heap:=s.heap.push {cls:=.type "list",data:=.seq #[]}}) PySem.F.called_list (PySem.F.typeCall_list_1 _) PySem.F.entry_list_init (code_list_new _ ⟨rfl,rfl⟩) ?_;rintro obj y ⟨rfl,rfl⟩;have k:(s.heap.push {cls:=.type "list",data:=.seq #[]}).get? ⇑s=aa {cls:=.type "list",data:=.seq #[]}:=Az _ rfl;have W:=Gs (Nb λ_=>(#[]:Array Ae)) k rfl;have a:∀b o,b≠⇑s->s.heap.get? b=aa o->((s.heap.push {cls:=.type "list",data:=.seq #[]}).update ⇑s (Nb λ_=>(#[]:Array Ae))).get? b=aa o:=λb o Z e=>by
  rw[Ja _ _ (Ca Z)];exact Af _ e
 refine⟨⟨_,k,rfl⟩,PySem.F.args_list_init_2 _ _,?_⟩;show Bm _ _ (Builtin.List.listItems (.ref ⇑s)>>=λold=>Builtin.List.listUpdate (.ref ⇑s) (λ_=>#[])>>=λ_=>letGo old.toList.reverse>>=λ_=>Iy (.ref ⇑s) (.ref r) .none) _ _ _;refine Aa (wpAny_listItems k rfl (Aa ?_));show Bm _ _ (updateSeq ⇑s (λ_=>#[])) _ _ _;exact wpAny_updateSeq k rfl (Aa (Qk (zhc (A:=A.in1) hh (T.at (h':=_) λo e=>a r o (Bn c) e) (ht.at λo e=>a t o (Bn lt) e) hz (Cq c) (Cq lt) g W λh' tk f Y hk d N=>⟨rfl,H h' tk f Y (λb o Z e=>hk b o (Bn (Bd e)) Z (a b o (Bn (Bd e)) e)) d N⟩)))
end
end Rw
end PySem
namespace L2
section
variable {X:Cx}{a:Ck}{ta:TA}{p p2 pos pos2:Hv}
def zhd(K:Ac)(ta:TA):TE:=λC H Q=>ta C H λvs j=>∃t xs,vs=[.ref t]/\bN K j t xs/\∀q,j q=ae->Q (.ref q) (aL j q (.lst xs.reverse))
theorem zhe(hc:X.calm=ab)(hg:Gl X "list")(S:X.mg "list" = ae)(d:Gl X "reversed")(Z:X.mg "reversed" = ae)(m:PA X [a] ta)(y:Ci [.Call (.Name "reversed" p2) [a] [] pos2] X.env=[(ac,Ef (.Call (.Name "reversed" p2) [a] [] pos2) X.env)]:=by rfl)(D:Ci [a] X.env=[(ac,Ef a X.env)]:=by rfl):
  PE X (.Call (.Name "list" p) [.Call (.Name "reversed" p2) [a] [] pos2] [] pos) (zhd X.K ta):=by
 intro B s C H Q I h;refine Dy (gE I hg S V0 (Cd ?_ y rfl));rw[y];refine Kq (Dy (gE I d Z EF (Cd (aZ (m pos2 B s C H _ I h) λus U ⟨vs,j,M,l,g⟩=>?_) D rfl)));let⟨t,xs,rfl,N,q⟩:=g;let⟨u,rfl,ru⟩:=vals1 l;cases ru;let⟨its,R,pl,hz⟩:=M.list N;have hsz:its.toArray.size<=Au:=by rw[Bi];have:=↥R;lia
 have lt:t<⇑U:=by let⟨o,e,_⟩:=pl.isList;exact Bd e
 refine call_reversed_list pl.isList (Lf ?_);have st:(U.heap.push (revObj t ((its.toArray.size:Int)-1))).IsRevIter ⇑U t ((its.toArray.size:Int)-1):=⟨_,Az _ rfl,rfl,rfl⟩;refine Rw.list_rev (s:={U with heap:=U.heap.push (revObj t ((its.toArray.size:Int)-1))}) (t:=t) (items:=its.toArray) (M.ok.hd hc) st (pl.isList.at λo e=>Af _ e) hsz (Bn lt) λh' tk f Y hk i z=>?_;have G:({U with heap:=U.heap.push (revObj t ((its.toArray.size:Int)-1))}:Ak).heap.objs.size=⇑U+1:=Es ..;rw[G]at i⊢;have v:⇑U<=⇑U+1:=Hi _;have c:=VZ R z;exact⟨.ref (⇑U+1),_,M.laid (o:=.lst xs.reverse) (t':=tk) (λb o e=>hk b o (Bn (Bd e)) (Af _ e)) v ⟨by rw[Ej];exact hz,f.toList,Y,c,by rw[He];exact i⟩,rfl,q _ (M.hok.fresh v)⟩
end
section
variable {X:Cx}{a:Ck}{ta:aR}
def MG(ta:aR):aR:=λU M R=>ta U M λw I=>∃ws,w=.rl ws/\aP ws.reverse I R
theorem zhf(hg:Gl X "list")(S:X.mg "list" = ae)(d:Gl X "reversed")(Z:X.mg "reversed" = ae)(m:E3 X a ta)(hc:X.calm=ab:=by rfl)(u:Ci [.Call (.Name "reversed" p2) [a] [] pos2] X.env=[(ac,Ef (.Call (.Name "reversed" p2) [a] [] pos2) X.env)]:=by rfl)(D:Ci [a] X.env=[(ac,Ef a X.env)]:=by rfl):
  E3 X (.Call (.Name "list" p) [.Call (.Name "reversed" p2) [a] [] pos2] [] pos) (MG ta):=
 (zhe hc hg S d Z (pC m qZ (D.trans rfl)) u D).weak λC H Q A=>A.el λU M R J Y h k=>⟨U,M,λws I=>match ws with | [w]=>∃ws,w=.rl ws/\aP ws.reverse I R|_=>False,J,Y,h,λvs j ws I B P N r=>by
  match ws,r with
  | [w],⟨xs,e,r⟩=>
   subst e;let⟨v,rfl,av⟩:=N.one;let⟨b,ys,T,z,nb,f⟩:=av.inv;exact⟨b,ys,by rw[T],bN.of z,λp G=>gL P (k.kp B) G f.reverse r⟩⟩
end
structure jS(rs:↑aD):Prop where
 ne:rs≠[]
 few:↥rs<=2000
 nm:∀r∈rs,dA r.name
 pt:∀r∈rs,∀p∈r.parts,dA p\/eS p
 prt:∀r∈rs,↥r.parts<=4
abbrev iI:=↑(Av×Nat)
noncomputable def eC(ch:iI):↑(aC×W):=ch.map λe=>(Sum.inr e.1,.int e.2)
structure gC(rs:↑aD)(ch:iI):Prop where
 nd:(ch.map (·.1)).Nodup
 at_:∀(i:Nat) (nm:Av) (k:Nat),ch[i]? = aa (nm,k)->∃r,rs[k]? = aa r/\r.name=nm/\∀p∈r.parts,bV p=ab->p∈(ch.take i).map (·.1)
def iX(L:Nat)(b:Int)(rank:Nat):Nat:=if b<6 then(6-b).toNat+L else rank+1
def wQ:aV:=λws M R=>∃p:Av,ws=[.str p]/\(dA p\/eS p)/\R (.bl (bV p)) M
def BP:aV:=λws M R=>∃(d:W) (ps:↑Av) (ch:iI),ws=[.tup (ps.map W.str),d]/\(d=.dk (eC ch)\/∃a,d=.ref a/\M a=aa (.dK (eC ch)))/\(∀p∈ps,dA p\/eS p)/\↥ps<=4/\
 ∀b:Bool,(b=ab↔∀p∈ps,bV p=ab->p∈ch.map (·.1))->R (.bl b) M
def MH:aV:=λws M R=>∃rs:↑aD,ws=[bC rs]/\jS rs/\∀ch,gC rs ch->iO (eC ch) M R
def mH:Nat->aV
 | 0=>λ_ _ _=>False
 | n+1=>λws M R=>∃(rs:↑aD) (ch:iI) (nm:Av) (q:Am) (a b:Int) (rank k p:Nat),ws=[bC rs,.dk (eC ch),.str nm,.ref q]/\M q=aa (.lst [.int a,.int b])/\jS rs/\gC rs ch/\ch[rank]? = aa (nm,k)/\1<=p/\(∀r∈rs,↥r.parts<=p)/\iX ↥ch b rank<=n+1/\
  ∀w row c d,RT bV rs (iX ↥ch b rank) [nm] [w] row->(∀t∈row,Sh t)->↥row<=p ^ iX ↥ch b rank->b<=d->R w (put M q (.lst [.int c,.int d]))
abbrev iJ:aV:=mH 30
def MI:aV:=λws M R=>∃c:Int,ws=[.int c]/\∀z:Int,R (.int z) M
def sE:Nat->aV
 | 0=>λ_ _ _=>False
 | n+1=>λws M R=>∃(rs:↑aD) (p:Av) (w:W) (row:↑Av),ws=[w]/\RT bV rs n [p] [w] row/\↥row<=2 ^ 23/\R (.rl (row.map W.str)) M
abbrev qF:aV:=sE 31
def sG:Nat->aV
 | 0=>λ_ _ _=>False
 | n+1=>λws M R=>∃(rs:↑aD) (p:Av) (w:W) (row:↑Av),ws=[bC rs,.str p,w]/\jS rs/\RT bV rs n [p] [w] row/\bV p=ab/\R (.bl ab) M
abbrev oN:aV:=sG 60
noncomputable def hJ(rs:↑aD)(way:Int):↑aD:=rs.map λr=>if r.parts=[]/\0<way then⟨r.name,["zoe"],r.cost⟩ else r
open Classical in
noncomputable def iY(rs:↑aD)(way:Int):↑aD:=hJ rs way++if way=2/\∀r∈hJ rs way,f0 rs∉r.parts then [⟨f0 rs,[],0⟩] else []
def MJ:aV:=λws M R=>∃(rs:↑aD) (way:Int),ws=[bC rs,.int way]/\jS rs/\↥rs<=20/\aP ((iY rs way).map bF) M R
abbrev zhg:↑Av:=["part"]
abbrev zhh:aE:=
   (bG (aH (cA ac) (vX aG a6) (vC (.str "ABCDEFGHIJKLMNOPQRSTUVWXYZ"))))
abbrev zhi:↑Av:=["parts","chosen"]
abbrev zhj:aE:=
   (bG (aH (cV ac) (bJ (dR (bT cD aG) (aX 0) (iQ (bK (aH (cA ab) aG aM)) (dQ (aS wQ (aA aG aB)))) aG [ae,aa 1])) (eY aB)))
noncomputable abbrev zhk:↑Av:=["rules","chosen","k","number","name","parts","cost"]
abbrev zhl:aE:=
   (aN 1 rE)
abbrev zhm:aE:=
   (cC (n9 (aA (bH cP (aA aG aB)) aB)) (aX 3)
    (aF (fJ (vX aG a7) (fS 3 (cL (aX 4) (cL (aX 5) (cL (aX 6) fR)))))
   (bW (iQ (bK (aH (cA ab) a9 aM)) (dQ (aS BP (aA b9 (aA aM aB)))))
    (fJ a7 (gY aM a9))
    cB)))
abbrev zhn:aE:=
   (cC (n9 (aA (bH cP (aA aG aB)) aB)) (aX 2) zhm)
abbrev zho:aE:=
   (bG aM)
abbrev zhp:aE:=(aF zhl (aF zhn zho))
noncomputable abbrev MK:↑Av:=["rules","chosen","name","state","number","some","k","children","part"]
abbrev zhq(iJ:aV):aE:=
   (bW (bK (aH lP (vX a7 a8) (vI 6)))
    (aF (aN 5 (fH aB))
   (aF (cC (n9 (aA (bH cP (aA aG aB)) aB)) (aX 6)
    (bW (iQ (bK (aH (cV ac) (vX (vX aG cF) a6) aT)) (dQ (aS BP (aA (vX (vX aG cF) a8) (aA aM aB)))))
    (bZ (cN "list" dJ b9 (aA cF aB)))
    cB))
   (aF (aN 4 (vX b9 (aH fP (vX a7 a6) (bH cP (aA b9 aB)))))
   (fJ (aH iR (vX a7 a6) (bH cP (aA b9 aB))) (gY a7 a6)))))
    cB)
abbrev ML(iJ:aV):aE:=
   (fJ (aH cU (vX a7 a8) a8) (gY a7 a8))
abbrev MM(iJ:aV):aE:=
   (aN 7 (fH aB))
abbrev zhr(iJ:aV):aE:=
   (bW (dQ (aS wQ (aA eI aB)))
    (bZ (cN "list" dJ cT (aA (aS iJ (aA aG (aA aM (aA eI (aA a7 aB))))) aB)))
    (bZ (cN "list" dJ cT (aA eI aB))))
abbrev MN(iJ:aV):aE:=
   (cC (bT cD (vX (vX aG a9) a8)) (aX 8) (zhr iJ))
abbrev MP(iJ:aV):aE:=
   (bG (bA (aA a9 (aA (bH pH (aA cT aB)) aB))))
abbrev zhs(iJ:aV):aE:=(aF (aN 4 (vX aM aT)) (aF (zhq iJ) (aF (ML iJ) (aF (MM iJ) (aF (MN iJ) (MP iJ))))))
abbrev zht:↑Av:=["cell"]
abbrev zhu:aE:=
   (aF (bW (bK (aH yH aG (aH i6 (vI 10) (vI 18))))
    (bG (aH kP aG (aH i6 (vI 10) (vI 18))))
    cB)
   (bG (aH yD (aH kU (aS vA (aA aG (aA a8 aB))) (aH i6 (vI 10) (vI 60))) (aS vA (aA aG (aA kL aB))))))
abbrev MQ:↑Av:=["tree","found","child"]
abbrev zhv(qF:aV):aE:=(aF (bW (dQ (bH i9 (aA aG (aA (vC (.ty "str")) aB)))) (bG (eY (aA aG aB))) cB) (aF (aN 1 (eY aB)) (aF (cC (bT cD (vX aG a8)) (aX 2) (aN 1 (aH cU aM (aS qF (aA aT aB))))) (bG aM))))
abbrev zhw:↑Av:=["rules","way","longer","name","parts","cost"]
abbrev zhx:aE:=
   (aN 2 (fH aB))
abbrev zhy:aE:=
   (aF (bW (iQ (bK (aH (cV ac) a9 (bA aB))) (bK (aH t6 aM a6)))
    (aN 4 (bA (aA (vC (.str "zoe")) aB)))
    cB)
   (bZ (cN "list" dJ aT (aA (bA (aA a7 (aA a9 (aA b9 aB)))) aB))))
abbrev zhz:aE:=
   (cC (bT kT aG) (fS 3 (cL (aX 3) (cL (aX 4) (cL (aX 5) fR)))) zhy)
abbrev zhA:aE:=
   (bW (iQ (bK (aH (cV ac) aM kL)) (bK (aH (cV ac) (bJ (dR (bT cD aT) (aX 0) (bK (aH (cA ac) (vX (vX aM a6) a6) (vX aG a8))) aG [ae,aa 2])) (eY aB))))
    (bZ (cN "list" dJ aT (aA (bA (aA (vX (vX aT a6) a6) (aA (bA aB) (aA a6 aB)))) aB)))
    cB)
abbrev zhB:aE:=
   (bG aT)
abbrev zhC:aE:=(aF zhx (aF zhz (aF zhA zhB)))
structure Lb(rs:↑aD)(l:↑(NP×W))(f:Av->↑Av)(H d K:Nat):Prop where
 nam:↥(namesOf (dN l))<=K
 row:∃p,1<=p/\(∀r∈dN l,↥r.parts<=p)/\p ^ (6+K)<=2 ^ 23
 bd:H+d*(6+K)<=29
 d50:d<=50/\K<=20
 f0:dC rs f (f0 (dN l))=[f0 rs]
 sl:∀t,↥(dC rs f t)<=100
 al:∀z∈l,Qz rs f H d z
structure oO(rs:↑aD)(l:↑(NP×W)):Prop where
 tg:jS (dN l)
 few:↥(namesOf (dN l))<=20
 pl:∀z∈l,Pl 59 z.2
 is:l=oK (f0 rs)\/∃f H d K,Lb rs l f H d K
def qG(l:↑(NP×W)):W:=.rl (l.map λz=>z.2)
def BQ:aV:=λws M R=>(∃t,ws=[.str t]/\R (.bl ac) M)\/∃us,ws=[.tup us]/\R (.bl ab) M
def sH:Nat->aV
 | 0=>λ_ _ _=>False
 | n+1=>λws M R=>∃j rows out,ws=[.tup j,.rl (rows.map W.rl)]/\Pt rows n j out/\↥out<=1000/\aP out M R
abbrev sI:aV:=sH 60
def BR:aV:=λws M R=>∃(backs:↑(↑W)) (w o:W) (m d:Nat),ws=[.rl (backs.map W.tup),w]/\Fn d backs [o] m [(w,ac)] []/\d<=50/\R o M
def MR:aV:=λws M R=>∃(rs:↑aD) (l:↑(NP×W)) (n:Int),ws=[bC rs,bC (dN l),qG l,.int n]/\eU rs/\jS rs/\oO rs l/\R (.bl ab) M
abbrev zhD:↑Av:=["child"]
abbrev zhE:aE:=
   (bG (bH i9 (aA aG (aA (vC (.ty "tuple")) aB))))
abbrev MS:↑Av:=["pieces","rows","told","piece"]
abbrev zhF(sI:aV):aE:=
   (bW (dQ (bH i9 (aA a7 (aA (vC (.ty "int")) aB))))
    (bZ (cN "list" yP aT (aA (vX aM a7) aB)))
    (bW (bK (aH (cV ac) (vX a7 a6) (vC (.str "whole"))))
    (bZ (cN "list" dJ aT (aA (vX a7 a8) aB)))
    (bZ (cN "list" dJ aT (aA (bA (aA (vX a7 a6) (aA (bH pH (aA (bJ (aS sI (aA (vX a7 a8) (aA aM aB)))) aB)) aB))) aB)))))
abbrev zhG(sI:aV):aE:=(aF (aN 2 (fH aB)) (aF (cC (bT cD aG) (aX 3) (zhF sI)) (bG aT)))
noncomputable abbrev zhH:↑Av:=["backs","tree","told","waiting","pair","child","rows"]
abbrev zhI:aE:=
   (aN 2 (fH aB))
abbrev zhJ:aE:=
   (aN 3 (fH (aA (bA (aA aM (aA (vC (.bl ac)) aB))) aB)))
abbrev zhK:aE:=
   (aF (aN 4 (mR "list" n6 a7))
   (aF (aN 5 (vX a9 a6))
   (bW (kO (dQ (aS BQ (aA b9 aB))))
    (bZ (cN "list" dJ aT (aA (eY (aA b9 aB)) aB)))
    (bW (dQ (vX a9 a8))
    (aF (aN 6 (bJ (dR (bT cD (vX b9 a8)) (aX 0) eR (mR "list" n6 aM) [ae,aa 2])))
   (bZ (cN "list" dJ aT (aA (bJ (aS sI (aA (vX aG (vX b9 a6)) (aA (bJ (MG cF)) aB)))) aB))))
    (aF (bZ (cN "list" dJ a7 (aA (bA (aA b9 (aA (vC (.bl ab)) aB))) aB)))
   (bZ (cN "list" yP a7 (aA (bJ (dR (A5 (aA (vX b9 a8) aB)) (aX 0) eR (bA (aA aG (aA (vC (.bl ac)) aB))) [ae])) aB))))))))
abbrev zhL:aE:=
   (kS (dQ a7) zhK)
abbrev zhM:aE:=
   (bG (vX (vX aT a6) a6))
abbrev zhN:aE:=(aF zhI (aF zhJ (aF zhL zhM)))
abbrev MT:↑Av:=["rules","name","tree","parts","part","child"]
abbrev zhO(oN:aV):aE:=
   (bW (kN (dQ (bH i9 (aA aT (aA (vC (.ty "str")) aB)))) (kN (kO (bK (yV yF lP a6 (vX aT a6) (bH cP (aA aG aB))))) (bK (aH (cV ab) (vX (vX aG (vX aT a6)) a6) aM))))
    (bG (vC (.bl ac)))
    cB)
abbrev zhP(oN:aV):aE:=
   (bW (dQ (aS wQ (aA a9 aB)))
    (bW (kO (dQ (aS oN (aA aG (aA a9 (aA b9 aB))))))
    (bG (vC (.bl ac)))
    cB)
    (bW (bK (aH (cV ab) b9 a9))
    (bG (vC (.bl ac)))
    cB))
abbrev zhQ(oN:aV):aE:=(aF (zhO oN) (aF (aN 3 (vX (vX aG (vX aT a6)) a8)) (aF (bW (bK (aH (cV ab) (bH cP (aA a7 aB)) (bH cP (aA (vX aT a8) aB)))) (bG (vC (.bl ac))) cB) (aF (cC (GJ (aA a7 (aA (vX aT a8) aB))) (fS 2 (cL (aX 4) (cL (aX 5) fR))) (zhP oN)) (bG (vC (.bl ab)))))))
noncomputable abbrev zhR:↑Av:=["rules","told","backs","number","chosen","heads","some","name","tree","found","due"]
abbrev zhS:aE:=
   (aN 4 (bJ (aS MH (aA aM aB))))
abbrev zhT:aE:=
   (aN 5 (bJ (dR (bT cD aG) (aX 0) eR (vX aG a6) [ae])))
abbrev zhU:aE:=
   (aN 6 (bJ (dR (bT cD (bH zC (aA a9 aB))) (aX 0) (kN (bK (aH (cA ac) aG aM)) (bK (aH (cV ac) aG (vX (vX aT a6) a6)))) aG [ae,aa 5,aa 1])))
abbrev zhV:aE:=
   (bW (bK (aH (cV ac) cF (eY aB)))
    (bG (vC (.bl ab)))
    cB)
abbrev zhW:aE:=
   (aN 7 (vX cF (aH fP a7 (bH cP (aA cF aB)))))
abbrev zhX:aE:=
   (bW (iQ (bK (aH (cV ac) (aH fP a7 kL) a6)) (bK (aH (cA ac) (vX (vX aM a6) a6) a9)))
    (aN 7 (vX (vX aM a6) a6))
    cB)
abbrev wR:aE:=
   (aN 8 (aS iJ (aA aM (aA a9 (aA cT (aA (fH (aA (aH iR a7 (vI 6)) (aA a6 aB))) aB))))))
abbrev wU:aE:=
   (aN 9 (aS BR (aA aT (aA eI aB))))
abbrev wV:aE:=
   (aN 10 cT)
abbrev wW:aE:=
   (bW (bK (aH (cV ac) cT (vX (vX aM a6) a6)))
    (aN 10 (vX (vX aG a6) a6))
    cB)
abbrev sJ:aE:=
   (bW (kN (kO (dQ (bH i9 (aA gX (aA (vC (.ty "tuple")) aB))))) (kN (kO (dQ (aS oN (aA aG (aA qX (aA gX aB)))))) (bK (aH (cV ab) (aS qF (aA gX aB)) (aS qF (aA eI aB))))))
    (bG (vC (.bl ac)))
    cB)
abbrev sL:aE:=
   (bG (aH (cV ac) (aS BR (aA aT (aA eI aB))) gX))
abbrev zhY:aE:=(aF zhS (aF zhT (aF zhU (aF zhV (aF zhW (aF zhX (aF wR (aF wU (aF wV (aF wW (aF sJ sL)))))))))))
noncomputable abbrev zhZ:↑Av:=["script","rules","way","grammar","some","cell","number","told","backs","held"]
abbrev zh0:aE:=
   (aN 1 (bJ (aS IE (aA (oA aG (kR a8) (kR (vI 9))) (aA (aH cU a8 (vX (bJ (aS rT (aA (aS rS (aA aG (aA a6 aB))) (aA (eY (aA jX aB)) aB)))) a6)) (aA (vI 4) aB))))))
abbrev zh6:aE:=
   (aN 2 (vX (bJ (aS rT (aA (aS rS (aA aG (aA (vI 9) aB))) (aA (eY (aA jX aB)) aB)))) a6))
abbrev zh7:aE:=
   (aN 1 (bJ (aS MJ (aA aM (aA aT aB)))))
abbrev zh8:aE:=
   (aN 3 (bJ (aS KR (aA (bH yX (aA aM aB)) aB))))
abbrev zh9:aE:=
   (aN 4 (fH (aA (aS L6 (aA a7 aB)) (aA (aS KU (aA a7 aB)) aB))))
abbrev zia:aE:=
   (bW (bK (aH t6 aT a6))
    (bZ (cN "list" dJ a9 (aA (aS MF (aA a7 aB)) aB)))
    cB)
abbrev zib:aE:=
   (aF (aN 6 (aS MI (aA b9 aB)))
   (aF (fJ (vX a9 (aH fP cF (bH cP (aA a9 aB)))) (fS 2 (cL (aX 7) (cL (aX 8) fR))))
   (aF (aN 9 (bH yX (aA eI aB)))
   (bW (kN (kO (dQ (aS MR (aA aM (aA cT (aA eI (aA (aH iR cF jX) aB))))))) (bK (aH (cV ab) eI gX)))
    (bG (vC (.bl ac)))
    cB))))
abbrev MU:aE:=
   (cC (bT cD (aH cU (eY (aA a6 aB)) (oA aG (kR (vI 10)) (kR (vI 22))))) (aX 5) zib)
abbrev MV:aE:=
   (bG (aH (cV ac) a7 aM))
abbrev zic:aE:=(aF zh0 (aF zh6 (aF zh7 (aF zh8 (aF zh9 (aF zia (aF MU MV)))))))
theorem zid{p:Av}(h:dA p\/eS p):∃c rest,cs p=c::rest/\decide (c∈cs gH)=bV p:=by
 rcases h with h|h
 .let⟨c,r,e,m⟩:=h.hd;exact⟨c,r,e,by rw[h.nm];exact Wc m⟩
 .cases e:cs p with
  | nil=>exact absurd e h.ne
  | cons c r=>
   refine⟨c,r,rfl,?_⟩;rw[xV h.ne h.sm];have key:∀c∈cs kJ,c∉cs gH:=by decide +kernel
   exact We (key c (h.sm c (by rw[e];exact Bl)))
theorem zie:bE wQ zhh zhg:=by
 rintro _ M R ⟨p,rfl,G,r⟩;let⟨c,rest,e,hc⟩:=zid G;refine⟨small (Ap (nK G).len ∅),so.of (o:=bR p.cps.toList 0) (a:=c) (by rw[show p.cps.toList=c::rest from e];exact oB _ _) ?_⟩;rw[<-hc]at r;refine⟨_,aW,?_⟩;show R (.bl (occ ⟨#[c]⟩ gH)) M;rw[IQ];exact r
theorem MW(ch:iI)(p:Av):aQ (eC ch) (Sum.inr p:aC)=(cG ch p).map λn=>W.int (n:Nat):=by
 unfold eC aQ cG
 induction ch with
 | nil=>rfl
 | cons e c ih=>
  rw[Bh,Cz,Cz]
  by_cases h:e.1=p
  .rw[Wc h,Wc (show(Sum.inr e.1:aC)=Sum.inr p by rw[h])];rfl
  .rw[We h,We (λz:(Sum.inr e.1:aC)=Sum.inr p=>h (Qq z))];exact ih
theorem wX{ch:iI}{p:Av}:(aQ (eC ch) (Sum.inr p:aC)).isSome=decide (p∈ch.map (·.1)):=by
 rw[MW,La,Ee,decide_eq_true_iff,iE]
theorem zif:bE BP zhj zhi:=by
 rintro _ M R ⟨c,ps,ch,rfl,e,G,hl,r⟩;have X:∀(V:Mm) (x:Av) (Q:K3),L2.Sub M V->Q (.bl (!decide (x∈ch.map (·.1)))) V->cA ab (.str x) c V Q:=λV x Q sb h=>by
  rw[<-wX]at h;rcases e with rfl|⟨a,rfl,m⟩
  .exact⟨_,⟨.inr x,rfl,rfl⟩,h⟩
  .exact .inr ⟨_,.inl ⟨_,.inr x,sb _ _ m,rfl,rfl⟩,h⟩
 refine uK (rest:=[aa c]) (λw=>match w with|.str p=>if bV p=ab/\p∉ch.map (·.1) then aa (.str p) else ae|_=>ae) (small (by rw[Ab];lia)) (λ_ _=>trivial) (λw hw V C D sb O L=>?_) (aP.frz ?_)
 .let⟨p,F,rfl⟩:=Ar.mp hw;refine X V p _ sb (bP (λS=>⟨p,rfl,G p F,bP (b:=bV p) (λhn=>O _ (Vz ⟨hn,of_decide_eq_false (by rw[<-Hb (decide _),S];rfl)⟩)) λhn=>L (Vy λz=>by rw[z.1]at hn;cases hn)⟩) λS=>L (Vy λz=>by rw[We z.2]at S;cases S))
 .refine lV 2 ∅ (λw hw=>?_) (λw hw=>nomatch hw) λb Z=>⟨_,aW,r b ?_⟩
  .let⟨z,hz,e⟩:=Hw.mp hw;let⟨p,F,rfl⟩:=Ar.mp hz;have e:(if bV p=ab/\p∉ch.map (·.1) then aa (W.str p) else ae)=aa w:=e;split at e
   .cases e;exact m9 (nK (G p F)).asc
   .cases e
  .rw[Z];show W.rl _=W.rl []↔_;rw[W.rl.injEq,List.filterMap_eq_nil_iff];constructor
   .intro h p F hn;have:(if bV p=ab/\p∉ch.map (·.1) then aa (W.str p) else ae)=ae:=h (.str p) (Ar.mpr ⟨p,F,rfl⟩);exact Jm λS=>by rw[Vz ⟨hn,S⟩]at this;cases this
   .intro h w hw;let⟨p,F,rfl⟩:=Ar.mp hw;exact Vy λz=>z.2 (h p F z.1)
theorem zig:bE MI zhu zht:=by
 rintro _ M R ⟨c,rfl,r⟩;have a:oS 10 18:=⟨by decide,by decide,by decide⟩;refine⟨a,fU (λ_=>⟨a,_,aW,r _⟩) λ_=>⟨c,1,rfl,by decide,by decide,λz J O=>⟨⟨by decide,by decide,by decide⟩,.inr ⟨?_,by decide⟩,c,2,rfl,by decide,by decide,λG _ _=>⟨_,aW,r _⟩⟩⟩⟩;have:z.natAbs<2 ^ 250:=by
  have L:z<2 ^ 250:=Tu O ∅;lia
 exact tQ this ∅
theorem zih{ch:iI}{p:Av}(h:p∉ch.map (·.1))(k:Nat):bY (eC ch) (Sum.inr p:aC) (.int (k:Nat))=eC (ch++[(p,k)]):=by
 unfold bY;rw[Vy (by rw[show((eC ch).any λkv=>decide (kv.1=(Sum.inr p:aC)))=(aQ (eC ch) (Sum.inr p:aC)).isSome from j7 _ _,wX,We h];decide)];unfold eC;rw[Ax];rfl
theorem gC.add{rs:↑aD}{ch:iI}{k:Nat}{r:aD}(h:gC rs ch)(T:rs[k]? = aa r)(hn:r.name∉ch.map (·.1))(G:∀p∈r.parts,bV p=ab->p∈ch.map (·.1)):gC rs (ch++[(r.name,k)]):=by
 refine⟨?_,λi nm y e=>?_⟩
 .rw[Ax,Cv];exact⟨h.nd,by simp,λa m b Z z=>hn (by rw[z,Ag.mp Z]at m;exact m)⟩
 .rcases Nat.lt_trichotomy i ↥ch with hi|rfl|hi
  .rw[Ng hi]at e;rw[List.take_append_of_le_length (Ht hi)];exact h.at_ i nm y e
  .rw[Hx (Ai _),Ol]at e;cases e;rw[Rt]
   .exact⟨r,T,rfl,G⟩
   .rfl
  .rw[Oz (by rw[Aj];exact hi)]at e;cases e
theorem gC.sub{rs:↑aD}{ch:iI}(h:gC rs ch):∀x∈ch.map (·.1),x∈namesOf rs:=λx J=>by
 let⟨e,Z,rfl⟩:=Ar.mp J;let⟨i,hi⟩:=Ii Z;let⟨r,T,en,_⟩:=h.at_ i e.1 e.2 hi;exact iT.mpr ⟨r,Ao T,en⟩
theorem gC.few{rs:↑aD}{ch:iI}(h:gC rs ch):↥ch<=↥(namesOf rs):=by
 have:=len_sub h.nd h.sub;rwa [Ab]at this
theorem zii:bE MH zhp zhk:=by
 rintro _ M R ⟨rs,rfl,g,r⟩;have hf:=g.few;have hl:↥(rs.map bF)=↥rs:=Ab _;have bd : -(2 ^ 62)<=(↥(rs.map bF):Int)/\(↥(rs.map bF):Int)<2 ^ 62:=by rw[hl];lia
 refine λp hp=>⟨_,rfl,bd.1,bd.2,?_⟩
 refine dB (λ_ τ M'=>∃ch o2 o3 o4 o5 o6,τ=[aa (bC rs),aa (.ref p),o2,o3,o4,o5,o6]/\M'=put M p (.dK (eC ch))/\gC rs ch) ⟨[],_,_,_,_,_,rfl,rfl,⟨Eo,λ_ _ _ h=>nomatch h⟩⟩ ?_ ?_
 .rintro i w τ M' hw ⟨ch,o2,o3,o4,o5,o6,rfl,rfl,hc⟩ D hD;refine⟨_,rfl,bd.1,bd.2,dB (λ_ τ M'=>∃ch o2 o3 o4 o5 o6,τ=[aa (bC rs),aa (.ref p),o2,o3,o4,o5,o6]/\M'=put M p (.dK (eC ch))/\gC rs ch) ⟨ch,_,_,_,_,_,rfl,rfl,hc⟩ ?_ λτ M' h=>hD _ _ h⟩;rintro j w τ M' hw ⟨ch,o2,o3,o4,o5,o6,rfl,rfl,hc⟩ D' hD';let⟨hj,rfl⟩:=rW hw;rw[Dl,hl]at hj;let⟨ru,h1,h2⟩:=j8 hj;rw[Oq];have hm:=Ao h1;have cl:=hc.few;have cn:=AL rs;refine so.of h2 ⟨rfl,rfl,.inr ⟨_,.inl ⟨eC ch,.inr ru.name,aJ,rfl,rfl⟩,?_⟩⟩;show if (!(aQ (eC ch) (Sum.inr ru.name:aC)).isSome)=ab then _ else _;rw[wX];refine bP (λy1=>⟨_,ru.parts,ch,rfl,.inr ⟨p,rfl,aJ⟩,g.pt ru hm,g.prt ru hm,λb hb=>bP (b:=b) (λy2=>?_) λ_=>hD' _ _ ⟨ch,_,_,_,_,_,rfl,rfl,hc⟩⟩) λ_=>hD' _ _ ⟨ch,_,_,_,_,_,rfl,rfl,hc⟩;have y1:ru.name∉ch.map (·.1):=of_decide_eq_false (by rw[<-Hb (decide _),y1];rfl);refine rK aJ (by unfold eC;rw[Ab];exact cM (by lia)) ?_;rw[zih y1,b7];exact hD' _ _ ⟨_,_,_,_,_,_,rfl,rfl,hc.add h1 y1 (hb.mp y2)⟩
 .rintro τ M' ⟨ch,o2,o3,o4,o5,o6,rfl,rfl,hc⟩;exact⟨_,aW,r ch hc p hp⟩
theorem zij{rows:↑(↑Av)}{i:Nat}{r:↑Av}(h:rows[i]? = aa r):(rows.take (i+1)).flatten=(rows.take i).flatten++r:=by
 rw[Cf,h,Mj];simp
theorem zik{rows:↑(↑Av)}(i:Nat):(rows.take i).flatten.length<=↥rows.flatten:=by
 have:rows.flatten=(rows.take i).flatten++(rows.drop i).flatten:=by rw[<-Mj,Hz]
 rw[this,Aj];exact Ka _ _
section
variable {nm:Av->Bool}{rs:↑aD}{h:Nat}
theorem RT.rows{ps a:↑Av}{ws:↑W}(x:RT nm rs h ps ws a):∃rows:↑(↑Av),a=rows.flatten/\↥rows=↥ws/\∀(i:Nat) (w:W),ws[i]? = aa w->∃p r,ps[i]? = aa p/\rows[i]? = aa r/\RT nm rs h [p] [w] r:=by
 induction x with
 | nil=>exact⟨[],rfl,rfl,λi w e=>nomatch e⟩
 | @word h t ps row ws hn _ E=>
  let⟨rows,rfl,O,L⟩:=E;refine⟨[t]::rows,rfl,congrArg (· + 1) O,λi w e=>?_⟩;cases i with
  | zero=>cases e;exact⟨t,[t],rfl,rfl,.word hn .nil⟩
  | succ i=>exact L i w e
 | @knot h k n r us ws ps a b O L J h3 _ _ E=>
  let⟨rows,rfl,D,T⟩:=E;refine⟨a::rows,rfl,congrArg (· + 1) D,λi w e=>?_⟩;cases i with
  | zero=>
   cases e;have:=RT.knot O L J h3 .nil;rw[Bs]at this;exact⟨_,a,rfl,rfl,this⟩
  | succ i=>exact T i w e
theorem RT.inv{p:Av}{w:W}{row:↑Av}(x:RT nm rs h [p] [w] row):(nm p=ac/\w=.str p/\row=[p])\/∃h' n r us,nm p=ab/\h'+1<=h/\w=gB n us/\rs[n]? = aa r/\r.name=p/\RT nm rs h' r.parts us row:=by
 cases x with
 | word O L=>cases L;exact .inl ⟨O,rfl,rfl⟩
 | knot O L J h3 m=>
  cases m;rw[Bs];exact .inr ⟨_,_,_,_,O,J,rfl,L,rfl,h3⟩
end
theorem zil{n:Nat}:bE (sE (n+1)) (zhv (sE n)) MQ:=by
 rintro _ M R ⟨rs,p,w,row,rfl,hw,hl,r⟩;rcases hw.inv with⟨_,rfl,rfl⟩|⟨h,k,ru,ws,_,hh,rfl,_,_,T⟩
 .exact ZQ.mpr ⟨_,aW,r⟩
 .let⟨rows,rfl,d,G⟩:=T.rows;refine GG.mpr ?_;refine dB (λi U V=>∃o,U=[aa (.tup [.int k,.tup ws]),aa (.rl ((rows.take i).flatten.map W.str)),o]/\V=M) ⟨_,rfl,rfl⟩ ?_ ?_
  .rintro i x U V J ⟨o,rfl,rfl⟩ D H;let⟨q,l,_,a,j⟩:=G i x J;have e:=zij a;have E:=zik (rows:=rows) (i+1);rw[e,Aj]at E;cases n with
   | zero=>cases hh
   | succ n=>
    refine⟨rs,q,x,l,rfl,j.mono (Hs hh),by lia,?_⟩;refine⟨?_,H _ _ ⟨_,by rw[e,Ax];rfl,rfl⟩⟩;rw[Ab,Ab];exact Ap E (Ap hl ∅)
  .rintro U V ⟨o,rfl,rfl⟩;rw[<-d,Bw];exact⟨_,aW,r⟩
theorem zim{L:Nat}{b d:Int}{rank a:Nat}(Z:b+1<=d)(j:a<L)(h:6<=b->a<rank):iX L d a+1<=iX L b rank:=by
 unfold iX;split<;>split<;>lia
theorem MX{L:Nat}{b:Int}{rank:Nat}:1<=iX L b rank:=by unfold iX;split<;>lia
theorem gC.rank{ch:iI}{p:Av}(h:p∈ch.map (·.1)):∃rank k,ch[rank]? = aa (p,k)/\rank<↥ch:=by
 let⟨e,Z,rfl⟩:=Ar.mp h;let⟨i,hi⟩:=Ii Z;exact⟨i,e.2,hi,(An.mp hi).1⟩
theorem gC.look{rs:↑aD}{ch:iI}(h:gC rs ch){rank k:Nat}{nm:Av}(e:ch[rank]? = aa (nm,k)):aQ (eC ch) (Sum.inr nm:aC)=aa (.int (k:Nat)):=by
 have:∀{ch:iI},(ch.map (·.1)).Nodup->(nm,k)∈ch->cG ch nm=aa k:=λ{ch}=>by
  induction ch with
  | nil=>exact λ_ h=>nomatch h
  | cons e c ih=>
   intro hn hm;rw[Bh,Cj]at hn;unfold cG;rw[Cz];rcases Aw.mp hm with rfl|hm
   .rw[Wc rfl];rfl
   .rw[We λz=>hn.1 (Ar.mpr ⟨_,hm,z.symm⟩)];exact ih hn.2 hm
 rw[MW,this h.nd (Ao e)];rfl
def wY(rs:↑aD)(ch:iI)(nm:Av)(j:Nat):Prop:=∃r,rs[j]? = aa r/\r.name=nm/\∀p∈r.parts,bV p=ab->p∈ch.map (·.1)
theorem zin{n:Nat}:bE (mH (n+1)) (zhs (mH n)) MK:=by
 rintro _ M R ⟨rs,ch,nm,q,a,b,rank,k,p,rfl,T,g,hc,hrk,hp1,hpp,hlev,r⟩;have hf:=g.few;have hrl:=(An.mp hrk).1;let⟨r0,hr0,hn0,hp0⟩:=hc.at_ rank nm k hrk;have fin:∀(N:Mm) (num:Nat) (ru:aD) (a0:Int) (A I:Option W),(∀o,L2.Sub (put M q o) (put N q o))->N q=aa (.lst [.int a0,.int b])->rs[num]? = aa ru->ru.name=nm->(∀t∈ru.parts,bV t=ab->∃rank' y,ch[rank']? = aa (t,y)/\rank'<↥ch/\(6<=b->rank'<rank))->
   (aF (ML (mH n)) (aF (MM (mH n)) (aF (MN (mH n)) (MP (mH n))))) (i8 R) [aa (bC rs),aa (.dk (eC ch)),aa (.str nm),aa (.ref q),aa (.int num),A,I,ae,ae] N:=by
  intro N num ru a0 A I sb E v hrn hpt;have P:=Ao v;have m:=g.prt ru P;let⟨ru',O,S⟩:=j8 (rs:=rs) (n:=num) (An.mp v).1;cases (show aa ru'=aa ru from O.symm.trans v);refine jK E (show bR [W.int a0,W.int b] 1=aa (.int b) from rfl) (zA E ∅ (by simp) λc hcf=>?_);have hcq:q≠c:=λz=>by rw[<-z,aJ]at hcf;cases hcf
  have hNc:N c=ae:=by rw[aY (Ca hcq)]at hcf;exact hcf
  have sw:∀{X Y Z:MO},put (put (put N q X) c Z) q Y=put (put N q Y) c Z:=λ{X Y Z}=>by rw[mQ (Ca hcq),b7]
  have atq:∀{X Z:MO},put (put N q X) c Z q=aa X:=λ{X Z}=>by rw[aY hcq,aJ]
  have L1:1<=iX ↥ch b rank:=MX;refine so.of S ?_;refine dB (λi U V=>∃cs row a' b' o8,U=[aa (bC rs),aa (.dk (eC ch)),aa (.str nm),aa (.ref q),aa (.int num),A,I,aa (.ref c),o8]/\V=put (put N q (.lst [.int a',.int b'])) c (.lst cs)/\RT bV rs (iX ↥ch b rank-1) (ru.parts.take i) cs row/\(∀t∈row,Sh t)/\b+1<=b'/\↥row<=i*p ^ (iX ↥ch b rank-1)) ⟨[],[],a0,b+1,_,rfl,rfl,.nil,(λ_ h=>nomatch h),Ud _,Cs _⟩ ?_ ?_
  .rintro i w U V hw ⟨cs,rows,a',b',o8,rfl,rfl,hpr,hsh,hbb,hll⟩ D H;rw[Ay]at hw;let⟨t,ht,rfl⟩:=Ba.mp hw;have htm:=Ao ht;have hi:=(An.mp ht).1;have hcl:↥cs<=i:=by rw[hpr.len,Cg];exact Mi _ _
   have nx:∀{w:W} {row:↑Av} {a'' b'':Int},RT bV rs (iX ↥ch b rank-1) [t] [w] row->(∀t∈row,Sh t)->↥row<=p ^ (iX ↥ch b rank-1)->b'<=b''->D.nx [aa (bC rs),aa (.dk (eC ch)),aa (.str nm),aa (.ref q),aa (.int num),A,I,aa (.ref c),aa (.str t)] (put (put N q (.lst [.int a'',.int b''])) c (.lst (cs++[w]))):=λ{w row a'' b''} O F S h3=>
    H _ _ ⟨cs++[w],rows++row,a'',b'',_,rfl,rfl,by rw[Cf,ht];exact hpr.app O,λu G=>(Bb.mp G).elim (hsh u) (F u),Rb hbb h3,by
     rw[Aj,Tq];exact Nat.add_le_add hll S⟩
   refine⟨t,rfl,g.pt ru P t htm,bP (b:=bV t) (λhn=>?_) λhn=>?_⟩
   .let⟨rank',y,O,hL,h3⟩:=hpt t htm hn;have ld:=zim hbb hL h3;refine⟨dU aJ,?_⟩;cases n with
    | zero=>exact absurd (Ap ld hlev) (by have:=MX (L:=↥ch) (b:=b') (rank:=rank');lia)
    | succ n=>
     refine⟨rs,ch,t,q,a',b',rank',y,p,rfl,atq,g,hc,O,hp1,hpp,by lia,λw row a'' b'' B es l d=>?_⟩;rw[sw];refine⟨_,aJ,cM (by lia),?_⟩;rw[b7];exact nx (B.mono (by lia)) es (Ap l (Jt hp1 (by lia))) d
   .refine⟨dU aJ,_,aJ,cM (by lia),?_⟩;rw[b7];exact nx (.word hn .nil) (λu G=>by rw[Ag.mp G];exact nK (g.pt ru P t htm)) (Nat.one_le_pow _ _ hp1) (Ud _)
  .rintro U V ⟨cs,rows,a',b',o8,rfl,rfl,hpr,hsh,hbb,hll⟩;rw[Ab]at hll hpr;rw[Bw]at hpr;have kn:=RT.knot (g.nm ru P).nm v (Om (Nc L1)) hpr .nil;rw[Bs,hrn]at kn;refine⟨_,aJ,_,(sb _).trans (Sub.new (by rw[aY (Ca hcq)];exact hNc)),r _ rows a' b' kn hsh ?_ (by lia)⟩;refine Ap hll (Ap (Nat.mul_le_mul_right _ (hpp ru P)) ?_);rw[<-Nat.pow_succ',Nat.succ_eq_add_one,Nc L1];exact Ai _
 refine⟨_,⟨Sum.inr nm,rfl,(hc.look hrk).symm⟩,?_⟩;refine jK T (show bR [W.int a,W.int b] 1=aa (.int b) from rfl) (bP (b:=decide (b<6)) (λQ=>?_) λQ=>?_)
 .refine λs F=>?_;have hsq:q≠s:=λz=>by rw[<-z,T]at F;cases F
  have hl:↥(rs.map bF)=↥rs:=Ab _;refine⟨_,rfl,by rw[hl];lia,by rw[hl];lia,?_⟩;refine dB (λi U V=>∃js I,U=[aa (bC rs),aa (.dk (eC ch)),aa (.str nm),aa (.ref q),aa (.int k),aa (.ref s),I,ae,ae]/\V=put M s (.lst (js.map λ(j:Nat)=>W.int j))/\↥js<=i/\(∀j∈js,wY rs ch nm j)/\∀j,j<i->wY rs ch nm j->j∈js) ⟨[],_,rfl,rfl,Ai _,(λ_ h=>nomatch h),λ_ h=>nomatch h⟩ ?_ ?_
  .rintro i w U V hw ⟨js,I,rfl,rfl,hjl,hj1,hj2⟩ D H;let⟨hi,rfl⟩:=rW hw;rw[Dl,hl]at hi;rw[Oq];let⟨ru,O,S⟩:=j8 hi;have P:=Ao O;have no:¬wY rs ch nm i->∀j,j<i+1->wY rs ch nm j->j∈js:=λhn j hj f=>(Nat.lt_succ_iff_lt_or_eq.mp hj).elim (λz=>hj2 j z f) λz=>absurd (z▸f) hn;refine so.of S (bP (b:=decide (ru.name=nm)) (λy2=>?_) λy2=>H _ _ ⟨js,_,rfl,rfl,by lia,hj1,no λ⟨x,J,hx2,_⟩=>by rw[O]at J;cases J;exact of_decide_eq_false y2 hx2⟩);refine so.of S ⟨_,ru.parts,ch,rfl,.inl rfl,g.pt ru P,g.prt ru P,λb1 hb1=>bP (b:=b1) (λy3=>?_) λy3=>H _ _ ⟨js,_,rfl,rfl,by lia,hj1,no λ⟨x,J,_,hx3⟩=>by rw[O]at J;cases J;rw[hb1.mpr hx3]at y3;cases y3⟩⟩;refine⟨dU aJ,_,aJ,cM (by rw[Ab];lia),?_⟩;rw[b7];refine H _ _ ⟨js++[i],_,rfl,by rw[Ax];rfl,by rw[Aj];exact Eu hjl,λj hj=>(Bb.mp hj).elim (hj1 j) λz=>by rw[Ag.mp z];exact⟨ru,O,Wa y2,hb1.mp y3⟩,λj hj f=>(Nat.lt_succ_iff_lt_or_eq.mp hj).elim (λz=>Bf _ (hj2 j z f)) λz=>Bo _ (by rw[z];exact .head _)⟩
  .rintro U V ⟨js,I,rfl,rfl,hjl,hj1,hj2⟩;rw[vK,Dl,hl]at hjl hj2;have hkj:=hj2 k (An.mp hr0).1 ⟨r0,hr0,hn0,λt ht hn=>by
    let⟨e,K,l⟩:=Ar.mp (hp0 t ht hn);exact Ar.mpr ⟨e,Hh K,l⟩⟩
   have hjp:0<↥js:=List.length_pos_of_mem hkj;have hq2:put M s (.lst (js.map λ(j:Nat)=>W.int j)) q=aa (.lst [.int a,.int b]):=by rw[aY hsq];exact T
   have jl:↥(js.map λ(j:Nat)=>W.int (j:Int))=↥js:=Ab _;let⟨w,hw,hwm⟩:=y8 (xs:=js.map λ(j:Nat)=>W.int (j:Int)) (i:=a) (n:=(↥(js.map λ(j:Nat)=>W.int (j:Int)):Int)) rfl (by rw[jl];lia);let⟨num,hnum,rfl⟩:=Ar.mp hwm;let⟨ru,v,hrn,hru2⟩:=hj1 num hnum;refine jK hq2 (show bR [W.int a,W.int b] 0=aa (.int a) from rfl) (.inl ⟨_,aJ,by rw[jl];lia,jK aJ hw ?_⟩);refine jK hq2 (show bR [W.int a,W.int b] 0=aa (.int a) from rfl) (.inl ⟨_,aJ,⟨by rw[jl];lia,Tu (by rw[jl];lia:_<(2:Int) ^ 20) ∅⟩,zA hq2 ∅ (by simp) ?_⟩);refine fin _ num ru _ _ _ (λo=>by rw[b7];exact Sub.put (Sub.new F)) aJ v hrn λt ht hn=>?_;let⟨rk,y,O,S⟩:=gC.rank (hru2 t ht hn);exact⟨rk,y,O,S,λz=>absurd (Wa Q) (by lia)⟩
 .exact fin M k r0 a _ _ (λ_=>aW) T hr0 hn0 λt ht hn=>by
   have:=hp0 t ht hn;let⟨rk,y,O,S⟩:=gC.rank this;rw[List.getElem?_take]at O;split at O
   .rename_i C;exact⟨rk,y,O,by lia,λ_=>C⟩
   .cases O
theorem zio(n:Nat)(ws:↑W)(M:Mm)(R:K3)(h:mH n ws M R):↥ws=4:=by
 cases n with
 | zero=>exact h.elim
 | succ n=>
  let⟨_,_,_,_,_,_,_,_,_,e,_⟩:=h;rw[e];rfl
theorem ziq:∀n ws M R,sE n ws M R->↥ws=1
 | 0,_,_,_,h=>h.elim
 | n+1,_,_,_,⟨_,_,_,_,e,_⟩=>by rw[e];rfl
theorem zir:bE BQ zhE zhD:=by
 rintro _ M R (⟨t,rfl,r⟩|⟨us,rfl,r⟩)
 .exact ZR.mpr ⟨_,aW,r⟩
 .exact GF.mpr ⟨_,aW,r⟩
theorem zis{n:Nat}:bE (sH (n+1)) (zhG (sH n)) MS:=by
 rintro _ M R ⟨j,rows,out,rfl,G,hl,r⟩;refine λq N=>?_;refine dB (λi U V=>∃acc rest o,U=[aa (.tup j),aa (.rl (rows.map W.rl)),aa (.ref q),o]/\V=put M q (.lst acc)/\out=acc++rest/\Pt rows n (j.drop i) rest) ⟨[],out,ae,rfl,rfl,rfl,G⟩ ?_ ?_
 .rintro i w U V hw ⟨acc,rest,o,rfl,rfl,e,h⟩ D H;let⟨hi,rfl⟩:=An.mp hw;rw[Fw hi]at h;rw[e,Aj]at hl;generalize J:j[i]=x at h⊢;generalize j.drop (i+1)=tl at h H;cases h with
  | @slot _ k f _ s hk h=>
   rw[Aj]at hl;refine ZP.mpr ?_;refine⟨dU aJ,so.of (a:=W.rl f) (gW (by rw[Ay,hk];rfl)) ⟨acc,aJ,small (by lia),?_⟩⟩;rw[b7];exact H _ _ ⟨acc++f,s,_,rfl,rfl,by rw[e,Bx],h⟩
  | @whole _ T _ s h=>
   rw[Bv]at hl;refine GH.mpr ⟨dU aJ,acc,aJ,cM (by lia),?_⟩;rw[b7];exact H _ _ ⟨acc++[T],s,_,rfl,rfl,by rw[e,Bx];rfl,h⟩
  | @knot d m us _ a b g O L=>
   rw[Bv]at hl;refine GH.mpr (lV (x:=.int m) (y:=.str "whole") 1 ∅ trivial (show Kz ("whole" : Av)=ab by decide +kernel) λc hc=>bP (b:=c) (λz=>absurd (hc.mp z) (λh=>nomatch h)) λ_=>⟨dU aJ,us,rows,a,rfl,O,by lia,aP.frz ⟨acc,aJ,cM (by lia),?_⟩⟩);rw[b7];exact H _ _ ⟨acc++[gB m a],b,_,rfl,rfl,by rw[e,Bx];rfl,L⟩
 .rintro U V ⟨acc,rest,o,rfl,rfl,e,h⟩;rw[List.drop_length]at h;cases h;rw[Bs]at e;exact⟨_,aW,by rw[e]at r;exact r q N⟩
theorem zit:∀ws M R,BQ ws M R->↥ws=1:=by rintro ws M R (⟨_,rfl,_⟩|⟨_,rfl,_⟩)<;>rfl
theorem ziu:∀n ws M R,sH n ws M R->↥ws=2
 | 0,_,_,_,h=>h.elim
 | n+1,_,_,_,⟨_,_,_,e,_⟩=>by rw[e];rfl
theorem ziv:∀n ws M R,sG n ws M R->↥ws=3
 | 0,_,_,_,h=>h.elim
 | n+1,_,_,_,⟨_,_,_,_,e,_⟩=>by rw[e];rfl
def BS(x:W×Bool):W:=.tup [x.1,.bl x.2]
theorem ziw{us:↑W}{t:Am}{keep:Mm->Prop}{o:Option W}{N:↑W->Mm}{A L:↑W}{R:K3}(E:∀l,N l t=aa (.lst l))(G:∀l F,put (N l) t (.lst F)=N F)(hl:↥L=↥us)(S:↥us<=100)(hk:∀M,keep M)(r:R (.rl L.reverse) (N A)):
  fZ us keep (aX 0) eR (mR "list" n6 (dH 1)) [o,aa (.ref t)] (N (A++L)) λw V=>frz w V R:=by
 unfold fZ;intro p n;have b:∀l,N l p=ae:=λl=>by
  have e:p≠t:=λe=>by rw[e,E]at n;cases n
  rw[<-G (A++L) l,aY e];exact n
 have a:t≠p:=λe=>by rw[<-e,E]at n;cases n
 refine⟨λi U acc M=>∃o,U=[o,aa (.ref t)]/\acc=L.reverse.take i/\M=N (A++L.take (↥L-i)),⟨_,rfl,rfl,by rw[Ts,Bw]⟩,λ_ _ _ _ _ _ _ _=>hk _,?_,?_⟩
 .rintro vs i w U acc M hw d ⟨o,rfl,rfl,rfl⟩;have hi:=(An.mp hw).1;obtain⟨x,J⟩:∃x,L[↥L-(i+1)]? = aa x:=⟨_,Bg (by lia)⟩;have D:L.take (↥L-i)=L.take (↥L-(i+1))++[x]:=by rw[show ↥L-i=↥L-(i+1)+1 by lia,Cf,J];rfl
  have T:L.reverse.take (i+1)=L.reverse.take i++[x]:=by rw[Cf,Lp (by lia),show ↥L-1-i=↥L-(i+1) by lia,J];rfl
  have ht:∀{o:MO},put (N (A++L.take (↥L-i))) p o t=aa (.lst ((A++L.take (↥L-(i+1)))++[x])):=by intro o;rw[aY a,E,D,Bx]
  refine⟨dU ht,_,_,ht,by rw[aY (Ca a),aJ],cM (by rw[Cg,Ej];lia),N (A++L.take (↥L-(i+1))),?_,_,rfl,T.symm,rfl⟩;rw[mQ (Ca a),i5 (by rw[G];exact b _),G];exact aW
 .rintro U acc M d ⟨o,rfl,rfl,rfl⟩;rw[<-hl,Ol,List.take_zero,Bs,<-Ej,Bw];exact aP.frz r p (b _)
theorem zix:bE BR zhN zhH:=by
 rintro _ M R ⟨backs,w,o,m,d,rfl,hf,hd,r⟩;refine λt ht=>λq J=>?_;have k:q≠t:=λe=>by rw[e,aJ]at J;cases J
 have g:M q=ae:=by rw[aY k]at J;exact J
 have b:∀{A B:MO},put (put M t A) q B t=aa A:=λ{A B}=>by rw[aY (Ca k),aJ]
 have i:∀{A p B:MO},put (put (put M t A) q B) t p=put (put M t p) q B:=λ{A p B}=>by rw[mQ k,b7]
 refine pU (λm U V=>∃S T F X I,U=[aa (.rl (backs.map W.tup)),aa w,aa (.ref t),aa (.ref q),F,X,I]/\V=put (put M t (.lst (T.map W.rl))) q (.lst (S.map BS))/\Fn d backs [o] m S T) ⟨m,[(w,ac)],[],_,_,_,rfl,rfl,hf⟩ ?_;rintro m U V ⟨S,T,F,X,I,rfl,rfl,f⟩ D H;refine .inl ⟨_,aJ,bP (λh=>?_) λh=>?_⟩
 .cases f with
  | done=>cases h
  | @word m S _ x hl f=>
   rw[Ax];refine⟨dU aJ,_,_,aJ,?_⟩;rw[b7];refine .inl ⟨x,rfl,dU b,_,b,cM (by rw[Ab];lia),?_⟩;rw[i];exact H _ _ _ (Gz _) ⟨S,T++[[.str x]],_,_,_,rfl,by rw[Ax];rfl,f⟩
  | @down m n S _ us hl f=>
   rw[Ax];refine⟨dU aJ,_,_,aJ,?_⟩;rw[b7];refine .inr ⟨_,rfl,dU aJ,_,aJ,cM (by rw[Ab];lia),?_⟩;rw[b7];refine⟨dU aJ,_,rfl,?_⟩;refine lX (rest:=[]) (λw=>.tup [w,.bl ac]) (small (by rw[Ej];lia)) (λ_ _=>trivial) (λw hw V C sb O=>O) (aP.frz ⟨_,aJ,small (by simp only[Aj,Ab,Ej,Bv,Jd];lia),?_⟩);rw[b7];exact H _ _ _ (Gz _) ⟨_,T,_,_,_,rfl,by rw[Ax,Ax,Bp];rfl,f⟩
  | @up m n S T rows us j u hl O Z h3 Y c f=>
   rw[Ax,Ax];refine⟨dU aJ,_,_,aJ,?_⟩;rw[b7];refine .inr ⟨_,rfl,?_⟩;refine ziw (t:=t) (N:=λl=>put (put M t (.lst l)) q (.lst (S.map BS))) (A:=T.map W.rl) (L:=rows.map W.rl) (λ_=>b) (λ_ _=>i) (by rw[Ab];exact O) Z (λ_=>trivial) ?_;refine⟨dU b,so.of (show bR [W.int n,W.tup us] 0=aa (.int n) from rfl) (so.of (a:=W.tup j) (gW (by rw[Ay,h3];rfl)) ?_)⟩;refine⟨_,rfl,aP.frz ⟨j,rows,u,by rw[List.reverse_reverse],Y.mono (Ap hd ∅),by lia,aP.frz ⟨_,b,cM (by rw[Ab];lia),?_⟩⟩⟩;rw[i];exact H _ _ _ (Gz _) ⟨S,T++[u],_,_,_,rfl,by rw[Ax];rfl,f⟩
 .cases f with
  | done=>exact jK b (show bR [W.rl [o]] 0=aa (.rl [o]) from rfl) (so.of (show bR [o] 0=aa o from rfl) ⟨_,(Sub.new ht).trans (Sub.new (by rw[aY k];exact g)),r⟩)
  | word|down|up=>rw[Ax]at h;revert h;cases Si BS _<;>intro h<;>cases h
theorem ziy{M:Mm}{A B:Mm->Prop}(h:B M):qY (.bl ac) M λc I=>if c=ab then A I else B I:=h
theorem ziz{n:Nat}:bE (sG (n+1)) (zhQ (sG n)) MT:=by
 rintro _ M R ⟨rs,p,w,row,rfl,g,hw,G,r⟩;rcases hw.inv with⟨P,_⟩|⟨h,k,ru,us,_,hh,rfl,v,hn,T⟩
 .rw[P]at G;cases G
 have hk:=(An.mp v).1;let⟨a,O,L⟩:=j8 hk;cases (show aa a=aa ru from O.symm.trans v);have S:=Ao v;have f:bR [W.int k,W.tup us] 0=aa (.int k):=rfl;refine GG.mpr (ziy (so.of f (bP (b:=decide ((0:Int)<=k)) (λ_=>bP (b:=!decide ((k:Int)<↥(rs.map bF))) (λz=>?_) λ_=>so.of f (so.of L (bP (b:=!decide (ru.name=p)) (λz=>?_) λ_=>so.of L (bP (b:=!decide ((↥(ru.parts.map W.str):Int)=↥us)) (λz=>?_) λ_=>?_)))) λz=>?_)))
 .rw[Wc (by rw[Ab];lia)]at z;cases z
 .rw[Wc hn]at z;cases z
 .rw[Wc (by rw[Ab,T.len])]at z;cases z
 .let⟨rows,rfl,d,c⟩:=T.rows;refine dB (λi U V=>∃u X,U=[aa (bC rs),aa (.str p),aa (gB k us),aa (.tup (ru.parts.map W.str)),u,X]/\V=M) ⟨_,_,rfl,rfl⟩ ?_ ?_
  .rintro i x U V J ⟨u,X,rfl,rfl⟩ D H;have hi:=(An.mp J).1;rw[rM]at hi;let⟨q,l,N,_,j⟩:=c i _ (Bg (by lia));rw[zB (by rw[Ay,N];rfl:(ru.parts.map W.str)[i]? = aa (W.str q)) (Bg (by lia))]at J;cases J;generalize us[i]=x at j;refine⟨rfl,rfl,q,rfl,g.pt ru S q (Ao N),bP (b:=bV q) (λhn=>?_) λhn=>?_⟩
   .cases n with
    | zero=>cases hh
    | succ n=>exact⟨rs,q,x,l,rfl,g,j.mono (Hs hh),hn,H _ _ ⟨_,_,rfl,rfl⟩⟩
   .rcases j.inv with⟨_,rfl,_⟩|⟨_,_,_,_,z,_⟩
    .refine bP (b:=!decide (q=q)) (λz=>?_) λ_=>H _ _ ⟨_,_,rfl,rfl⟩;rw[Wc rfl]at z;cases z
    .rw[hn]at z;cases z
  .rintro U V ⟨u,X,rfl,rfl⟩;exact⟨_,aW,r⟩
 .exact absurd (Nd k) (of_decide_eq_false z)
theorem BU{M:Mm}{A B:Mm->Prop}(h:B M):qY (.bl ab) M λc I=>if (!c)=ab then A I else B I:=h
theorem MY{M:Mm}{A B:Mm->Prop}(h:B M):lL (.bl (!true)) λk=>if k=ab then A M else B M:=h
def MZ:W->↑W
 | .tup us=>us
 | _=>[]
theorem ziA{F:Av}(E:bV F=ab){ch:iI}(h:gC (dN (oK F)) ch):ch=[]:=by
 cases ch with
 | nil=>rfl
 | cons e c=>
  let⟨r,T,_,G⟩:=h.at_ 0 e.1 e.2 rfl;have:r∈dN (oK F):=Ao T;rw[Ag.mp this]at G;cases G F (.head _) E
theorem Lb.back{rs:↑aD}{l:↑(NP×W)}{f:Av->↑Av}{H d K h:Nat}{X Y:Av}{w:W}{row:↑Av}(b:Lb rs l f H d K)(tg:jS (dN l))(hh:h<=6+K)(u:dC rs f X=[Y])(x:RT bV (dN l) h [X] [w] row):∃(backs:↑(↑W)) (o:W) (m:Nat),qG l=.rl (backs.map W.tup)/\Fn d backs [o] m [(w,ac)] []/\RT bV rs 29 [Y] [o] row:=by
 let⟨rows,O,L⟩:=x.back (H:=H) (d:=d) (sem:=dC rs f) (rs:=rs) (backs:=l.map λz=>MZ z.2) (λt ht=>mG (.inr ht)) b.sl λn r T=>by
  rw[Ay]at T;let⟨z,hz,rfl⟩:=Ba.mp T;let⟨j,e,p⟩:=b.al z (Ao hz);exact⟨j,by rw[Ay,hz,Option.map_some,e];rfl,p⟩
 cases L with
 | @cons _ _ a c r rows y v=>
  cases v;rw[u]at y;let⟨o,rfl⟩:=List.length_eq_one_iff.mp y.len;have S:=Qf d hh;have:=b.bd;let⟨m,hf⟩:=O.start (x.hg (λr T=>Ap (tg.prt r T) ∅) w (.head _)) (by have:=b.d50;lia);refine⟨_,o,m,?_,hf,by rw[Bs];exact y.mono (by lia)⟩;unfold qG;rw[Bp];refine congrArg W.rl (Fb λz hz=>?_);let⟨j,e,_⟩:=b.al z hz;show z.2=W.tup (MZ z.2);rw[e];rfl
def M8:W->W
 | .tup (a::_)=>a
 | _=>.non
noncomputable def BV(l:↑Av)(F:Av):W->Option W
 | .str p=>if p∈l\/p=F then aa (.str p) else ae
 | _=>ae
theorem ziB:bE MR zhY zhR:=by
 rintro _ M R ⟨rs,l,num,rfl,g,tg,lb,r⟩;have hf:=g.few;let⟨q0,rs',e0⟩:=Ec g.ne;obtain⟨z0,l',el⟩:∃z0 l',l=z0::l':=Ec λz=>lb.tg.ne (by rw[z];rfl);have a0:bR ((dN l).map bF) 0=aa (bF (p7 z0.1)):=by rw[el];exact oB _ _
 have b0:bR (rs.map bF) 0=aa (bF q0):=by rw[e0];exact oB _ _
 have eF:f0 (dN l)=z0.1.1:=by rw[el];rfl
 have eG:f0 rs=q0.name:=by rw[e0];rfl
 have hG:bV q0.name=ab:=(g.hd q0 (by rw[e0];exact .head _)).nm;refine⟨dN l,rfl,lb.tg,λch hc=>iO.frz ?_⟩;have hcl:=Ap hc.few lb.few;refine lX (rest:=[]) M8 (small (by rw[Ab];lia)) (λ_ _=>trivial) (λw hw M' C sb h1=>?_) (aP.frz ?_)
 .let⟨q,hq,rfl⟩:=Ar.mp hw;exact h1
 rw[show(rs.map bF).map M8=(rs.map aD.name).map W.str by rw[Bp,Bp];rfl];have fin:∀(X:Av) (S:Option W) (τ:S3),τ=[aa (bC rs),aa (bC (dN l)),aa (qG l),aa (.int num),aa (.dk (eC ch)),aa (.rl ((rs.map aD.name).map W.str)),S,aa (.str X),ae,ae,ae]->X∈ch.map (·.1)->(X∈rs.map aD.name\/X=z0.1.1)->(aF wR (aF wU (aF wV (aF wW (aF sJ sL))))) (i8 R) τ M:=by
  rintro X S _ rfl hX hd;rcases lb.is with e|⟨f,H,d,K,b⟩
  .rw[e]at hc;rw[ziA (by rw[eG];exact hG) hc]at hX;cases hX
  let⟨rank,k,hrk,_⟩:=gC.rank hX;let⟨p,p1,p2,p3⟩:=b.row;have hK:=Ap hc.few b.nam;have hK2:=b.d50.2;have lv:iX ↥ch 0 rank=6+↥ch:=rfl;refine⟨⟨by decide,by decide⟩,λq hq=>⟨dN l,ch,X,q,_,0,rank,k,p,rfl,aJ,lb.tg,hc,hrk,p1,p2,by rw[lv];exact Ap (Hm hcl 6) ∅,λw row a' b' ht hsh hrow _=>?_⟩⟩;rw[lv]at ht hrow;have hrow:↥row<=2 ^ 23:=Ap hrow (Ap (Jt p1 (by lia)) p3);have ok:∀t∈row,Kz t=ab:=λt ht=>m9 (hsh t ht).asc;rw[b7];obtain⟨Y,hY,hYn,hYe⟩:∃Y,dC rs f X=[Y]/\bV Y=ab/\Y=if X=z0.1.1 then q0.name else X:=by
   by_cases z:X=z0.1.1
   .exact⟨q0.name,by rw[z,<-eF,b.f0,eG],hG,by rw[Vz z]⟩
   .have:=hd.resolve_right z;let⟨q,hq,e⟩:=Ar.mp this;exact⟨X,mG (.inl (iT.mpr ⟨q,hq,e⟩)),e▸(g.hd q hq).nm,by rw[Vy z]⟩
  let⟨backs,o,m,e1,hfn,ho⟩:=b.back lb.tg (by lia) hY ht;refine⟨backs,w,o,m,d,by rw[<-e1],hfn,b.d50.1,?_⟩;have sb:=Sub.new (o:=.lst [.int a',.int b']) hq;generalize put M q (.lst [.int a',.int b'])=N at sb;have fin2:∀τ:S3,τ=[aa (bC rs),aa (bC (dN l)),aa (qG l),aa (.int num),aa (.dk (eC ch)),aa (.rl ((rs.map aD.name).map W.str)),S,aa (.str X),aa w,aa o,aa (.str Y)]->(aF sJ sL) (i8 R) τ N:=by
   rintro _ rfl;rcases ho.inv with⟨z,_⟩|⟨h',n,ru,us,_,hh,rfl,hru,hn,hr⟩
   .rw[hYn]at z;cases z
   have hpl:Pl 58 (gB n us):=Pl.mono (ho.pl ok _ (.head _)) (Ai 58);refine GF.mpr (BU ⟨rs,Y,_,row,rfl,tg,ho.mono ∅,hYn,BU ⟨rs,Y,_,row,rfl,ho.mono ∅,hrow,dN l,X,w,row,rfl,ht.mono (Ap (Hm hcl 6) ∅),hrow,?_⟩⟩);refine uI (neg:=ab) 2 ∅ (λw hw=>?_) rfl (MY ⟨backs,w,gB n us,m,d,by rw[<-e1],hfn,b.d50.1,uI (neg:=ac) 58 ∅ (hpl) rfl ⟨_,sb,r⟩⟩);let⟨t,ht,rfl⟩:=Ar.mp hw;exact ok t ht
  refine so.of a0 (bP (b:=decide (X=z0.1.1)) (λy=>so.of b0 ?_) λy=>?_)
  .rw[Vz (Wa y)]at hYe;exact fin2 _ (by rw[hYe])
  .rw[Vy (of_decide_eq_false y)]at hYe;exact fin2 _ (by rw[hYe])
 refine⟨ch.map (·.1),by unfold eC;rw[Bp,Bp];rfl,by rw[Ab];lia,λss hp=>?_⟩;refine uK (rest:=[aa (.rl ((rs.map aD.name).map W.str)),aa (bC (dN l))]) (BV (rs.map aD.name) z0.1.1) (small (by rw[Ab,hp.length_eq,Ab];lia)) (λ_ _=>trivial) (λw hw M' C D sb h1 h2=>?_) (aP.frz ?_)
 .let⟨x,hx,rfl⟩:=Ar.mp hw;refine⟨rfl,pY _,?_⟩;refine bP (b:=inW (.str x) ((rs.map aD.name).map W.str)) (λy=>?_) λy=>so.of a0 (bP (b:=decide (x=z0.1.1)) (λz=>?_) λz=>?_)
  .rw[pX]at y;exact h1 _ (Vz (.inl (Wa y)))
  .exact h1 _ (Vz (.inr (Wa z)))
  .rw[pX]at y;exact h2 (Vy λh=>h.elim (of_decide_eq_false y) (of_decide_eq_false z))
 have hS:∀w∈(ss.map W.str).filterMap (BV (rs.map aD.name) z0.1.1),∃X,w=.str X/\X∈ch.map (·.1)/\(X∈rs.map aD.name\/X=z0.1.1):=λw hw=>by
  let⟨z,hz,e⟩:=Hw.mp hw;let⟨x,hx,rfl⟩:=Ar.mp hz;have e:(if x∈rs.map aD.name\/x=z0.1.1 then aa (W.str x) else ae)=aa w:=e;split at e
  .rename_i h;cases e;exact⟨x,rfl,hp.mem_iff.mp hx,h⟩
  .cases e
 generalize (ss.map W.str).filterMap (BV (rs.map aD.name) z0.1.1)=S at hS;refine lV (x:=.rl S) (y:=.rl []) 2 ∅ (λw hw=>?_) (λw hw=>nomatch hw) λc hc2=>bP (b:=c) (λy=>⟨_,aW,r⟩) λy=>?_
 .let⟨X,rfl,hX,_⟩:=hS w hw;let⟨q,hq,e⟩:=iT.mp (hc.sub X hX);exact m9 (e▸(lb.tg.nm q hq)).asc
 .have hne:0<↥S:=Ir.mpr λz=>by rw[hc2.mpr (by rw[z])]at y;cases y
  let⟨w,hw,hwm⟩:=y8 (xs:=S) (i:=num) (n:=(↥S:Int)) rfl (by lia);let⟨X,rfl,hX,hd⟩:=hS w hwm;refine⟨by lia,so.of hw ⟨(by decide:(0:Int)<2),bP (b:=decide (num % 2=0)) (λ_=>so.of a0 ⟨_,⟨Sum.inr z0.1.1,rfl,rfl⟩,?_⟩) λ_=>?_⟩⟩
  .show if (aQ (eC ch) (Sum.inr z0.1.1:aC)).isSome=ab then _ else _;rw[wX];generalize (aF wR (aF wU (aF wV (aF wW (aF sJ sL))))) (i8 R)=T at fin⊢;exact bP (λy=>so.of a0 (fin z0.1.1 (aa (.rl S)) _ rfl (Wa y) (.inr rfl))) λ_=>fin X (aa (.rl S)) _ rfl hX hd
  .generalize (aF wR (aF wU (aF wV (aF wW (aF sJ sL))))) (i8 R)=T at fin⊢;exact fin X (aa (.rl S)) _ rfl hX hd
noncomputable def hV(way:Int)(r:aD):aD:=if r.parts=[]/\0<way then⟨r.name,["zoe"],r.cost⟩ else r
theorem wZ{way:Int}{r:aD}:(hV way r).name=r.name:=by unfold hV;split<;>rfl
theorem ziC{rs:↑aD}{way:Int}(h:rs≠[]):f0 (hJ rs way)=f0 rs:=by
 let⟨r,rs,rfl⟩:=Ec h;exact wZ
theorem M9:eS "zoe":=⟨by decide +kernel,by decide +kernel,by decide +kernel⟩
theorem ziD{way:Int}{rs:↑aD}(g:jS rs):∀r∈hJ rs way,dA r.name/\(∀p∈r.parts,dA p\/eS p)/\↥r.parts<=4:=λr hr=>by
 let⟨q,hq,e⟩:=Ar.mp (show r∈rs.map (hV way) from hr);rw[<-e];refine⟨by rw[wZ];exact g.nm q hq,?_⟩;unfold hV;split
 .exact⟨λp hp=>by rw[Ag.mp hp];exact .inr M9,(by decide:1<=4)⟩
 .exact⟨g.pt q hq,g.prt q hq⟩
noncomputable def NA(F:Av):W->Option W
 | .tup [a,.tup ps,b]=>if inW (.str F) ps=ab then aa (.tup [a,.tup ps,b]) else ae
 | _=>ae
theorem ziE:bE MJ zhC zhw:=by
 rintro _ M R ⟨rs,way,rfl,g,hl,r⟩;refine λp hp=>?_;refine dB (λi τ M'=>∃o3 o4 o5,τ=[aa (bC rs),aa (.int way),aa (.ref p),o3,o4,o5]/\M'=put M p (.lst ((hJ (rs.take i) way).map bF))) ⟨_,_,_,rfl,rfl⟩ ?_ ?_
 .rintro i w τ M' hw ⟨o3,o4,o5,rfl,rfl⟩ D hD;rw[Ay]at hw;let⟨ru,hru,rfl⟩:=Ba.mp hw;have hm:=Ao hru;have sh:∀t∈ru.parts,Sh t:=λt ht=>nK (g.pt ru hm t ht);have e:hJ (rs.take (i+1)) way=hJ (rs.take i) way++[hV way ru]:=by
   unfold hJ;rw[Cf,hru,Ax];rfl
  have tl:↥((hJ (rs.take i) way).map bF)<=20:=by
   unfold hJ;rw[Ab,Ab,Cg];lia
  have app:∀{x:aD} {τ:S3},x=hV way ru->τ=[aa (bC rs),aa (.int way),aa (.ref p),aa (.str x.name),aa (.tup (x.parts.map W.str)),aa (.int x.cost)]->(bZ (cN "list" dJ (dH 2) (aA (bA (aA (dH 3) (aA (dH 4) (aA (dH 5) aB)))) aB))) D τ (put M p (.lst ((hJ (rs.take i) way).map bF))):=λ{x τ} ex et=>by
   subst et;refine⟨dU aJ,_,aJ,cM (by lia),?_⟩;rw[b7];exact hD _ _ ⟨_,_,_,rfl,by rw[e,Ax,ex];rfl⟩
  refine⟨rfl,rfl,lV 2 ∅ (nH sh) (nH (ps:=[]) (λt ht=>nomatch ht)) λc hc=>?_⟩;have hc:c=ab↔ru.parts=[]:=⟨λz=>sD (b:=[]) (W.tup.inj (hc.mp z)),λz=>hc.mpr (by rw[z];rfl)⟩;refine bP (b:=c) (λy1=>bP (b:=decide (0<way)) (λy2=>?_) λy2=>?_) λy1=>?_
  .exact app (x:=⟨ru.name,["zoe"],ru.cost⟩) (by unfold hV;rw[Vz ⟨hc.mp y1,Wa y2⟩]) rfl
  .exact app (x:=ru) (by unfold hV;rw[Vy λz=>of_decide_eq_false y2 z.2]) rfl
  .exact app (x:=ru) (by unfold hV;rw[Vy λz=>by rw[hc.mpr z.1]at y1;cases y1]) rfl
 .rintro τ M' ⟨o3,o4,o5,rfl,rfl⟩;rw[Ab,Bw];obtain⟨T,hT⟩:∃T,T=hJ rs way:=⟨_,rfl⟩;rw[<-hT];have ok:=ziD (way:=way) g;rw[<-hT]at ok;have hF:f0 T=f0 rs:=by rw[hT];exact ziC g.ne
  have tl:↥T<=20:=by rw[hT];unfold hJ;rw[Ab];exact hl
  obtain⟨t0,T',e0⟩:∃t0 T',T=t0::T':=Ec (by rw[hT];unfold hJ;exact λz=>g.ne (Py.mp z));have a0:bR (T.map bF) 0=aa (bF t0):=by rw[e0];exact oB _ _
  have eF:t0.name=f0 rs:=by rw[<-hF,e0];rfl
  have no:¬(way=2/\∀r∈T,f0 rs∉r.parts)->iY rs way=T:=λh=>by unfold iY;rw[<-hT,Vy h,Bs]
  refine bP (b:=decide (way=2)) (λy1=>⟨_,aJ,?_⟩) λy1=>⟨_,aW,by have:=r p hp;rw[no λz=>of_decide_eq_false y1 z.1]at this;exact this⟩
  refine uK (rest:=[aa (.ref p)]) (NA t0.name) (small (by rw[Ab];lia)) (λM' sb=>sb _ _ aJ) (λw hw M' C D sb c1 c2=>?_) (aP.frz ?_)
  .let⟨x,hx,rfl⟩:=Ar.mp hw;refine jK (sb _ _ aJ) a0 ⟨rfl,pY _,?_⟩;exact bP (b:=inW (.str t0.name) (x.parts.map W.str)) (λy=>c1 _ (Vz y)) λy=>c2 (Vy (by rw[y];decide))
  .have pl:∀x∈T,Pl 3 (bF x):=λx hx w hw=>by
    let⟨h1,h2,_⟩:=ok x hx;simp only[Aw,Em,or_false]at hw;rcases hw with rfl|rfl|rfl
    .exact m9 h1.asc
    .exact λw hw=>by
      let⟨t,ht,rfl⟩:=Ar.mp hw;exact m9 (nK (h2 t ht)).asc
    .trivial
   refine lV 4 ∅ (λw hw=>?_) (λw hw=>nomatch hw) λc hc=>?_
   .let⟨z,hz,e⟩:=Hw.mp hw;let⟨x,hx,rfl⟩:=Ar.mp hz;have e:(if inW (.str t0.name) (x.parts.map W.str)=ab then aa (bF x) else ae)=aa w:=e;split at e
    .cases e;exact pl x hx
    .cases e
   .have hc:c=ab↔∀x∈T,f0 rs∉x.parts:=by
     rw[hc,<-eF];show W.rl _=W.rl []↔_;rw[W.rl.injEq,List.filterMap_eq_nil_iff];have q:∀x:aD,NA t0.name (bF x)=ae↔t0.name∉x.parts:=λx=>by
      show(if inW (.str t0.name) (x.parts.map W.str)=ab then aa (bF x) else ae)=ae↔_;rw[pX]
      by_cases z:t0.name∈x.parts
      .rw[Wc z,Vz rfl];exact⟨(λh=>nomatch h),λh=>absurd z h⟩
      .rw[We z,Vy ∅];exact⟨λ_=>z,λ_=>rfl⟩
     exact⟨λh x hx=>(q x).mp (h _ (Ar.mpr ⟨x,hx,rfl⟩)),λh w hw=>by
      let⟨x,hx,rfl⟩:=Ar.mp hw;exact(q x).mpr (h x hx)⟩
    refine bP (b:=c) (λy2=>?_) λy2=>⟨_,aW,by have:=r p hp;rw[no λz=>by rw[hc.mpr z.2]at y2;cases y2]at this;exact this⟩
    refine⟨dU aJ,jK aJ a0 ⟨_,aJ,cM (by rw[Ab];lia),_,aW,?_⟩⟩;rw[b7];have:=r p hp;rw[show iY rs way=T++[⟨f0 rs,[],0⟩] by unfold iY;rw[<-hT,Vz ⟨Wa y1,hc.mp y2⟩],Ax,<-eF]at this;exact this
structure Dr(hs ws:↑Av)(rs:↑aD):Prop where
 ne:rs≠[]
 few:↥rs<=17
 h3:↥hs<=3
 w4:↥ws<=4
 hd:∀t∈hs,dA t
 wd:∀t∈ws,eS t
 of:∀r∈rs,mZ hs ws r
 cov:∀t∈hs,∃r∈rs,r.name=t
 sml:∃k,k<=7/\∀r∈rs.drop k,↥r.parts<=1
theorem NB(rs:↑aD):(namesOf rs).Nodup:=by
 have:∀(ts acc:↑Av),acc.Nodup->(ts.foldl c7 acc).Nodup:=by
  intro ts
  induction ts with
  | nil=>intro acc h;exact h
  | cons t ts ih=>intro acc h;exact ih _ (AD h)
 exact this _ _ Eo
section
variable {hs ws:↑Av}{rs:↑aD}
theorem Dr.hw(d:Dr hs ws rs){r:aD}(hr:r∈rs){t:Av}(ht:t∈r.parts):dA t\/eS t:=((d.of r hr).parts t ht).elim (λz=>.inr (d.wd t z)) λz=>.inl (d.hd t z)
theorem Dr.nam(d:Dr hs ws rs):↥(namesOf rs)<=3:=Ap (len_sub (NB rs) λx hx=>by
 let⟨r,hr,rfl⟩:=iT.mp hx;exact(d.of r hr).name) d.h3
theorem Dr.own(d:Dr hs ws rs){r:aD}(hr:r∈rs){t:Av}(ht:t∈r.parts):bV t=ownB rs t:=by
 rcases(d.of r hr).parts t ht with z|z
 .have w:=d.wd t z;rw[xV w.ne w.sm];refine(We λh=>?_).symm;let⟨q,hq,e⟩:=iT.mp h;have:=(d.hd _ (d.of q hq).name).nm;rw[e,xV w.ne w.sm]at this;cases this
 .rw[(d.hd t z).nm];let⟨q,hq,rfl⟩:=d.cov t z;exact(u6 hq).symm
theorem Dr.tgO(d:Dr hs ws rs):jS rs:=⟨d.ne,Ap d.few ∅,λr hr=>d.hd _ (d.of r hr).name,λr hr t ht=>d.hw hr ht,λr hr=>(d.of r hr).few⟩
theorem Dr.g60(d:Dr hs ws rs):eU rs:=by
 refine⟨d.ne,d.few,d.nam,λr hr=>(d.of r hr).few,⟨ws,by have:=d.w4;lia,λr hr t ht ho=>?_⟩,λr hr=>d.hd _ (d.of r hr).name,λr hr t ht=>d.hw hr ht,λr hr t ht=>d.own hr ht⟩;rcases(d.of r hr).parts t ht with z|z
 .exact z
 .let⟨q,hq,rfl⟩:=d.cov t z;rw[u6 hq]at ho;cases ho
theorem Dr.okG(d:Dr hs ws rs):J9 rs:=⟨d.ne,by have:=d.few;lia,λr hr=>⟨(d.of r hr).lo,λt ht=>⟨Ap (nK (d.hw hr ht)).len ∅,λn=>by rw[d.own hr ht]at n;exact Wa n⟩⟩⟩
theorem Dr.fewR(d:Dr hs ws rs):gA rs:=⟨Ap d.few ∅,λr hr=>(d.of r hr).few⟩
theorem Dr.ends(d:Dr hs ws rs):↥(cI rs)<=14:=by
 let⟨k,hk,h⟩:=d.sml;have l1:=vP (ts:=iG rs) (acc:=[]);have l2:iG (rs.drop k)=[]:=by
  unfold iG;rw[List.flatten_eq_nil_iff];intro l hl;let⟨r,hr,rfl⟩:=Ar.mp hl;unfold gS;rw[Nat.sub_eq_zero_of_le (Ap (h r hr) ∅)];rfl
 have l3:=AH (rs:=rs.take k) λr hr=>(d.of r (Hh hr)).few;have e:iG rs=iG (rs.take k)++iG (rs.drop k):=by
  unfold iG;rw[<-Mj,<-Ax,Hz]
 rw[Cg]at l3;unfold cI;rw[Jd,e,l2,Bs]at l1;rw[e,l2,Bs];lia
theorem Dr.taken(d:Dr hs ws rs)(hz:("zoe" : Av)∈ws)(hf:↥rs<=16)(way:Int):Dr hs ws (iY rs way):=by
 have f0m:=vU d.ne;have el:∀r∈iY rs way,(∃q∈rs,r=hV way q)\/r=⟨f0 rs,[],0⟩:=λr hr=>by
  rcases Bb.mp hr with hr|hr
  .let⟨q,hq,e⟩:=Ar.mp hr;exact .inl ⟨q,hq,e.symm⟩
  .split at hr
   .exact .inr (Ag.mp hr)
   .cases hr
 have tl:↥(hJ rs way)=↥rs:=Ab _;refine⟨λe=>?_,?_,d.h3,d.w4,d.hd,d.wd,λr hr=>?_,λt ht=>?_,?_⟩
 .have:=(List.append_eq_nil_iff.mp e).1;rw[<-Fl,tl,Fl]at this;exact d.ne this
 .unfold iY;rw[Aj,tl];split<;>simp<;>lia
 .rcases el r hr with⟨q,hq,rfl⟩|rfl
  .have o:=d.of q hq;unfold hV;split
   .exact⟨o.name,λt ht=>.inl (by rw[Ag.mp ht];exact hz),by show 1<=4;decide,o.lo,o.hi⟩
   .exact o
  .let⟨q,hq,e⟩:=f0m;exact⟨e▸(d.of q hq).name,(λt ht=>nomatch ht),Cs _,Ud _,by show(0:Int)<10 ^ 60;decide⟩
 .let⟨r,hr,e⟩:=d.cov t ht;exact⟨hV way r,Bf _ (Ar.mpr ⟨r,hr,rfl⟩),wZ.trans e⟩
 .let⟨k,hk,h⟩:=d.sml;refine⟨k,hk,λr hr=>?_⟩;unfold iY at hr;rw[Rl]at hr;rcases Bb.mp hr with hr|hr
  .unfold hJ at hr;rw[<-Qg]at hr;let⟨q,hq,e⟩:=Ar.mp hr;rw[<-e];show(hV way q).parts.length<=1;unfold hV;split
   .exact Ai 1
   .exact h q hq
  .have hr:=Jr hr;split at hr
   .rw[Ag.mp hr];exact Cs _
   .cases hr
theorem ziF{way:Int}(h:rs≠[]):f0 (iY rs way)=f0 rs:=by
 let⟨r,rs,rfl⟩:=Ec h;exact wZ
theorem ziG{way:Int}(hw:0<way)(h:rs≠[]):wO (iY rs way):=λr hr hp=>by
 rw[ziF h];rcases Bb.mp hr with hr|hr
 .let⟨q,hq,e⟩:=Ar.mp hr;have e:hV way q=r:=e;rw[<-e]at hp;unfold hV at hp;split at hp
  .cases hp
  .rename_i z;exact absurd ⟨hp,hw⟩ z
 .split at hr
  .rename_i z;rw[Ag.mp hr];refine⟨rfl,λq hq=>?_⟩;unfold iY at hq;rw[Vz z]at hq;rcases Bb.mp hq with hq|hq
   .exact z.2 q hq
   .rw[Ag.mp hq];exact λh=>nomatch h
  .cases hr
end
theorem NC:∀{es:↑(↑Av)} {ns:↑Av} {a b:↑Av} {n:Av},ns.Nodup->(es.zip ns).lookup a=aa n->(es.zip ns).lookup b=aa n->a=b
 | [],_,_,_,_,_,h,_=>nomatch h
 | _::_,[],_,_,_,_,h,_=>nomatch h
 | e::es,m::ns,a,b,n,hn,h,k=>by
  have no:∀{c},(es.zip ns).lookup c=aa m->False:=λ{c} h=>by
   have:(c,m)∈es.zip ns:=by
    let⟨l1,l2,e,_⟩:=List.lookup_eq_some_iff.mp h;rw[e];simp
   exact(Cj.mp hn).1 (Oo this).2
  rw[Kt,Ea]at h k
  by_cases x:a=e<;>by_cases y:b=e
  .rw[x,y]
  .rw[beq_eq_false_iff_ne.mpr y]at k;rw[x,beq_self_eq_true]at h;cases h;exact(no k).elim
  .rw[beq_eq_false_iff_ne.mpr x]at h;rw[y,beq_self_eq_true]at k;cases k;exact(no h).elim
  .rw[beq_eq_false_iff_ne.mpr x]at h;rw[beq_eq_false_iff_ne.mpr y]at k;exact NC (Cj.mp hn).2 h k
theorem ziH{rs:↑aD}(f:gA rs):(jQ rs).Nodup:=by
 unfold jQ k9 gT;refine(List.Nodup.sublist Qb ?_).sublist (List.take_sublist _ _);rw[Gm,Jk];refine List.Pairwise.imp_of_mem ?_ Rj;intro a b ha hb hab e;rw[Hf]at ha hb;have:=f.sum;exact hab (J1 (Gg (Cb ha this) ∅) (Gg (Cb hb this) ∅) e)
theorem ziI{rs:↑aD}(f:gA rs){a b:↑Av}(ha:a∈cI rs)(hb:b∈cI rs)(h:fE rs a=fE rs b):a=b:=by
 let⟨x,_,e1⟩:=vR (ns:=jQ rs) f.len.symm ha;let⟨y,_,e2⟩:=vR (ns:=jQ rs) f.len.symm hb;unfold fE oJ at h;rw[e1,e2]at h;cases h;exact NC (ziH f) e1 e2
section
variable {nm:Av->Bool}{rs tl:↑aD}
theorem ziJ{ps:↑Av}(h:¬↥ps<=2):∃p,ps=p::ps.drop 1/\fW rs ps=[p,fE rs (ps.drop 1)]:=by
 cases ps with
 | nil=>exact absurd ∅ h
 | cons p ps=>exact⟨p,rfl,by unfold fW;rw[Vy h];rfl⟩
end
section
variable {hs ws:↑Av}{rs:↑aD}
theorem Dr.hn(d:Dr hs ws rs){X:Av}(h:X∈namesOf rs):dA X:=by
 let⟨r,hr,rfl⟩:=iT.mp h;exact d.hd _ (d.of r hr).name
theorem BW{tl:↑aD}{l:↑Av}(h:∀r∈tl,r.name∈l):↥(namesOf tl)<=↥l:=len_sub (NB tl) λx hx=>by
 let⟨r,hr,rfl⟩:=iT.mp hx;exact h r hr
theorem Dr.fn(d:Dr hs ws rs):f0 rs∈namesOf rs:=(vU d.ne).elim λr h=>iT.mpr ⟨r,h.1,h.2⟩
theorem Dr.lbNo(d:Dr hs ws rs):oO rs (oK (f0 rs)):=by
 have hF:=d.hn d.fn;refine⟨⟨Gw _ _,(by decide:1<=2000),λr hr=>?_,λr hr p hp=>?_,λr hr=>?_⟩,Ap (AL _) (by decide:1<=20),λz hz=>?_,.inl rfl⟩
 .rw[Ag.mp hr];exact hF
 .rw[Ag.mp hr]at hp;exact .inl (by rcases Aw.mp hp with z|z;rw[z];exact hF;rw[Ag.mp z];exact hF)
 .rw[Ag.mp hr];exact(by decide:2<=4)
 .rw[Ag.mp hz];refine Pl.mono (m:=3) (λw hw=>?_) ∅;rw[Ag.mp hw];intro w hw;rcases Aw.mp hw with z|z
  .rw[z];trivial
  .rw[Ag.mp z];intro w hw;rcases Aw.mp hw with z|z
   .rw[z];trivial
   .rw[Ag.mp z];trivial
theorem ND{f:Av->↑Av}{H d:Nat}{z:NP×W}(h:Qz rs f H d z)(hb:2*d+2*H+2<=59):Pl 59 z.2:=by
 let⟨pcs,e,p⟩:=h;rw[e];exact Pl.mono (m:=2*d+2*H+1+1) p.pl hb
theorem NF{f:Av->↑Av}(h:∀t,↥(f t)<=100)(t:Av):↥(dC rs f t)<=100:=by
 unfold dC;split
 .exact(by decide:1<=100)
 .exact h t
theorem Dr.lbT(d:Dr hs ws rs){m:Av}{f:Av->↑Av}{H e K:Nat}{l:↑(NP×W)}(t:Tl rs m f H e l)(hm:↥(m::namesOf rs)<=K\/m∈namesOf rs/\↥(namesOf rs)<=K)(hK:K<=4)(hb:H+e*(6+K)<=29)(h2:2*e+2*H+2<=59)(he:e<=50):oO rs l:=by
 have nm:∀z∈l,dA z.1.1:=λz hz=>(t.al z hz).1.elim (λh=>h▸t.hd) λh=>d.hn h;have nl:↥(namesOf (dN l))<=K:=by
  rcases hm with hm|⟨h0,hm⟩
  .refine Ap (BW λr hr=>?_) hm;let⟨z,hz,rfl⟩:=Ar.mp hr;exact Aw.mpr (t.al z hz).1
  .refine Ap (BW λr hr=>?_) hm;let⟨z,hz,rfl⟩:=Ar.mp hr;exact(t.al z hz).1.elim (λh=>(show z.1.1∈namesOf rs from h▸h0)) id
 have tg:jS (dN l):=by
  refine⟨λz=>t.f0.1 (Py.mp z),by unfold dN;rw[Ab];exact t.len,λr hr=>?_,λr hr=>?_,λr hr=>?_⟩<;>let⟨z,hz,rfl⟩:=Ar.mp hr
  .exact nm z hz
  .exact(t.al z hz).2.2.1
  .exact(t.al z hz).2.2.2
 exact⟨tg,by lia,λz hz=>ND (t.al z hz).2.1 h2,.inr ⟨f,H,e,K,nl,⟨4,by decide,tg.prt,Ap (Jt ∅ (Hm hK 6)) ∅⟩,hb,⟨he,by lia⟩,t.f0.2,NF t.sl,λz hz=>(t.al z hz).2.1⟩⟩
def jE(rs:↑aD)(t:Av):↑Av:=((cI rs).find? λe=>decide (fE rs e=t)).getD []
theorem Dr.two(d:Dr hs ws rs){l:↑(NP×W)}(ht:∀z∈l,vW rs z)(hl:↥l<=180)(h0:Hd (f0 rs) True l):oO rs l:=by
 have nl:=d.nam;have el:=d.ends;have fl:=d.fewR.len;have sm:=d.fewR.sum;have nf:∀{e:↑Av},e∈cI rs->dA (fE rs e)/\fE rs e∈jQ rs/\fE rs e∉namesOf rs:=λhe=>by
  have h1:=(AN d.fewR he).2;let⟨h2,i,hi,e⟩:=J5 h1;exact⟨e▸KD (by lia),h1,h2⟩
 have ep:∀{e:↑Av},e∈cI rs->(∀p∈e,(dA p\/eS p)/\dC rs (jE rs) p=[p])/\↥e<=100:=λhe=>by
  let⟨q,hq,k,_,rfl⟩:=vQ.mp he;have:=(d.of q hq).few;exact⟨λp hp=>⟨d.hw hq (Jr hp),d.g60.sem hq p (Jr hp)⟩,by rw[Gv];lia⟩
 have sl:∀t,↥(jE rs t)<=100:=λt=>by
  unfold jE;cases h:(cI rs).find? λe=>decide (fE rs e=t) with
  | none=>exact Cs _
  | some e=>exact(ep (Nf h)).2
 have sem:∀{e:↑Av},e∈cI rs->dC rs (jE rs) (fE rs e)=e:=λ{e} he=>by
  unfold dC;rw[Vy λz=>z.elim (nf he).2.2 λz=>by rw[(nf he).1.nm]at z;cases z];unfold jE;cases h:(cI rs).find? λx=>decide (fE rs x=fE rs e) with
  | none=>exact absurd (Wc rfl) (List.find?_eq_none.mp h e he)
  | some x=>exact ziI d.fewR (Nf h) he (Wa (List.find?_some h :))
 have sp:∀{ps:↑Av},(∀p∈ps,(dA p\/eS p)/\dC rs (jE rs) p=[p])->(2<↥ps->ps.drop 1∈cI rs)->(∀p∈fW rs ps,dA p\/eS p)/\(fW rs ps).flatMap (dC rs (jE rs))=ps:=λ{ps} h1 h2=>by
  by_cases z:↥ps<=2
  .unfold fW;rw[Vz z];exact⟨λp hp=>(h1 p hp).1,KH λp hp=>(h1 p hp).2⟩
  .let⟨x,e1,e2⟩:=ziJ (rs:=rs) z;have he:=h2 (Nat.lt_of_not_le z);have hx:=h1 x (by rw[e1];exact .head _);rw[e2];refine⟨λp hp=>(Aw.mp hp).elim (λz=>z▸hx.1) λz=>by rw[Ag.mp z];exact .inl (nf he).1,?_⟩;rw[Nn,Nn,hx.2,sem he,List.flatMap_nil,Bs];exact e1.symm
 have slo:∀ps:↑Av,Pf bV rs (dC rs (jE rs)) 0 0 0 ((Cp ↥ps).map λ(i:Nat)=>W.int i) ps (ps.flatMap (dC rs (jE rs))):=λps=>by
  rw[List.range_eq_range'];exact Pf.slots ps 0
 have key:∀z∈l,(dA z.1.1/\z.1.1∈namesOf rs++jQ rs)/\(∀p∈z.1.2,dA p\/eS p)/\↥z.1.2<=2/\Qz rs (jE rs) 0 1 z:=λz hz=>by
  rcases ht z hz with⟨n,r,hr,rfl⟩|⟨e,he,rfl⟩
  .have hm:=Ao hr;have hn:=iT.mpr ⟨r,hm,rfl⟩;let⟨s1,s2⟩:=sp (λp hp=>⟨d.hw hm hp,d.g60.sem hm p hp⟩) λh=>JY hm h;refine⟨⟨d.hn hn,Bf _ hn⟩,s1,vS rs _,_,rfl,?_⟩;show Pf _ _ _ _ _ _ _ _ (dC rs (jE rs) r.name);rw[eU.semN hm];have h4:=(d.of r hm).few;exact Pf.one (d.hn hn).nm hr (by lia) (by have:=slo (fW rs r.parts);rw[s2]at this;exact this)
  .let⟨s1,s2⟩:=sp (ep he).1 λh=>JZ he h;refine⟨⟨(nf he).1,Bo _ (nf he).2.1⟩,s1,vS rs _,_,rfl,?_⟩;show Pf _ _ _ _ _ _ _ _ (dC rs (jE rs) (fE rs e));rw[sem he];have:=slo (fW rs e);rw[s2]at this;exact this.mono ∅
 have tg:jS (dN l):=by
  refine⟨λz=>?_,by unfold dN;rw[Ab];lia,λr hr=>?_,λr hr=>?_,λr hr=>?_⟩
  .let⟨z',t,e,_⟩:=h0 trivial;rw[e]at z;cases z
  all_goals let⟨z,hz,rfl⟩:=Ar.mp hr
  .exact(key z hz).1.1
  .exact(key z hz).2.1
  .exact Ap (key z hz).2.2.1 ∅
 have nk:↥(namesOf (dN l))<=17:=by
  refine Ap (BW (l:=namesOf rs++jQ rs) λr hr=>?_) (by rw[Aj,fl];lia);let⟨z,hz,rfl⟩:=Ar.mp hr;exact(key z hz).1.2
 refine⟨tg,by lia,λz hz=>ND (key z hz).2.2.2 ∅,.inr ⟨jE rs,0,1,17,nk,⟨2,by decide,λr hr=>?_,by decide⟩,by decide,⟨by decide,by decide⟩,?_,NF sl,λz hz=>(key z hz).2.2.2⟩⟩
 .let⟨z,hz,rfl⟩:=Ar.mp hr;exact(key z hz).2.2.1
 .rw[h0.f0];exact mG (.inl d.fn)
end
theorem ziK{l:↑aD}{M:Mm}(g:jS l):Pl 4 (cX M (bC l)):=λw hw=>by
 let⟨q,hq,rfl⟩:=Ar.mp hw;intro w hw;simp only[Aw,Em,or_false]at hw;rcases hw with rfl|rfl|rfl
 .exact m9 (g.nm q hq).asc
 .exact λw hw=>by
   let⟨t,ht,rfl⟩:=Ar.mp hw;exact m9 (nK (g.pt q hq t ht)).asc
 .trivial
theorem ziL:bE rH zic zhZ:=by
 rintro _ M R ⟨ns,rfl,hl,hM,r⟩;have hi:=L2.ints_map ns;have b3:∀s∈[(3:Int)],0<s/\s<=10 ^ 59:=λs hs=>by rw[Ag.mp hs];decide
 have one:∀{ds:↑Int},Drawn ds [3]->∃d,ds=[d]/\Below d 3:=λh=>by
  cases h with
  | cons a b=>cases b;exact⟨_,rfl,a⟩
 refine⟨_,0,.inl rfl,hi,by decide,λc=>⟨c,[3],rfl,by decide,b3,λds hds=>aP.frz ?_⟩⟩;let⟨d,rfl,hd1,hd2⟩:=one hds;have hz:↥(dX (ns.map W.int) (aa 1) (aa 9))<=8:=y9 (S:=ns.map W.int) (i:=1) (j:=9) ∅ ∅;refine so.of (gW (j:=0) rfl) ⟨_,1+d,4,rfl,hi.cut _ _,by lia,by lia,by lia,by decide,by decide,λrs0 gr hpm ⟨hs,wds,q1,q2,q3,q4,q5,q6,q7,k,q8,q9⟩=>aP.frz ?_⟩;have dr0:Dr hs (wds++[("zoe" : Av)]) rs0:=by
  refine⟨gr.ne,by lia,by lia,by rw[Aj,q2];decide,q3,λt ht=>?_,λr hr=>?_,q6,k,by lia,q9⟩
  .rcases Bb.mp ht with h|h
   .exact q4 t h
   .rw[Ag.mp h];exact M9
  .have o:=q5 r hr;exact⟨o.name,λt ht=>(o.parts t ht).imp (λz=>Bf _ z) id,o.few,o.lo,o.hi⟩
 refine⟨_,9,.inl rfl,hi,by decide,λc2=>⟨c2,[3],rfl,by decide,b3,λds2 hds2=>aP.frz ?_⟩⟩;let⟨way,rfl,hw1,hw2⟩:=one hds2;refine so.of (gW (j:=0) rfl) ⟨rs0,way,rfl,dr0.tgO,by lia,aP.frz ?_⟩;have dr:=dr0.taken (Bo _ (.head _)) (by lia) way;have fu:0<way->wO (iY rs0 way):=λh=>ziG h gr.ne;generalize iY rs0 way=rs at dr fu;refine⟨rs,rfl,dr.okG,aP.frz ?_⟩;have fin:∀(τ:S3) (a:Am) (ls:↑(↑(NP×W))) (N:Mm),τ=[aa (.sc (ns.map W.int)),aa (bC rs),aa (.int way),aa (bC rs),aa (.ref a),ae,ae,ae,ae,ae]->N a=aa (.lst (ls.map mF))->L2.Sub M N->(∀l∈ls,oO rs l)->ls≠[]->(aF MU MV) (i8 R) τ N:=by
  rintro _ a ls N rfl hN sb nN hne;have hz2:↥(dX (ns.map W.int) (aa 10) (aa 22))<=12:=y9 (S:=ns.map W.int) (i:=10) (j:=22) ∅ ∅;have hlp:=Ir.mpr hne;refine⟨small (by show 1+_<=_;lia),?_⟩;refine dB (λi τ M'=>∃o5 o6 o7 o8 o9,τ=[aa (.sc (ns.map W.int)),aa (bC rs),aa (.int way),aa (bC rs),aa (.ref a),o5,o6,o7,o8,o9]/\N=M') ⟨_,_,_,_,_,rfl,rfl⟩ ?_ ?_
  .rintro i w τ M' hw ⟨o5,o6,o7,o8,o9,rfl,rfl⟩ D hD;obtain⟨cell,rfl⟩:∃c:Int,w=.int c:=by
    rcases Aw.mp (Ao hw) with z|z
    .exact⟨0,z⟩
    .exact hi.cut _ _ _ z
   refine⟨cell,rfl,λnum=>?_⟩;let⟨v,hv,hvm⟩:=y8 (xs:=ls.map mF) (i:=num) (n:=(↥(ls.map mF):Int)) rfl (by rw[Ab];lia);let⟨l,hl,rfl⟩:=Ar.mp hvm;have lb:=nN l hl;refine .inl ⟨_,hN,by rw[Ab];lia,jK hN hv ⟨rfl,rfl,?_⟩⟩;refine⟨⟨by decide,by decide⟩,rs,l,_,rfl,dr.g60,dr.tgO,lb,?_⟩;refine BU (uI (neg:=ab) (x:=qG l) 60 ∅ (λw hw=>?_) rfl (MY (hD _ _ ⟨_,_,_,_,_,rfl,rfl⟩)));let⟨z,hz,rfl⟩:=Ar.mp hw;exact lb.pl z hz
  .rintro τ M' ⟨o5,o6,o7,o8,o9,rfl,rfl⟩;exact uI (neg:=ac) 4 ∅ (ziK dr.tgO) rfl ⟨_,sb,r _⟩
 have nm:=dr.nam;refine⟨rs,rfl,dr.g60,λl1 h1=>⟨rs,rfl,dr.fewR,dr.ne,λl2 h2 h2l h2d=>?_⟩⟩;have k1:oO rs l1:=h1.elim (λz=>z▸dr.lbNo) λ⟨m,f,t⟩=>dr.lbT t (K:=4) (.inl (by show _+1<=4;lia)) ∅ ∅ ∅ ∅;have k2:=dr.two h2 h2l h2d;refine λa ha=>bP (b:=decide (0<way)) (λy=>?_) λy=>fin _ a [l1,l2] _ rfl aJ (Sub.new ha) (λl hl=>by
  simp only[Aw,Em,or_false]at hl;rcases hl with rfl|rfl<;>assumption) (Gw _ _)
 refine⟨dU aJ,rs,rfl,dr.g60,fu (Wa y),λl3 h3=>⟨_,aJ,cM (by show 2<10000000;decide),?_⟩⟩;have k3:oO rs l3:=h3.elim (λz=>z▸dr.lbNo) λ⟨f,t⟩=>dr.lbT t (K:=3) (.inr ⟨dr.fn,nm⟩) ∅ ∅ ∅ ∅;rw[b7];exact fin _ a [l1,l2,l3] _ rfl aJ (Sub.new ha) (λl hl=>by
  simp only[Aw,Em,or_false]at hl;rcases hl with rfl|rfl|rfl<;>assumption) (Gw _ _)
structure Tx(mg:Av->Option Ae):Prop where
 c_FIGURED_NAMES:∃t,mg "FIGURED_NAMES" = aa (.int 10000 t)
 c_FIGURES:∃t,mg "FIGURES" = aa (.str "0123456789" t)
 c_GREAT_LETTERS:∃t,mg "GREAT_LETTERS" = aa (.str "ABCDEFGHIJKLMNOPQRSTUVWXYZ" t)
 c_WHOLE:∃t,mg "WHOLE" = aa (.str "whole" t)
 all_:mg "all" = ae
 any_:mg "any" = ae
 dict_:mg "dict" = ae
 enumerate_:mg "enumerate" = ae
 int_:mg "int" = ae
 isinstance_:mg "isinstance" = ae
 len_:mg "len" = ae
 list_:mg "list" = ae
 range_:mg "range" = ae
 reversed_:mg "reversed" = ae
 sorted_:mg "sorted" = ae
 str_:mg "str" = ae
 tuple_:mg "tuple" = ae
 zip_:mg "zip" = ae
structure Kc(K:Ac)(mg:Av->Option Ae)(C:Cc):Prop where
 cls_Queue:gF K C.q
 at__Queue:mg "Queue" = aa (.ref C.q)
 cls_Search:gF K C.s
 at__Search:mg "Search" = aa (.ref C.s)
 cls_Plainer:gF K C.p
 at__Plainer:mg "Plainer" = aa (.ref C.p)
 na_costs:fF K C.q "costs"
 na_waiting:fF K C.q "waiting"
 na_grammar:fF K C.s "grammar"
 na_own:fF K C.s "own"
 na_steps:fF K C.s "steps"
 na_queue:fF K C.s "queue"
 na_reached:fF K C.s "reached"
 na_best:fF K C.s "best"
 na_ends:fF K C.s "ends"
 na_begun:fF K C.s "begun"
 na_backs:fF K C.p "backs"
structure Al(K:Ac)(mg:Av->Option Ae)(C:Cc)(fa:Nat->Am)(fb:Nat->Ff):Prop extends Tx mg,Kc K mg C where
 x0:Df K mg "made_of" (top 6) ["text","signs"] (fa 0) (fb 0)
 x1:Df K mg "is_name" (top 7) ["part"] (fa 1) (fb 1)
 x2:Df K mg "names" (top 8) ["grammar"] (fa 2) (fb 2)
 x3:Df K mg "first_name" (top 9) ["grammar"] (fa 3) (fb 3)
 x4:Df K mg "rules_of" (top 10) ["grammar","name"] (fa 4) (fb 4)
 x5:Df K mg "check_rule" (top 11) ["rule","known"] (fa 5) (fb 5)
 x6:Df K mg "grammar_of" (top 12) ["rules"] (fa 6) (fb 6)
 x7:Df K mg "marks" (top 14) ["things"] (fa 7) (fb 7)
 x8:Df K mg "places_of" (top 15) ["row"] (fa 8) (fb 8)
 x9:Df K mg "row_steps" (top 16) ["row"] (fa 9) (fb 9)
 x10:Df K mg "part_facts" (top 17) ["own","parts","cut"] (fa 10) (fb 10)
 x11:Di K C.q "__init__" "Queue.__init__" (dW (top 19) 0) ["self"] (fa 11) (fb 11)
 x12:Dm K C.q "is_done" "Queue.is_done" (dW (top 19) 1) ["self"] (fa 12) (fb 12)
 x13:Dm K C.q "place_of" "Queue.place_of" (dW (top 19) 3) ["self","cost"] (fa 13) (fb 13)
 x14:Dm K C.q "put" "Queue.put" (dW (top 19) 2) ["self","cost","thing"] (fa 14) (fb 14)
 x15:Dm K C.q "take" "Queue.take" (dW (top 19) 4) ["self"] (fa 15) (fb 15)
 x16:Df K mg "added" (top 21) ["cost","other"] (fa 16) (fb 16)
 x17:Di K C.s "__init__" "Search.__init__" (dW (top 22) 0) ["self","grammar","steps"] (fa 17) (fb 17)
 x18:Dm K C.s "reach" "Search.reach" (dW (top 22) 1) ["self","number","cut","cost"] (fa 18) (fb 18)
 x19:Dm K C.s "settle" "Search.settle" (dW (top 22) 4) ["self","number","cut","cost"] (fa 19) (fb 19)
 x20:Dm K C.s "step_by_name" "Search.step_by_name" (dW (top 22) 3) ["self","number","cut","cost","key"] (fa 20) (fb 20)
 x21:Dm K C.s "take_next" "Search.take_next" (dW (top 22) 2) ["self"] (fa 21) (fb 21)
 x22:Df K mg "least_trees" (top 23) ["grammar","places","steps","weights"] (fa 22) (fb 22)
 x23:Df K mg "facts_within" (top 24) ["grammar","best","top"] (fa 23) (fb 23)
 x24:Df K mg "knot_of" (top 27) ["number","children"] (fa 24) (fb 24)
 x25:Df K mg "same_word" (top 26) ["word","begin","end"] (fa 25) (fb 25)
 x26:Df K mg "made_of_best" (top 25) ["grammar","best","top","of_word","of_rule"] (fa 26) (fb 26)
 x27:Df K mg "best_tree" (top 28) ["grammar","best","top"] (fa 27) (fb 27)
 x28:Df K mg "row_trees" (top 30) ["grammar","row","weights"] (fa 28) (fb 28)
 x29:Df K mg "no_weights" (top 31) ["grammar"] (fa 29) (fb 29)
 x30:Df K mg "words_of" (top 33) ["grammar"] (fa 30) (fb 30)
 x31:Df K mg "shortest_lengths" (top 34) ["grammar"] (fa 31) (fb 31)
 x32:Df K mg "is_tree" (top 36) ["child"] (fa 32) (fb 32)
 x33:Df K mg "made_names" (top 40) ["old","count"] (fa 33) (fb 33)
 x34:Df K mg "slots" (top 41) ["parts"] (fa 34) (fb 34)
 x35:Di K C.p "__init__" "Plainer.__init__" (dW (top 42) 0) ["self"] (fa 35) (fb 35)
 x36:Dm K C.p "put_rule" "Plainer.put_rule" (dW (top 42) 1) ["self","name","parts","pieces"] (fa 36) (fb 36)
 x37:Dm K C.p "is_part" "Plainer.is_part" (dW (top 42) 2) ["self","name"] (fa 37) (fb 37)
 x38:Dm K C.p "grammar_and_backs" "Plainer.grammar_and_backs" (dW (top 42) 3) ["self"] (fa 38) (fb 38)
 x39:Df K mg "nothing_read" (top 43) ["grammar"] (fa 39) (fb 39)
 x40:Df K mg "empty_trees" (top 44) ["grammar"] (fa 40) (fb 40)
 x41:Df K mg "wordy_names" (top 45) ["grammar"] (fa 41) (fb 41)
 x42:Df K mg "thinned" (top 46) ["parts","own","wordy","empties"] (fa 42) (fb 42)
 x43:Df K mg "put_thinned" (top 47) ["plain","grammar","name","wordy","empties"] (fa 43) (fb 43)
 x44:Df K mg "no_empty" (top 48) ["grammar"] (fa 44) (fb 44)
 x45:Df K mg "check_no_empty" (top 49) ["grammar"] (fa 45) (fb 45)
 x46:Df K mg "is_single" (top 50) ["own","rule"] (fa 46) (fb 46)
 x47:Df K mg "single_chains" (top 51) ["grammar","own","name"] (fa 47) (fb 47)
 x48:Df K mg "chain_pieces" (top 52) ["chain","number","parts"] (fa 48) (fb 48)
 x49:Df K mg "put_chained" (top 53) ["plain","grammar","name","fruitful"] (fa 49) (fb 49)
 x50:Df K mg "no_single" (top 54) ["grammar"] (fa 50) (fb 50)
 x51:Df K mg "long_ends" (top 55) ["grammar"] (fa 51) (fb 51)
 x52:Df K mg "shortened" (top 56) ["parts","made"] (fa 52) (fb 52)
 x53:Df K mg "twos" (top 57) ["grammar"] (fa 53) (fb 53)
 x54:Df K mg "put_together" (top 58) ["pieces","rows"] (fa 54) (fb 54)
 x55:Df K mg "back_tree" (top 59) ["backs","tree"] (fa 55) (fb 55)
 x56:Df K mg "_law_cell_at" (top 61) ["script","k"] (fa 56) (fb 56)
 x57:Df K mg "_law_stir" (top 62) ["cell","k"] (fa 57) (fb 57)
 x58:Df K mg "_law_drawn" (top 63) ["cell","sizes"] (fa 58) (fb 58)
 x59:Df K mg "_law_unlike" (top 64) ["number","many","great"] (fa 59) (fb 59)
 x60:Df K mg "_law_rule" (top 65) ["cell","heads","words","most"] (fa 60) (fb 60)
 x61:Df K mg "_law_rules" (top 66) ["cells","many","most"] (fa 61) (fb 61)
 x62:Df K mg "_law_is_name" (top 67) ["part"] (fa 62) (fb 62)
 x63:Df K mg "_law_all_in" (top 68) ["parts","chosen"] (fa 63) (fb 63)
 x64:Df K mg "_law_chosen" (top 69) ["rules"] (fa 64) (fb 64)
 x65:Df K mg "_law_grow" (top 70) ["rules","chosen","name","state"] (fa 65) (fb 65)
 x66:Df K mg "_law_number" (top 71) ["cell"] (fa 66) (fb 66)
 x67:Df K mg "_law_made" (top 72) ["rules","name","tree"] (fa 67) (fb 67)
 x68:Df K mg "_law_words" (top 73) ["tree"] (fa 68) (fb 68)
 x69:Df K mg "_law_taken" (top 74) ["rules","way"] (fa 69) (fb 69)
 x70:Df K mg "_law_right" (top 75) ["rules","told","backs","number"] (fa 70) (fb 70)
 x71:Df K mg "law" (top 76) ["script"] (fa 71) (fb 71)
 f_same_word:C.f=fa 25
 f_knot_of:C.g=fa 24
theorem bM{K:Ac}{x q:Av}{st:Jy}{f:Am}{ps:↑Av}{fd:Ff}{N:↑Av}{sp:aV}{rd:aE}(P:Be)(w:Br)(mg:Av->Option Ae)(base:Du)(k:Nat)(F:jH K x q st f fd)(b:Binds K fd ps [])(good:bE sp rd N)(S:mL N ps (dP st):=by exact kA)(tm:∀{cdv:Ae} {A:Cw} {outer:↑Uv} {s:Ak} {H:Hp} {E:XK},cQ k (A.deeper (Ma q (dP st) ⇑s f cdv))->(A.deeper (Ma q (dP st) ⇑s f cdv)).units+1<Fg->N.Nodup->jL (kF eD P w K mg base N q (dP st) f cdv A outer s H E).nox (gD st) rd:=by intro _ _ _ _ _ _ hr hu nd;walk_at "t")(len:∀ws M R,sp ws M R->↥ws=↥ps:=by intro _ _ _ h;repeat (first|(let⟨rfl,_⟩:=h;exact rfl)|let⟨_,h⟩:=h)):hW P w K mg base eD (k+1) f fd ps (eW K sp):=A1 P w mg base k F b S good tm len
section
variable {P:Be}{w:Br}{K:Ac}{mg:Av->Option Ae}{base:Du}{C:Cc}{fa:Nat->Am}{fb:Nat->Ff}(Y:Al K mg C fa fb)
seal L2.PE L2.PA L2.PS L2.fN L2.PT L2.PG L2.PI L2.PO
set_option hygiene false in
local macro_rules | `(tactic| walk_at "t") => `(tactic| repeat' first
 | (show fN _ _ _;first|refine YE ?_|refine YD ?_ ?_|exact YC)
 | (show PA _ _ _;first|refine pC ?_ ?_|exact qZ)
 | (show PE _ _ (up _ (bJ _));refine WE ?_)
 | (show PE _ _ (up _ (rX _));refine zc2 ?_)
 | (show PE _ _ (up _ (BJ _ _ _ _));refine zgk ?_)
 | (show PE _ (.Name _ _) _;first|exact v _|exact K4 Y.f_knot_of Y.x24|exact K4 Y.f_same_word Y.x25|exact Y.c_FIGURED_NAMES.elim λ_ h=>qW (y:=V.int 10000) (by rfl) h ⟨_,rfl⟩ (λ_ _=>.int _)|exact Y.c_FIGURES.elim λ_ h=>qW (y:=V.str "0123456789") (by rfl) h ⟨_,rfl⟩ (λ_ _=>.str _)|exact Y.c_GREAT_LETTERS.elim λ_ h=>qW (y:=V.str "ABCDEFGHIJKLMNOPQRSTUVWXYZ") (by rfl) h ⟨_,rfl⟩ (λ_ _=>.str _)|exact Y.c_WHOLE.elim λ_ h=>qW (y:=V.str "whole") (by rfl) h ⟨_,rfl⟩ (λ_ _=>.str _)|exact xZ (by rfl) Y.int_ ZK (y:=.ty "int") rfl (λ_ _=>.ty _)|exact xZ (by rfl) Y.str_ GB (y:=.ty "str") rfl (λ_ _=>.ty _)|exact xZ (by rfl) Y.tuple_ GA (y:=.ty "tuple") rfl (λ_ _=>.ty _))
 | (show PE _ (.Constant _ _ _) _;first|exact WB|exact WD|exact WC)
 | (show PE _ (.Subscript _ (.Slice _ _ _ _) _) _;refine ZC ?_ ?_ ?_)
 | (show PE _ (.Subscript _ _ _) _;refine XJ hu ?_ ?_)
 | (show PE _ (.Tuple _ _ _) _;refine WT ?_)
 | (show PE _ (.List _ _) _;first|refine Y7 ?_|refine WU ?_)
 | (show PE _ (.Dict _ _ _) _;first|exact X5|exact X6|exact zao (tl:=[0])|refine ze0 ?_ ?_|refine zeJ hu ?_ ?_)
 | (show PE _ (.BinOp _ _ _ _) _;refine WG (by first|exact EY|exact F6|exact zbo|exact zeX|exact W7|exact W0|exact W4|exact Y8|exact zbp|exact W5|exact W6|exact WZ) ?_ ?_)
 | (show PE _ (.UnaryOp _ _ _) _;refine WJ XA ?_)
 | (show PE _ (.Compare _ _ _ _) _;refine WH (by first|exact E9 hr.units|exact G8 hu|exact FJ hu|exact G7 hu|exact FA hr.units|exact FK hu|exact E5|exact E4|exact yG|exact yE) ?_ ?_)
 | (show PE _ (.BoolOp _ _ _) _;first|refine WR ?_|refine v_and ?_ ?_|refine v_or ?_ ?_)
 | (show PE _ (.IfExp _ _ _ _) _;refine WS ?_ ?_ ?_)
 | (show PE _ (.Attribute _ _ _) _;refine Z9 (by first|exact Y.cls_Plainer|exact Y.cls_Queue|exact Y.cls_Search) (by first|exact Y.na_backs|exact Y.na_begun|exact Y.na_best|exact Y.na_costs|exact Y.na_ends|exact Y.na_grammar|exact Y.na_own|exact Y.na_queue|exact Y.na_reached|exact Y.na_steps|exact Y.na_waiting) ?_)
 | (show PE _ (.ListComp _ _ _ _) _;first|refine f9 (hj:=by rfl) ["sign","signs"] [ae,aa 1] ?_ (λB=>by first|exact dO|exact j0 rfl (fA dO (fA dO jZ))) (λB=>?_) λB=>?_|refine f9 ["number","rule","name"] [ae,ae,aa 1] ?_ (λB=>?_) (λB=>?_) λB=>?_|refine f9 (hj:=by rfl) ["thing"] [ae] ?_ (λB=>by first|exact dO|exact j0 rfl (fA dO (fA dO jZ))) (λB=>?_) λB=>?_|refine f9 ["place","word"] [ae,ae] ?_ (λB=>?_) (λB=>?_) λB=>?_|refine f9 ["k","part","own","cut"] [ae,ae,aa 0,aa 2] ?_ (λB=>?_) (λB=>?_) λB=>?_|refine f9 ["fact","found"] [ae,aa 4] ?_ (λB=>?_) (λB=>?_) λB=>?_|refine f9 (hj:=by rfl) ["rule"] [ae] ?_ (λB=>by first|exact dO|exact j0 rfl (fA dO (fA dO jZ))) (λB=>?_) λB=>?_|refine f9 (hj:=by rfl) ["word"] [ae] ?_ (λB=>by first|exact dO|exact j0 rfl (fA dO (fA dO jZ))) (λB=>?_) λB=>?_|refine f9 (hj:=by rfl) ["fact","best"] [ae,aa 2] ?_ (λB=>by first|exact dO|exact j0 rfl (fA dO (fA dO jZ))) (λB=>?_) λB=>?_|refine f9 (hj:=by rfl) ["rule","name"] [ae,aa 1] ?_ (λB=>by first|exact dO|exact j0 rfl (fA dO (fA dO jZ))) (λB=>?_) λB=>?_|refine f9 ["fact","grammar","best"] [ae,aa 0,aa 1] ?_ (λB=>?_) (λB=>?_) λB=>?_|refine f9 ["part","fruitful","own"] [ae,aa 1,aa 2] ?_ (λB=>?_) (λB=>?_) λB=>?_|refine f9 ["part","wordy","own"] [ae,aa 4,aa 1] ?_ (λB=>?_) (λB=>?_) λB=>?_|refine f9 (hj:=by rfl) ["rule","first"] [ae,aa 1] ?_ (λB=>by first|exact dO|exact j0 rfl (fA dO (fA dO jZ))) (λB=>?_) λB=>?_|refine f9 ["part","fruitful","own"] [ae,aa 3,aa 4] ?_ (λB=>?_) (λB=>?_) λB=>?_|refine f9 (hj:=by rfl) ["part"] [ae] ?_ (λB=>by first|exact dO|exact j0 rfl (fA dO (fA dO jZ))) (λB=>?_) λB=>?_|refine f9 (hj:=by rfl) ["part","chosen"] [ae,aa 1] ?_ (λB=>by first|exact dO|exact j0 rfl (fA dO (fA dO jZ))) (λB=>?_) λB=>?_|refine f9 (hj:=by rfl) ["rule","longer"] [ae,aa 2] ?_ (λB=>by first|exact dO|exact j0 rfl (fA dO (fA dO jZ))) (λB=>?_) λB=>?_)
 | (show PE _ (.Call (.Name _ _) _ _ _) _;first|refine bX (ziM Y) Y.x0 hr ?_|refine bX (ziN Y) Y.x1 hr ?_|refine bX (ziO Y) Y.x2 hr ?_|refine bX (ziR Y) Y.x5 hr ?_|refine bX (ziT Y) Y.x7 hr ?_|refine bX (zi2 Y) Y.x16 hr ?_|refine bX (ziW Y) Y.x10 hr ?_|refine bX (zi9 Y) Y.x23 hr ?_|refine bX (zjc Y) Y.x26 hr ?_|refine bX (zi8 Y) Y.x22 hr ?_|refine bX (ziU Y) Y.x8 hr ?_|refine bX (ziV Y) Y.x9 hr ?_|refine bX (zjg Y) Y.x30 hr ?_|refine bX (zjf Y) Y.x29 hr ?_|refine bX (ziP Y) Y.x3 hr ?_|refine bX (zje Y) Y.x28 hr ?_|refine bX (zjd Y) Y.x27 hr ?_|refine bX (zjh Y) Y.x31 hr ?_|refine bX (ziQ Y) Y.x4 hr ?_|refine bX (zjs Y) Y.x42 hr ?_|refine bX (zjr Y) Y.x41 hr ?_|refine bX (zjq Y) Y.x40 hr ?_|refine bX (zjp Y) Y.x39 hr ?_|refine bX (zjt Y) Y.x43 hr ?_|refine bX (zjj Y) Y.x33 hr ?_|refine bX (zjw Y) Y.x46 hr ?_|refine bX (zjk Y) Y.x34 hr ?_|refine bX (zjx Y) Y.x47 hr ?_|refine bX (zjy Y) Y.x48 hr ?_|refine bX (zjv Y) Y.x45 hr ?_|refine bX (zjz Y) Y.x49 hr ?_|refine bX (zjB Y) Y.x51 hr ?_|refine bX (zjC Y) Y.x52 hr ?_|refine bX (zji Y) Y.x32 hr ?_|refine bX (zjE Y) Y.x54 hr ?_|refine bX (zjH Y) Y.x57 hr ?_|refine bX (zjI Y) Y.x58 hr ?_|refine bX (zjG Y) Y.x56 hr ?_|refine bX (zjJ Y) Y.x59 hr ?_|refine bX (zjK Y) Y.x60 hr ?_|refine bX (NH Y) Y.x62 hr ?_|refine bX (NI Y) Y.x63 hr ?_|refine bX (zjM Y) Y.x64 hr ?_|refine bX (zjN Y) Y.x65 hr ?_|refine bX (zjF Y) Y.x55 hr ?_|refine bX (zjP Y) Y.x67 hr ?_|refine bX (zjQ Y) Y.x68 hr ?_|refine bX (zjL Y) Y.x61 hr ?_|refine bX (zjR Y) Y.x69 hr ?_|refine bX (ziS Y) Y.x6 hr ?_|refine bX (zju Y) Y.x44 hr ?_|refine bX (zjD Y) Y.x53 hr ?_|refine bX (zjA Y) Y.x50 hr ?_|refine bX (zjO Y) Y.x66 hr ?_|refine bX (zjS Y) Y.x70 hr ?_|refine rB (X1 rfl) (by rfl) Y.all_ ZM ?_|refine rB (ZU rfl) (by rfl) Y.any_ ZN ?_|refine rB (Z2 rfl) (by rfl) Y.sorted_ ZO ?_|refine rB Y5 (by rfl) Y.isinstance_ ZL ?_|refine rB XW (by rfl) Y.len_ ZJ ?_|refine lM (Z7 rfl) (by rfl) Y.dict_ y7 ?_|refine lM (Z8 rfl) (by rfl) Y.dict_ y7 ?_|refine lM (zc7 rfl (zK hr)) (by rfl) Y.dict_ y7 ?_|refine lM (FN rfl) (by rfl) Y.list_ uM ?_|refine lM (Y9 rfl) (by rfl) Y.list_ uM ?_|refine lM (zau (tl:=[0]) rfl) (by rfl) Y.list_ uM ?_|refine lM (zaz rfl) (by rfl) Y.list_ uM ?_|refine lM X0 (by rfl) Y.str_ GB ?_|refine lM XZ (by rfl) Y.tuple_ GA ?_|refine K2 (i:=3) Y.f_same_word (zjb Y) hr Y.x25.fn.kp Y.x25.bi ?_|refine K2 (i:=4) Y.f_knot_of (zja Y) hr Y.x24.fn.kp Y.x24.bi ?_|exact GP Y.x11.mak (ziX Y) (hr.mono ∅) (by rfl) Y.at__Queue Y.x11.bi|exact GP Y.x35.mak (zjl Y) (hr.mono ∅) (by rfl) Y.at__Plainer Y.x35.bi|refine zac Y.x17.mak (zi3 Y) (hr.mono ∅) (by rfl) Y.at__Search Y.x17.bi ?_|refine zfA (by rfl) Y.list_ (by rfl) Y.range_ ?_|refine zay (by rfl) Y.tuple_ (by rfl) Y.range_ ?_|refine zhf (by rfl) Y.list_ (by rfl) Y.reversed_ ?_|refine zaI (zK hr) (by rfl) Y.dict_ (by rfl) Y.zip_ ?_|refine n5 (NG Y n) (hr.mono (by lia)) (by rfl) Y.x54.at_ Y.x54.fn.kp Y.x54.bi ?_|refine n5 (NI Y) (hr.mono (by lia)) (by rfl) Y.x63.at_ Y.x63.fn.kp Y.x63.bi ?_|refine n5 (NH Y) (hr.mono (by lia)) (by rfl) Y.x62.at_ Y.x62.fn.kp Y.x62.bi ?_|refine n5 (NJ Y n) (hr.mono (by lia)) (by rfl) Y.x65.at_ Y.x65.fn.kp Y.x65.bi ?_|refine n5 (NK Y n) (hr.mono (by lia)) (by rfl) Y.x67.at_ Y.x67.fn.kp Y.x67.bi ?_|refine n5 (NL Y n) (hr.mono (by lia)) (by rfl) Y.x68.at_ Y.x68.fn.kp Y.x68.bi ?_)
 | (show PE _ (.Call (.Attribute _ _ _) _ _ _) _;first|refine oE Y.cls_Queue Y.x13.me (ziZ Y) (hr.mono ∅) Y.x13.bi ?_ ?_|refine oE Y.cls_Queue Y.x14.me (zi0 Y) (hr.mono ∅) Y.x14.bi ?_ ?_|refine oE Y.cls_Search Y.x18.me (zi4 Y) (hr.mono ∅) Y.x18.bi ?_ ?_|refine oE Y.cls_Search Y.x19.me (zi5 Y) (hr.mono ∅) Y.x19.bi ?_ ?_|refine oE Y.cls_Search Y.x20.me (zi6 Y) (hr.mono ∅) Y.x20.bi ?_ ?_|refine oE Y.cls_Plainer Y.x36.me (zjm Y) (hr.mono ∅) Y.x36.bi ?_ ?_|refine oE Y.cls_Plainer Y.x37.me (zjn Y) (hr.mono ∅) Y.x37.bi ?_ ?_|refine uQ Y.cls_Queue Y.x15.me (zi1 Y) (hr.mono ∅) Y.x15.bi ?_|refine uQ Y.cls_Queue Y.x12.me (ziY Y) (hr.mono ∅) Y.x12.bi ?_|refine uQ Y.cls_Search Y.x21.me (zi7 Y) (hr.mono ∅) Y.x21.bi ?_|refine uQ Y.cls_Plainer Y.x38.me (zjo Y) (hr.mono ∅) Y.x38.bi ?_|refine mS Nk F.slot_dict_get F.type_dict_get (zag hu) ?_ ?_|refine mS Nk F.slot_dict_pop F.type_dict_pop (zaj hu) ?_ ?_|refine mS Nk F.slot_dict_setdefault F.type_dict_setdefault (zah hu) ?_ ?_|refine mS Ls F.slot_list_append F.type_list_append X2 ?_ ?_|refine mS Ls F.slot_list_extend F.type_list_extend X3 ?_ ?_|refine mS Ls F.slot_list_insert F.type_list_insert zaM ?_ ?_|refine mS Ls Pj F.type_list_pop zeY ?_ ?_|refine mS F.plainAttrs_str F.slot_str_partition F.type_str_partition m_partition ?_ ?_|refine EX Ls Pj F.type_list_pop X4 ?_|refine EX F.plainAttrs_str F.slot_str_upper F.type_str_upper m_upper ?_|refine zar (zK hr) ?_ ?_ ?_|refine zat ?_)
 | (show PS _ (.Assign [.Name _ _] (.ListComp _ _ _ _) _) _;first|refine rJ nd ["rule","fruitful","own"] [ae,aa 2,aa 1] ?_ (λB=>?_) (λB=>?_) λB=>?_|refine rJ nd ["some","pieces","part","wordy","own"] [ae,ae,aa 5,aa 2,aa 1] ?_ (λB=>?_) (λB=>?_) λB=>?_|refine rJ nd ["some","pieces","part","empties"] [ae,ae,aa 5,aa 3] ?_ (λB=>?_) (λB=>?_) λB=>?_|refine rJ nd ["part","told"] [ae,aa 2] ?_ (λB=>?_) (λB=>?_) λB=>?_|refine Y1 nd ["cell","heads","words","most"] [ae,aa 5,aa 6,aa 2] ?_ (λB=>?_) (λB=>?_) λB=>?_|refine rJ nd ["name","heads","told"] [ae,aa 5,aa 1] ?_ (λB=>?_) (λB=>?_) λB=>?_)
 | (show PS _ (.Assign [.Name _ _] _ _) _;refine X9 nd ?_)
 | (show PS _ (.Assign [.Attribute _ _ _] _ _) _;refine zaa (by first|exact Y.cls_Plainer|exact Y.cls_Queue|exact Y.cls_Search) (by first|exact Y.na_backs|exact Y.na_begun|exact Y.na_best|exact Y.na_costs|exact Y.na_ends|exact Y.na_grammar|exact Y.na_own|exact Y.na_queue|exact Y.na_reached|exact Y.na_steps|exact Y.na_waiting) ?_ ?_)
 | (show PS _ (.Assign _ _ _) _;refine X8 ?_ ?_)
 | (show PS _ (.If _ _ _ _) _;refine YI ?_ ?_ ?_)
 | (show PS _ (.For _ _ _ _ _) _;first|refine YL PassesOwn.never rfl ?_ ?_ ?_|refine s_fzL ?_)
 | (show PS _ (.While _ _ _ _) _;refine YK PassesOwn.never ?_ ?_)
 | (show PS _ (.Expr _ _) _;refine YF ?_)
 | (show PS _ (.Return _ _) _;first|refine YG ?_|exact YH)
 | exact YJ
 | (show PT _ (.Compare _ _ _ _) _;first|refine ZT yG yE ?_ ?_ ?_|refine WI (by first|exact E9 hr.units|exact G8 hu|exact FJ hu|exact G7 hu|exact FA hr.units|exact FK hu|exact E5|exact E4|exact yG|exact yE) ?_ ?_)
 | (show PT _ (.BoolOp _ _ _) _;refine PW.pt ?_)
 | (show PT _ (.UnaryOp _ _ _) _;refine WQ ?_)
 | (show PT _ _ _;refine WK ?_)
 | (show PW _ _ _;first|refine WL ?_|refine WM ?_|refine WN ?_ ?_|refine WO ?_ ?_)
 | (show PG _ (.Name _ _) _;first|exact FO nd|exact dO)
 | (show PG _ (.Tuple _ _ _) _;refine j0 rfl ?_)
 | (show PG _ _ _;refine w_sub hu ?_ ?_)
 | (show iZ _ _ _;first|refine fA ?_ ?_|exact jZ)
 | (show iM _ _ _;first|exact YZ|refine Y0 ?_)
 | (show PO _ _ _;first|exact XO|refine XQ ?_)
 | (show PI _ _ _ _;first|refine ZY (by rfl) Y.zip_ ?_|refine YX (by rfl) Y.range_ ?_|refine YY (by rfl) Y.range_ ?_|refine ZV (by rfl) Y.enumerate_ ?_|refine zeN (by rfl) Y.enumerate_ ?_|refine zeZ (by rfl) Y.reversed_ ?_|refine zeS ?_|refine YW ?_|refine YV ?_|refine zc6 ?_|refine zgj ?_))
def ziM:=bM P w mg base 0 Y.x0.fn Y.x0.bi zcg
def ziN:=bM P w mg base 1 Y.x1.fn Y.x1.bi zcj
def ziO:=bM P w mg base 0 Y.x2.fn Y.x2.bi zck
def ziP:=bM P w mg base 0 Y.x3.fn Y.x3.bi zcl
def ziQ:=bM P w mg base 0 Y.x4.fn Y.x4.bi zfq
def ziR:=bM P w mg base 2 Y.x5.fn Y.x5.bi zcm
def ziS:=bM P w mg base 3 Y.x6.fn Y.x6.bi zes
def ziT:=bM P w mg base 0 Y.x7.fn Y.x7.bi zcP
def ziU:=bM P w mg base 0 Y.x8.fn Y.x8.bi zfG
def ziV:=bM P w mg base 0 Y.x9.fn Y.x9.bi zfI
def ziW:=bM P w mg base 0 Y.x10.fn Y.x10.bi zf8
def ziX:=bM P w mg base 0 Y.x11.fn Y.x11.bi zbh
def ziY:=bM P w mg base 0 Y.x12.fn Y.x12.bi zbg
def ziZ:=bM P w mg base 0 Y.x13.fn Y.x13.bi zbi
def zi0:=bM P w mg base 1 Y.x14.fn Y.x14.bi zbj
def zi1:=bM P w mg base 0 Y.x15.fn Y.x15.bi zbk
def zi2:=bM P w mg base 0 Y.x16.fn Y.x16.bi zcQ
def zi3:=bM P w mg base 2 Y.x17.fn Y.x17.bi zcY
def zi4:=bM P w mg base 2 Y.x18.fn Y.x18.bi zcR
def zi5:=bM P w mg base 3 Y.x19.fn Y.x19.bi zcV
def zi6:=bM P w mg base 3 Y.x20.fn Y.x20.bi zcS
def zi7:=bM P w mg base 4 Y.x21.fn Y.x21.bi zcW
def zi8:=bM P w mg base 5 Y.x22.fn Y.x22.bi zcZ
def zi9:=bM P w mg base 1 Y.x23.fn Y.x23.bi zgb
def zja:=bM P w mg base 0 Y.x24.fn Y.x24.bi zf4
def zjb:=bM P w mg base 0 Y.x25.fn Y.x25.bi zf3
def zjc:=bM P w mg base 2 Y.x26.fn Y.x26.bi zgf
def zjd:=bM P w mg base 3 Y.x27.fn Y.x27.bi zf5
def zje:=bM P w mg base 6 Y.x28.fn Y.x28.bi zgO
def zjf:=bM P w mg base 0 Y.x29.fn Y.x29.bi zdD
def zjg:=bM P w mg base 1 Y.x30.fn Y.x30.bi zdP
def zjh:=bM P w mg base 6 Y.x31.fn Y.x31.bi zdS
def zji:=A1 (len:=zit) P w mg base 0 Y.x32.fn Y.x32.bi kA zir λhr hu nd=>by walk_at "t"
def zjj:=bM P w mg base 1 Y.x33.fn Y.x33.bi zet
def zjk:=bM P w mg base 0 Y.x34.fn Y.x34.bi zeu
def zjl:=bM P w mg base 0 Y.x35.fn Y.x35.bi zev
def zjm:=bM P w mg base 0 Y.x36.fn Y.x36.bi zew
def zjn:=bM P w mg base 0 Y.x37.fn Y.x37.bi zgn
def zjo:=bM P w mg base 0 Y.x38.fn Y.x38.bi zez
def zjp:=bM P w mg base 2 Y.x39.fn Y.x39.bi zfx
def zjq:=bM P w mg base 7 Y.x40.fn Y.x40.bi zgP
def zjr:=bM P w mg base 7 Y.x41.fn Y.x41.bi zgS
def zjs:=bM P w mg base 0 Y.x42.fn Y.x42.bi zgV
def zjt:=bM P w mg base 1 Y.x43.fn Y.x43.bi zgW
def zju:=bM P w mg base 8 Y.x44.fn Y.x44.bi zgY
def zjv:=bM P w mg base 1 Y.x45.fn Y.x45.bi zg8
def zjw:=bM P w mg base 0 Y.x46.fn Y.x46.bi zfr
def zjx:=bM P w mg base 1 Y.x47.fn Y.x47.bi zfv
def zjy:=bM P w mg base 1 Y.x48.fn Y.x48.bi zfs
def zjz:=bM P w mg base 2 Y.x49.fn Y.x49.bi zfw
def zjA:=bM P w mg base 7 Y.x50.fn Y.x50.bi zg9
def zjB:=bM P w mg base 0 Y.x51.fn Y.x51.bi zeF
def zjC:=bM P w mg base 0 Y.x52.fn Y.x52.bi zeE
def zjD:=bM P w mg base 2 Y.x53.fn Y.x53.bi zeG
theorem NG(Y:Al K mg C fa fb):∀n,hW P w K mg base eD (1+n) (fa 54) (fb 54) ["pieces","rows"] (eW K (sH n))
 | 0=>pJ (k:=0) Y.x54.fn (kA (N:=MS)) (λ_ _ _ h=>h.elim) λ_ _ _ _ _ _ _ _ _ _ h=>h.elim
 | n+1=>v8 P w mg base (1+n) Y.x54.fn Y.x54.bi kA (ziu (n+1)) zis λhr hu nd=>by walk_at "t"
def zjE:=NG (P:=P) (w:=w) (base:=base) Y 60
def zjF:=bM P w mg base 61 Y.x55.fn Y.x55.bi zix
def zjG:=A1 (len:=zcf) P w mg base 0 Y.x56.fn Y.x56.bi kA zcn λhr hu nd=>by walk_at "t"
def zjH:=bM P w mg base 0 Y.x57.fn Y.x57.bi zco
def zjI:=bM P w mg base 1 Y.x58.fn Y.x58.bi zde
def zjJ:=bM P w mg base 0 Y.x59.fn Y.x59.bi zdf
def zjK:=bM P w mg base 2 Y.x60.fn Y.x60.bi zdi
def zjL:=bM P w mg base 3 Y.x61.fn Y.x61.bi zdj
def NH:=bM P w mg base 0 Y.x62.fn Y.x62.bi zie
def NI:=bM P w mg base 1 Y.x63.fn Y.x63.bi zif
def zjM:=bM P w mg base 2 Y.x64.fn Y.x64.bi zii
theorem NJ(Y:Al K mg C fa fb):∀n,hW P w K mg base eD (3+n) (fa 65) (fb 65) ["rules","chosen","name","state"] (eW K (mH n))
 | 0=>pJ (k:=2) Y.x65.fn (kA (N:=MK)) (λ_ _ _ h=>h.elim) λ_ _ _ _ _ _ _ _ _ _ h=>h.elim
 | n+1=>v8 P w mg base (3+n) Y.x65.fn Y.x65.bi kA (zio (n+1)) zin λhr hu nd=>by walk_at "t"
def zjN:=NJ (P:=P) (w:=w) (base:=base) Y 30
def zjO:=bM P w mg base 1 Y.x66.fn Y.x66.bi zig
theorem NK(Y:Al K mg C fa fb):∀n,hW P w K mg base eD (2+n) (fa 67) (fb 67) ["rules","name","tree"] (eW K (sG n))
 | 0=>pJ (k:=1) Y.x67.fn (kA (N:=MT)) (λ_ _ _ h=>h.elim) λ_ _ _ _ _ _ _ _ _ _ h=>h.elim
 | n+1=>v8 P w mg base (2+n) Y.x67.fn Y.x67.bi kA (ziv (n+1)) ziz λhr hu nd=>by walk_at "t"
def zjP:=NK (P:=P) (w:=w) (base:=base) Y 60
theorem NL(Y:Al K mg C fa fb):∀n,hW P w K mg base eD (1+n) (fa 68) (fb 68) ["tree"] (eW K (sE n))
 | 0=>pJ (k:=0) Y.x68.fn (kA (N:=MQ)) (λ_ _ _ h=>h.elim) λ_ _ _ _ _ _ _ _ _ _ h=>h.elim
 | n+1=>v8 P w mg base (1+n) Y.x68.fn Y.x68.bi kA (ziq (n+1)) zil λhr hu nd=>by walk_at "t"
def zjQ:=NL (P:=P) (w:=w) (base:=base) Y 31
def zjR:=bM P w mg base 0 Y.x69.fn Y.x69.bi ziE
def zjS:=bM P w mg base 62 Y.x70.fn Y.x70.bi ziB
def zjT:=bM P w mg base 63 Y.x71.fn Y.x71.bi ziL
end
section
variable {w:Br}{h:Du}{mg:Av->Option Ae}
theorem nA{K:Ac}{C:Am}{f:Av}(h:Fj K (.ref C) f=aa ae:=by kernel_rfl):fF K C f:=h
theorem mv{x:Av}{v:Ae}(X:(hpK w.params).In h)(G:h.Ns Ed mg)(e:Sn (hpK w.params) Ed x=aa (aa v):=by kernel_rfl):mg x=aa v:=Jz X G e
theorem mn{x:Av}(X:(hpK w.params).In h)(G:h.Ns Ed mg)(e:Sn (hpK w.params) Ed x=aa ae:=by kernel_rfl):mg x=ae:=PySem.W.mg_none_of X G e
theorem zjU(X:(hpK w.params).In h)(G:h.Ns Ed mg):Tx mg:=⟨⟨592,Jz (v:=.int 10000 592) X G (by kernel_rfl)⟩,⟨227,Jz (v:=.str "0123456789" 227) X G (by kernel_rfl)⟩,⟨225,Jz (v:=.str "ABCDEFGHIJKLMNOPQRSTUVWXYZ" 225) X G (by kernel_rfl)⟩,⟨590,Jz (v:=.str "whole" 590) X G (by kernel_rfl)⟩,mn X G,mn X G,mn X G,mn X G,mn X G,mn X G,mn X G,mn X G,mn X G,mn X G,mn X G,mn X G,mn X G,mn X G⟩
theorem zjV(X:(hpK w.params).In h)(G:h.Ns Ed mg):Kc (hpK w.params) mg ⟨151,207,237,244,332,0,0,0,0⟩:=⟨⟨by kernel_rfl,by kernel_rfl,by kernel_rfl,by kernel_rfl⟩,mv X G,⟨by kernel_rfl,by kernel_rfl,by kernel_rfl,by kernel_rfl⟩,mv X G,⟨by kernel_rfl,by kernel_rfl,by kernel_rfl,by kernel_rfl⟩,mv X G,nA,nA,nA,nA,nA,nA,nA,nA,nA,nA,nA⟩
noncomputable def NM(i:Nat):Ff:=(dL i).fd
theorem zjW(X:(hpK w.params).In h)(G:h.Ns Ed mg):Al (hpK w.params) mg ⟨151,207,237,244,332,0,0,0,0⟩ BX NM:=by
 refine⟨zjU X G,zjV X G,?_,?_,?_,?_,?_,?_,?_,?_,?_,?_,?_,?_,?_,?_,?_,?_,?_,?_,?_,?_,?_,?_,?_,?_,?_,?_,?_,?_,?_,?_,?_,?_,?_,?_,?_,?_,?_,?_,?_,?_,?_,?_,?_,?_,?_,?_,?_,?_,?_,?_,?_,?_,?_,?_,?_,?_,?_,?_,?_,?_,?_,?_,?_,?_,?_,?_,?_,?_,?_,?_,?_,?_,rfl,rfl⟩<;>first|exact dF X G|exact dM|exact dI
end
theorem zjX{l:Qy}{w:Br}{h:Du}{mg:Av->Option Ae}{fa:Am}(X:(hpK w.params).In h)(G:h.Ns Ed mg)(hfa:mg "law" = aa (.ref fa)):
  ∃fd:Ff,(∀(s:Ak) (v:Ae),Tg s fd ⟨[v],[]⟩ [("script",v)])/\∀base:Du,(hpK w.params).In base->base.Ns Ed mg->hW l.prog w (hpK w.params) mg base eD 64 fa fd ["script"] (eW (hpK w.params) rH):=by
 have e:=hfa.symm.trans (Jz (v:=.ref 547) X G (by kernel_rfl));cases e;exact⟨NM 71,λs v=>.of_eq rfl,λbase _ _=>zjT (zjW X G)⟩
theorem zjY{l:Qy}{q:Be}{loose:↑Av}{XP:(Av->Option Ae)->Du->Prop}{YP:Br->Du->Prop}{d:DefRec}{K:So->Ac}(hn:l.most=aa 63)(hdf:d.params.defaults=[])(hY:∀(w:Br) (h:Du),YP w h->(K w.params).In h)(F:∀(w:Br) (mg:Av->Option Ae) (fa:Am) (h:Du),(K w.params).In h->h.Ns Ed mg->mg d.name=aa (.ref fa)->
   ∃fd:Ff,(∀(s:Ak) (u:Ae),Tg s fd ⟨[u],[]⟩ [("script",u)])/\∀base:Du,(K w.params).In base->base.Ns Ed mg->hW l.prog w (K w.params) mg base eD 64 fa fd ["script"] (eW (K w.params) rH)):
  PySem.W.WalkO q loose XP YP l.row.toRowW d [] (λf vs=>Ub f vs):=
 L2.UR (n:=63) (k:=64) (x:="script") (CX:=λ_=>eD) (sp:=λw=>eW (K w.params) rH) hn ∅ hdf ⟨rfl,by decide,by decide⟩ hY F (λ_ _ a ns hl ho hS=>Y2 hl ho hS) λ_ _ _ _ _ z=>z
end L2
open PySem PySem.W PyProof.Rows
set_option maxRecDepth 100000 in
set_option maxHeartbeats 0 in
theorem PySem.Challenge.cw_readgrove_k65_whole_trees_led_back_holds : PySem.Challenge.rw_readgrove_k65_whole_trees_led_back.Holds := by
 w_on; refine PySem.W.holds_law L2.sN λsaid => ?_
 refine PySem.W.holds_open (r := Wf.row) (q := L2.qv) (loose := []) (N := 6816)
  (Xt := λs => xlAt L2.qv [] s&&recOk (Qr (Oj Wf.row)) s)
  (XP := XL L2.qv []) (Yf := L2.hk.obs) (Ya := L2.hk.val) (YP := L2.hk.says) ?hl L2.hk.of L2.hk.keeps
  (λs e => xl_of s (Bool.and_eq_true_iff.mp e).1) XL.keeps (by rfl) (by rfl) (by rfl) (λs e => recFacts_of (Bool.and_eq_true_iff.mp e).2)
  (by rfl) (by assumption) (by decide +kernel) ⟨rfl, rfl, rfl, rfl, rfl, by decide +kernel⟩ ?hw ?hc
 case hw => w_witness2
 case hc => exact L2.zjY (l := Wf) rfl rfl (λw h Y => PySem.W.kIn_of Y) (λw mg fa h KX G hmg => L2.zjX KX G hmg)
 case hl => exact L2.NT
