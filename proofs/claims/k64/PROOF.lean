import PyProof.Rows.All
import KE.KDictOf
import KE.KEqDict
import KE.KFromBytes
import KE.KIntText
import KE.KIsAll
import KE.KItem
import KE.KItemsList
import KE.KLam
import KE.KPairComp
import KE.KRevIter
import PySem.Challenge.RW_readgrove_k64_whole_rows_as_ahead
open Option renaming some->aa,none->ae
open Bool renaming true->ab,false->ac
local macro_rules|`(↥$x)=>`($(x).length)
local macro_rules|`(⇑$x)=>`($(x).heap.objs.size)
local macro_rules|`(∅)=>`(by decide)
local macro_rules|`(↑$x)=>`(List $x)
local macro_rules|`(tactic|let ⟨$xs,*⟩:=$e)=>do{let ps←xs.getElems.mapM fun x=>match x with|`($i:ident)=>`(Lean.Parser.Tactic.rcasesPatLo|$i:ident)|_=>`(Lean.Parser.Tactic.rcasesPatLo|_);`(tactic|obtain ⟨$[$ps],*⟩:=$e)}
open PySem.Challenge renaming rw_readgrove_k64_whole_rows_as_ahead->Vk,pw_readgrove_k64_whole_rows_as_ahead->Vl
open PySem renaming wpAny_bind->Aa,Value->Ae,wpAny_pure->Ag,Shared->Aj,Addr->An,sizeLine->Ax,Str->Ay,Program->Bc,wpAny->Bk,World->Bo,Expr->Cg,wpAny_call_entry->Cm,starEach->Cp,bootBuiltins->Cr,Around->Cs,wpAny_callSpecial?_slot->Cu,wpAny_newObj_type->Dh,model->Dj,wpAny_field->Dk,wpAny_holding->Dn,Heap->Ds,compareOp->Du,mainGlobals->Ec,DictEntry->Eg,binaryOp->Eh,wpAny_Call_Name_kw->Ej,eval->Eu,Paired->Ey,wpAny_seqItems->Fb,FuncData->Fc,cLine->Fd,wpAny_setField_rec->Fl,tupleKind_room_in1->Fm,sysModules->Fn,wpAny_isInstance->Gj,attributeBase->Gu,wpAny_notOrdered_dict->Gx,builtinLookup_eq_fast->Gy,wpAny_attempt->Gz,Builtin->Ha,tupleKind->Hc,rawInt->He,pyNext->Hi,wpAny_tupleItemsOf->Ho,assignEach->Hq,Pos->Hu,IsPair->Hv,wpAny_specialOf->Hw,mem_of_lookup->Hx,wpAny_dictEntries->Hy,foldedSetIterable->Hz,wpAny_rule->Ie,wpAny_mono->Ig,wpAny_typeNameOfWhole_valiter->Iq,wpAny_typeNameOfWhole_keyiter->Ir,call_meetsIn->Iw,wpAny_passesOwn->Ja,typeLookup_type->Jb,isSubtype_tuple_tuple->Je,wpAny_truthy_bool->Jg,wpAny_pyIter_list->Jh,holding->Ji,Stmt->Jl,wpAny_of_eq->Jp,sizeLine_eq->Jq,NameKind->Jr,wpAny_forIn_list->Jw,wpAny_typeNameOf_valiter->Kj,wpAny_typeNameOf_keyiter->Kk,Scope->Kl,size_of_entries->Kn,codeAny_builtin->Ko,call_meets->Kx,keywordEach->La,firstArgMember->Lh,atKey->Lq,swapsWith->Ls,Obj->Lv,strLen_append->Lx,behindInMarks->Ly,sliceBounds->Mc,backTo->Mg,wpAny_typeOf->Mo,wpAny_richCompare_same_room->Mp,storedH->Mq,codeAny->Mr,wpAny_setField->Nb,wpAny_pyIter_tuple->Nc,getattributeRaised->Nd,PyData->Nh,wpAny_pyIter_enum->Nm,plainId_quiet->Nq,assign->Nr,backToKw->Oe,typeLookup->Oo,codeAny_mono->Oq,PlainAttrs->Ou,wpAny_execs_nil->Ox,wpAny_dictEpoch->Oy,letOwnedTupleGo->Oz,wpAny_isOneOf_valiter->Pb,wpAny_updateSeq_pair->Ph,wpAny_pyIter_keyiter->Pj,isSubtype_type->Pk,isSubtype_stop->Pm,standAt->Pr,getMethod->Pt,Keyword->Px,wpAny_standAt->Qe,wpAny_onRaise->Qf,field->Qg,IsZip->Qn,wpAny_dictSet_heap->Qo,entryOfKey->Qp,wpAny_pyIter_slot->Rb,valueAt->Rf,callerA->Rg,wpAny_eqBool_int->Rm,wpAny_Dict_empty->Rn,pyIter->Ro,noFill_tuple_add->Rp,Params->Rr,IsPart->Rt,wpAny_letGo->Ru,storedH_new->Rw,importedModules->Sf,Sem->Sg,Within->Si,getItem->Sn,BindsTo->Ss,entry_at->Su,carriedByValue->Sv,wpAny_handled->Ta,seq_tuple_add->Tb,rangeSize_one->Tc,call->Td,treeTable->Tg,bindL->Ti,bindC->Tj,PassesOwn->Tn,typeOf->Tq,stored->Ts,newExc->Tt,isTrue->Tu,concat_meets->Tv,call_range_1->Tw,Tok->Tz,Result->Ua,Env->Ub,ItemsOf->Uc,wpAny_throw->Uh,seqIndex_of->Ui,getAttr?->Uj,entryFor->Uk,callWith->Ul,wpAny_Name->Um,typeIs_str->Uo,typeIs_int->Uq,reduceHash->Ur,isInstance->Us,closureFor->Ut,builtinsNs->Uu,unaryOp->Uv,setItem->Uw,putAt->Ux,dictSet->Uy,seqIndex?->Va,eqIsQuiet->Vb,cellsFrom->Vc
open List renaming length_map->Ab,mem_singleton->Af,length_append->Ak,getElem?_eq_some_iff->Am,mem_of_getElem?->Ao,mem_map->Ap,mem_cons->Au,getElem?_map->Av,map_append->Aw,mem_append->Ba,map_cons->Bd,mem_append_left->Be,size_toArray->Bh,mem_append_right->Bi,mem_cons_of_mem->Bj,mem_cons_self->Bl,map_map->Bm,getElem?_eq_getElem->Bn,take_length->Bp,length_cons->Bw,replicate->Bz,nodup_cons->Ca,take_add_one->Cb,nodup_append->Cd,append_nil->Ce,lookup->Cf,range->Ci,length_take->Ck,find?_cons->Cq,append_assoc->Dc,length_singleton->Dl,mem_filter->Dq,nodup_nil->Dx,map_congr_left->Dy,lookup_cons->Dz,filterMap_cons->Ea,filter_cons->Ed,not_mem_nil->Em,length_eq_zero_iff->Eo,getElem?_cons_succ->Ep,exists_cons_of_ne_nil->Er,mem_range->Ew,replicate_succ->Ez,mem_of_mem_take->Ff,any_cons->Fh,all_eq_true->Fj,drop_eq_getElem_cons->Fq,length_filter_le->Fw,foldl_cons->Fz,length_drop->Gf,any_eq_true->Gg,nodup_iff_pairwise_ne->Gk,length_range->Gm,flatten_cons->Gn,mem_nil_iff->Gv,mem_zipIdx_iff_getElem?->Hb,getElem?_append_right->Hh,take_append_drop->Hj,getElem?_of_mem->Hs,length_pos_iff->Ia,cons_ne_nil->Ic,length->Ii,mem_filterMap->Ij,filter_append->Ik,length_replicate->Iv,pairwise_map->Iy,flatten_append->Jn,filter_sublist->Jo,all_cons->Jv,nil_append->Jx,length_nil->Jy,forIn_cons->Jz,zip_cons_cons->Kd,filterMap_map->Ke,take_of_length_le->Ks,foldl_append->Kt,any_map->Ku,eq_nil_or_concat->Lc,concat_eq_append->Ld,zipIdx_cons->Le,perm_middle->Lf,mem_of_mem_drop->Ln,all_map->Mb,getElem?_append_left->Mj,map_drop->Mz,map_nil->Nn,append_eq_nil_iff->Np,of_mem_zip->Nx,getElem?_eq_none->Oc,forIn_nil->Oi,drop_zero->Oj,getElem?_range->Pa,sum_cons->Pe,map_take->Pf,nodup_range->Qi,mem_flatMap->Qj,getElem_mem->Qk,drop_append->Ql,filter->Qw,take_left'->Qy,map_const'->Qz,drop_drop->Rk,getD->Sl,map->Sz,foldl->To,Nodup->Ve
open PySem.W renaming Frag->Ac,findIn->Fe,kia_one->Fu,fnOf->Fv,keepIn->Gh,emptyDict->Gi,instObj->Hl,mg_of->Jm,kitOne->Kf,codeIn->Kg,callWith_K->Lu,plainGet->Ms,isFn->Nf,lookIn->Nt,plainGet_of->Of,methodObj->Pc,hasDictIn->Pd,takerIn->Py,makesIn->Pz,OpenLaw->Qa,nsIn->Rq
open PySem.Heap renaming get?_push_of_some->Ah,get?_push_size->Bb,lt_size->Bg,SameBut->Ek,size_push->Gp,get?_update_self->Hk,get?_update_other->Kv,ExtBut->Ol,IsTuple->Uz
open Nat renaming le_refl->Ai,le_trans->Ar,ne_of_lt->Br,lt_of_lt_of_le->Bv,zero_le->Cn,ne_of_gt->Ct,succ_le_succ->Ee,lt_trans->Fp,lt_of_le_of_lt->Gb,le_of_lt->Hf,le_succ->Hg,toDigits->Ht,lt_succ_self->Ih,lt_irrefl->Iu,lt_of_succ_lt->Ky,add_assoc->Lm,pow_le_pow_right->Lp,min_le_left->Lw,add_le_add_left->Ma,lt_succ_of_lt->Mw,lt_succ_of_le->Mx,le_succ_of_le->My,lt_succ_iff_lt_or_eq->Ni,toDigits_of_lt_base->Nk,zero_add->Nv,sub_self->Nw,min_eq_left->Ob,sub_add_cancel->Pp,succ_mul->Qc,le_of_eq->Qd,min_le_right->Qs,lt_of_not_le->Qt,le_add_right->Qv,le_add_left->Ri,digitChar->Sk,succ_pos->Sw,sub_zero->Sx,log2_lt->Te
open Option renaming map_eq_some_iff->Az,isSome_iff_exists->Ef,isSome_map->Ki
open Bool renaming false_ne_true->Bf,and_eq_true->Dg,eq_iff_iff->Dw,false_eq_true->Fg,not_not->Ga,or_true->Kw,false_or->Na,false_and->Om,not_true->Pg,or_eq_true->Ra,true_and->Ry,or_false->Rz
open False renaming elim->Bq
open PySem.Str renaming ofString->Bs,empty->Qr
open Ne renaming symm->Bx
open PyProof.Rows renaming callWith_type1->Cj,slot_tuple_getitem->Jt,envOfC->Li,AllBare->Ow,IntsAre->Ue
open Option.some renaming inj->Co
open PySem.Builtin.SmallTypes renaming ownedTupleIsFree->Cv,nextOf->Cy,stopIteration->Iz
open PySem.Paired renaming length->Cw,snoc->So
open PySem.Txt renaming partition->Cz,mul->Ib,upper->Qq
open Int renaming toNat_natCast->De,emod_lt_of_pos->Ei,emod_nonneg->Fi,zero_add->Md,eq_ofNat_of_zero_le->Nl,le_trans->Ny,natCast_add->Od,natCast_nonneg->Pq,lt_trans->Sy,le_refl->Tf,not_lt->Ug
open Prod renaming fst->Eb,snd->Ju,ext->Nj
open PySem.Builtin.Tuple renaming tupleHashOf->El,tupleExact->Gr
open List.cons renaming injEq->Es,inj->Qx
open PySem.F renaming slot_dict_valueiterator_next->Fo,slot_dict_keyiterator_next->Fx,slot_tuple_hash->Js,entry_dict_get->Kh,slot_tuple_eq->Kq,slot_dict_get->Kr,slot_dict_setdefault->Lj,args_tuple_add_2->Mi,plainAttrs_dict->Mu,entry_tuple_add->Mv,slot_tuple_add->Ng
open Array renaming length_toList->Fs,getElem?_toList->Ft,toArray_toList->Hr,getElem?_eq_some_iff->Jc,forIn_toList->Kb,toList_append->Ov
open PySem.Heap.SameBut renaming update->Ge
open Classical renaming byContradiction->Gq
open PySem.Builtin.Dict_items renaming ownsTuple->Gs
open PySem.Builtin.Range renaming rangeSize->Hm
open PySem.Around renaming under_plainId->Hn,under->Sa
open PySem.Obj renaming data_mapFields->Il,data_mapDictKeys->Lo,isFreed_of_fields->Og,mapSeq->Po,cls_mapFields->Qb,mapFields->Sj
open PySem.Builtin.Slice renaming slicePlaces->Im,sliceAdjust->Ll
open PySem.PyData renaming depth->Jd,eqv->Lz,eqvAll->Ot,depthAll->Qh,strOk->Rx
open PySem.Builtin.Dict renaming updateFrom->Jf,showsAll->Ka,keyAndDefault->Lg
open PySem.Builtin.Str renaming occurrences->Jj,strSub->Nz
open PySem.AutoSeq1 renaming wpAny_loadPart'->Jk
open PySem.Calls renaming callWith_builtin->Km,spliced_cons->Me,spliced_nil->Ml
open Function renaming comp->Kz
open PySem.PassesOwn renaming never->Lb
open PySem.Builtin.List renaming listTooLong->Lr
open Prod.mk renaming inj->Mf
open Sum.inl renaming injEq->Mh
open PySem.W.OpenRow renaming toRowW->Nu
open PySem.W.KT renaming len_num->Oa
open Sum.inr renaming injEq->Oh,inj->Pu
open PySem.W.RowW renaming records->Pw
open PySem.Walks renaming list->Rh
open Nat.succ renaming inj->Rj
open Iff renaming rfl->Rl
open PySem.IsRange renaming new->Sm
open PySem.Code renaming isFrame->Sq
open Char renaming toNat->Tp
open PyProof.Rows.IsTup renaming new->Ud
open PySem.SeqAt renaming EqAt->Vd
theorem Vf.{u}{c:Prop}{h:Decidable c}(n:¬c){q:Sort u}{t e:q}:ite c t e=e:=if_neg n
theorem Vg.{u}{c:Prop}{h:Decidable c}(n:c){q:Sort u}{t e:q}:ite c t e=t:=if_pos n
theorem Vh{p:Prop}[Decidable p](h:decide p=ab):p:=of_decide_eq_true h
theorem Vi{p:Prop}[Decidable p](h:p):decide p=ab:=decide_eq_true h
theorem Vj{p:Prop}[Decidable p](h:¬p):decide p=ac:=decide_eq_false h
set_option Elab.async false
set_option compiler.extract_closed false
set_option bootstrap.genMatcherCode false
set_option linter.all false
noncomputable section
set_option genSizeOf false
set_option maxRecDepth 100000
open PySem Spec PyProof.Rows
namespace L2
open PySem Spec PyProof.Rows
def dS(s:Jl)(j:Nat):Jl:=match s with
 | .ClassDef _ _ _ a _ _ _ _ _ _ _=>a.getD j (.Pass ⟨0,0,0,0⟩)
 | _=>.Pass ⟨0,0,0,0⟩
def jL(s:Jl):Arguments:=match s with
 | .FunctionDef _ a _ _ _ _ _ _ _ _=>a
 | _=>{posonlyargs:=[],args:=[],vararg:=ae,kwonlyargs:=[],kw_defaults:=[],kwarg:=ae,defaults:=[]}
def gF(s:Jl):↑Jl:=match s with
 | .FunctionDef _ _ b _ _ _ _ _ _ _=>b
 | _=>[]
def dO(s:Jl):Kl:=match s with
 | .FunctionDef _ _ _ _ _ _ sc _ _ _=>sc
 | _=>{kind:=.function,names:=[],isGenerator:=ac,isCoroutine:=ac}
end L2
namespace L2
open PySem Spec PyProof.Rows L2
structure Q5 where
 x:String
 q:String
 s:Jl
 m:Ae
 b:Bool
 r:Nat
 t:Nat
 l:Int
 n:Int
 k:Nat
def top(i:Nat):Jl:=Vl.main.body.getD i (.Pass ⟨0,0,0,0⟩)
def en(P:Rr)(x:String)(t:Tz)(v:Ae):Eg:=⟨PyData.keyHash P (Bs x),.str (Bs x) t,v⟩
abbrev sT(x:String)(t:Tz):Ae:=.str (Bs x) t
abbrev cO(x:String)(a:Tz)(q:String)(b c:Tz)(l n:Int)(r:An)(u v w y z:Ae)(k:Int)(d:Tz):Lv:=⟨.type "code",ae,.fields #[sT x a,sT q b,sT "/claim/cut.py" c,.int l 0,.int n 0,.int 0 0,.int 0 0,.int 3 0,.ref r,.bool ab,.int 181 0,u,v,w,y,z,.int k 0,.int l 0,sT "/claim/cut.py" d],#[]⟩
abbrev fO(x q:Ay)(s:Jl)(m c:Ae):Fc:=Fv x q (jL s) (gF s) (dO s) .none .none .none m ae c .none
abbrev m0:Ae:=sT "readgrove.grammars" 223
abbrev m1:Ae:=sT "readgrove.covers" 284
abbrev m2:Ae:=sT "readgrove.queues" 311
abbrev m3:Ae:=sT "readgrove.leasts" 379
abbrev m4:Ae:=sT "readgrove.spans" 543
abbrev m5:Ae:=sT "readgrove.nexts" 560
abbrev m6:Ae:=sT "readgrove.plainer" 579
abbrev m7:Ae:=sT "law_readgrove_k64_whole_rows_as_ahead" 800
def Q5.c(d:Q5):An:=d.r+(if d.b then 3 else 5)
abbrev Q5.fd(d:Q5):Fc:=fO d.x d.q d.s d.m (.ref d.c)
def Q5.g(d:Q5)(i:Nat):Ae:=if d.b then .none else .ref (d.r+i)
def Q5.o(d:Q5):↑(An×Lv):=[(d.c,cO d.x d.t d.q (d.t+1) (d.t+2) d.l d.n d.r (.ref (d.r+1)) .none (d.g 2) (d.g 3) (.ref (d.r+(if d.b then 2 else 4))) d.k (d.k+1)),(d.c+1,⟨.type "function",ae,.func d.fd,#[]⟩)]
def tbl:↑Q5:=[⟨"made_of","made_of",top 6,m0,ab,40,229,9,2,232⟩,
 ⟨"is_name","is_name",top 7,m0,ac,45,235,11,1,241⟩,
 ⟨"names","names",top 8,m0,ac,52,244,15,1,250⟩,
 ⟨"first_name","first_name",top 9,m0,ac,59,253,20,1,257⟩,
 ⟨"rules_of","rules_of",top 10,m0,ab,66,260,22,2,263⟩,
 ⟨"check_rule","check_rule",top 11,m0,ac,71,266,24,2,272⟩,
 ⟨"grammar_of","grammar_of",top 12,m0,ac,78,275,30,1,281⟩,
 ⟨"marks","marks",top 14,m1,ab,85,286,38,1,289⟩,
 ⟨"places_of","places_of",top 15,m1,ac,90,292,40,1,296⟩,
 ⟨"row_steps","row_steps",top 16,m1,ab,97,299,42,1,302⟩,
 ⟨"part_facts","part_facts",top 17,m1,ab,102,305,44,3,308⟩,
 ⟨"__init__","Queue.__init__",dS (top 19) 0,m2,ac,114,325,49,1,329⟩,
 ⟨"is_done","Queue.is_done",dS (top 19) 1,m2,ac,121,332,53,1,336⟩,
 ⟨"place_of","Queue.place_of",dS (top 19) 3,m2,ac,135,348,62,2,356⟩,
 ⟨"put","Queue.put",dS (top 19) 2,m2,ac,128,339,56,3,345⟩,
 ⟨"take","Queue.take",dS (top 19) 4,m2,ac,142,359,73,1,366⟩,
 ⟨"added","added",top 21,m3,ac,156,381,82,2,386⟩,
 ⟨"__init__","Search.__init__",dS (top 22) 0,m3,ac,170,401,86,3,407⟩,
 ⟨"reach","Search.reach",dS (top 22) 1,m3,ac,177,410,96,4,418⟩,
 ⟨"settle","Search.settle",dS (top 22) 4,m3,ac,198,448,123,4,460⟩,
 ⟨"step_by_name","Search.step_by_name",dS (top 22) 3,m3,ac,191,435,118,5,445⟩,
 ⟨"take_next","Search.take_next",dS (top 22) 2,m3,ac,184,421,102,1,432⟩,
 ⟨"least_trees","least_trees",top 23,m3,ac,212,479,132,4,489⟩,
 ⟨"facts_within","facts_within",top 24,m3,ab,219,492,140,3,495⟩,
 ⟨"knot_of","knot_of",top 27,m3,ac,238,526,167,2,531⟩,
 ⟨"same_word","same_word",top 26,m3,ac,231,517,165,3,523⟩,
 ⟨"made_of_best","made_of_best",top 25,m3,ac,224,498,151,5,514⟩,
 ⟨"best_tree","best_tree",top 28,m3,ac,245,534,169,3,540⟩,
 ⟨"row_trees","row_trees",top 30,m4,ac,252,545,172,3,551⟩,
 ⟨"no_weights","no_weights",top 31,m4,ab,259,554,174,1,557⟩,
 ⟨"words_of","words_of",top 33,m5,ac,264,562,177,1,570⟩,
 ⟨"shortest_lengths","shortest_lengths",top 34,m5,ab,271,573,185,1,576⟩,
 ⟨"made_names","made_names",top 38,m6,ac,276,585,192,2,594⟩,
 ⟨"slots","slots",top 39,m6,ac,283,597,202,1,601⟩,
 ⟨"__init__","Plainer.__init__",dS (top 40) 0,m6,ac,297,616,206,1,620⟩,
 ⟨"put_rule","Plainer.put_rule",dS (top 40) 1,m6,ac,304,623,209,4,630⟩,
 ⟨"is_part","Plainer.is_part",dS (top 40) 2,m6,ab,311,633,212,2,636⟩,
 ⟨"grammar_and_backs","Plainer.grammar_and_backs",dS (top 40) 3,m6,ac,316,639,215,1,643⟩,
 ⟨"nothing_read","nothing_read",top 41,m6,ac,330,655,217,1,661⟩,
 ⟨"empty_trees","empty_trees",top 42,m6,ab,337,664,222,1,667⟩,
 ⟨"wordy_names","wordy_names",top 43,m6,ab,342,670,225,1,673⟩,
 ⟨"thinned","thinned",top 44,m6,ab,347,676,237,4,679⟩,
 ⟨"put_thinned","put_thinned",top 45,m6,ac,352,682,244,5,694⟩,
 ⟨"no_empty","no_empty",top 46,m6,ac,359,697,250,1,710⟩,
 ⟨"check_no_empty","check_no_empty",top 47,m6,ab,366,713,269,1,716⟩,
 ⟨"is_single","is_single",top 48,m6,ac,371,719,275,2,724⟩,
 ⟨"single_chains","single_chains",top 49,m6,ac,378,727,277,3,738⟩,
 ⟨"chain_pieces","chain_pieces",top 50,m6,ac,385,741,288,3,749⟩,
 ⟨"put_chained","put_chained",top 51,m6,ab,392,752,293,4,755⟩,
 ⟨"no_single","no_single",top 52,m6,ac,397,758,301,1,765⟩,
 ⟨"long_ends","long_ends",top 53,m6,ac,404,768,310,1,775⟩,
 ⟨"shortened","shortened",top 54,m6,ac,411,778,316,2,783⟩,
 ⟨"twos","twos",top 55,m6,ac,418,786,318,1,797⟩,
 ⟨"_law_cell_at","_law_cell_at",top 57,m7,ac,425,802,330,2,807⟩,
 ⟨"_law_stir","_law_stir",top 58,m7,ac,432,810,334,2,816⟩,
 ⟨"_law_drawn","_law_drawn",top 59,m7,ac,439,819,338,2,827⟩,
 ⟨"_law_unlike","_law_unlike",top 60,m7,ac,446,830,348,3,844⟩,
 ⟨"_law_rule","_law_rule",top 61,m7,ac,453,847,363,4,857⟩,
 ⟨"_law_rules","_law_rules",top 62,m7,ab,460,860,372,3,863⟩,
 ⟨"_law_is_name","_law_is_name",top 63,m7,ac,465,866,381,1,870⟩,
 ⟨"_law_all_in","_law_all_in",top 64,m7,ab,472,873,383,2,876⟩,
 ⟨"_law_chosen","_law_chosen",top 65,m7,ac,477,879,385,1,889⟩,
 ⟨"_law_grow","_law_grow",top 66,m7,ac,484,892,393,4,904⟩,
 ⟨"_law_number","_law_number",top 67,m7,ac,491,907,410,1,911⟩,
 ⟨"_law_words","_law_words",top 68,m7,ac,498,914,414,1,920⟩,
 ⟨"_law_ends","_law_ends",top 69,m7,ab,505,923,421,4,926⟩,
 ⟨"_law_reads","_law_reads",top 70,m7,ab,510,929,433,2,932⟩,
 ⟨"_law_taken","_law_taken",top 71,m7,ab,515,935,444,2,938⟩,
 ⟨"_law_rows","_law_rows",top 72,m7,ab,520,941,453,3,944⟩,
 ⟨"law","law",top 73,m7,ac,525,947,468,1,958⟩]
def xC(P:Rr)(x:String)(a t:Nat)(l:Int):↑(An×Lv):=[(a-1,⟨.type "dict",ae,.dict [en P "__module__" (t+7) (sT "readgrove.errors" 187),en P "__firstlineno__" (t+11) (.int l (t+10)),en P "__static_attributes__" (t+12) (.ref (a-2)),en P "__doc__" (t+13) .none].toArray 2,#[]⟩),(a,⟨.type "type",ae,.cls ⟨x,[.ref 24],[.ref a,.ref 24,.type "ValueError",.type "Exception",.type "BaseException",.type "object"],a-1,x,ab,[],[],ac,ae,ac⟩,#[aa (.ref (a-9)),ae,aa (sT x t),aa (sT x (t+8)),aa (.builtin "ValueError.__new__"),aa (.bool ab)]⟩)]
def dL(i:Nat):Q5:=tbl.getD i ⟨"","",top 0,.none,ab,0,0,0,0,0⟩
def CJ(i:Nat):An:=(dL i).c+1
def eP(P:Rr)(i:Nat):Eg:=en P (dL i).x ((dL i).k+2) (.ref (CJ i))
def hpK:Rr->Ac:=λP=>tbl.flatMap Q5.o++xC P "NoGrammar" 37 207 4++[(nat_lit 3,⟨(.type "dict"),ae,.dict ([en P "__name__" 165 (sT "law_readgrove_k64_whole_rows_as_ahead" 800),en P "__doc__" 166 .none,en P "__package__" 167 .none,en P "__loader__" 168 (.builtin "__main__.__loader__#opaque"),en P "__spec__" 169 .none,en P "__annotations__" 170 (.ref 6),en P "__builtins__" 171 (.ref 4),en P "__file__" 173 (sT "/claim/cut.py" 172),en P "__cached__" 174 .none,en P "GroveError" 206 (.ref 24),en P "NoGrammar" 222 (.ref 37),en P "GREAT_LETTERS" 226 (sT "ABCDEFGHIJKLMNOPQRSTUVWXYZ" 225),en P "FIGURES" 228 (sT "0123456789" 227)]++[0,1,2,3,4,5,6,7,8,9,10].map (eP P)++[en P "Queue" 378 (.ref 151)]++[16].map (eP P)++[en P "Search" 478 (.ref 207)]++[22,23,26,25,24,27,28,29,30,31].map (eP P)++[en P "WHOLE" 582 (sT "whole" 581),en P "FIGURED_NAMES" 584 (.int 10000 583)]++[32,33].map (eP P)++[en P "Plainer" 654 (.ref 325)]++[38,39,40,41,42,43,44,45,46,47,48,49,50,51,52,53,54,55,56,57,58,59,60,61,62,63,64,65,66,67,68,69].map (eP P)).toArray 74,#[]⟩),
 (nat_lit 23,⟨(.type "dict"),ae,.dict [en P "__module__" 196 (sT "readgrove.errors" 187),en P "__firstlineno__" 200 (.int 2 199),en P "__static_attributes__" 201 (.ref 22),en P "__weakref__" 203 (.ref 25),en P "__doc__" 204 .none].toArray 3,#[]⟩),
 (nat_lit 24,⟨(.type "type"),ae,.cls ⟨(Bs "GroveError"),[(.type "ValueError")],[(.ref 24),(.type "ValueError"),(.type "Exception"),(.type "BaseException"),(.type "object")],23,(Bs "GroveError"),ab,[],[(.ref 37)],ac,ae,ac⟩,#[aa (.ref 15),ae,aa (sT "GroveError" 189),aa (sT "GroveError" 197),aa (.builtin "ValueError.__new__"),aa (.bool ab)]⟩),
 (nat_lit 150,⟨(.type "dict"),ae,.dict [en P "__module__" 320 (sT "readgrove.queues" 311),en P "__firstlineno__" 324 (.int 47 323),en P "__init__" 331 (.ref 120),en P "is_done" 338 (.ref 127),en P "put" 347 (.ref 134),en P "place_of" 358 (.ref 141),en P "take" 368 (.ref 148),en P "__static_attributes__" 371 (.ref 149),en P "__dict__" 373 (.ref 152),en P "__weakref__" 375 (.ref 153),en P "__doc__" 376 .none].toArray 4,#[]⟩),
 (nat_lit 151,⟨(.type "type"),ae,.cls ⟨(Bs "Queue"),[(.type "object")],[(.ref 151),(.type "object")],150,(Bs "Queue"),ab,[],[],ac,ae,ac⟩,#[ae,ae,aa (sT "Queue" 313),aa (sT "Queue" 321),aa (.builtin "object.__new__"),aa (.bool ab)]⟩),
 (nat_lit 206,⟨(.type "dict"),ae,.dict [en P "__module__" 396 (sT "readgrove.leasts" 379),en P "__firstlineno__" 400 (.int 84 399),en P "__init__" 409 (.ref 176),en P "reach" 420 (.ref 183),en P "take_next" 434 (.ref 190),en P "step_by_name" 447 (.ref 197),en P "settle" 462 (.ref 204),en P "__static_attributes__" 471 (.ref 205),en P "__dict__" 473 (.ref 208),en P "__weakref__" 475 (.ref 209),en P "__doc__" 476 .none].toArray 4,#[]⟩),
 (nat_lit 207,⟨(.type "type"),ae,.cls ⟨(Bs "Search"),[(.type "object")],[(.ref 207),(.type "object")],206,(Bs "Search"),ab,[],[],ac,ae,ac⟩,#[ae,ae,aa (sT "Search" 389),aa (sT "Search" 397),aa (.builtin "object.__new__"),aa (.bool ab)]⟩),
 (nat_lit 324,⟨(.type "dict"),ae,.dict [en P "__module__" 611 (sT "readgrove.plainer" 579),en P "__firstlineno__" 615 (.int 204 614),en P "__init__" 622 (.ref 303),en P "put_rule" 632 (.ref 310),en P "is_part" 638 (.ref 315),en P "grammar_and_backs" 645 (.ref 322),en P "__static_attributes__" 647 (.ref 323),en P "__dict__" 649 (.ref 326),en P "__weakref__" 651 (.ref 327),en P "__doc__" 652 .none].toArray 4,#[]⟩),
 (nat_lit 325,⟨(.type "type"),ae,.cls ⟨(Bs "Plainer"),[(.type "object")],[(.ref 325),(.type "object")],324,(Bs "Plainer"),ab,[],[],ac,ae,ac⟩,#[ae,ae,aa (sT "Plainer" 604),aa (sT "Plainer" 612),aa (.builtin "object.__new__"),aa (.bool ab)]⟩)]
def N5:↑An:=tbl.flatMap (λd=>[d.c,d.c+1])++[36,37,3,23,24,150,151,206,207,324,325]
def qv:Bc:={Vl with main:={Vl.main with body:=([1,2,4,5,6,7,8,9,10,11,12,14,15,16,17,19,21,22,23,24,25,26,27,28,30,31,33,34,36,37,38,39,40,41,42,43,44,45,46,47,48,49,50,51,52,53,54,55,57,58,59,60,61,62,63,64,65,66,67,68,69,70,71,72,73]:↑Nat).map top}}
def hk:PySem.W.Hook:=PySem.W.kHook hpK N5 (λ_=>by kernel_rfl)
theorem CK{Z q j:Type}{o:Option Z}{f:Z->q}{g:Z->j}{a:q}{b:j}(h:o.map f=aa a)(k:o.map g=aa b):o.map (λs=>(f s,g s))=aa (a,b):=by
 cases o with
 | none=>cases h
 | some s=>cases h;cases k;rfl
open PySem.W in
theorem sW(p:Bc)(w:Bo)(N:Nat):openEnds Tg p w N=(fencedOpening Tg p w N).bind λs=>match s.heap.isNs Ec&&s.gens.size==0 with
 | true=>(PySem.W.Fast.tw14082659384304107361 PySem.W.Fast.tw14364793385576792824 p w ⇑s (s.heap.nsMap Ec "__annotations__") N s (topStub p)).bind λt=>match staticsOk (Sf p.main.body) s.heap t.heap&&namesBound p t.heap&&gensDone t&&laidKept s.heap t.heap with
  | true=>aa t
  | false=>ae
 | false=>ae:=by rw[<-PySem.W.Fast.te14082659384304107361,<-PySem.W.Fast.te14364793385576792824];rfl
abbrev mR(w:Bo):=PySem.W.openEnds Tg Vk.row.prog w 6656
open PySem.W in
abbrev kI:=λs=>openSeen qv [] (Sf Vk.row.prog.main.body) (λs=>xlAt qv [] s&&recOk (Pw (Nu Vk.row)) s) ab s
set_option maxHeartbeats 0 in
theorem CL(w:Bo):(mR w).map hk.obs=aa (hk.val w):=by unfold mR;rw[sW];kernel_rfl
set_option maxHeartbeats 0 in
open PySem.W in
theorem N6(w:Bo):(mR w).map (λs=>(kI s).1)=aa (openGood qv []).1:=by unfold mR;rw[sW];kernel_rfl
set_option maxHeartbeats 0 in
open PySem.W in
theorem N7(w:Bo):(mR w).map (λs=>((kI s).2.1,(kI s).2.2.1,(kI s).2.2.2.1))=aa (bltViewBooted,ab,ab):=by unfold mR;rw[sW];kernel_rfl
set_option maxHeartbeats 0 in
open PySem.W in
theorem N8(w:Bo):(mR w).map (λs=>(kI s).2.2.2.2)=aa (pinGoodD (drecsOf qv),plainGoodE qv (looseW qv []),plainGoodD qv [],wideGood qv,clsGoodW qv []):=by unfold mR;rw[sW];kernel_rfl
theorem N9{Z q j m l i:Type}{o:Option Z}{e:Z->i}{f:Z->q}{g:Z->j}{h:Z->m}{k:Z->l}{u:i}{a:q}{b:j}{c:m}{d:l}(v:o.map e=aa u)(x:o.map (λs=>(f s,g s,h s))=aa (a,b,c))(z:o.map k=aa d):o.map (λs=>(e s,f s,g s,h s,k s))=aa (u,a,b,c,d):=by
 cases o with
 | none=>cases v
 | some s=>cases v;cases x;cases z;rfl
open PySem.W in
theorem mS(w:Bo):(openEnds Tg Vk.row.prog w 6656).map (λs=>openSeen qv [] (Sf Vk.row.prog.main.body) (λs=>xlAt qv [] s&&recOk (Pw (Nu Vk.row)) s) ab s)=aa (openGood qv []):=N9 (e:=λs=>(kI s).1) (f:=λs=>(kI s).2.1) (g:=λs=>(kI s).2.2.1) (h:=λs=>(kI s).2.2.2.1) (k:=λs=>(kI s).2.2.2.2) (N6 w) (N7 w) (N8 w)
set_option maxHeartbeats 0 in
theorem sX:Vk.wellSaid=ab:=by kernel_rfl
@[elab_as_elim]theorem rwm{α:Sort _}{a b:α}{motive:α->Prop}(h:a=b)(k:motive b):motive a:=h▸k
local macro_rules|`(tactic|rw [$rs,*])=>do{let ts←rs.getElems.mapM fun r=>match r with|`(Lean.Parser.Tactic.rwRule|←$h:term)=>`(tactic|first|refine rwm (Eq.symm ($h ..)) ?_|rewrite [←$h:term])|`(Lean.Parser.Tactic.rwRule|$h:term)=>`(tactic|first|refine rwm ($h ..) ?_|rewrite [$h:term])|_=>Lean.Macro.throwUnsupported;`(tactic|(($[$ts];*);try with_reducible rfl))}
open PySem.W in
theorem OA:LeftO Vk.row.prog qv [] (λs=>xlAt qv [] s&&recOk (Pw (Nu Vk.row)) s) hk.obs hk.val 6656:=λw=>CK (mS w) (CL w)
end L2
namespace L2
abbrev Pn:=↑(An×Lv)
abbrev lO(x:Array Ae)(n:Nat:=0):Lv:={cls:=.type "list",data:=.seq x n}
abbrev Db(x:Ay):Prop:=(x==("__debug__" : Ay))=ac
abbrev aC:=Sum Int Ay
def n6:aC->Ae->Bool
 | .inl k,v=>Value.isInt k v
 | .inr x,v=>Value.isStrOf x v
def OB(w:Bo):aC->Int
 | .inl k=>hashInt k
 | .inr x=>hashStr w x
theorem kJ:∀{k:aC} {v:Ae},n6 k v=ab->(∃i t,k=Sum.inl i/\v=Value.int i t)\/(∃x t,k=Sum.inr x/\v=Value.str x t)
 | .inl i,v,h=>by
  let⟨t,e⟩:=Value.isInt_shape (k:=i) (v:=v) h;exact .inl ⟨i,t,rfl,e⟩
 | .inr x,v,h=>by
  let⟨t,e⟩:=Value.isStrOf_shape (x:=x) (v:=v) h;exact .inr ⟨x,t,rfl,e⟩
theorem OC(i:Int)(t:Tz):n6 (.inl i) (.int i t)=ab:=by simp[n6,Value.isInt]
theorem OD(x:Ay)(t:Tz):n6 (.inr x) (.str x t)=ab:=by simp[n6,Value.isStrOf]
theorem OE(a b:Int):decide ((Sum.inl a:aC)=Sum.inl b)=(a==b):=by
 by_cases e:a=b
 .subst e;simp
 .have h:¬(Sum.inl a:aC)=Sum.inl b:=λq=>e (Sum.inl.inj q);rw[Vj h];exact(beq_eq_false_iff_ne.mpr e).symm
theorem OF(a b:Ay):decide ((Sum.inr a:aC)=Sum.inr b)=decide (a=b):=by
 by_cases e:a=b
 .subst e;simp
 .have h:¬(Sum.inr a:aC)=Sum.inr b:=λq=>e (Pu q);rw[Vj h,Vj e]
theorem OG(a:Int)(b:Ay):decide ((Sum.inl a:aC)=Sum.inr b)=ac:=Vj (λq=>nomatch q)
theorem OH(a:Ay)(b:Int):decide ((Sum.inr a:aC)=Sum.inl b)=ac:=Vj (λq=>nomatch q)
def bR(prog:Bc)(w:Bo):PySem.KeyKind prog w aC where
 is:=n6
 hash:=OB w
 inj:=λv a b m G=>by
  rcases kJ m with⟨i,t,rfl,rfl⟩|⟨x,t,rfl,rfl⟩
  .rcases kJ G with⟨j,u,rfl,e⟩|⟨y,u,rfl,e⟩
   .injection e with e1 _;rw[e1]
   .exact nomatch e
  .rcases kJ G with⟨j,u,rfl,e⟩|⟨y,u,rfl,e⟩
   .exact nomatch e
   .injection e with e1 _;rw[e1]
 byValue:=λk v h=>by
  rcases kJ h with⟨i,t,rfl,rfl⟩|⟨x,t,rfl,rfl⟩<;>rfl
 pyHash:=λc h=>by
  rcases kJ c with⟨i,t,rfl,rfl⟩|⟨x,t,rfl,rfl⟩
  .exact wpAny_pyHash_int h
  .exact wpAny_pyHash_str h
 eqBool:=λU c h=>by
  rcases kJ U with⟨i,t,rfl,rfl⟩|⟨x,t,rfl,rfl⟩
  .rcases kJ c with⟨j,u,rfl,rfl⟩|⟨y,u,rfl,rfl⟩
   .rw[OE]at h;exact Rm h
   .rw[OG]at h;exact SeqAt.EqAt.int_str i t y u _ _ _ _ h
  .rcases kJ c with⟨j,u,rfl,rfl⟩|⟨y,u,rfl,rfl⟩
   .rw[OH]at h;exact SeqAt.EqAt.str_int x t j u _ _ _ _ h
   .rw[OF]at h;exact wpAny_eqBool_str h
 «strs»:=λk x t v h=>by
  rcases kJ h with⟨i,u,rfl,e⟩|⟨y,u,rfl,e⟩
  .exact nomatch e
  .injection e with e1 _;subst e1;cases v<;>rfl
theorem OI(prog:Bc)(w:Bo)(i:Int)(t:Tz):(bR prog w).is (.inl i) (.int i t)=ab:=OC i t
theorem OJ(prog:Bc)(w:Bo)(x:Ay)(t:Tz):(bR prog w).is (.inr x) (.str x t)=ab:=OD x t
inductive V where
 | non|bl (b:Bool)|int (i:Int)|str (x:Ay)|byt (b:Array UInt8)|flt (b:UInt64)|ref (a:An)|ty (n:String)
 deriving DecidableEq
def RelV:V->Ae->Prop
 | .non,u=>u=Value.none
 | .bl b,u=>u=Value.bool b
 | .int i,u=>∃t,u=Value.int i t
 | .str x,u=>∃t,u=Value.str x t
 | .byt b,u=>∃t,u=Value.bytes b t
 | .flt b,u=>∃t,u=Value.float b t
 | .ref a,u=>u=Value.ref a
 | .ty n,u=>u=Value.type n
abbrev aZ:↑V->↑Ae->Prop:=Ey RelV
theorem aZ.length(r:aZ xs us):↥xs=↥us:=Cw r
theorem aZ.get:∀{xs:↑V} {us:↑Ae} {i:Nat} {x:V},aZ xs us->xs[i]? = aa x->∃u,us[i]? = aa u/\RelV x u
 | _,_,_,_,.nil,e=>by simp at e
 | _,_,0,_,.cons r _,e=>by simp at e;subst e;exact⟨_,rfl,r⟩
 | _,_,i+1,x,.cons _ t,e=>by
  let⟨u,h1,h2⟩:=aZ.get (i:=i) (x:=x) t (by simpa using e);exact⟨u,by simpa using h1,h2⟩
theorem aZ.set(r:RelV x u):∀{xs:↑V} {us:↑Ae} (i:Nat),aZ xs us->aZ (xs.set i x) (us.set i u)
 | _,_,_,.nil=>.nil
 | _,_,0,.cons _ t=>.cons r t
 | _,_,i+1,.cons q t=>.cons q (aZ.set r i t)
theorem aZ.append:∀{xs G:↑V} {us ws:↑Ae},aZ xs us->aZ G ws->aZ (xs++G) (us++ws):=by
 intro xs G us ws h s
 induction h with
 | nil=>exact s
 | cons r t E=>exact .cons r E
theorem aZ.take:∀{xs:↑V} {us:↑Ae} (n:Nat),aZ xs us->aZ (xs.take n) (us.take n)
 | _,_,0,_=>.nil
 | _,_,_+1,.nil=>.nil
 | _,_,n+1,.cons r t=>.cons r (aZ.take n t)
theorem aZ.drop:∀{xs:↑V} {us:↑Ae} (n:Nat),aZ xs us->aZ (xs.drop n) (us.drop n)
 | _,_,0,r=>r
 | _,_,_+1,.nil=>.nil
 | _,_,n+1,.cons _ t=>aZ.drop n t
def fS:Option V->Option Ae->Prop
 | some v,aa u=>RelV v u
 | none,ae=>True
 | _,_=>False
def KV{b:Type}:↑(b×V)->↑(b×Ae)->Prop:=Ey λ(p:b×V) (q:b×Ae)=>p.1=q.1/\RelV p.2 q.2
def kV:aC->V
 | .inl i=>.int i
 | .inr x=>.str x
inductive HO where
 | lst (xs:↑V)
 | tup (xs:↑V)
 | dK (kvs:↑(aC×V))|dT (kvs:↑(↑aC×V))
 | set (S:Int->Bool) (n:Nat)
 | ins (C dx:An) (fs:↑(Ay×V))
 | own (x:An)
 | xd (fs:↑(Ay×V))
 | met (f x:An)
 | rng (lo hi:Int)
 | frz (o:Lv) (u:HO)
 | tbl (ps:Array Ae)
 | ext (φ:Ds->Prop)
abbrev Hp:=An->Option HO
def aL(H:Hp)(a:An)(o:HO):Hp:=λb=>if b=a then aa o else H b
theorem bY{H:Hp}{a:An}{o:HO}:aL H a o a=aa o:=by unfold aL;rw[Vg rfl]
theorem a9{H:Hp}{a b:An}{o:HO}(h:b≠a):aL H a o b=H b:=by unfold aL;rw[Vf h]
theorem sY{H:Hp}{a b:An}{o u:HO}(h:H a=aa o)(h':H b=aa u)(d:o≠u):a≠b:=by
 intro e;subst e;rw[h]at h';exact d (Co h')
theorem eO{H:Hp}{a b:An}{o:HO}(h:H a=aa o)(h':H b=ae):a≠b:=by
 intro e;subst e;rw[h]at h';cases h'
section
variable (P:Bc)(w:Bo)
def bZ(H:Hp)(h:Ds)(a:An):HO->Prop
 | .lst xs=>↥xs<=Ax/\∃(its:↑Ae) (n:Nat),aZ xs its/\h.get? a=aa (lO its.toArray n)
 | .tup xs=>↥xs<=Ax/\∃its:↑Ae,aZ xs its/\IsTup h a its.toArray
 | .dK kvs=>↥kvs<=Ax/\(a==Fn)=ac/\∃vs,KV kvs vs/\h.DictOf (bR P w) a vs
 | .dT kvs=>↥kvs<=Ax/\(a==Fn)=ac/\∃xs:↑(↑aC×An×Ae),
   Ey (λ(p:↑aC×V) (q:↑aC×An×Ae)=>p.1=q.1/\H q.2.1=aa (.tup (p.1.map kV))/\RelV p.2 q.2.2) kvs xs/\
   ∃o es ep,h.get? a=aa o/\o.ExactDict/\o.data=.dict es ep/\es.toList=xs.map (Qp (Hc (bR P w)))/\(xs.map (·.1)).Nodup
 | .set S n=>h.SetOf (intKind P w) a S n
 | .ins C dx fs=>H dx=aa (.own a)/\↥fs<=1000/\dx≠a/\h.get? a=aa (Hl C dx)/\
   ∃g,h.Ns1 dx g/\(∀f,fS (fs.lookup f) (g f))/\Si g (fs.map (·.1))
 | .own _=>∃o,h.get? a=aa o
 | .xd fs=>∃g,h.Ns1 a g/\∀f,fS (fs.lookup f) (g f)
 | .rng lo hi=>∃t u v,h.get? a=aa {cls:=.type "range",data:=.fields #[.int lo t,.int hi u,.int 1 v]}
 | .frz o u=>h.get? a=aa o/\bZ H h a u
 | .tbl ps=>h.get? a=aa {cls:=.none,data:=.fields ps}
 | .met f x=>h.get? a=aa (Pc (.ref f) (.ref x))
 | .ext i=>i h/\(∃o,h.get? a=aa o)/\∀h1 h2:Ds,i h1->(∀o,h1.get? a=aa o->h2.get? a=aa o)->i h2
def cU(H:Hp)(h:Ds):Prop:=∀a o,H a=aa o->bZ P w H h a o
end
section
variable {P:Bc}{w:Bo}{H H':Hp}{h h':Ds}{a:An}{o:HO}
theorem bZ.lt(x:bZ P w H h a o):a<h.objs.size:=by
 cases o with
 | lst xs=>let⟨_,_,_,_,e⟩:=x;exact Bg e
 | tup xs=>let⟨_,_,_,p⟩:=x;exact p.lt
 | dK kvs=>let⟨_,_,_,_,o,_,_,e,_⟩:=x;exact Bg e
 | dT kvs=>let⟨_,_,_,_,o,_,_,e,_⟩:=x;exact Bg e
 | set S n=>let⟨o,_,_,_,e,_⟩:=x;exact Bg e
 | ins C dx fs=>let⟨_,_,_,e,_⟩:=x;exact Bg e
 | own y=>let⟨_,e⟩:=x;exact Bg e
 | xd fs=>obtain⟨_,⟨_,_,_,e,_⟩,_⟩:=x;exact Bg e
 | rng lo hi=>let⟨_,_,_,e⟩:=x;exact Bg e
 | frz ob u=>let⟨e,_⟩:=x;exact Bg e
 | tbl ps=>exact Bg (show h.get? a=aa _ from x)
 | met f y=>exact Bg (show h.get? a=aa _ from x)
 | ext i=>obtain⟨_,⟨_,e⟩,_⟩:=x;exact Bg e
theorem Paired.mapP{q j:Type}{F G:q->j->Prop}:∀{c:↑q} {d:↑j},Ey F c d->(∀a b,F a b->G a b)->Ey G c d:=by
 intro c d h f
 induction h with
 | nil=>exact .nil
 | cons r t E=>exact .cons (f _ _ r) E
theorem bZ.stay(x:bZ P w H h a o)(k:∀b u,(b=a\/H b=aa (.own a))->h.get? b=aa u->h'.get? b=aa u)(U:∀b,H b=aa (.own a)->H' b=aa (.own a))(ht:∀b xs,H b=aa (.tup xs)->H' b=aa (.tup xs)):bZ P w H' h' a o:=by
 induction o with
 | lst xs=>let⟨z,its,n,r,e⟩:=x;exact⟨z,its,n,r,k _ _ (.inl rfl) e⟩
 | tup xs=>let⟨z,its,r,ob,e,c⟩:=x;exact⟨z,its,r,ob,k _ _ (.inl rfl) e,c⟩
 | dK kvs=>let⟨z,y,vs,r,ob,es,ep,e,c⟩:=x;exact⟨z,y,vs,r,ob,es,ep,k _ _ (.inl rfl) e,c⟩
 | dT kvs=>
  let⟨z,y,xs,r,ob,es,ep,e,c⟩:=x;exact⟨z,y,xs,Paired.mapP r λp q z=>⟨z.1,ht _ _ z.2.1,z.2.2⟩,ob,es,ep,k _ _ (.inl rfl) e,c⟩
 | set S n=>let⟨ob,es,ep,t,e,c⟩:=x;exact⟨ob,es,ep,t,k _ _ (.inl rfl) e,c⟩
 | ins C dx fs=>
  obtain⟨d,z,ne,e,g,⟨D,es,ep,A,c⟩,r⟩:=x;exact⟨U _ d,z,ne,k _ _ (.inl rfl) e,g,⟨D,es,ep,k _ _ (.inr d) A,c⟩,r⟩
 | own y=>let⟨ob,e⟩:=x;exact⟨ob,k _ _ (.inl rfl) e⟩
 | xd fs=>obtain⟨g,⟨D,es,ep,e,c⟩,r⟩:=x;exact⟨g,⟨D,es,ep,k _ _ (.inl rfl) e,c⟩,r⟩
 | rng lo hi=>let⟨t,u,v,e⟩:=x;exact⟨t,u,v,k _ _ (.inl rfl) e⟩
 | frz ob u E=>let⟨e,q⟩:=x;exact⟨k _ _ (.inl rfl) e,E q⟩
 | tbl ps=>
  have e:h.get? a=aa {cls:=.none,data:=.fields ps}:=x;show h'.get? a=aa {cls:=.none,data:=.fields ps};exact k a _ (.inl rfl) e
 | met f y=>
  have e:h.get? a=aa (Pc (.ref f) (.ref y)):=x;show h'.get? a=aa (Pc (.ref f) (.ref y));exact k a _ (.inl rfl) e
 | ext i=>obtain⟨p,⟨o,e⟩,st⟩:=x;exact⟨st _ _ p λo q=>k _ _ (.inl rfl) q,⟨o,k _ _ (.inl rfl) e⟩,st⟩
theorem cU.lt(x:cU P w H h)(e:H a=aa o):a<h.objs.size:=(x a o e).lt
theorem cU.fresh(x:cU P w H h)(e:h.objs.size<=a):H a=ae:=by
 cases q:H a with
 | none=>rfl
 | some u=>exact absurd (Bv (x.lt q) e) (Iu _)
theorem cU.kept(x:cU P w H h)(k:∀b u,h.get? b=aa u->h'.get? b=aa u):cU P w H h':=λa o e=>
 (x a o e).stay (λb u _ q=>k b u q) (λ_ q=>q) λ_ _ q=>q
theorem cU.laid(x:cU P w H h)(k:∀b u,h.get? b=aa u->h'.get? b=aa u)(N:h.objs.size<=a)(new:bZ P w (aL H a o) h' a o):cU P w (aL H a o) h':=λb u e=>by
 have hn:=x.fresh N
 by_cases G:b=a
 .subst G;rw[bY]at e;cases e;exact new
 .rw[a9 G]at e;exact(x b u e).stay (λc v _ q=>k c v q) (λc q=>by rw[a9 (eO q hn)];exact q) λc xs q=>by rw[a9 (eO q hn)];exact q
end
def Rd(H:Hp)(a:An)(u:HO):Prop:=H a=aa u\/∃o,H a=aa (.frz o u)
theorem Rd.ok(r:Rd H a u)(x:cU P w H h):bZ P w H h a u:=by
 rcases r with r|⟨o,r⟩
 .exact x a u r
 .let⟨_,q⟩:=x a _ r;exact q
def qL:Option HO->Prop
 | some (.lst _)=>True
 | some (.dK _)=>True
 | some (.dT _)=>True
 | some (.set _ _)=>True
 | some (.ins _ _ _)=>True
 | some (.ext _)=>True
 | _=>False
section
variable {P:Bc}{w:Bo}{H:Hp}{h h':Ds}{x e:An}{o':HO}
theorem cU.write(ok:cU P w H h)(d:qL (H x))(Y:e=x\/H e=aa (.own x))(k:∀b u,b≠e->h.get? b=aa u->h'.get? b=aa u)(f:∃u,h'.get? e=aa u)(new:bZ P w (aL H x o') h' x o'):cU P w (aL H x o') h':=λb u q=>by
 have g:∀c y,H c=aa (.own y)->c≠x:=λc y r z=>by subst z;rw[r]at d;exact d
 have i:∀c xs,H c=aa (.tup xs)->c≠x:=λc xs r z=>by subst z;rw[r]at d;exact d
 by_cases G:b=x
 .subst G;rw[bY]at q;cases q;exact new
 .rw[a9 G]at q
  by_cases a:b=e
  .have C:H b=aa (.own x):=by
    rcases Y with z|z
    .exact absurd (a.trans z) G
    .rw[a];exact z
   rw[q]at C;cases C;let⟨v,K⟩:=f;exact⟨v,by rw[a];exact K⟩
  .refine(ok b u q).stay (λc v hc r=>k c v ?_ r) (λc r=>by rw[a9 (g c b r)];exact r) λc xs r=>by rw[a9 (i c xs r)];exact r
   rcases hc with rfl|hc
   .exact a
   .rintro rfl;rcases Y with z|z
    .exact g c b hc z
    .rw[hc]at z;cases z;exact G rfl
end
structure Un(fs ex:↑An)(H H':Hp)(h h':Ds):Prop where
 keep:∀b o,h.get? b=aa o->H b=ae->b∉fs->b∉ex->h'.get? b=aa o
 slot:∀b o,h.get? b=aa o->H b=ae->b∈fs->b∉ex->∃sl,h'.get? b=aa {o with slots:=sl}
 free:∀b o,h.get? b=aa o->H b=ae->b∉ex->H' b=ae
 there:∀b o,h.get? b=aa o->b∉ex->∃o',h'.get? b=aa o'
 tups:∀b xs,H b=aa (.tup xs)->H' b=aa (.tup xs)
 frzs:∀b o u,H b=aa (.frz o u)->H' b=aa (.frz o u)
 tbls:∀b ps,H b=aa (.tbl ps)->∃more,H' b=aa (.tbl (ps++more))
section
variable {fs fs' ex ex':↑An}{H H1 H2:Hp}{h h1 h2 h':Ds}{a x e:An}{o:HO}
theorem Un.any(u:Un fs ex H H1 h h1)(q:h.get? b=aa ob)(n:H b=ae)(J:b∉ex):∃Z,h1.get? b=aa {ob with slots:=Z}:=by
 by_cases G:b∈fs
 .exact u.slot b ob q n G J
 .exact⟨ob.slots,u.keep b ob q n G J⟩
theorem Un.kept(k:∀b u,h.get? b=aa u->h'.get? b=aa u):Un fs ex H H h h':=
 ⟨λb ob q _ _ _=>k b ob q,λb ob q _ _ _=>⟨ob.slots,k b ob q⟩,λ_ _ _ n _=>n,λb ob q _=>⟨ob,k b ob q⟩,λ_ _ q=>q,λ_ _ _ q=>q,λ_ ps q=>⟨#[],by rw[q];simp⟩⟩
theorem Un.refl:Un fs ex H H h h:=Un.kept λ_ _ q=>q
theorem Un.laid(k:∀b u,h.get? b=aa u->h'.get? b=aa u)(N:h.objs.size<=a)(hn:H a=ae):Un fs ex H (aL H a o) h h' where
 keep:=λb u q _ _ _=>k b u q
 slot:=λb u q _ _ _=>⟨u.slots,k b u q⟩
 free:=λb u q n _=>by rw[a9 (Br (Bv (Bg q) N))];exact n
 there:=λb u q _=>⟨u,k b u q⟩
 tups:=λb xs q=>by rw[a9 (eO q hn)];exact q
 frzs:=λb u xs q=>by rw[a9 (eO q hn)];exact q
 tbls:=λb ps q=>⟨#[],by rw[a9 (eO q hn),q];simp⟩
theorem Un.write(d:qL (H x))(Y:e=x\/H e=aa (.own x))(k:∀b u,b≠e->h.get? b=aa u->h'.get? b=aa u)(f:∃u,h'.get? e=aa u):Un fs ex H (aL H x o) h h':=by
 have J:∀b,H b=ae->b≠x:=λb n z=>by subst z;rw[n]at d;exact d
 have G:∀b,H b=ae->b≠e:=λb n z=>by
  subst z;rcases Y with r|r
  .exact J b n r
  .rw[n]at r;cases r
 have P:∀b u,H b=aa u->¬qL (aa u)->b≠x:=λb u q nm z=>by subst z;rw[q]at d;exact nm d
 refine⟨λb u q n _ _=>k b u (G b n) q,λb u q n _ _=>⟨u.slots,k b u (G b n) q⟩,λb u q n _=>by rw[a9 (J b n)];exact n,λb u q _=>?_,
  λb xs q=>by rw[a9 (P b _ q λz=>z)];exact q,λb u xs q=>by rw[a9 (P b _ q λz=>z)];exact q,λb ps q=>⟨#[],by rw[a9 (P b _ q λz=>z),q];simp⟩⟩
 by_cases a:b=e
 .subst a;exact f
 .exact⟨u,k b u a q⟩
end
def sZ(h:Ds)(H:Hp):↑An:=(Ci h.objs.size).filter λa=>(H a).isSome
def lR(h:Ds)(H:Hp):Ds:=PySem.W.hideAll h (sZ h H)
theorem OL(h:Ds)(H:Hp):(lR h H).objs.size=h.objs.size:=PySem.W.hideAll_size _ _
theorem OM(e:h.get? b=aa o)(n:H b=ae):(lR h H).get? b=aa o:=
 PySem.W.hideAll_get _ e λP=>by
  have q:(H b).isSome=ab:=(Dq.mp P).2;rw[n]at q;simp at q
theorem ON(e:(lR h H).get? b=aa o):h.get? b=aa o/\H b=ae:=by
 have g:h.get? b=aa o:=PySem.W.of_hideAll (sZ h H) e;refine⟨g,?_⟩;cases q:H b with
 | none=>rfl
 | some x=>
  have P:b∈sZ h H:=Dq.mpr ⟨Ew.mpr (Bg g),by simp[q]⟩;have z:(lR h H).get? b=ae:=PySem.W.hideAll_none (sZ h H) P;rw[z]at e;cases e
structure Mod(K:Ac)(mg:Ay->Option Ae)(base:Ds):Prop where
 kin:K.In base
 glob:base.Ns Ec mg
 blt:∃mb,base.Ns Uu mb/\∀x:Ay,x≠"__name__"->mb x=Cr x
 nolimit:base.NoLimit
structure Cx where
 prog:Bc
 w:Bo
 K:Ac
 mg:Ay->Option Ae
 base:Ds
 A:Cs
 N:↑Ay
 s₀:Aj
 H₀:Hp
 env:Env
 outer:↑Env
 stack:↑Env
 ex:↑An
 fn:Ay->Bool
 calm:Bool
 pn:↑(An×Lv)
 xe:Ae->Aj->Prop
abbrev Cx.m(X:Cx):=Dj X.prog X.w
abbrev Cx.a(X:Cx){q:Type}(t:Sg q)(Q:q->Aj->Prop)(E:Ae->Aj->Prop)(s:Aj):Prop:=Bk X.m X.A t Q E s
abbrev Se(X:Cx)(e:Cg)(es:↑Cg):Prop:=Cp (e::es) X.env=(ac,Eu e X.env)::Cp es X.env
abbrev Sb(X:Cx)(pos:Hu)(es:↑Cg):Prop:=(Mg pos (Cp es X.env)).any (·.1)=ac
abbrev Fy(X:Cx)(x:Ay):Prop:=X.fn x=ab\/X.env.scope.names.lookup x=aa .local
def iI(l:↑Env):↑An:=l.filterMap (·.frame)
abbrev Cx.fs(X:Cx):↑An:=iI X.outer
def tB(sc:Kl)(x:Ay):Prop:=sc.names.lookup x=aa .local\/sc.names.lookup x=aa .cell\/sc.names.lookup x=aa .free
def Loc(sc:Kl)(x:Ay):Prop:=sc.names.lookup x=aa .local\/sc.names.lookup x=aa .cell
def Look(env:Env)(h:Ds)(m:Ay->Option Ae)(x:Ay)(u:Ae):Prop:=
 (env.kindOf x=aa .local/\m x=aa u)\/((env.kindOf x=aa .cell\/env.kindOf x=aa .free)/\∃c,env.cells.lookup x=aa c/\h.IsCell c (aa u))
structure Cx.Ok(X:Cx):Prop where
 mod:Mod X.K X.mg X.base
 kind:X.env.scope.kind=.function
 glob:X.env.globals=Ec
 blt:X.env.builtins=Uu
 above:⇑X.s₀<=X.env.locals
 inj:∀x y c,X.env.cells.lookup x=aa c->X.env.cells.lookup y=aa c->x=y
 has:∀x,(X.env.kindOf x=aa .cell\/X.env.kindOf x=aa .free)->∃c,X.env.cells.lookup x=aa c
 cab:∀x c,X.fn x=ab->X.env.cells.lookup x=aa c->⇑X.s₀<=c
 hd:X.calm=ab->X.A.handled=ae
 frames:X.A.frames=aa X.stack
 stk:X.stack=X.outer\/(X.stack=X.env::X.outer/\X.env.frame=aa X.env.locals)
 exf:∀b∈X.ex,b≠X.env.locals/\∀x c,X.env.cells.lookup x=aa c->c≠b
 bs:∀b o,X.base.get? b=aa o->X.s₀.heap.get? b=aa o/\X.H₀ b=ae
 bsz:X.base.objs.size<=⇑X.s₀
 noex:∀b o,X.base.get? b=aa o->b∉X.ex
 exfs:∀b∈X.ex,b∉X.fs
 funs:X.s₀.heap.FunFrames X.base X.outer
 frf:∀b∈X.fs,X.H₀ b=ae
structure Inv(X:Cx)(af:Pn)(Z:↑(Option V))(H:Hp)(s:Aj):Prop where
 ok:X.Ok
 os:s.os=X.s₀.os
 bare:Ow s.gens
 base:Un X.fs X.ex X.H₀ H X.s₀.heap s.heap
 loc:∃m,s.heap.Ns X.env.locals m/\∀(i:Nat) (x:Ay) (v:V),X.N[i]? = aa x->Z[i]? = aa (aa v)->tB X.env.scope x->∃u,RelV v u/\Look X.env s.heap m x u
 cell:∀x c,X.env.cells.lookup x=aa c->∃v,s.heap.IsCell c v
 free:H X.env.locals=ae
 freeC:∀x c,X.env.cells.lookup x=aa c->H c=ae
 pin:∀p∈X.pn++af,s.heap.get? p.1=aa p.2/\H p.1=ae/\p.1≠X.env.locals/\p.1∉X.fs/\∀v,p.2.data≠.cell v
 hok:cU X.prog X.w H s.heap
 len:↥Z=↥X.N
section
variable {X:Cx}{af:Pn}{Z:↑(Option V)}{H H':Hp}{s:Aj}{h':Ds}
theorem Cx.Ok.nofr(ok:X.Ok)(e:X.base.get? b=aa o):b∉X.fs:=λG=>by
 have:=(ok.funs.mem G).1;rw[e]at this;cases this
theorem Inv.bs(I:Inv X af Z H s):∀b o,X.base.get? b=aa o->s.heap.get? b=aa o/\H b=ae:=λb o e=>
 ⟨I.base.keep b o (I.ok.bs b o e).1 (I.ok.bs b o e).2 (I.ok.nofr e) (I.ok.noex b o e),I.base.free b o (I.ok.bs b o e).1 (I.ok.bs b o e).2 (I.ok.noex b o e)⟩
theorem Inv.bk(I:Inv X af Z H s):∀b o,X.base.get? b=aa o->s.heap.get? b=aa o:=λb o e=>(I.bs b o e).1
theorem Inv.mod(I:Inv X af Z H s):Mod X.K X.mg X.base:=I.ok.mod
theorem Inv.kIn(I:Inv X af Z H s):X.K.In s.heap:=I.ok.mod.kin.keeps I.bk
theorem Inv.lt(I:Inv X af Z H s):X.env.locals<⇑s:=let ⟨_,hn,_⟩:=I.loc;hn.lt
theorem Inv.sz(I:Inv X af Z H s):⇑X.s₀<=⇑s:=Ar I.ok.above (Hf I.lt)
theorem Inv.nofs(I:Inv X af Z H s)(h:⇑s<=a):a∉X.fs:=λG=>by
 let⟨_,o,S,_⟩:=I.ok.funs.mem G;exact absurd (Bv (Bg S) (Ar I.sz h)) (Iu _)
theorem Inv.cne(I:Inv X af Z H s):∀x c,X.env.cells.lookup x=aa c->c≠X.env.locals:=λx c e z=>by
 let⟨v,o,S,hd⟩:=I.cell x c e;obtain⟨m,⟨o',es,ep,d,n,_⟩,_⟩:=I.loc;rw[z,d]at S;cases S;rw[n]at hd;cases hd
theorem Inv.funs(I:Inv X af Z H s):s.heap.FunFrames X.base X.outer:=by
 have all:∀(l:↑Env),(∀b∈iI l,b∈X.fs)->X.s₀.heap.FunFrames X.base l->s.heap.FunFrames X.base l:=by
  intro l
  induction l with
  | nil=>intro _ _;trivial
  | cons env r E=>
   intro F hl;obtain⟨hk,⟨L,o,hf,hn,S,hd⟩,T⟩:=hl;have f:L∈X.fs:=F L (by unfold iI;rw[Ea,hf];exact Bl);let⟨Y,e⟩:=I.base.slot L o S (I.ok.frf L f) f λz=>I.ok.exfs L z f;exact⟨hk,⟨L,_,hf,hn,e,hd⟩,E (λb G=>F b (by unfold iI;rw[Ea,hf];exact Bj _ G)) T⟩
 exact all X.outer (λ_ G=>G) I.ok.funs
theorem Inv.stack(I:Inv X af Z H s):s.heap.FunFrames X.base X.stack:=by
 rcases I.ok.stk with e|⟨e,hf⟩
 .rw[e];exact I.funs
 .rw[e];let⟨m,hn,_⟩:=I.loc;refine .cons (by rw[I.ok.kind];decide) hf hn ?_ I.funs;exact Heap.get?_none_of_le (Ar I.ok.bsz I.ok.above)
theorem Inv.stkSub(I:Inv X af Z H s):∀b∈iI X.stack,b∈X.env.locals::X.fs:=λb G=>by
 rcases I.ok.stk with e|⟨e,hf⟩
 .rw[e]at G;exact Bj _ G
 .rw[e]at G;unfold iI at G;rw[Ea,hf]at G;exact G
theorem Inv.stkFree(I:Inv X af Z H s):∀b∈iI X.stack,H b=ae:=λb G=>by
 rcases Au.mp (I.stkSub b G) with e|G
 .rw[e];exact I.free
 .let⟨_,o,S,_⟩:=I.ok.funs.mem G;exact I.base.free b o S (I.ok.frf b G) λz=>I.ok.exfs b z G
theorem Inv.step{g':Array GenState}{t':Nat}{d':Drawn}{ch:↑An}(I:Inv X af Z H s)(a:∀b∈ch,(b∈X.ex\/⇑X.s₀<=b)/\b≠X.env.locals/\(∀x c,X.env.cells.lookup x=aa c->c≠b)/\∀p∈X.pn++af,p.1≠b)(keep:∀b o,b≠X.env.locals->b∉X.fs->b∉ch->s.heap.get? b=aa o->H b=ae->h'.get? b=aa o)(slot:∀b o,b≠X.env.locals->b∈X.fs->b∉ch->s.heap.get? b=aa o->H b=ae->∃Y,h'.get? b=aa {o with slots:=Y})(free:∀b o,b∉ch->s.heap.get? b=aa o->H b=ae->H' b=ae)(there:∀b o,b∉ch->s.heap.get? b=aa o->∃o',h'.get? b=aa o')(tups:∀b xs,H b=aa (.tup xs)->H' b=aa (.tup xs))(frzs:∀b o u,H b=aa (.frz o u)->H' b=aa (.frz o u))(tbls:∀b ps,H b=aa (.tbl ps)->∃more,H' b=aa (.tbl (ps++more)))(ns:∀m,s.heap.Ns X.env.locals m->h'.Ns X.env.locals m)(hok:cU X.prog X.w H' h')(L:Ow g'):
  Inv X af Z H' {s with heap:=h',gens:=g',drawn:=d',toks:=t'}:=by
 have t:∀b o,X.s₀.heap.get? b=aa o->b≠X.env.locals:=λb o e=>Br (Bv (Bg e) I.ok.above);have h:∀b o,X.s₀.heap.get? b=aa o->b∉X.ex->b∉ch:=λb o e J G=>by
  rcases(a b G).1 with z|z
  .exact J z
  .exact absurd (Bv (Bg e) z) (Iu _)
 have f:∀x c,X.env.cells.lookup x=aa c->∀v,s.heap.IsCell c v->h'.IsCell c v:=λx c e v ⟨o,S,hd⟩=>by
  have g:c∉ch:=λz=>(a c z).2.2.1 x c e rfl
  by_cases hc:c∈X.fs
  .let⟨Y,q⟩:=slot c o (I.cne x c e) hc g S (I.freeC x c e);exact⟨_,q,hd⟩
  .exact⟨o,keep c o (I.cne x c e) hc g S (I.freeC x c e),hd⟩
 refine⟨I.ok,I.os,L,⟨λb o e n G J=>?_,λb o e n G J=>?_,λb o e n J=>?_,λb o e J=>?_,λb xs e=>tups b xs (I.base.tups b xs e),λb o xs e=>frzs b o xs (I.base.frzs b o xs e),λb ps e=>?_⟩,?_,λx c e=>?_,?_,λx c e=>?_,λp N=>?_,hok,I.len⟩
 .exact keep b o (t b o e) G (h b o e J) (I.base.keep b o e n G J) (I.base.free b o e n J)
 .let⟨Y,D⟩:=I.base.slot b o e n G J;let⟨y,A⟩:=slot b _ (t b o e) G (h b o e J) D (I.base.free b o e n J);exact⟨y,A⟩
 .let⟨o',D⟩:=I.base.there b o e J;exact free b o' (h b o e J) D (I.base.free b o e n J)
 .let⟨o',D⟩:=I.base.there b o e J;exact there b o' (h b o e J) D
 .let⟨m1,D⟩:=I.base.tbls b ps e;let⟨m2,A⟩:=tbls b _ D;exact⟨m1++m2,by rw[A,Array.append_assoc]⟩
 .let⟨m,hn,hl⟩:=I.loc;refine⟨m,ns m hn,λi x v D A P=>?_⟩;let⟨u,r,l⟩:=hl i x v D A P;refine⟨u,r,?_⟩;rcases l with l|⟨k,c,e,z⟩
  .exact .inl l
  .exact .inr ⟨k,c,e,f x c e _ z⟩
 .let⟨v,z⟩:=I.cell x c e;exact⟨v,f x c e v z⟩
 .obtain⟨m,⟨o,_,_,S,_⟩,_⟩:=I.loc;exact free _ o (λz=>(a _ z).2.1 rfl) S I.free
 .let⟨v,o,S,hd⟩:=I.cell x c e;exact free c o (λz=>(a c z).2.2.1 x c e rfl) S (I.freeC x c e)
 .let⟨e,n,ne,j,d⟩:=I.pin p N;have g:p.1∉ch:=λz=>(a p.1 z).2.2.2 p N rfl;exact⟨keep p.1 p.2 ne j g e n,free p.1 p.2 g e n,ne,j,d⟩
theorem Inv.un{t':Nat}(I:Inv X af Z H s)(u:Un X.fs [] H H' s.heap h')(hok:cU X.prog X.w H' h'):Inv X af Z H' {s with heap:=h',toks:=t'}:=by
 obtain⟨m,⟨o,es,ep,S,r⟩,_⟩:=id I.loc;let⟨Y,f⟩:=u.any S I.free (by simp);exact I.step (g':=s.gens) (d':=s.drawn) (ch:=[]) (λ_ z=>nomatch z) (λb o _ G _ e n=>u.keep b o e n G (by simp)) (λb o _ G _ e n=>u.slot b o e n G (by simp)) (λb o _ e n=>u.free b o e n (by simp)) (λb o _ e=>u.there b o e (by simp)) u.tups u.frzs u.tbls (λt P=>by
  let⟨o',A,l,d,U⟩:=P;rw[S]at d;cases d;exact⟨_,A,l,f,U⟩) hok I.bare
theorem Inv.call{g':Array GenState}{t':Nat}{d':Drawn}{ch:↑An}(I:Inv X af Z H s)(u:Un (iI X.stack) ch H H' s.heap h')(hok:cU X.prog X.w H' h')(L:Ow g')(a:∀b∈ch,(b∈X.ex\/⇑X.s₀<=b)/\b≠X.env.locals/\(∀x c,X.env.cells.lookup x=aa c->c≠b)/\∀p∈X.pn++af,p.1≠b):
  Inv X af Z H' {s with heap:=h',gens:=g',drawn:=d',toks:=t'}:=by
 obtain⟨m,⟨o,es,ep,S,r⟩,_⟩:=id I.loc;let⟨Y,f⟩:=u.any S I.free λz=>(a _ z).2.1 rfl;exact I.step (ch:=ch) a (λb o f G hc e n=>u.keep b o e n (λz=>(Au.mp (I.stkSub b z)).elim f G) hc) (λb o _ _ hc e n=>u.any e n hc) (λb o hc e n=>u.free b o e n hc) (λb o hc e=>u.there b o e hc) u.tups u.frzs u.tbls (λt P=>by
  let⟨o',A,l,d,U⟩:=P;rw[S]at d;cases d;exact⟨_,A,l,f,U⟩) hok L
theorem Inv.turned{t':Nat}{it:An}(I:Inv X af Z H s)(k:∀b o,b≠it->s.heap.get? b=aa o->h'.get? b=aa o)(hn:H it=ae)(f:it≠X.env.locals)(h1:it∈X.ex\/⇑X.s₀<=it)(h2:∀x c,X.env.cells.lookup x=aa c->c≠it)(h3:∀p∈X.pn++af,p.1≠it):Inv X af Z H {s with heap:=h',toks:=t'}:=by
 have a:∀b u,H b=aa u->b≠it:=λb u e z=>by rw[z,hn]at e;cases e
 refine I.step (g':=s.gens) (d':=s.drawn) (ch:=[it]) (λb G=>?_) (λb o _ _ hc e _=>k b o (λz=>hc (by simp[z])) e) (λb o _ _ hc e _=>⟨o.slots,k b o (λz=>hc (by simp[z])) e⟩) (λ_ _ _ _ n=>n)
  (λb o hc e=>⟨o,k b o (λz=>hc (by simp[z])) e⟩) (λ_ _ e=>e) (λ_ _ _ e=>e) (λb ps e=>⟨#[],by rw[e];simp⟩) (λm P=>?_) (λb u e=>?_) I.bare
 .have e:b=it:=by simpa using G
  subst e;exact⟨h1,f,h2,h3⟩
 .let⟨o,es,ep,S,r⟩:=P;exact⟨o,es,ep,k _ o (Bx f) S,r⟩
 .refine(I.hok b u e).stay (λc v hc q=>k c v ?_ q) (λ_ q=>q) λ_ _ q=>q;rcases hc with z|z
  .rw[z];exact a b u e
  .exact a c _ z
theorem Inv.tok(I:Inv X af Z H s)(t:Nat):Inv X af Z H {s with toks:=t}:=I.un (h':=s.heap) (t':=t) Un.refl I.hok
theorem Inv.kept{t':Nat}(I:Inv X af Z H s)(k:∀b u,s.heap.get? b=aa u->h'.get? b=aa u):Inv X af Z H {s with heap:=h',toks:=t'}:=I.un (Un.kept k) (I.hok.kept k)
theorem Inv.laid{t':Nat}(I:Inv X af Z H s)(k:∀b u,s.heap.get? b=aa u->h'.get? b=aa u)(N:⇑s<=a)(new:bZ X.prog X.w (aL H a o) h' a o):
  Inv X af Z (aL H a o) {s with heap:=h',toks:=t'}:=I.un (Un.laid k N (I.hok.fresh N)) (I.hok.laid k N new)
theorem Inv.write{t':Nat}(I:Inv X af Z H s)(d:qL (H x))(Y:e=x\/H e=aa (.own x))(k:∀b u,b≠e->s.heap.get? b=aa u->h'.get? b=aa u)(f:∃u,h'.get? e=aa u)(new:bZ X.prog X.w (aL H x o) h' x o):Inv X af Z (aL H x o) {s with heap:=h',toks:=t'}:=I.un (Un.write d Y k f) (I.hok.write d Y k f new)
theorem Inv.pins_of(I:Inv X af Z H s)(h:∀p∈a,s.heap.get? p.1=aa p.2/\H p.1=ae/\p.1≠X.env.locals/\p.1∉X.fs/\∀v,p.2.data≠.cell v):Inv X a Z H s:=
 ⟨I.ok,I.os,I.bare,I.base,I.loc,I.cell,I.free,I.freeC,λp N=>(Ba.mp N).elim (λz=>I.pin p (Be _ z)) (h p),I.hok,I.len⟩
theorem CM{N:↑Ay}(t:N.Nodup){i j:Nat}{x:Ay}(a:N[i]? = aa x)(b:N[j]? = aa x):i=j:=by
 let⟨h1,D⟩:=Am.mp a;let⟨h2,A⟩:=Am.mp b;exact(List.getElem_inj t).mp (D.trans A.symm)
theorem CN{M:Model}{A:Cs}{E:Ae->Aj->Prop}{i:Nat}{x:Ay}{v:V}{u:Ae}{Q:Unit->Aj->Prop}(I:Inv X af Z H s)(t:X.N.Nodup)(hi:X.N[i]? = aa x)(J:Loc X.env.scope x)(r:RelV v u)(h:∀W,Inv X af (Z.set i (aa v)) H W->(∃a,Ek a s.heap W.heap/\(a=X.env.locals\/X.env.cells.lookup x=aa a))->Q () W)(hf:Fy X x:=by first|exact .inl rfl|exact .inr rfl|assumption):Bk M A (storeName X.env x u) Q E s:=by
 let⟨m,hn,hl⟩:=id I.loc;have hcls:(X.env.scope.kind==.class||(X.env.scope.kind==.module&&X.env.locals !=X.env.globals))=ac:=by rw[I.ok.kind];rfl
 have hiσ:i<↥Z:=by rw[I.len];exact(Am.mp hi).1
 have cne:=I.cne;have f:∀{a:An} {h':Ds},(∃o,s.heap.get? a=aa o/\H a=ae)->Ek a s.heap h'->cU X.prog X.w H h':=λ{a h'} g F b ob e=>by
  let⟨_,_,K⟩:=g;refine(I.hok b ob e).stay (λc L hc q=>(F.2 c ?_).trans q) (λ_ q=>q) λ_ _ q=>q;rintro rfl;rcases hc with rfl|hc
  .rw[K]at e;cases e
  .rw[K]at hc;cases hc
 rcases J with hk|hk
 .refine wpAny_storeName_local hk hn (λh' hn' F=>?_) hcls;let⟨oL,_,_,hoL,_⟩:=id hn;refine h _ ⟨I.ok,I.os,I.bare,⟨λb o e n G J=>?_,λb o e n G J=>?_,I.base.free,λb o e J=>?_,I.base.tups,I.base.frzs,I.base.tbls⟩,⟨_,hn',λj y v' D B l=>?_⟩,λy c e=>?_,I.free,I.freeC,λp S=>?_,f ⟨oL,hoL,I.free⟩ F,by simpa using I.len⟩ ⟨_,F,.inl rfl⟩
  .exact(F.2 b (Br (Bv (Bg e) I.ok.above))).trans (I.base.keep b o e n G J)
  .let⟨N,D⟩:=I.base.slot b o e n G J;exact⟨N,(F.2 b (Br (Bv (Bg e) I.ok.above))).trans D⟩
  .let⟨o',D⟩:=I.base.there b o e J;exact⟨o',(F.2 b (Br (Bv (Bg e) I.ok.above))).trans D⟩
  .by_cases hj:j=i
   .subst hj;rw[hi]at D;cases D;rw[List.getElem?_set_self hiσ]at B;cases B;exact⟨u,r,.inl ⟨hk,by simp⟩⟩
   .rw[List.getElem?_set_ne (Bx hj)]at B;let⟨P,U,q⟩:=hl j y v' D B l;refine⟨P,U,?_⟩;rcases q with⟨k,e⟩|⟨k,c,e,z⟩
    .refine .inl ⟨k,?_⟩;have:y≠x:=λe=>hj (CM t D (e▸hi));simp[this,e]
    .exact .inr ⟨k,c,e,z.sameBut F (cne y c e)⟩
  .let⟨L,z⟩:=I.cell y c e;exact⟨L,z.sameBut F (cne y c e)⟩
  .let⟨e,n,ne,nf,d⟩:=I.pin p S;exact⟨(F.2 p.1 ne).trans e,n,ne,nf,d⟩
 .have hfn:X.fn x=ab:=by
   rcases hf with z|z
   .exact z
   .rw[z]at hk;cases hk
  let⟨c,hc⟩:=I.ok.has x (.inl hk);let⟨L,z⟩:=I.cell x c hc;refine wpAny_storeName_cell I.ok.kind hk hc z (λh' hc' F=>?_);let⟨O,Y,hocd⟩:=id z;refine h {s with heap:=h'} ⟨I.ok,I.os,I.bare,⟨λb o e n G J=>?_,λb o e n G J=>?_,I.base.free,λb o e J=>?_,I.base.tups,I.base.frzs,I.base.tbls⟩,⟨m,hn.sameBut F (Bx (cne x c hc)),λj y v' D B l=>?_⟩,λy T e=>?_,I.free,I.freeC,λp S=>?_,f ⟨O,Y,I.freeC x c hc⟩ F,by simpa using I.len⟩ ⟨c,F,.inr hc⟩
  .exact(F.2 b (Br (Bv (Bg e) (I.ok.cab x c hfn hc)))).trans (I.base.keep b o e n G J)
  .let⟨N,D⟩:=I.base.slot b o e n G J;exact⟨N,(F.2 b (Br (Bv (Bg e) (I.ok.cab x c hfn hc)))).trans D⟩
  .let⟨o',D⟩:=I.base.there b o e J;exact⟨o',(F.2 b (Br (Bv (Bg e) (I.ok.cab x c hfn hc)))).trans D⟩
  .by_cases hj:j=i
   .subst hj;rw[hi]at D;cases D;rw[List.getElem?_set_self hiσ]at B;cases B;exact⟨u,r,.inr ⟨.inl hk,c,hc,hc'⟩⟩
   .rw[List.getElem?_set_ne (Bx hj)]at B;let⟨P,U,q⟩:=hl j y v' D B l;refine⟨P,U,?_⟩;rcases q with q|⟨k,T,e,z'⟩
    .exact .inl q
    .refine .inr ⟨k,T,e,z'.sameBut F ?_⟩;rintro rfl;exact hj (CM t D (I.ok.inj _ _ _ e hc▸hi))
  .by_cases hcc:T=c
   .subst hcc;exact⟨_,hc'⟩
   .let⟨w2,R⟩:=I.cell y T e;exact⟨w2,R.sameBut F hcc⟩
  .let⟨e,n,ne,nf,d⟩:=I.pin p S;refine⟨(F.2 p.1 ?_).trans e,n,ne,nf,d⟩;intro q;rw[q,Y]at e;have C:O=p.2:=Co e;exact d L (by rw[<-C];exact hocd)
theorem CO{E:Ae->Aj->Prop}{i:Nat}{Q:Unit->Aj->Prop}(I:Inv X af Z H s)(t:X.N.Nodup)(hi:X.N[i]? = aa x)(J:Loc X.env.scope x)(r:RelV v u)(h:∀W,Inv X af (Z.set i (aa v)) H W->Q () W)(hf:Fy X x:=by first|exact .inl rfl|exact .inr rfl|assumption):Bk M A (storeName X.env x u) Q E s:=
 CN I t hi J r (λW c _=>h W c) hf
theorem Inv.call'(I:Inv X af Z H s)(S:W.os=s.os)(u:Un (iI X.stack) ch H H' s.heap W.heap)(hok:cU X.prog X.w H' W.heap)(L:Ow W.gens)(a:∀b∈ch,(b∈X.ex\/⇑X.s₀<=b)/\b≠X.env.locals/\(∀x c,X.env.cells.lookup x=aa c->c≠b)/\∀p∈X.pn++af,p.1≠b):Inv X af Z H' W:=by
 let⟨h',g',d',t',o'⟩:=W;have e:o'=s.os:=S;subst e;exact I.call (g':=g') (t':=t') (d':=d') u hok L a
end
abbrev XK:=Ae->Option An->Hp->Prop
abbrev St:=↑(Option V)
abbrev VK:=V->Hp->Prop
abbrev TE:=St->Hp->VK->Prop
abbrev TT:=St->Hp->(Bool->Hp->Prop)->Prop
abbrev TA:=St->Hp->(↑V->Hp->Prop)->Prop
structure lS where
 nx:St->Hp->Prop
 rt:VK
 bk:St->Hp->Prop:=λ_ _=>False
 ct:St->Hp->Prop:=λ_ _=>False
abbrev TS:=lS->St->Hp->Prop
def EP(X:Cx)(af:Pn)(Z:St)(Q:VK)(u:Ae)(W:Aj):Prop:=∃v l,Inv X af Z l W/\RelV v u/\Q v l
def TP(X:Cx)(af:Pn)(Z:St)(Q:Bool->Hp->Prop)(b:Bool)(W:Aj):Prop:=∃l,Inv X af Z l W/\Q b l
def AP(X:Cx)(af:Pn)(Z:St)(Q:↑V->Hp->Prop)(us:↑Ae)(W:Aj):Prop:=∃vs l,Inv X af Z l W/\aZ vs us/\Q vs l
def SP(X:Cx)(af:Pn)(D:lS)(f:Flow)(W:Aj):Prop:=
 match f with
 | .next=>∃O l,Inv X af O l W/\D.nx O l
 | .brk=>∃O l,Inv X af O l W/\D.bk O l
 | .cont=>∃O l,Inv X af O l W/\D.ct O l
 | .ret u=>∃v O l,Inv X af O l W/\RelV v u/\D.rt v l
def PE(X:Cx)(e:Cg)(t:TE):Prop:=
 ∀(af:Pn) (s:Aj) (Z:St) (H:Hp) (Q:VK),Inv X af Z H s->t Z H Q->X.a (Eu e X.env) (EP X af Z Q) X.xe s
def PT(X:Cx)(e:Cg)(t:TT):Prop:=
 ∀(af:Pn) (s:Aj) (Z:St) (H:Hp) (Q:Bool->Hp->Prop),Inv X af Z H s->t Z H Q->X.a (Tu e X.env (Eu e X.env)) (TP X af Z Q) X.xe s
def PW(X:Cx)(e:Cg)(t:TT):Prop:=
 ∀(f:Sg Ae) (af:Pn) (s:Aj) (Z:St) (H:Hp) (Q:Bool->Hp->Prop),Inv X af Z H s->t Z H Q->X.a (Tu e X.env f) (TP X af Z Q) X.xe s
theorem PW.pt(h:PW X e t):PT X e t:=h _
def PA(X:Cx)(es:↑Cg)(t:TA):Prop:=
 ∀(pos:Hu) (af:Pn) (s:Aj) (Z:St) (H:Hp) (Q:↑V->Hp->Prop),Inv X af Z H s->t Z H Q->X.a (spliced (Mg pos (Cp es X.env))) (AP X af Z Q) X.xe s
def PS(X:Cx)(st:Jl)(t:TS):Prop:=
 ∀(af:Pn) (s:Aj) (Z:St) (H:Hp) (D:lS),Inv X af Z H s->t D Z H->X.a (exec st X.env) (SP X af D) X.xe s
def fT(X:Cx)(st:↑Jl)(t:TS):Prop:=
 ∀(af:Pn) (s:Aj) (Z:St) (H:Hp) (D:lS),Inv X af Z H s->t D Z H->X.a (execs st X.env) (SP X af D) X.xe s
theorem thn{q:Type}{t:Sg q}{Q d:q->Aj->Prop}{M:Model}{A:Cs}{E:Ae->Aj->Prop}{s:Aj}(h:Bk M A t Q E s)(K:∀a s,Q a s->d a s):Bk M A t d E s:=Ig h K λ_ _ x=>x
section
variable {X:Cx}
def OO(i:Nat):TE:=λZ H Q=>∃v,Z[i]? = aa (aa v)/\Q v H
def tC(v:V):TE:=λ_ H Q=>Q v H
theorem CP{i:Nat}(t:X.N[i]? = aa x)(K:tB X.env.scope x)(hd:Db x:=by decide)(z:(x==("__classdict__" : Ay))=ac:=by decide):PE X (.Name x pos) (OO i):=by
 intro af s Z H Q I h;let⟨v,e,h⟩:=h;let⟨m,hn,hl⟩:=I.loc;let⟨u,r,l⟩:=hl i x v t e K;have fin:EP X af Z Q u s:=⟨v,H,I,r,h⟩;rcases l with⟨hk,P⟩|⟨hk,c,hc,a⟩
 .exact Um (wpAny_loadName_local I.ok.kind hk hn P fin) hd
 .rcases hk with hk|hk
  .exact Um (wpAny_loadName_cell I.ok.kind hk hc a fin) hd
  .exact Um (wpAny_loadName_free I.ok.kind hk hc a fin z) hd
theorem OP{i j pos}:PE X (.Constant (.int i) j pos) (tC (.int i)):=λ_ _ _ H _ I h=>wpAny_Constant_int ⟨.int i,H,I.tok _,⟨_,rfl⟩,h⟩
theorem OQ{b j pos}:PE X (.Constant (.bool b) j pos) (tC (.bl b)):=λ_ _ _ H _ I h=>Constant_bool ⟨.bl b,H,I,rfl,h⟩
theorem OR{x j pos}:PE X (.Constant (.str x) j pos) (tC (.str x)):=λ_ _ _ H _ I h=>Calls.Constant_str ⟨.str x,H,I.tok _,⟨_,rfl⟩,h⟩
def Gl(X:Cx)(x:Ay):Prop:=X.env.kindOf x=aa .globalImplicit
theorem tD{E:Ae->Aj->Prop}{Q:Ae->Aj->Prop}(I:Inv X af Z H s)(L:Gl X x)(P:X.mg x=aa u)(h:Q u s)(hd:Db x:=by decide):X.a (Eu (.Name x pos) X.env) Q E s:=
 Calls.Name_function_global I.ok.kind L (Calls.loadGlobal_global (by rw[I.ok.glob];exact I.mod.glob.keeps I.bk) P h) hd
theorem iJ{E:Ae->Aj->Prop}{Q:Ae->Aj->Prop}(I:Inv X af Z H s)(T:Gl X x)(P:X.mg x=ae)(c:Cr x=aa u)(h:Q u s)(hn:x≠"__name__":=by decide)(hd:Db x:=by decide):X.a (Eu (.Name x pos) X.env) Q E s:=by
 let⟨R,O,L⟩:=I.mod.blt;exact Calls.Name_function_global I.ok.kind T (Calls.loadGlobal_builtin (by rw[I.ok.glob];exact I.mod.glob.keeps I.bk) P (by rw[I.ok.blt];exact O.keeps I.bk) ((L x hn).trans c) h) hd
theorem OS(L:Gl X x)(P:X.mg x=aa u)(r:RelV v u)(hd:Db x:=by decide):PE X (.Name x pos) (tC v):=
 λ_ _ _ H _ I h=>tD I L P ⟨v,H,I,r,h⟩ hd
theorem OT(L:Gl X x)(P:X.mg x=ae)(c:Cr x=aa u)(r:RelV v u)(hn:x≠"__name__":=by decide)(hd:Db x:=by decide):PE X (.Name x pos) (tC v):=
 λ_ _ _ H _ I h=>iJ I L P c ⟨v,H,I,r,h⟩ hn hd
variable {a b:Cg}{ta tb:TE}{pos:Hu}
variable {tA tB':TT}{rest:↑Cg}
def OU(t u:TT):TT:=λZ H Q=>t Z H λc z=>if c=ab then u Z z Q else Q ac z
def OV(t u:TT):TT:=λZ H Q=>t Z H λc z=>if c=ab then Q ab z else u Z z Q
def OW(t:TT):TT:=λZ H Q=>t Z H λc z=>Q (!c) z
theorem OX(m:PT X a tA):PW X (.BoolOp .And [a] pos) tA:=by
 intro f af s Z H Q I h;refine isTrue_and (thn (m af s Z H Q I h) λc g e=>?_);cases c with
 | true=>exact isTrue_and_nil e
 | false=>exact e
theorem OY(m:PT X a tA):PW X (.BoolOp .Or [a] pos) tA:=by
 intro f af s Z H Q I h;refine isTrue_or (thn (m af s Z H Q I h) λc g e=>?_);cases c with
 | false=>exact isTrue_or_nil e
 | true=>exact e
theorem OZ(m:PT X a tA)(G:PW X (.BoolOp .And (b::rest) pos) tB'):PW X (.BoolOp .And (a::b::rest) pos) (OU tA tB'):=by
 intro f af s Z H Q I h;refine isTrue_and (thn (m af s Z H _ I h) λc g ⟨z,M,d⟩=>?_);cases c with
 | true=>exact G f af g Z z Q M d
 | false=>exact⟨z,M,d⟩
theorem O0(m:PT X a tA)(G:PW X (.BoolOp .Or (b::rest) pos) tB'):PW X (.BoolOp .Or (a::b::rest) pos) (OV tA tB'):=by
 intro f af s Z H Q I h;refine isTrue_or (thn (m af s Z H _ I h) λc g ⟨z,M,d⟩=>?_);cases c with
 | true=>exact⟨z,M,d⟩
 | false=>exact G f af g Z z Q M d
theorem O3(m:PT X a tA):PT X (.UnaryOp .Not a pos) (OW tA):=by
 intro af s Z H Q I h;exact isTrue_not (m af s Z H (λc z=>Q (!c) z) I h)
def O4(ta tb:TE):TE:=λZ H Q=>ta Z H λx z=>∃c,x=.bl c/\if c=ab then tb Z z Q else Q (.bl ac) z
def O5(ta tb:TE):TE:=λZ H Q=>ta Z H λx z=>∃c,x=.bl c/\if c=ab then Q (.bl ab) z else tb Z z Q
theorem O6{op}(h:PE X a t):PE X (.BoolOp op [a] pos) t:=λaf s Z H Q I hw=>BoolOp_one (h af s Z H Q I hw)
theorem O7(m:PE X a ta)(G:PE X (.BoolOp .And (b::rest) pos) tb):PE X (.BoolOp .And (a::b::rest) pos) (O4 ta tb):=by
 intro af s Z H Q I h;refine BoolOp_and (thn (m af s Z H _ I h) λv g Y=>?_);let⟨x,z,M,N,d⟩:=Y;let⟨c,rfl,d⟩:=d;cases N;refine Jg ?_;cases c with
 | true=>exact G af g Z z Q M d
 | false=>exact⟨.bl ac,z,M,rfl,d⟩
theorem O8(m:PE X a ta)(G:PE X (.BoolOp .Or (b::rest) pos) tb):PE X (.BoolOp .Or (a::b::rest) pos) (O5 ta tb):=by
 intro af s Z H Q I h;refine BoolOp_or (thn (m af s Z H _ I h) λv g Y=>?_);let⟨x,z,M,N,d⟩:=Y;let⟨c,rfl,d⟩:=d;cases N;refine Jg ?_;cases c with
 | false=>exact G af g Z z Q M d
 | true=>exact⟨.bl ab,z,M,rfl,d⟩
def O9(t:TT)(ta tb:TE):TE:=λZ H Q=>t Z H λc z=>if c=ab then ta Z z Q else tb Z z Q
theorem PB{c:Cg}(hc:PT X c tA)(m:PE X a ta)(G:PE X b tb):PE X (.IfExp c a b pos) (O9 tA ta tb):=by
 intro af s Z H Q I h;refine wpAny_IfExp (thn (hc af s Z H _ I h) λd g ⟨z,M,J⟩=>?_);cases d with
 | true=>exact m af g Z z Q M J
 | false=>exact G af g Z z Q M J
end
def bL(K:Ac)(H:Hp)(a:An)(xs:↑V):Prop:=
 Rd H a (.lst xs)\/
  ∃(o:Lv) (its:Array Ae) (n:Nat),K.lookup a=aa o/\o.cls=.type "list"/\o.dict=ae/\o.data=.seq its n/\its.size<=Ax/\aZ xs its.toList
def bU(K:Ac)(H:Hp)(a:An)(xs:↑V):Prop:=
 Rd H a (.tup xs)\/
  ∃(o:Lv) (its:Array Ae) (n:Nat),K.lookup a=aa o/\o.cls=.type "tuple"/\o.data=.seq its n/\its.size<=Ax/\aZ xs its.toList
def PC:Ae->Option V
 | .none=>aa .non
 | .bool b=>aa (.bl b)
 | .int i _=>aa (.int i)
 | .str x _=>aa (.str x)
 | .bytes b _=>aa (.byt b)
 | .float b _=>aa (.flt b)
 | .ref a=>aa (.ref a)
 | .type n=>aa (.ty n)
 | _=>ae
theorem RelV.abs(r:RelV x u):PC u=aa x:=by
 cases x with
 | non=>cases r;rfl
 | bl _=>cases r;rfl
 | int _=>let⟨t,rfl⟩:=r;rfl
 | str _=>let⟨t,rfl⟩:=r;rfl
 | byt _=>let⟨t,rfl⟩:=r;rfl
 | flt _=>let⟨t,rfl⟩:=r;rfl
 | ref _=>cases r;rfl
 | ty _=>cases r;rfl
theorem RelV.inj(r:RelV x u)(q:RelV y u):x=y:=Co (r.abs.symm.trans q.abs)
theorem aZ.inj:∀{xs ys:↑V} {us:↑Ae},aZ xs us->aZ ys us->xs=ys:=by
 intro xs ys us h k
 induction h generalizing ys with
 | nil=>cases k;rfl
 | cons r t E=>
  cases k with
  | cons U t'=>rw[r.inj U,E t']
section
variable {X:Cx}{af:Pn}{Z:St}{H:Hp}{s:Aj}{a:An}{xs ys:↑V}
theorem bL.of{K:Ac}(h:H a=aa (.lst xs)):bL K H a xs:=.inl (.inl h)
theorem bU.of{K:Ac}(h:H a=aa (.tup xs)):bU K H a xs:=.inl (.inl h)
theorem Inv.list(I:Inv X af Z H s)(h:bL X.K H a xs):∃its:↑Ae,aZ xs its/\PlainL s.heap a its.toArray/\↥xs<=Ax:=by
 rcases h with h|⟨o,its,n,hk,hc,hd,F,hz,r⟩
 .let⟨z,its,n,r,e⟩:=h.ok I.hok;exact⟨its,r,⟨_,n,e,rfl,rfl,rfl⟩,z⟩
 .refine⟨its.toList,r,⟨o,n,I.kIn a o hk,hc,hd,by simpa using F⟩,?_⟩;have e:=↥r;simp only[Fs]at e;lia
theorem Inv.tuple(I:Inv X af Z H s)(h:bU X.K H a xs):∃its:↑Ae,aZ xs its/\IsTup s.heap a its.toArray/\↥xs<=Ax:=by
 rcases h with h|⟨o,its,n,hk,hc,F,hz,r⟩
 .let⟨z,its,r,p⟩:=h.ok I.hok;exact⟨its,r,p,z⟩
 .refine⟨its.toList,r,⟨o,I.kIn a o hk,hc,n,by simpa using F⟩,?_⟩;have e:=↥r;simp only[Fs]at e;lia
theorem Inv.list_inj(I:Inv X af Z H s)(h:bL X.K H a xs)(h':bL X.K H a ys):xs=ys:=by
 obtain⟨its,r,⟨o,n,e,_,_,d⟩,_⟩:=I.list h;obtain⟨its',U,⟨P,j,g,_,_,d'⟩,_⟩:=I.list h';rw[e]at g;cases g;rw[d]at d';injection d' with d1 _;have:its=its':=by simpa using congrArg Array.toList d1
 subst this;exact r.inj U
theorem Inv.tuple_inj(I:Inv X af Z H s)(h:bU X.K H a xs)(h':bU X.K H a ys):xs=ys:=by
 obtain⟨its,r,⟨o,e,_,n,d⟩,_⟩:=I.tuple h;obtain⟨its',U,⟨P,g,_,j,d'⟩,_⟩:=I.tuple h';rw[e]at g;cases g;rw[d]at d';injection d' with d1 _;have:its=its':=by simpa using congrArg Array.toList d1
 subst this;exact r.inj U
end
abbrev Cx.wish(X:Cx)(E:Ae->Aj->Prop):Cx:={X with xe:=E}
abbrev Cx.nox(X:Cx):Cx:=X.wish λ_ _=>False
theorem Cx.Ok.wish{X:Cx}(ok:X.Ok)(E:Ae->Aj->Prop):(X.wish E).Ok:=
 ⟨ok.mod,ok.kind,ok.glob,ok.blt,ok.above,ok.inj,ok.has,ok.cab,ok.hd,ok.frames,ok.stk,ok.exf,ok.bs,ok.bsz,ok.noex,ok.exfs,ok.funs,ok.frf⟩
theorem Cx.Ok.unwish{X:Cx}{E:Ae->Aj->Prop}(ok:(X.wish E).Ok):X.Ok:=
 ⟨ok.mod,ok.kind,ok.glob,ok.blt,ok.above,ok.inj,ok.has,ok.cab,ok.hd,ok.frames,ok.stk,ok.exf,ok.bs,ok.bsz,ok.noex,ok.exfs,ok.funs,ok.frf⟩
section
variable {X:Cx}{af:Pn}{Z:St}{H:Hp}{s:Aj}{E:Ae->Aj->Prop}
theorem Inv.wish(I:Inv X af Z H s)(E:Ae->Aj->Prop):Inv (X.wish E) af Z H s:=⟨I.ok.wish E,I.os,I.bare,I.base,I.loc,I.cell,I.free,I.freeC,I.pin,I.hok,I.len⟩
theorem Inv.unwish(I:Inv (X.wish E) af Z H s):Inv X af Z H s:=⟨I.ok.unwish,I.os,I.bare,I.base,I.loc,I.cell,I.free,I.freeC,I.pin,I.hok,I.len⟩
theorem SP.unwish(h:SP (X.wish E) af D f s'):SP X af D f s':=by
 cases f with
 | next=>let⟨σ',H',I,q⟩:=h;exact⟨σ',H',I.unwish,q⟩
 | brk=>let⟨σ',H',I,q⟩:=h;exact⟨σ',H',I.unwish,q⟩
 | cont=>let⟨σ',H',I,q⟩:=h;exact⟨σ',H',I.unwish,q⟩
 | ret u=>let⟨v,σ',H',I,r,q⟩:=h;exact⟨v,σ',H',I.unwish,r,q⟩
theorem fT.nox{st:↑Jl}{t:TS}(h:fT X.nox st t):fT X st t:=λaf s Z H D I hw=>
 Ig (h af s Z H D (I.wish _) hw) (λ_ _ q=>q.unwish) λ_ _ z=>Bq z
end
section
variable {X:Cx}{st:Jl}{rest:↑Jl}{t u:TS}{e:Cg}{te:TE}{pos:Hu}
def PD:TS:=λD Z H=>D.nx Z H
def PF(t u:TS):TS:=λD Z H=>t {D with nx:=u D} Z H
theorem PH:fT X [] PD:=λ_ _ Z H _ I h=>Ox ⟨Z,H,I,h⟩
theorem PJ(h1:PS X st t)(h2:fT X rest u):fT X (st::rest) (PF t u):=by
 intro af s Z H D I h;refine wpAny_execs_cons (thn (h1 af s Z H {D with nx:=u D} I h) λf s1 q=>?_);cases f with
 | next=>
  let⟨σ',H',I',q⟩:=q;exact h2 af s1 σ' H' D I' q
 | ret v=>exact q
 | brk=>exact q
 | cont=>exact q
theorem PK(h1:PS X st t):fT X [st] t:=by
 intro af s Z H D I h;refine wpAny_execs_cons (thn (h1 af s Z H D I h) λf s1 q=>?_);cases f with
 | next=>exact Ox q
 | ret v=>exact q
 | brk=>exact q
 | cont=>exact q
theorem Inv.quiet(I:Inv X af Z H s):interactive X.env=ac:=by simp[interactive,I.ok.kind]
def PL(te:TE):TS:=λD Z H=>te Z H λ_ z=>D.nx Z z
theorem PM(Y:PE X e te)(F:Ls e ae pos.line X.env=pure ac:=by rfl):PS X (.Expr e pos) (PL te):=by
 intro af s Z H D I h;exact wpAny_Expr_any (thn (Y af s Z H _ I h) λv g ⟨x,z,M,N,d⟩=>⟨Z,z,M,d⟩) I.quiet F
def PQ(te:TE):TS:=λD Z H=>te Z H D.rt
theorem PR(Y:PE X e te):PS X (.Return (aa e) pos) (PQ te):=by
 intro af s Z H D I h;exact wpAny_Return_some (thn (Y af s Z H _ I h) λv g ⟨x,z,M,N,d⟩=>⟨x,Z,z,M,N,d⟩)
def PU:TS:=λD _ H=>D.rt .non H
theorem PV:PS X (.Return ae pos) PU:=λ_ _ Z H _ I h=>wpAny_Return_none ⟨.non,Z,H,I,rfl,h⟩
def PX(c:TT)(t u:TS):TS:=λD Z H=>c Z H λb z=>if b=ab then t D Z z else u D Z z
theorem PY{c:Cg}{a b:↑Jl}{tc:TT}(hc:PT X c tc)(m:fT X a t)(G:fT X b u):PS X (.If c a b pos) (PX tc t u):=by
 intro af s Z H D I h;refine wpAny_If (thn (hc af s Z H _ I h) λd g ⟨z,M,J⟩=>?_);cases d with
 | true=>exact m af g Z z D M J
 | false=>exact G af g Z z D M J
def PZ:TS:=λ_ _ _=>False
theorem P0:PS X st PZ:=λ_ _ _ _ _ _ h=>h.elim
end
abbrev TG:=V->St->Hp->(St->Hp->Prop)->Prop
abbrev j7:=↑V->St->Hp->(St->Hp->Prop)->Prop
def PG(X:Cx)(b:Cg)(t:TG):Prop:=
 ∀(af:Pn) (s:Aj) (Z:St) (H:Hp) (v:V) (u:Ae) (Q:St->Hp->Prop),Inv X af Z H s->RelV v u->t v Z H Q->
  X.a (Nr b X.env u) (λ_ W=>∃O l,Inv X af O l W/\Q O l) X.xe s
def i5(X:Cx)(ts:↑Cg)(t:j7):Prop:=
 ∀(af:Pn) (s:Aj) (Z:St) (H:Hp) (vs:↑V) (us:↑Ae) (Q:St->Hp->Prop),Inv X af Z H s->aZ vs us->t vs Z H Q->
  X.a (assignInOrder ((Hq ts X.env).map (·.2)) us) (λ_ W=>∃O l,Inv X af O l W/\Q O l) X.xe s
abbrev tE:=V->V->V->Hp->(Hp->Prop)->Prop
def tF(X:Cx)(t:tE):Prop:=
 ∀(af:Pn) (s:Aj) (Z:St) (H:Hp) (o i v:V) (N D u:Ae) (Q:Hp->Prop),Inv X af Z H s->RelV o N->RelV i D->RelV v u->t o i v H Q->
  X.a (Uw N D u) (λ_ W=>∃l,Inv X af Z l W/\Q l) X.xe s
section
variable {X:Cx}{pos:Hu}
def xN(i:Nat):TG:=λv Z H Q=>Q (Z.set i (aa v)) H
theorem P1{i:Nat}(t:X.N.Nodup)(hi:X.N[i]? = aa x)(J:Loc X.env.scope x)(hf:Fy X x:=by first|exact .inl rfl|exact .inr rfl|assumption):PG X (.Name x pos) (xN i):=by
 intro af s Z H v u Q I r h;exact wpAny_assign_Name (CO I t hi J r (λW c=>⟨_,H,c,h⟩) hf)
def P2:j7:=λvs Z H Q=>vs=[]/\Q Z H
def P4(t:TG)(u:j7):j7:=λvs Z H Q=>∃v r,vs=v::r/\t v Z H λO l=>u r O l Q
theorem P5:i5 X [] P2:=by
 intro af s Z H vs us Q I r h;let⟨e,h⟩:=h;subst e;cases r;exact assignInOrder_nil ⟨Z,H,I,h⟩
theorem P6{e:Cg}{es:↑Cg}{t:TG}{u:j7}(O:PG X e t)(L:i5 X es u)(F:(Hq (e::es) X.env).map (·.2)=Nr e X.env::(Hq es X.env).map (·.2):=by rfl):i5 X (e::es) (P4 t u):=by
 intro af s Z H vs us Q I r h;let⟨v,a,D,h⟩:=h;subst D;cases r with
 | cons r l=>
  rw[F];refine assignInOrder_cons (thn (O af s Z H _ _ _ I r h) λ_ g ⟨x,z,M,d⟩=>?_);exact L af g x z _ _ Q M l d
def P7(K:Ac)(n:Nat)(t:j7):TG:=λv Z H Q=>∃a xs,v=.ref a/\bU K H a xs/\↥xs=n/\t xs Z H Q
theorem P8{k:Nat}{n:Nat}(hc:X.calm=ab)(h:i5 X es t)(hn:↥(Hq es X.env)=n:=by rfl)(j:(Hq es X.env).findIdx? (·.1)=ae:=by rfl):PG X (.Tuple es k pos) (P7 X.K n t):=by
 intro af s Z H v u Q I r hw;let⟨a,xs,D,Y,hl,hw⟩:=hw;subst D;cases r;let⟨its,R,ht,hz⟩:=I.tuple Y;refine assign_Tuple_tuple (I.ok.hd hc) ht (by simp[hn,<-hl,↥R]) j λh' J=>?_;have M:Inv X af Z H {s with heap:=h'}:=I.kept (t':=s.toks) λb o e=>J b o (Br (Bg e)) e;exact h af _ Z H xs _ Q M (by simpa using R) hw
def P9(to a:TE)(t:tE):TG:=λv Z H Q=>to Z H λo z=>a Z z λi E=>t o i v E λw=>Q Z w
theorem QA{o i:Cg}{to a:TE}{t:tE}(S:PE X o to)(hi:PE X i a)(F:tF X t)(m:∀v,Nr (.Subscript o i pos) X.env v=(do
   let L <-Ji [v] (Eu o X.env)
   let D <-Ji [v,L] (Eu i X.env)
   Pr pos
   Ji [v,L,D] (Uw L D v)
   release [v,L,D] []):=by intro _;rfl):PG X (.Subscript o i pos) (P9 to a t):=by
 intro af s Z H v u Q I r h;rw[m];refine Aa (Dn (thn (S af s Z H _ I h) λL g W=>?_));let⟨x,z,M,N,d⟩:=W;refine Aa (Dn (thn (hi af g Z z _ M d) λD C U=>?_));let⟨y,E,n,Y,p⟩:=U;refine Aa (Qe (Aa (Dn (thn (F af C Z E x y v L D u _ n N Y r p) λ_ j R=>?_))));let⟨w,K,B⟩:=R;exact wpAny_release ⟨Z,w,K,B⟩
def tG(te:TE)(g:TG):TS:=λD Z H=>te Z H λx z=>g x Z z D.nx
theorem QB{tg e:Cg}{te:TE}{g:TG}(Y:PE X e te)(L:PG X tg g)(F:swapsWithSole [tg] e pos.line X.env=pure ac:=by rfl)(hw:swappedStores [tg] e X.env=pure ae:=by rfl)(O:(Hq [tg] X.env).map (·.2)=[Nr tg X.env]:=by rfl):PS X (.Assign [tg] e pos) (tG te g):=by
 intro af s Z H D I h;refine wpAny_Assign_stores (thn (Y af s Z H _ I h) λv M W=>?_) F hw;let⟨x,z,N,U,d⟩:=W;rw[O];exact thn (L af M Z z x v _ N U d) λ_ C q=>q
theorem QC{i:Nat}{x:Ay}{e:Cg}{te:TE}{a:Hu}(t:X.N.Nodup)(hi:X.N[i]? = aa x)(J:Loc X.env.scope x)(Y:PE X e te)(F:Ls e (aa (.Name x a)) pos.line X.env=pure ac:=by rfl)(hf:Fy X x:=by first|exact .inl rfl|exact .inr rfl|assumption):
  PS X (.Assign [.Name x a] e pos) (tG te (xN i)):=by
 intro af s Z H D I h;refine wpAny_Assign_Name (thn (Y af s Z H _ I h) λv g W=>?_) F;let⟨y,z,M,U,d⟩:=W;exact CO M t hi J U (λC n=>⟨_,z,n,d⟩) hf
end
section
variable {X:Cx}{pos:Hu}
def QD(c:TT)(tb:TS):TS:=λD Z H=>∃W:Nat->St->Hp->Prop,(∃m,W m Z H)/\∀m Z H,W m Z H->
 c Z H λb z=>if b=ab then ∃N:St->Hp->Prop,(∀O l,N O l->∃e,e<m/\W e O l)/\tb {D with nx:=N,ct:=N,bk:=D.nx} Z z else D.nx Z z
theorem QE{c:Cg}{body:↑Jl}{tc:TT}{tb:TS}(hp:Tn X.m X.A X.env X.xe)(hc:PT X c tc)(hb:fT X body tb):PS X (.While c body [] pos) (QD tc tb):=by
 intro af s Z H D I h;obtain⟨W,⟨m0,w0⟩,turn⟩:=h;refine wpAny_While (codeAny_whileLoop (λn s'=>∃σ' H',Inv X af σ' H' s'/\W n σ' H') ?_ m0 ⟨Z,H,I,w0⟩);rintro n s1 ⟨σ1,H1,I1,w1⟩;refine Ja hp (thn (hc af s1 σ1 H1 _ I1 (turn n σ1 H1 w1)) λb s2 z0=>?_);let⟨H2,I2,q2⟩:=z0;cases b with
 | true=>
  let⟨N,hN,q2⟩:=q2;rw[Vg rfl];refine Ja hp (thn (hb af s2 σ1 H2 _ I2 q2) λf s3 q3=>?_);cases f with
  | next=>
   let⟨σ3,H3,I3,n3⟩:=q3;let⟨m',hm,w3⟩:=hN σ3 H3 n3;exact⟨m',hm,σ3,H3,I3,w3⟩
  | cont=>
   let⟨σ3,H3,I3,n3⟩:=q3;let⟨m',hm,w3⟩:=hN σ3 H3 n3;exact⟨m',hm,σ3,H3,I3,w3⟩
  | brk=>exact q3
  | ret v=>exact q3
 | false=>
  rw[Vf Bf];exact Ox ⟨σ1,H2,I2,q2⟩
end
structure It where
 go:Nat->Hp->Prop
 yld:Nat->Hp->V->Hp->Prop
 stop:Nat->Hp->Prop
def gW(X:Cx)(af:Pn)(H:Hp)(b:An):Prop:=
 H b=ae/\b≠X.env.locals/\b∉X.fs/\(b∈X.ex\/⇑X.s₀<=b)/\(∀x c,X.env.cells.lookup x=aa c->c≠b)/\∀p∈X.pn++af,p.1≠b
theorem Inv.fpOk(I:Inv X af Z H s)(G:⇑s<=b)(hn:l b=ae):gW X af l b:=by
 refine⟨hn,Ct (Bv I.lt G),I.nofs G,.inr (Ar I.sz G),λx c e z=>?_,λp N z=>?_⟩
 .let⟨v,q⟩:=I.cell x c e;exact absurd (Bv q.lt (by rw[z];exact G)) (Iu _)
 .exact absurd (Bv (Bg (I.pin p N).1) (by rw[z];exact G)) (Iu _)
structure jM(P:Bc)(w:Bo)(K:Ac)(tg:Cg)(J:It)(fp:↑An)(it:An)(tn:Nat->Ds->Prop):Prop where
 mem:it∈fp
 obj:∀i h,tn i h->∀b∈fp,∃o,h.get? b=aa o/\∀v,o.data≠.cell v
 keep:∀i h h',tn i h->(∀b∈fp,∀o,h.get? b=aa o->h'.get? b=aa o)->tn i h'
 item:∀(X:Cx),X.prog=P->X.w=w->X.K=K->X.calm=ab->∀(i:Nat) (af:Pn) (s:Aj) (Z:St) (H:Hp) (E:Ae->Aj->Prop),Inv X af Z H s->(∀b∈fp,gW X af H b)->tn i s.heap->J.go i H->
  Bk (Dj P w) X.A (Hi (.ref it)) (λr s1=>∃u,r=aa u/\
   Bk (Dj P w) X.A (Oz tg (.ref it) u) (λ_ s2=>∃x H',Inv X af Z H' s2/\RelV x u/\J.yld i H x H'/\tn (i+1) s2.heap/\∀b∈fp,H' b=ae) E s1) E s
 done:∀(X:Cx),X.prog=P->X.w=w->X.K=K->X.calm=ab->∀(i:Nat) (af:Pn) (s:Aj) (Z:St) (H:Hp) (E:Ae->Aj->Prop),Inv X af Z H s->(∀b∈fp,gW X af H b)->tn i s.heap->J.stop i H->
  Bk (Dj P w) X.A (Hi (.ref it)) (λr s1=>r=ae/\Inv X af Z H s1) E s
 self:∀(A:Cs) (i:Nat) (s:Aj) (Q:Ae->Aj->Prop) (E:Ae->Aj->Prop),tn i s.heap->Q (.ref it) s->Bk (Dj P w) A (Ro (.ref it)) Q E s
abbrev TI:=St->Hp->(It->Hp->Prop)->Prop
def xO(X:Cx)(af:Pn)(Z:St)(tg:Cg)(R:It->Hp->Prop)(a:Ae)(C:Aj):Prop:=
 ∃(it:An) (fp:↑An) (U:Nat->Ds->Prop) (J:It) (l:Hp),a=.ref it/\Inv X af Z l C/\jM X.prog X.w X.K tg J fp it U/\U 0 C.heap/\(∀b∈fp,gW X af l b)/\R J l
def PI(X:Cx)(tg b:Cg)(d:TI):Prop:=
 ∀(af:Pn) (s:Aj) (Z:St) (H:Hp) (R:It->Hp->Prop),Inv X af Z H s->d Z H R->
  X.a (Eu b X.env) (λv g=>X.a (Ro v) (xO X af Z tg R) X.xe g) X.xe s
theorem pD{E:Ae->Aj->Prop}{Q:Unit->Aj->Prop}(S:s.heap.get? it=aa o)(hc:o.cls=.type n)(hd:o.data=.fields vs)(hn : ["enumerate","zip","dict_itemiterator","dict_reverseitemiterator","odict_iterator","itertools.zip_longest","itertools.pairwise"].contains n=ac)(K:Q () s):Bk M A (Oz tg (.ref it) u) Q E s:=by
 unfold Oz;cases tg<;>first
  | exact Ag K
  | (cases u<;>first
    | exact Ag K
    | (refine Aa (wpAny_load S ?_)
       rw[hc,hd];show Bk M A (if (["enumerate","zip","dict_itemiterator","dict_reverseitemiterator","odict_iterator","itertools.zip_longest","itertools.pairwise"].contains n&&vs[0]?==aa (He _))=ab then _ else _) Q E s;rw[Vf (by intro h;rw[hn,Om]at h;cases h)];exact Ag K))
def pE(K:Ac)(a:An):It:=
 ⟨λi H=>∃xs x,bL K H a xs/\xs[i]? = aa x,λi H x l=>l=H/\∀xs,bL K H a xs->xs[i]? = aa x,λi H=>∃xs,bL K H a xs/\↥xs<=i⟩
def xQ(K:Ac)(a:An):It:=
 ⟨λi H=>∃xs x,bU K H a xs/\xs[i]? = aa x,λi H x l=>l=H/\∀xs,bU K H a xs->xs[i]? = aa x,λi H=>∃xs,bU K H a xs/\↥xs<=i⟩
def qM(lo:Int)(n:Nat):It:=⟨λi _=>i<n,λi H x l=>l=H/\x=.int (lo+i),λi _=>n<=i⟩
theorem QF{P:Bc}{w:Bo}{K:Ac}{tg:Cg}(a it:An):jM P w K tg (pE K a) [it] it (λi h=>h.IsListIter it a i) where
 mem:=by simp
 obj:=λi h st b G=>by
  have e:b=it:=by simpa using G
  subst e;let⟨o,e,c,d⟩:=st;exact⟨o,e,λv z=>by rw[d]at z;cases z⟩
 keep:=λi h h' st k=>st.at λo e=>k it (by simp) o e
 item:=by
  intro X r hw Y hc i af s Z H E I hf st L;subst r hw Y;let⟨xs,x,W,J⟩:=L;let⟨its,R,p,hz⟩:=I.list W;let⟨u,U,ru⟩:=R.get J;let⟨f0,C,O,B,j,y⟩:=hf it (by simp);refine wpAny_pyNext_list_item st p.isList (x:=u) (by simpa using U) λh' m sb=>?_;have M:Inv X af Z H {s with heap:=h'}:=I.turned (t':=s.toks) (λb o G e=>(sb.2 b G).trans e) f0 C B j y;let⟨o,e,c,d⟩:=id m;exact⟨u,rfl,pD (s:={s with heap:=h'}) e c d ∅ ⟨x,H,M,ru,⟨rfl,λys f=>by rw[I.list_inj f W];exact J⟩,m,λb G=>(hf b G).1⟩⟩
 done:=by
  intro X r hw Y hc i af s Z H E I hf st L;subst r hw Y;let⟨xs,W,J⟩:=L;let⟨its,R,p,hz⟩:=I.list W;let⟨f0,C,O,B,j,y⟩:=hf it (by simp);have hl:=↥R;exact wpAny_pyNext_list_end (I.ok.hd hc) st p.isList (by simp;lia) λh' T=>⟨rfl,I.turned (t':=s.toks) (λb o G e=>T b o G e) f0 C B j y⟩
 self:=λ_ _ _ _ _ st h=>wpAny_pyIter_listiter st h
theorem QG{P:Bc}{w:Bo}{K:Ac}{tg:Cg}(a it:An):jM P w K tg (xQ K a) [it] it (λi h=>h.IsTupleIter it a i) where
 mem:=by simp
 obj:=λi h st b G=>by
  have e:b=it:=by simpa using G
  subst e;let⟨o,e,c,d⟩:=st;exact⟨o,e,λv z=>by rw[d]at z;cases z⟩
 keep:=λi h h' st k=>st.at λo e=>k it (by simp) o e
 item:=by
  intro X r hw Y hc i af s Z H E I hf st L;subst r hw Y;let⟨xs,x,W,J⟩:=L;let⟨its,R,p,hz⟩:=I.tuple W;let⟨u,U,ru⟩:=R.get J;let⟨f0,C,O,B,j,y⟩:=hf it (by simp);refine wpAny_pyNext_tuple_item st (show s.heap.IsTuple a its.toArray from p) (x:=u) (by simpa using U) λh' m sb=>?_;have M:Inv X af Z H {s with heap:=h'}:=I.turned (t':=s.toks) (λb o G e=>(sb.2 b G).trans e) f0 C B j y;let⟨o,e,c,d⟩:=id m;exact⟨u,rfl,pD (s:={s with heap:=h'}) e c d ∅ ⟨x,H,M,ru,⟨rfl,λys f=>by rw[I.tuple_inj f W];exact J⟩,m,λb G=>(hf b G).1⟩⟩
 done:=by
  intro X r hw Y hc i af s Z H E I hf st L;subst r hw Y;let⟨xs,W,J⟩:=L;let⟨its,R,p,hz⟩:=I.tuple W;let⟨f0,C,O,B,j,y⟩:=hf it (by simp);have hl:=↥R;exact wpAny_pyNext_tuple_end (I.ok.hd hc) st (show s.heap.IsTuple a its.toArray from p) (by simp;lia) λh' T=>⟨rfl,I.turned (t':=s.toks) (λb o G e=>T b o G e) f0 C B j y⟩
 self:=λ_ _ _ _ _ st h=>wpAny_pyIter_tupleiter st h
theorem QH{P:Bc}{w:Bo}{K:Ac}{tg:Cg}(it:An)(lo:Int)(n:Nat):jM P w K tg (qM lo n) [it] it (λi h=>IsRangeIter h it (lo+(i:Nat)*1) ((n:Int)-(i:Nat)) 1) where
 mem:=by simp
 obj:=λi h st b G=>by
  have e:b=it:=by simpa using G
  subst e;exact⟨_,st,λv z=>by
   have Q:Data.fields _=Data.cell v:=z;cases Q⟩
 keep:=λi h h' st k=>k it (by simp) _ st
 item:=by
  intro X r hw Y hc i af s Z H E I hf st L;subst r hw Y;let⟨f0,C,O,B,j,y⟩:=hf it (by simp);have W:=Walks.range (prog:=X.prog) (w:=X.w) (I.ok.hd hc) it lo 1 n;refine W.item i s _ _ L st λv h' tk c m kk=>?_;let⟨t,rfl⟩:=c;have M:Inv X af Z H {s with heap:=h',toks:=tk}:=I.turned (λb o G e=>kk b o (by simpa using G) e) f0 C B j y;refine⟨_,rfl,pD (s:={s with heap:=h',toks:=tk}) (n:="range_iterator") m rfl rfl ∅ ⟨.int (lo+i),H,M,⟨t,?_⟩,⟨rfl,rfl⟩,m,λb G=>(hf b G).1⟩⟩;rw[Int.mul_one]
 done:=by
  intro X r hw Y hc i af s Z H E I hf st L;subst r hw Y;let⟨f0,C,O,B,j,y⟩:=hf it (by simp);exact wpAny_pyNext_range_end (I.ok.hd hc) st (by have:n<=i:=L;lia) λh' T=>⟨rfl,I.turned (t':=s.toks) (λb o G e=>T b o G e) f0 C B j y⟩
 self:=λ_ _ _ _ _ st h=>wpAny_pyIter_rangeiter st h
section
variable {X:Cx}{tg:Cg}
theorem CQ{R:It->Hp->Prop}{E:Ae->Aj->Prop}{lo hi:Int}{tk:Nat}(I:Inv X af Z H s)(O : -(2 ^ 62)<=lo)(L:lo<2 ^ 62)(h3 : -(2 ^ 62)<=hi)(F:hi<2 ^ 62)(q:R (qM lo (hi-lo).toNat) H):X.a (Ro (.ref ⇑s)) (xO X af Z tg R) E {s with heap:=s.heap.push {cls:=.type "range",data:=.fields #[.int lo t,.int hi u,.int 1 v]},toks:=tk}:=by
 refine wpAny_pyIter_range (Sm ..) (small_one O L h3 F) ?_;have M:Inv X af Z H {s with heap:=s.heap.push {cls:=.type "range",data:=.fields #[.int lo t,.int hi u,.int 1 v]},toks:=tk}:=I.kept λb o e=>Ah _ e;refine⟨(s.heap.push {cls:=.type "range",data:=.fields #[.int lo t,.int hi u,.int 1 v]}).objs.size,[(s.heap.push {cls:=.type "range",data:=.fields #[.int lo t,.int hi u,.int 1 v]}).objs.size],_,_,H,rfl,
  M.kept (t':=tk) λb o e=>Ah _ e,QH _ lo (hi-lo).toNat,?_,λb G=>?_,q⟩
 .have D:lo+((0:Nat):Int)*1=lo:=by simp
  have A:(((hi-lo).toNat:Nat):Int)-((0:Nat):Int)=Hm lo hi 1:=by rw[Tc];split<;>lia
  show IsRangeIter _ _ (lo+((0:Nat):Int)*1) ((((hi-lo).toNat:Nat):Int)-((0:Nat):Int)) 1;rw[D,A];exact Bb _ rfl
 .have e:b=(s.heap.push {cls:=.type "range",data:=.fields #[.int lo t,.int hi u,.int 1 v]}).objs.size:=by simpa using G
  subst e;exact M.fpOk (Ai _) (M.hok.fresh (Ai _))
def QI(ta:TA):TI:=λZ H R=>ta Z H λvs z=>∃j:Int,vs=[.int j]/\-(2 ^ 62)<=j/\j<2 ^ 62/\R (qM 0 j.toNat) z
def QJ(ta:TA):TI:=λZ H R=>ta Z H λvs z=>∃i j:Int,vs=[.int i,.int j]/\(-(2 ^ 62)<=i/\i<2 ^ 62/\-(2 ^ 62)<=j/\j<2 ^ 62)/\R (qM i (j-i).toNat) z
theorem QK{a:Cg}{ta:TA}{p pos:Hu}(L:Gl X "range")(P:X.mg "range" = ae)(m:PA X [a] ta)(F:Cp [a] X.env=[(ac,Eu a X.env)]:=by rfl):PI X tg (.Call (.Name "range" p) [a] [] pos) (QI ta):=by
 intro af s Z H R I h;refine Call_ (iJ I L P boot_range (Cj (thn (m pos af s Z H _ I h) λus g Y=>?_) F rfl));let⟨vs,z,M,N,d⟩:=Y;let⟨j,e,d,y,q⟩:=d;subst e;cases N with
 | cons r l=>
  cases l;let⟨t,rfl⟩:=r;exact Tw (CQ M (by lia) (by lia) d y (by simpa using q))
theorem QL{a b:Cg}{ta:TA}{p pos:Hu}(L:Gl X "range")(P:X.mg "range" = ae)(m:PA X [a,b] ta)(F:Cp [a,b] X.env=[(ac,Eu a X.env),(ac,Eu b X.env)]:=by rfl)(Y:Cp [b] X.env=[(ac,Eu b X.env)]:=by rfl):
  PI X tg (.Call (.Name "range" p) [a,b] [] pos) (QJ ta):=by
 intro af s Z H R I h;refine Call_ (iJ I L P boot_range (Cj (thn (m pos af s Z H _ I h) λus g W=>?_) (by rw[F,Y]) (by rw[Y];rfl)));let⟨vs,z,M,N,d⟩:=W;obtain⟨i,j,e,⟨d,y,o,w⟩,q⟩:=d;subst e;cases N with
 | cons r l=>
  cases l with
  | cons U l=>
   cases l;let⟨t,rfl⟩:=r;let⟨t',rfl⟩:=U;exact call_range_2 (CQ M d y o w q)
def QM(d:TI)(g:TG)(tb:TS):TS:=λD Z H=>d Z H λJ z=>∃W:Nat->Nat->St->Hp->Prop,(∃m,W 0 m Z z)/\∀i m Z H,W i m Z H->
 (J.stop i H/\D.nx Z H)\/(J.go i H/\∃N:St->Hp->Prop,(∀O l,N O l->∃e,e<m/\W (i+1) e O l)/\∀x l,J.yld i H x l->g x Z l λc E=>tb {D with nx:=N,ct:=N,bk:=D.nx} c E)
def qN(fp:↑An)(h:Ds):Pn:=fp.filterMap λb=>(h.get? b).map λo=>(b,o)
theorem tH(G:b∈fp)(e:h.get? b=aa o):(b,o)∈qN fp h:=Ij.mpr ⟨b,G,by rw[e];rfl⟩
theorem QN(N:p∈qN fp h):p.1∈fp/\h.get? p.1=aa p.2:=by
 let⟨b,G,e⟩:=Ij.mp N;cases q:h.get? b with
 | none=>rw[q]at e;cases e
 | some o=>
  rw[q]at e;have g:(b,o)=p:=Co e;subst g;exact⟨G,q⟩
theorem Inv.pinned(I:Inv X af Z H s)(hf:∀b∈fp,gW X af H b)(S:∀b∈fp,∃o,s.heap.get? b=aa o/\∀v,o.data≠.cell v):Inv X (af++qN fp s.heap) Z H s:=
 I.pins_of λp N=>(Ba.mp N).elim (λz=>I.pin p (Bi _ z)) λz=>by
  let⟨G,e⟩:=QN z;let⟨f0,C,O,_⟩:=hf p.1 G;let⟨o,g,d⟩:=S p.1 G;rw[e]at g;cases g;exact⟨e,f0,C,O,d⟩
theorem Inv.unpinned(I:Inv X (af++pl) Z H s):Inv X af Z H s:=I.pins_of λp N=>I.pin p (Bi _ (Be _ N))
theorem QO{iter:Cg}{a:↑Jl}{wi:TI}{g:TG}{tb:TS}{pos:Hu}(S:Tn X.m X.A X.env X.xe)(hc:X.calm=ab)(hi:PI X tg iter wi)(t:PG X tg g)(G:fT X a tb)(F:∀x,Hz iter X.env x=pure x:=by intro _;rfl):PS X (.For tg iter a [] pos) (QM wi g tb):=by
 intro af s Z H D I h;refine wpAny_For (thn (hi af s Z H _ I h) λv M O=>thn O λitv C L=>?_) F;obtain⟨it,fp,tn,J,E,e,K,T,st2,z,W,⟨m0,w0⟩,turn⟩:=L;subst e;have stat:∀{l:Hp},(∀b∈fp,l b=ae)->∀b∈fp,gW X af l b:=λhn b G=>⟨hn b G,(z b G).2⟩
 refine codeAny_forLoop_any (λn R=>∃i B l,Inv X af B l R/\tn i R.heap/\(∀b∈fp,l b=ae)/\W i n B l) ?_ m0 ⟨0,Z,E,K,st2,λb G=>(z b G).1,w0⟩;rintro n y ⟨i,p,w,k,st3,fr3,w3⟩;rcases turn i n p w w3 with⟨stop,qn⟩|⟨go,N,q,step⟩
 .refine Ja S (thn (T.done X rfl rfl rfl hc i af y p w X.xe k (stat fr3) st3 stop) λr s4 A=>?_);let⟨V,I4⟩:=A;subst V;exact Ox ⟨p,w,I4,qn⟩
 .refine Ja S (thn (T.item X rfl rfl rfl hc i af y p w X.xe k (stat fr3) st3 go) λr s4 U=>?_);let⟨u,V,Q⟩:=U;subst V;refine Ja S (thn Q λ_ s5 Y=>?_);let⟨x,H5,I5,r5,y5,st5,fr5⟩:=Y;have I5':=I5.pinned (stat fr5) (T.obj _ _ st5);refine Ja S (thn (t _ s5 p H5 x u _ I5' r5 (step x H5 y5)) λ_ s6 z3=>?_);let⟨σ6,H6,I6,q6⟩:=z3;refine Ja S (thn (G _ s6 σ6 H6 _ I6 q6) λf s7 q7=>?_);have c:∀{σ7:St} {H7:Hp},Inv X (af++qN fp s5.heap) σ7 H7 s7->N σ7 H7->∃m,m<n/\∃i B l,Inv X af B l s7/\tn i s7.heap/\(∀b∈fp,l b=ae)/\W i m B l:=λ{σ7 H7} I7 n7=>by
   let⟨j,P,w7⟩:=q σ7 H7 n7;refine⟨j,P,i+1,σ7,H7,I7.unpinned,T.keep _ _ _ st5 λb G o e=>(I7.pin (b,o) (Bi _ (Bi _ (tH G e)))).1,λb G=>?_,w7⟩;let⟨o,e,d⟩:=T.obj _ _ st5 b G;exact(I7.pin (b,o) (Bi _ (Bi _ (tH G e)))).2.1
  cases f with
  | next=>let⟨σ7,H7,I7,n7⟩:=q7;exact c I7 n7
  | cont=>let⟨σ7,H7,I7,n7⟩:=q7;exact c I7 n7
  | brk=>let⟨σ7,H7,I7,q7⟩:=q7;exact⟨σ7,H7,I7.unpinned,q7⟩
  | ret v=>let⟨x7,σ7,H7,I7,r7,q7⟩:=q7;exact⟨x7,σ7,H7,I7.unpinned,r7,q7⟩
end
abbrev R2:=V->V->Hp->VK->Prop
def bF(X:Cx)(f:Ae->Ae->Sg Ae)(r:R2):Prop:=
 ∀(af:Pn) (s:Aj) (Z:St) (H:Hp) (x y:V) (v u:Ae) (Q:VK),Inv X af Z H s->RelV x v->RelV y u->r x y H Q->
  X.a (f v u) (EP X af Z Q) X.xe s
def qO(X:Cx)(f:Ae->Sg Ae)(r:V->Hp->VK->Prop):Prop:=
 ∀(af:Pn) (s:Aj) (Z:St) (H:Hp) (x:V) (v:Ae) (Q:VK),Inv X af Z H s->RelV x v->r x H Q->
  X.a (f v) (EP X af Z Q) X.xe s
def cN(X:Cx)(f:Ae)(r:↑V->Hp->VK->Prop):Prop:=
 ∀(af:Pn) (s:Aj) (Z:St) (H:Hp) (xs:↑V) (us:↑Ae) (Q:VK),Inv X af Z H s->aZ xs us->r xs H Q->
  X.a (call f us) (EP X af Z Q) X.xe s
def QP(X:Cx)(r:V->Hp->(Bool->Hp->Prop)->Prop):Prop:=
 ∀(af:Pn) (s:Aj) (Z:St) (H:Hp) (x:V) (v:Ae) (Q:Bool->Hp->Prop),Inv X af Z H s->RelV x v->r x H Q->
  X.a (truthy v) (TP X af Z Q) X.xe s
def qP(r:R2)(ta tb:TE):TE:=λZ H Q=>ta Z H λx z=>tb Z z λy E=>r x y E Q
def QQ(r:V->Hp->VK->Prop)(ta:TE):TE:=λZ H Q=>ta Z H λx z=>r x z Q
def rI(C:Int->Int->Prop)(g:Int->Int->V):R2:=λx y H Q=>∃i j,x=.int i/\y=.int j/\C i j/\Q (g i j) H
def kK(g:Int->Int->V):R2:=λx y H Q=>∃i j,x=.int i/\y=.int j/\Q (g i j) H
def rU(g:Int->V):V->Hp->VK->Prop:=λx H Q=>∃i,x=.int i/\Q (g i) H
section
variable {X:Cx}{a b c:Cg}{ta tb tc:TE}{pos:Hu}
theorem xR(m:PE X a ta)(G:PE X b tb){af:Pn}{s:Aj}{Z:St}{H:Hp}{R:V->V->Hp->Prop}(I:Inv X af Z H s)(h:ta Z H λx z=>tb Z z λy E=>R x y E){Q:Ae->Aj->Prop}{f:Ae->Ae->Sg Ae}(hf:∀v u C x y E,Inv X af Z E C->RelV x v->RelV y u->R x y E->X.a (f v u) Q X.xe C):
  X.a (Eu a X.env) (λv B=>X.a (Eu b X.env) (λu K=>X.a (f v u) Q X.xe K) X.xe B) X.xe s:=by
 refine thn (m af s Z H _ I h) λv g ⟨x,z,M,N,d⟩=>?_;refine thn (G af g Z z _ M d) λu C ⟨y,E,i,Y,p⟩=>?_;exact hf v u C x y E i N Y p
theorem QS(S:bF X (Eh op) r)(m:PE X a ta)(G:PE X b tb):PE X (.BinOp a op b pos) (qP r ta tb):=by
 intro af s Z H Q I h;exact wpAny_BinOp (xR m G I h λv u C x y E i d P q=>S af C Z E x y v u Q i d P q)
theorem QT{op:UnaryOp}{r:V->Hp->VK->Prop}(S:qO X (Uv op) r)(m:PE X a ta):PE X (.UnaryOp op a pos) (QQ r ta):=by
 intro af s Z H Q I h;exact UnaryOp_ (thn (m af s Z H _ I h) λv g ⟨x,z,M,N,d⟩=>S af g Z z x v Q M N d)
theorem pF{f:Ae->Ae->Sg Ae}{C:Int->Int->Prop}{g:Int->Int->Int}(b:∀(i j:Int) (t u:Tz) (s:Aj) (Q:Ae->Aj->Prop) (E:Ae->Aj->Prop),C i j->Q (.int (g i j) s.toks) {s with toks:=s.toks+1}->X.a (f (.int i t) (.int j u)) Q E s):
  bF X f (rI C λi j=>.int (g i j)):=by
 intro af s Z H x y v u Q I d P h;let⟨i,j,rfl,rfl,hc,q⟩:=h;let⟨t,rfl⟩:=d;let⟨t',rfl⟩:=P;exact b i j t t' s _ _ hc ⟨.int (g i j),H,I.tok _,⟨_,rfl⟩,q⟩
theorem xS{f:Ae->Ae->Sg Ae}{g:Int->Int->Int}(b:∀(i j:Int) (t u:Tz) (s:Aj) (Q:Ae->Aj->Prop) (E:Ae->Aj->Prop),Q (.int (g i j) s.toks) {s with toks:=s.toks+1}->X.a (f (.int i t) (.int j u)) Q E s):
  bF X f (kK λi j=>.int (g i j)):=by
 intro af s Z H x y v u Q I d P h;let⟨i,j,rfl,rfl,q⟩:=h;let⟨t,rfl⟩:=d;let⟨t',rfl⟩:=P;exact b i j t t' s _ _ ⟨.int (g i j),H,I.tok _,⟨_,rfl⟩,q⟩
theorem tI{f:Ae->Ae->Sg Ae}{g:Int->Int->Bool}(b:∀(i j:Int) (t u:Tz) (s:Aj) (Q:Ae->Aj->Prop) (E:Ae->Aj->Prop),Q (.bool (g i j)) s->X.a (f (.int i t) (.int j u)) Q E s):
  bF X f (kK λi j=>.bl (g i j)):=by
 intro af s Z H x y v u Q I d P h;let⟨i,j,rfl,rfl,q⟩:=h;let⟨t,rfl⟩:=d;let⟨t',rfl⟩:=P;exact b i j t t' s _ _ ⟨.bl (g i j),H,I,rfl,q⟩
def pG(i j:Int):Prop:=0<=j/\j<=1000000/\i.natAbs<2 ^ 64
def pH(i j:Int):Prop:=(-(2 ^ 64)<i/\i<2 ^ 64)\/(-(2 ^ 64)<j/\j<2 ^ 64)
theorem pH.ok{i j:Int}(h:pH i j):IntMulOk i j:=by
 rcases h with⟨O,L⟩|⟨O,L⟩
 .exact .of_left (intBits_le_64 O L)
 .exact .of_right (intBits_le_64 O L)
theorem QU(k:Nat):(0:Int)<=2 ^ k:=by
 rw[two_pow_cast];exact Pq _
theorem QV:bF X (Eh .Add) (kK λi j=>.int (i+j)):=xS λ_ _ _ _ _ _ _ q=>add_int q
theorem QW:bF X (Eh .Sub) (kK λi j=>.int (i-j)):=xS λ_ _ _ _ _ _ _ q=>sub_int q
theorem QX:bF X (Eh .Mult) (rI pH λi j=>.int (i*j)):=pF λ_ _ _ _ _ _ _ hc q=>mul_int q hc.ok
theorem QY:bF X (Eh .Mod) (rI (λ_ j=>0<j) λi j=>.int (i % j)):=pF λi j _ _ _ _ _ hc q=>by
 have O:(0:Int)<j:=hc;exact mod_int' (by lia) (by rw[Int.fmod_eq_emod_of_nonneg i (by lia)];exact q)
theorem QZ:bF X (Eh .Pow) (rI pG λi j=>.int (i ^ j.toNat)):=pF λ_ _ _ _ _ _ _ hc q=>pow_int_small hc.1 hc.2.1 hc.2.2 q
theorem Q0:bF X (Eh .RShift) (rI (λ_ j=>0<=j) λi j=>.int (i/2 ^ j.toNat)):=pF λi j _ _ _ _ _ hc q=>
 rshift_int hc (by rw[Int.fdiv_eq_ediv_of_nonneg i (QU _)];exact q)
theorem Q1:bF X (Eh .BitAnd) (kK λi j=>.int (Builtin.bitAnd i j)):=xS λ_ _ _ _ _ _ _ q=>and_int q
theorem Q2{f:Ae->Sg Ae}{g:Int->Int}(b:∀(i:Int) (t:Tz) (s:Aj) (Q:Ae->Aj->Prop) (E:Ae->Aj->Prop),Q (.int (g i) s.toks) {s with toks:=s.toks+1}->X.a (f (.int i t)) Q E s):
  qO X f (rU λi=>.int (g i)):=by
 intro af s Z H x v Q I d h;let⟨i,rfl,q⟩:=h;let⟨t,rfl⟩:=d;exact b i t s _ _ ⟨.int (g i),H,I.tok _,⟨_,rfl⟩,q⟩
theorem Q3:qO X (Uv .USub) (rU λi=>.int (-i)):=Q2 λ_ _ _ _ _ q=>neg_int q
end
def tJ:V->V->Bool
 | .non,.non=>ab|.non,.int _=>ab|.int _,.non=>ab|.non,.bl _=>ab|.bl _,.non=>ab|.non,.str _=>ab|.str _,.non=>ab
 | .int _,.int _=>ab|.bl _,.bl _=>ab|.str _,.str _=>ab|.byt _,.byt _=>ab
 | .int _,.str _=>ab|.str _,.int _=>ab|.bl _,.str _=>ab|.str _,.bl _=>ab
 | _,_=>ac
def Q4:R2:=λx y H Q=>tJ x y=ab/\Q (.bl (decide (x=y))) H
def Q6:R2:=λx y H Q=>tJ x y=ab/\Q (.bl (!decide (x=y))) H
theorem CS{i j:Int}:decide (V.int i=V.int j)=(i==j):=by
 rw[Dw];simp
theorem CU{i j:Bool}:decide (V.bl i=V.bl j)=(i==j):=by
 rw[Dw];simp
theorem CV:decide (V.str i=V.str j)=(i==j):=by
 rw[Dw];simp
theorem CW:decide (V.byt i=V.byt j)=(i.toList==j.toList):=by
 rw[Dw];cases i;cases j;simp
section
variable {X:Cx}{a b c:Cg}{ta tb tc:TE}{pos:Hu}
theorem dD{k y:Bool}(I:Inv X af Z H s)(q:Q (.bl k) H)(e:k=y):EP X af Z Q (.bool y) s:=by
 subst e;exact⟨.bl k,H,I,rfl,q⟩
theorem Q7:bF X (Du .Eq) Q4:=by
 intro af s Z H x y v u Q I rx ry h;let⟨hs,q⟩:=h;cases x with
 | non=>
  cases rx;cases y with
  | non=>cases ry;exact PySem.EqNone.eq_none_none (dD I q (by simp))
  | bl j=>cases ry;exact PySem.EqNone.eq_none_bool (dD I q (by simp))
  | int j=>let⟨t',rfl⟩:=ry;exact PySem.EqNone.eq_none_int (dD I q (by simp))
  | str j=>let⟨t',rfl⟩:=ry;exact PySem.EqNone.eq_none_str (dD I q (by simp))
  | _=>exact absurd (show ac=ab from hs) Bf
 | bl i=>
  cases rx;cases y with
  | non=>cases ry;exact PySem.EqNone.eq_bool_none (dD I q (by simp))
  | bl j=>cases ry;exact eq_bool (dD I q CU)
  | str j=>let⟨t',rfl⟩:=ry;exact PySem.EqMixed.eq_bool_str (dD I q (by simp))
  | _=>exact absurd (show ac=ab from hs) Bf
 | int i=>
  let⟨t,rfl⟩:=rx;cases y with
  | non=>cases ry;exact PySem.EqNone.eq_int_none (dD I q (by simp))
  | int j=>let⟨t',rfl⟩:=ry;exact eq_int (dD I q CS)
  | str j=>let⟨t',rfl⟩:=ry;exact PySem.EqMixed.eq_int_str (dD I q (by simp))
  | _=>exact absurd (show ac=ab from hs) Bf
 | str i=>
  let⟨t,rfl⟩:=rx;cases y with
  | non=>cases ry;exact PySem.EqNone.eq_str_none (dD I q (by simp))
  | bl j=>cases ry;exact PySem.EqMixed.eq_str_bool (dD I q (by simp))
  | int j=>let⟨t',rfl⟩:=ry;exact PySem.EqMixed.eq_str_int (dD I q (by simp))
  | str j=>let⟨t',rfl⟩:=ry;exact eq_str (dD I q CV)
  | _=>exact absurd (show ac=ab from hs) Bf
 | byt i=>
  let⟨t,rfl⟩:=rx;cases y with
  | byt j=>let⟨t',rfl⟩:=ry;exact PySem.W.eq_bytes (dD I q CW)
  | _=>exact absurd (show ac=ab from hs) Bf
 | _=>cases y<;>exact absurd (show ac=ab from hs) Bf
theorem Q8:bF X (Du .NotEq) Q6:=by
 intro af s Z H x y v u Q I rx ry h;let⟨hs,q⟩:=h;cases x with
 | non=>
  cases rx;cases y with
  | non=>cases ry;exact PySem.EqNone.ne_none_none (dD I q (by simp))
  | bl j=>cases ry;exact PySem.EqNone.ne_none_bool (dD I q (by simp))
  | int j=>let⟨t',rfl⟩:=ry;exact PySem.EqNone.ne_none_int (dD I q (by simp))
  | str j=>let⟨t',rfl⟩:=ry;exact PySem.EqNone.ne_none_str (dD I q (by simp))
  | _=>exact absurd (show ac=ab from hs) Bf
 | bl i=>
  cases rx;cases y with
  | non=>cases ry;exact PySem.EqNone.ne_bool_none (dD I q (by simp))
  | bl j=>cases ry;exact ne_bool (dD I q (congrArg not CU))
  | str j=>let⟨t',rfl⟩:=ry;exact PySem.EqMixed.ne_bool_str (dD I q (by simp))
  | _=>exact absurd (show ac=ab from hs) Bf
 | int i=>
  let⟨t,rfl⟩:=rx;cases y with
  | non=>cases ry;exact PySem.EqNone.ne_int_none (dD I q (by simp))
  | int j=>let⟨t',rfl⟩:=ry;exact ne_int (dD I q (congrArg not CS))
  | str j=>let⟨t',rfl⟩:=ry;exact PySem.EqMixed.ne_int_str (dD I q (by simp))
  | _=>exact absurd (show ac=ab from hs) Bf
 | str i=>
  let⟨t,rfl⟩:=rx;cases y with
  | non=>cases ry;exact PySem.EqNone.ne_str_none (dD I q (by simp))
  | bl j=>cases ry;exact PySem.EqMixed.ne_str_bool (dD I q (by simp))
  | int j=>let⟨t',rfl⟩:=ry;exact PySem.EqMixed.ne_str_int (dD I q (by simp))
  | str j=>let⟨t',rfl⟩:=ry;exact ne_str (dD I q (congrArg not CV))
  | _=>exact absurd (show ac=ab from hs) Bf
 | byt i=>
  let⟨t,rfl⟩:=rx;cases y with
  | byt j=>let⟨t',rfl⟩:=ry;exact PySem.W.ne_bytes (dD I q (congrArg not CW))
  | _=>exact absurd (show ac=ab from hs) Bf
 | _=>cases y<;>exact absurd (show ac=ab from hs) Bf
theorem Q9:bF X (Du .Lt) (kK λi j=>.bl (decide (i<j))):=tI λ_ _ _ _ _ _ _ q=>lt_int q
theorem RA:bF X (Du .LtE) (kK λi j=>.bl (decide (i<=j))):=tI λ_ _ _ _ _ _ _ q=>le_int q
theorem RB:bF X (Du .Gt) (kK λi j=>.bl (decide (j<i))):=tI λ_ _ _ _ _ _ _ q=>gt_int q
theorem RC:bF X (Du .GtE) (kK λi j=>.bl (decide (j<=i))):=tI λ_ _ _ _ _ _ _ q=>ge_int q
theorem RD:bF X (Du .In) (λx y H Q=>∃i j,x=.str i/\y=.str j/\Q (.bl (!(Jj j i 0 ↥j 1).isEmpty)) H):=by
 intro af s Z H x y v u Q I d P h;let⟨i,j,rfl,rfl,q⟩:=h;let⟨t,rfl⟩:=d;let⟨t',rfl⟩:=P;exact in_str (dD I q rfl)
theorem RE:bF X (Du .NotIn) (λx y H Q=>∃i j,x=.str i/\y=.str j/\Q (.bl (!(!(Jj j i 0 ↥j 1).isEmpty))) H):=by
 intro af s Z H x y v u Q I d P h;let⟨i,j,rfl,rfl,q⟩:=h;let⟨t,rfl⟩:=d;let⟨t',rfl⟩:=P;exact notIn_str (dD I q rfl)
theorem bF.or{f:Ae->Ae->Sg Ae}(h:bF X f r)(h':bF X f U):bF X f (λx y H Q=>r x y H Q\/U x y H Q):=by
 intro af s Z H x y v u Q I d P q;rcases q with q|q
 .exact h af s Z H x y v u Q I d P q
 .exact h' af s Z H x y v u Q I d P q
theorem CY(b:Cg)(h:op≠.In:=by decide)(L:op≠.NotIn:=by decide):Ly op b=ac:=by
 have D:(op==CmpOp.In)=ac:=by cases op<;>first|rfl|exact absurd rfl h
 have A:(op==CmpOp.NotIn)=ac:=by cases op<;>first|rfl|exact absurd rfl L
 cases b<;>simp[Ly,D,A]
theorem RF(S:bF X (Du op) r)(m:PE X a ta)(G:PE X b tb)(P:Ly op b=ac):PE X (.Compare a [op] [b] pos) (qP r ta tb):=by
 intro af s Z H Q I h;exact wpAny_Compare1 (xR m G I h λv u C x y E i d T q=>S af C Z E x y v u Q i d T q) P
def RG(t:TE):TT:=λZ H Q=>t Z H λx H'=>∃k,x=.bl k/\Q k H'
theorem RH(S:bF X (Du op) r)(m:PE X a ta)(G:PE X b tb)(P:Ly op b=ac):PT X (.Compare a [op] [b] pos) (RG (qP r ta tb)):=by
 intro af s Z H Q I h;refine wpAny_isTrue_Compare1 (thn (m af s Z H _ I h) λv g ⟨x,l,M,N,d⟩=>thn (G af g Z l _ M d) λu C ⟨y,E,i,Y,p⟩=>
  thn (S af C Z E x y v u _ i N Y p) λc j ⟨z,w,K,J,k,e,o⟩=>?_) P
 subst e;cases J;exact Jg ⟨w,K,o⟩
def CZ(K:Ac)(x:V)(H:Hp)(k:Bool):Prop:=
 match x with
 | .non=>k=ac
 | .bl b=>k=b
 | .int i=>k=(i !=0)
 | .str y=>↥y<=Ax/\k=((↥y:Int) !=0)
 | .byt y=>y.size<=Ax/\k=((y.size:Int) !=0)
 | .ref p=>(∃xs,bL K H p xs/\k = !xs.isEmpty)\/(∃xs,bU K H p xs/\k = !xs.isEmpty)\/∃kvs,H p=aa (.dK kvs)/\k = !kvs.isEmpty
 | _=>False
theorem RI{b:Type}{kvs:↑(b×V)}{vs:↑(b×Ae)}(r:KV kvs vs):(!vs.isEmpty) = !kvs.isEmpty:=by
 cases r<;>rfl
theorem C0{xs:↑V}{its:↑Ae}(r:aZ xs its):(!its.toArray.isEmpty) = !xs.isEmpty:=by
 cases r<;>simp
theorem lU:(Ax:Nat)<2 ^ 63:=by rw[Jq];decide
theorem RJ:QP X (λx H Q=>∃k,CZ X.K x H k/\Q k H):=by
 intro af s Z H x v Q I rx h;let⟨k,e,q⟩:=h;have hl:=lU;have hs:Ax=16777216:=Jq;cases x with
 | non=>
  cases rx;have e':k=ac:=e;subst e';exact truthy_none ⟨H,I,q⟩
 | bl b=>
  cases rx;have e':k=b:=e;subst e';exact Jg ⟨H,I,q⟩
 | int i=>
  let⟨t,rfl⟩:=rx;have e':k=(i !=0):=e;subst e';exact PySem.P.truthy_int ⟨H,I,q⟩
 | str y=>
  let⟨t,rfl⟩:=rx;obtain⟨hy,e'⟩:↥y<=Ax/\k=((↥y:Int) !=0):=e;subst e';exact PySem.P.truthy_str (by lia) ⟨H,I.tok _,q⟩
 | byt y=>
  let⟨t,rfl⟩:=rx;obtain⟨hy,e'⟩:y.size<=Ax/\k=((y.size:Int) !=0):=e;subst e';exact PySem.W.truthy_bytes (by lia) ⟨H,I.tok _,q⟩
 | ref p=>
  cases rx;have e':(∃xs,bL X.K H p xs/\k = !xs.isEmpty)\/(∃xs,bU X.K H p xs/\k = !xs.isEmpty)\/∃kvs,H p=aa (.dK kvs)/\k = !kvs.isEmpty:=e;rcases e' with⟨xs,hx,e'⟩|⟨xs,hx,e'⟩|⟨kvs,hx,e'⟩
  .subst e';let⟨its,r,pl,hz⟩:=I.list hx;have hlen:=↥r;exact wpAny_truthy_list pl.isList (by simp only[Bh];lia) ⟨H,I.tok _,by rw[C0 r];exact q⟩
  .subst e';let⟨its,r,pl,hz⟩:=I.tuple hx;have hlen:=↥r;exact truthy_tuple pl (by simp only[Bh];lia) ⟨H,I.tok _,by rw[C0 r];exact q⟩
  .subst e';obtain⟨hz,hS,vs,r,m⟩:↥kvs<=Ax/\(p==Fn)=ac/\∃vs,KV kvs vs/\s.heap.DictOf (bR X.prog X.w) p vs:=I.hok p _ hx;have hlen:↥kvs=↥vs:=Cw r;exact wpAny_truthy_dict hS m (by lia) ⟨H,I.tok _,by rw[RI r];exact q⟩
 | _=>exact Bq e
theorem RK(m:PE X a ta)(Y:∀f,Tu a X.env f=(do let v <-f;Pr a.pos;Ji [v] (truthy v))):
  PT X a (λZ H Q=>ta Z H λx H'=>∃k,CZ X.K x H' k/\Q k H'):=by
 intro af s Z H Q I h;exact isTrue_plain (thn (m af s Z H _ I h) λv g W=>by let⟨x,z,M,N,d⟩:=W;exact RJ af g Z z x v Q M N d) (Y _)
theorem RL:bF X (Eh .Add) (λx y H Q=>∃i j,x=.str i/\y=.str j/\↥i+↥j<=Ax/\Q (.str (i++j)) H):=by
 intro af s Z H x y v u Q I d P h;let⟨i,j,rfl,rfl,hz,q⟩:=h;let⟨t,rfl⟩:=d;let⟨t',rfl⟩:=P;exact add_str (λt' tk=>⟨.str (i++j),H,I.tok _,⟨_,rfl⟩,q⟩) hz
theorem vals1(r:aZ [x] us):∃u,us=[u]/\RelV x u:=by
 cases r with
 | cons N Y=>cases Y;exact⟨_,rfl,N⟩
theorem vals2(r:aZ [x,y] us):∃u D,us=[u,D]/\RelV x u/\RelV y D:=by
 cases r with
 | cons N Y=>
  cases Y with
  | cons J m=>cases m;exact⟨_,_,rfl,N,J⟩
theorem RM:cN X (.type "str") (λxs H Q=>∃i,xs=[.int i]/\i.natAbs.log2<1920/\Q (.str (toString i)) H):=by
 intro af s Z H xs us Q I r h;let⟨i,rfl,hz,q⟩:=h;let⟨u,rfl,t,rfl⟩:=vals1 r;exact PySem.P.str_of_int hz ⟨.str _,H,I.tok _,⟨_,rfl⟩,q⟩
end
structure n8(h:Ds)(x dx C:An)(mA:Ay->Option Ae):Prop where
 obj:h.get? x=aa (Hl C dx)
 ns:h.Ns1 dx mA
 ne:dx≠x
theorem RN{h:Ds}{dx:An}{mA:Ay->Option Ae}(n:h.Ns1 dx mA):∃D,h.get? dx=aa D/\∀name,Nt name D=aa (mA name):=by
 let⟨o,es,ep,S,hd,hk,_,P⟩:=n;refine⟨o,S,λname=>?_⟩;have e:=P name;unfold nsFind findBy at e;rw[<-Array.find?_toList]at e;unfold Nt;rw[hd];dsimp only;split
 .rename_i y q;rw[q]at e;exact congrArg aa e
 .rename_i q;rw[q]at e;have a:es.toList.any (·.refKey)=ac:=by
   rw[List.any_eq_false];intro y f;let⟨z,t,F⟩:=hk y (Array.mem_toList_iff.mp f);simp[DictEntry.refKey,F]
  have c:¬es.toList.any (·.refKey)=ab:=by rw[a];exact Bf
  rw[Vf c];exact congrArg aa e
theorem n8.look{mA:Ay->Option Ae}(I:n8 h x dx C mA):∃D,PySem.W.InstAt h x (Hl C dx) C (aa D)/\∀name,Nt name D=aa (mA name):=
 let ⟨D,ho,hl⟩:=RN I.ns
 ⟨D,⟨I.obj,rfl,rfl,ho⟩,hl⟩
section
variable {prog:Bc}{w:Bo}{A:Cs}{E:Ae->Aj->Prop}{s:Aj}{K:Ac}{x dx C f:An}{mA:Ay->Option Ae}{name:Ay}{v:Ae}
theorem RO{a:Bool}{Q:Ae->Aj->Prop}(X:K.In s.heap)(I:n8 s.heap x dx C mA)(L:Ms K C name=ab)(hh:Pd K C=ab)(m:Fe K (.ref C) name=aa ae)(c:mA name=aa v)(k:PySem.W.handedIn v=ab)(h:Q v {s with toks:=s.toks+1}):
  Bk (Dj prog w) A (getAttr (.ref x) name a) Q E s:=by
 let⟨D,J,hl⟩:=I.look;exact PySem.W.get_value X J (Of L).1 (PySem.W.findObj_own hh m rfl (by rw[hl,c])) k h
theorem RP{Q:Ae×↑Ae->Aj->Prop}(X:K.In s.heap)(I:n8 s.heap x dx C mA)(L:Ms K C name=ab)(hf:Fe K (.ref C) name=aa (aa (.ref f)))(ht:Nf K (.ref f)=ab)(c:mA name=ae)(h:Q (.ref f,[.ref x]) s):
  Bk (Dj prog w) A (Pt (.ref x) name pl) Q E s:=by
 let⟨D,J,hl⟩:=I.look;exact PySem.W.method_fn X J (Of L).1 (Of L).2 hf (beq_iff_eq.mp ht) (by show(Nt name D).map (·.isSome)=aa ac;rw[hl,c];rfl) h
theorem RQ{Q:Unit->Aj->Prop}(X:K.In s.heap)(I:n8 s.heap x dx C mA)(F:Fe K (.ref C) "__setattr__" = aa (aa (.builtin "object.__setattr__")))(N:PySem.W.plainOver K C=ab)(ht:Py K C name=aa ae)(hh:Pd K C=ab)(hw:Si mA ns)(hsz:↥ns<=Ax)(h:∀h',n8 h' x dx C (λy=>if y=name then aa v else mA y)->Ek dx s.heap h'->Q () {s with heap:=h',toks:=s.toks+2}):
  Bk (Dj prog w) A (setAttr (.ref x) name v) Q E s:=by
 let⟨D,J,hl⟩:=I.look;refine PySem.W.set_plain X J F (PySem.W.osa_open (s:={s with toks:=s.toks+1}) (r:=ae) X J N ht λb=>?_);let⟨t,hc,n⟩:=PySem.W.any_some hh;have f:s.heap.get? x=aa ⟨.ref C,aa dx,.plain,#[]⟩:=I.obj;refine Aa (Ag (Aa (Aa (wpAny_loadPart f (Aa (PySem.W.Looks.here (s:={s with toks:=s.toks+1}) (PySem.W.looks_clsIn X hc) ?_))))));rw[n];refine Ag (a:=aa dx) (Aa (Ag (Aa ?_)));refine wpAny_nsSet1 (s:={s with toks:=s.toks+1}) I.ns λh' O Y=>?_;let⟨j,i,g,e,c,d⟩:=O.count (PySem.Within.cons name v hw);refine Aa (wpAny_lookBehind e (by rw[c];exact pastItsLine_dict (Ar d (by rw[Bw];lia))) ?_);exact Ag (h _ ⟨(Y.2 _ (Bx I.ne)).trans I.obj,O,I.ne⟩ Y)
theorem RS{R:Ua->Aj->Prop}(X:K.In s.heap)(P:Pz K C=ab)(hi:Fe K (.ref C) "__init__" = aa (aa (.ref f)))(hf:PySem.W.typeIn K (.ref f)=aa (.type "function"))(h:Mr (Dj prog w) (A.under (.builtin "type.__call__" ⟨.ref C::vs,b⟩)) (.call (.ref f) ⟨.ref (⇑s+1)::vs,b⟩) (PySem.W.InitBack (⇑s+1) R)
   {s with heap:=(s.heap.push Gi).push (Hl C ⇑s)}):
  Mr (Dj prog w) A (.call (.ref C) ⟨vs,b⟩) R s:=by
 let⟨hh,g,d,t,os⟩:=s;exact PySem.W.make_core (PySem.W.makes_of X P) (PySem.W.looks_findIn X hi) (λself=>PySem.W.bind_fn X self hf) (.inl rfl) h
end
def putF(f:Ay)(v:V):↑(Ay×V)->↑(Ay×V)
 | []=>[(f,v)]
 | (g,x)::r=>if g=f then(g,v)::r else(g,x)::putF f v r
theorem C1(f g:Ay)(v:V):∀fs:↑(Ay×V),(putF f v fs).lookup g=if g=f then aa v else fs.lookup g
 | []=>by
  show Cf g [(f,v)]=_
  by_cases h:g=f
  .have G:(g==f)=ab:=beq_iff_eq.mpr h;simp only[Cf,G,Vg h]
  .have G:(g==f)=ac:=beq_eq_false_iff_ne.mpr h;simp only[Cf,G,Vf h]
 | (k,x)::r=>by
  have E:=C1 f g v r;rw[show putF f v ((k,x)::r)=(if k=f then(k,v)::r else(k,x)::putF f v r) from rfl]
  by_cases hk:k=f
  .rw[Vg hk]
   by_cases h:g=k
   .have G:(g==k)=ab:=beq_iff_eq.mpr h;simp only[Cf,G,Vg (h.trans hk)]
   .have G:(g==k)=ac:=beq_eq_false_iff_ne.mpr h;simp only[Cf,G,Vf (λe:g=f=>h (e.trans hk.symm))]
  .rw[Vf hk]
   by_cases h:g=k
   .have G:(g==k)=ab:=beq_iff_eq.mpr h;simp only[Cf,G,Vf (λe:g=f=>hk (h.symm.trans e))]
   .have G:(g==k)=ac:=beq_eq_false_iff_ne.mpr h;simp only[Cf,G];exact E
theorem xT(f:Ay)(v:V):∀fs:↑(Ay×V),f∈(putF f v fs).map (·.1)/\∀g,g∈fs.map (·.1)->g∈(putF f v fs).map (·.1)
 | []=>⟨by simp[putF],λg h=>by simp at h⟩
 | (k,x)::r=>by
  let⟨a,i⟩:=xT f v r;rw[show putF f v ((k,x)::r)=(if k=f then(k,v)::r else(k,x)::putF f v r) from rfl]
  by_cases hk:k=f
  .rw[Vg hk];subst hk;exact⟨by simp,λg h=>by simpa using h⟩
  .rw[Vf hk];refine⟨?_,λg h=>?_⟩
   .rw[Bd];exact Bj _ a
   .rw[Bd]at h⊢;rcases Au.mp h with e|e
    .exact Au.mpr (.inl e)
    .exact Bj _ (i g e)
theorem C3(f:Ay)(v:V):∀fs:↑(Ay×V),↥(putF f v fs)<=↥fs+1
 | []=>by simp[putF]
 | (k,x)::r=>by
  have E:=C3 f v r;rw[show putF f v ((k,x)::r)=(if k=f then(k,v)::r else(k,x)::putF f v r) from rfl]
  by_cases hk:k=f
  .rw[Vg hk,Bw,Bw];lia
  .rw[Vf hk,Bw,Bw];lia
theorem fS.some_of(r:fS (aa v) o):∃u,o=aa u/\RelV v u:=by
 cases o with
 | none=>exact Bq r
 | some u=>exact⟨u,rfl,r⟩
theorem fS.none_of(r:fS ae o):o=ae:=by
 cases o with
 | none=>rfl
 | some u=>exact Bq r
theorem RT(r:RelV v u):PySem.W.handedIn u=ab:=by
 cases v with
 | non=>cases (show u=Value.none from r);rfl
 | bl b=>cases (show u=Value.bool b from r);rfl
 | int i=>let⟨t,e⟩:=(show ∃t,u=Value.int i t from r);cases e;rfl
 | str x=>let⟨t,e⟩:=(show ∃t,u=Value.str x t from r);cases e;rfl
 | byt b=>let⟨t,e⟩:=(show ∃t,u=Value.bytes b t from r);cases e;rfl
 | flt b=>let⟨t,e⟩:=(show ∃t,u=Value.float b t from r);cases e;rfl
 | ref a=>cases (show u=Value.ref a from r);rfl
 | ty n=>cases (show u=Value.type n from r);rfl
section
variable {P:Bc}{w:Bo}{H H':Hp}{h h':Ds}{a C dx:An}{fs fs':↑(Ay×V)}
theorem tK(hok:cU P w H h)(e:H a=aa (.ins C dx fs)):∃mA,n8 h a dx C mA/\(∀f,fS (fs.lookup f) (mA f))/\Si mA (fs.map (·.1))/\↥fs<=1000/\H dx=aa (.own a):=by
 let⟨d,z,ne,ob,mA,n,r,q⟩:=(show bZ P w H h a (.ins C dx fs) from hok a _ e);exact⟨mA,⟨ob,n,ne⟩,r,q,z,d⟩
end
structure gG(K:Ac)(C:An):Prop where
 pg:Ms K C Qr=ab
 hd:Pd K C=ab
 po:PySem.W.plainOver K C=ab
 sa:Fe K (.ref C) "__setattr__" = aa (aa (.builtin "object.__setattr__"))
theorem gG.get{K:Ac}{C:An}(c:gG K C)(f:Ay):Ms K C f=ab:=c.pg
def fH(K:Ac)(C:An)(f:Ay):Prop:=Fe K (.ref C) f=aa ae
theorem fH.taker{K:Ac}{C:An}{f:Ay}(n:fH K C f):Py K C f=aa ae:=by
 unfold Py;rw[show Fe K (.ref C) f=aa ae from n];rfl
structure pI(K:Ac)(C:An)(m:Ay)(f:An):Prop where
 at_:Fe K (.ref C) m=aa (aa (.ref f))
 fn:Nf K (.ref f)=ab
 kp:Gh K (.ref f)=ab
section
variable {X:Cx}{af:Pn}{Z:St}{H:Hp}{s:Aj}{a C dx:An}{fs:↑(Ay×V)}{f:Ay}{v:V}{A:Cs}{E:Ae->Aj->Prop}
theorem RU{b:Bool}{Q:Ae->Aj->Prop}(I:Inv X af Z H s)(e:H a=aa (.ins C dx fs))(c:gG X.K C)(n:fH X.K C f)(l:fs.lookup f=aa v)(h:∀u s',Inv X af Z H s'->RelV v u->Q u s'):Bk X.m A (getAttr (.ref a) f b) Q E s:=by
 let⟨mA,O,r,_,_,_⟩:=tK I.hok e;let⟨u,U,ru⟩:=fS.some_of (v:=v) (o:=mA f) (by rw[<-l];exact r f);exact RO I.kIn O (c.get f) c.hd n U (RT ru) (h u _ (I.tok _) ru)
theorem C4{Q:Ae×↑Ae->Aj->Prop}(I:Inv X af Z H s)(e:H a=aa (.ins C dx fs))(c:gG X.K C)(k:pI X.K C m g)(l:fs.lookup m=ae)(h:Q (.ref g,[.ref a]) s):Bk X.m A (Pt (.ref a) m pl) Q E s:=by
 let⟨mA,O,r,_,_,_⟩:=tK I.hok e;have hn:mA m=ae:=fS.none_of (by rw[<-l];exact r m);exact RP I.kIn O (c.get m) k.at_ k.fn hn h
theorem RV{Q:Unit->Aj->Prop}(I:Inv X af Z H s)(e:H a=aa (.ins C dx fs))(c:gG X.K C)(n:fH X.K C f)(hl:↥fs<1000)(P:RelV y u)(h:∀s',Inv X af Z (aL H a (.ins C dx (putF f y fs))) s'->Q () s'):Bk X.m A (setAttr (.ref a) f u) Q E s:=by
 let⟨mA,O,r,d,_,S⟩:=tK I.hok e;have hz:↥(fs.map (·.1))<=Ax:=by rw[Ab,Jq];lia
 refine RQ I.kIn O c.sa c.po n.taker c.hd d hz λh' i sb=>h _ ?_;have hd:∃o,h'.get? dx=aa o:=let ⟨o,_,_,e',_⟩:=i.ns;⟨o,e'⟩;refine I.write (x:=a) (e:=dx) (by rw[e];exact True.intro) (.inr S) (λb q G z=>(sb.2 b G).trans z) hd ?_;refine⟨by rw[a9 O.ne];exact S,?_,O.ne,i.obj,_,i.ns,λg=>?_,λg L=>?_⟩
 .have:=C3 f y fs;lia
 .show fS ((putF f y fs).lookup g) (if g=f then aa u else mA g);rw[C1]
  by_cases q:g=f
  .rw[Vg q,Vg q];exact P
  .rw[Vf q,Vf q];exact r g
 .by_cases q:g=f
  .rw[q];exact(xT f y fs).1
  .refine(xT f y fs).2 g (d g λz=>L ?_);show(if g=f then aa u else mA g)=ae;rw[Vf q];exact z
theorem Inv.made(I:Inv X af Z H s):Inv X af Z (aL (aL H ⇑s (.own (⇑s+1))) (⇑s+1) (.ins C ⇑s []))
  {s with heap:=(s.heap.push Gi).push (Hl C ⇑s)}:=by
 have D:(s.heap.push Gi).get? ⇑s=aa Gi:=Bb s.heap rfl;have A:((s.heap.push Gi).push (Hl C ⇑s)).get? (⇑s+1)=aa (Hl C ⇑s):=by
  have:=Bb (s.heap.push Gi) (o:=Hl C ⇑s) rfl;rwa [Gp]at this
 have l:(s.heap.push Gi).Ns ⇑s (λ_=>ae):=⟨Gi,#[],_,D,rfl,(λe Y=>absurd Y (by simp)),λ_=>rfl⟩;have M:=I.laid (a:=⇑s) (o:=.own (⇑s+1)) (h':=s.heap.push Gi) (t':=s.toks) (λb u q=>Ah _ q) (Ai _) ⟨_,D⟩;refine M.laid (a:=⇑s+1) (o:=.ins C ⇑s []) (t':=s.toks) (λb u q=>Ah _ q) (Qd (Gp _ _)) ?_;have ne:⇑s≠⇑s+1:=Br (Ih _);refine⟨by rw[a9 ne,bY],Cn _,ne,A,λ_=>ae,(Heap.Ns1.of_empty l).at λo q=>Ah _ q,λ_=>True.intro,λy f=>absurd rfl f⟩
theorem RW{Q:Ae->Aj->Prop}(G:Gu e f env (Eu e env)=Eu e env)(h:Bk (Dj prog w) A (Eu e env) (λo y=>Bk (Dj prog w) A (getAttr o f ab) Q E y) E s):Bk (Dj prog w) A (Eu (.Attribute e f pos) env) Q E s:=
 Attribute_any_ h (by rw[arm_eval_Attribute,G])
end
def RX(K:Ac)(ta:TE)(f:Ay):TE:=λZ H Q=>ta Z H λx z=>∃a C dx fs v,x=.ref a/\z a=aa (.ins C dx fs)/\gG K C/\fH K C f/\fs.lookup f=aa v/\Q v z
def RY(K:Ac)(ta tv:TE)(f:Ay):TS:=λD Z H=>tv Z H λy z=>ta Z z λx E=>∃a C dx fs,x=.ref a/\E a=aa (.ins C dx fs)/\gG K C/\fH K C f/\↥fs<1000/\
 D.nx Z (aL E a (.ins C dx (putF f y fs)))
section
variable {X:Cx}{o e value:Cg}{f:Ay}{pos pos' tpos:Hu}{ta tv:TE}
theorem RZ(Y:PE X e ta)(G:Gu e f X.env (Eu e X.env)=Eu e X.env):PE X (.Attribute e f pos) (RX X.K ta f):=by
 intro af s Z H Q I h;refine RW G (thn (Y af s Z H _ I h) λu g W=>?_);let⟨x,z,M,d,a,C,dx,fs,v,ex,S,c,n,l,q⟩:=W;subst ex;obtain rfl:u=Value.ref a:=d;exact RU M S c n l λR i j ru=>⟨v,z,j,ru,q⟩
theorem R0(m:PE X o ta)(G:PE X value tv)(F:Ls value (aa (.Attribute o f pos')) pos.line X.env=pure ac):PS X (.Assign [.Attribute o f pos'] value pos) (RY X.K ta tv f):=by
 intro af s Z H D I h;refine plainObj_wpAny_Assign_Attribute (thn (G af s Z H _ I h) λu g ⟨y,z,M,P,q⟩=>thn (m af g Z z _ M q) λN i U=>?_) F;let⟨x,E,j,d,a,C,dx,fs,ex,S,c,n,l,p⟩:=U;subst ex;obtain rfl:N=Value.ref a:=d;exact RV j S c n l P λt O=>⟨Z,_,O,p⟩
end
section
variable {X:Cx}{af:Pn}{Z:St}{H:Hp}{s:Aj}{A:Cs}{E:Ae->Aj->Prop}{Q:Ae->Aj->Prop}{c:Ae}{b:Bool}
inductive iK(K:Ac)(H:Hp):V->Ae->Prop where
 | non:iK K H .non (.type "NoneType")
 | bl (x:Bool):iK K H (.bl x) (.type "bool")
 | int (i:Int):iK K H (.int i) (.type "int")
 | str (x:Ay):iK K H (.str x) (.type "str")
 | flt (x:UInt64):iK K H (.flt x) (.type "float")
 | lst {a:An} {xs:↑V} (e:H a=aa (.lst xs)):iK K H (.ref a) (.type "list")
 | frz {a:An} {o:Lv} {xs:↑V} (e:H a=aa (.frz o (.lst xs))):iK K H (.ref a) (.type "list")
 | tup {a:An} {xs:↑V} (e:H a=aa (.tup xs)):iK K H (.ref a) (.type "tuple")
 | dK {a:An} {kvs:↑(aC×V)} (e:H a=aa (.dK kvs)):iK K H (.ref a) (.type "dict")
 | dT {a:An} {kvs:↑(↑aC×V)} (e:H a=aa (.dT kvs)):iK K H (.ref a) (.type "dict")
 | ins {a C dx:An} {fs:↑(Ay×V)} (e:H a=aa (.ins C dx fs)) (cl:gG K C) (ha:Fe K (.ref C) "__class__" = aa (aa (.builtin "object.__class__")))
   (hn:PySem.W.specialIn K (.builtin "object.__class__") "__get__" = aa (aa (.builtin "getset_descriptor.__get__"))) (htk:PySem.W.takesIn K (.builtin "object.__class__")=aa ab)
   (hm:PySem.W.mroIn K C (.type "object")=aa ab):iK K H (.ref a) (.ref C)
theorem R1(I:Inv X af Z H s)(d:RelV x u)(ty:iK X.K H x t)(e:Kf X.K t c=aa b)(h:∀tk,Q (.bool b) {s with toks:=tk}):
  Bk X.m A (call (.builtin "isinstance") [u,c]) Q E s:=by
 cases ty with
 | non=>cases (show u=Value.none from d);exact Fu PySem.W.kitx_none I.kIn True.intro e (λz=>nomatch z) h
 | bl y=>cases (show u=Value.bool y from d);exact Fu PySem.W.kitx_bool I.kIn True.intro e (λz=>nomatch z) h
 | int i=>let⟨t,q⟩:=(show ∃t,u=Value.int i t from d);cases q;exact Fu PySem.W.kitx_int I.kIn True.intro e (λz=>nomatch z) h
 | str y=>let⟨t,q⟩:=(show ∃t,u=Value.str y t from d);cases q;exact Fu PySem.W.kitx_str I.kIn True.intro e (λz=>nomatch z) h
 | flt y=>let⟨t,q⟩:=(show ∃t,u=Value.float y t from d);cases q;exact Fu PySem.W.kitx_float I.kIn True.intro e (λz=>nomatch z) h
 | @lst a xs S=>
  cases (show u=Value.ref a from d);let⟨_,_,n,_,U⟩:=(show bZ X.prog X.w H s.heap a (.lst xs) from I.hok a _ S);exact Fu PySem.W.kitx_list I.kIn ⟨_,U,rfl⟩ e (λz=>nomatch z) h
 | @frz a ob xs S=>
  cases (show u=Value.ref a from d);let⟨_,_,_,n,_,U⟩:=(show bZ X.prog X.w H s.heap a (.frz ob (.lst xs)) from I.hok a _ S);exact Fu PySem.W.kitx_list I.kIn ⟨_,U,rfl⟩ e (λz=>nomatch z) h
 | @tup a xs S=>
  cases (show u=Value.ref a from d);let⟨_,_,_,p⟩:=(show bZ X.prog X.w H s.heap a (.tup xs) from I.hok a _ S);let⟨o,U,L,_⟩:=p;exact Fu PySem.W.kitx_tuple I.kIn ⟨o,U,L⟩ e (λz=>nomatch z) h
 | @dK a kvs S=>
  cases (show u=Value.ref a from d);let⟨_,_,vs,_,p⟩:=(show bZ X.prog X.w H s.heap a (.dK kvs) from I.hok a _ S);let⟨o,es,ep,U,L,_⟩:=p;exact Fu PySem.W.kitx_dict I.kIn ⟨o,U,L.1⟩ e (λz=>nomatch z) h
 | @dT a kvs S=>
  cases (show u=Value.ref a from d);let⟨_,_,xs,_,o,es,ep,U,L,_⟩:=(show bZ X.prog X.w H s.heap a (.dT kvs) from I.hok a _ S);exact Fu PySem.W.kitx_dict I.kIn ⟨o,U,L.1⟩ e (λz=>nomatch z) h
 | @ins a C dx fs S cl g hn j P=>
  cases (show u=Value.ref a from d);let⟨mA,O,_⟩:=tK I.hok S;let⟨D,J,_⟩:=O.look;exact Fu (PySem.W.kitx_own (cl.get _) cl.hd g hn j P) I.kIn J e (λz=>nomatch z) h
end
structure cP(k:Nat)(A:Cs):Prop where
 hd:A.handled=ae
 dp:A.depth+3*k+5<recursionLimit
 un:A.units+16*k+200<Fd
theorem cP.mono{j k:Nat}(r:cP k A)(h:j<=k):cP j A:=⟨r.hd,by have:=r.dp;lia,by have:=r.un;lia⟩
theorem cP.deeper{k:Nat}(r:cP (k+1) A)(env:Env):cP k (A.deeper env):=
 ⟨r.hd,by have:=r.dp;show A.depth+1+3*k+5<_;lia,by have:=r.un;show A.units+3+16*k+200<_;lia⟩
theorem R4{A:Cs}{C:An}{us:↑Ae}{b:↑(Ay×Ae)}:(A.under (.builtin "type.__call__" ⟨.ref C::us,b⟩)).depth=A.depth+1:=by
 first|rfl|simp[Sa,Code.weight,Code.isCreation,Code.isGuard,Code.isCaller,Code.frames,Sq,guardIds]
theorem R5{A:Cs}{C:An}{us:↑Ae}{b:↑(Ay×Ae)}:(A.under (.builtin "type.__call__" ⟨.ref C::us,b⟩)).units=A.units+1:=by
 first|rfl|simp[Sa,Code.cUnits,Code.frames,Sq]
theorem cP.make{k:Nat}(r:cP (k+1) A)(C:An)(us:↑Ae)(b:↑(Ay×Ae)):cP k (A.under (.builtin "type.__call__" ⟨.ref C::us,b⟩)):=
 ⟨r.hd,by have:=r.dp;rw[R4];lia,by have:=r.un;rw[R5];lia⟩
theorem cP.depth{k:Nat}(r:cP k A):A.depth<recursionLimit:=by have:=r.dp;lia
theorem cP.units{k:Nat}(r:cP k A):A.units+64<Fd:=by have:=r.un;lia
def xU:TA:=λ_ H Q=>Q [] H
def R6(ta:TE)(a:TA):TA:=λZ H Q=>ta Z H λx z=>a Z z λxs E=>Q (x::xs) E
section
variable {X:Cx}{e:Cg}{es:↑Cg}{te:TE}{t:TA}{pos:Hu}
theorem R7:PA X [] xU:=λ_ _ _ _ H Q I h=>Ml ⟨[],H,I,.nil,h⟩
theorem R8(m:PE X e te)(T:PA X es t)(F:Se X e es:=by rfl):PA X (e::es) (R6 te t):=by
 intro pos af s Z H Q I h;rw[F];show Bk _ _ (spliced ((ac,Eu e X.env)::Mg pos (Cp es X.env))) _ _ s;refine Me (thn (m af s Z H _ I h) λu g W=>?_);let⟨x,z,M,N,d⟩:=W;exact thn (T pos af g Z z _ M d) λus C U=>by let⟨xs,E,i,Y,p⟩:=U;exact⟨x::xs,E,i,.cons N Y,p⟩
def R9(t:TA):TE:=λZ H Q=>t Z H λxs z=>↥xs<=Ax/\∀p,z p=ae->Q (.ref p) (aL z p (.tup xs))
def SA(t:TA):TE:=λZ H Q=>t Z H λxs z=>↥xs<=Ax/\∀p,z p=ae->Q (.ref p) (aL z p (.lst xs))
theorem SD{x1}(h:PA X es t):PE X (.Tuple es x1 pos) (R9 t):=by
 intro af s Z H Q I Y;refine wpAny_Tuple_spliced (thn (h pos af s Z H _ I Y) λus g ⟨xs,l,M,r,z,q⟩=>⟨by rw[<-↥r];exact z,?_⟩);have hf:l ⇑g=ae:=M.hok.fresh (Ai _);refine⟨.ref ⇑g,aL l ⇑g (.tup xs),M.laid (t':=g.toks) (λb u e=>Ah _ e) (Ai _) ?_,rfl,q _ hf⟩;exact⟨z,us,r,⟨_,Bb _ rfl,rfl,_,rfl⟩⟩
theorem C5(h:PA X es t):PE X (.List es pos) (SA t):=by
 intro af s Z H Q I Y;refine wpAny_List_spliced (thn (h pos af s Z H _ I Y) λus g ⟨xs,l,M,r,z,q⟩=>⟨by rw[<-↥r];exact z,?_⟩);have hf:l ⇑g=ae:=M.hok.fresh (Ai _);refine⟨.ref ⇑g,aL l ⇑g (.lst xs),M.laid (t':=g.toks) (λb u e=>Ah _ e) (Ai _) ?_,rfl,q _ hf⟩;exact⟨z,us,0,r,Bb _ rfl⟩
end
abbrev Sp:=↑V->Hp->VK->XK->Prop
abbrev kM:=↑Env->Hp->Aj->XK->Ae->Aj->Prop
structure n9(P:Bc)(w:Bo)(K:Ac)(mg:Ay->Option Ae)(base:Ds)(A:Cs)(outer:↑Env)(s:Aj)(H:Hp):Prop where
 frames:A.frames=aa outer
 mod:Mod K mg base
 bs:∀b o,base.get? b=aa o->s.heap.get? b=aa o/\H b=ae
 bsz:base.objs.size<=⇑s
 funs:s.heap.FunFrames base outer
 frf:∀b∈iI outer,H b=ae
 hok:cU P w H s.heap
 bare:Ow s.gens
def CE(outer:↑Env)(P:Bc)(w:Bo)(H:Hp)(s:Aj)(Q:VK)(u:Ae)(s':Aj):Prop:=
 ∃v H',s'.os=s.os/\Ow s'.gens/\Un (iI outer) [] H H' s.heap s'.heap/\cU P w H' s'.heap/\RelV v u/\Q v H'
def CR(CX:kM)(outer:↑Env)(P:Bc)(w:Bo)(H:Hp)(s:Aj)(Q:VK)(E:XK)(r:Ua)(s':Aj):Prop:=
 match r with
 | .ok (.ret u)=>CE outer P w H s Q u s'
 | .ok _=>False
 | .error e=>CX outer H s E e s'
structure i6(P:Bc)(w:Bo)(K:Ac)(mg:Ay->Option Ae)(base:Ds)(CX:kM)(k:Nat)(f:An)(fd:Fc)(ps:↑Ay)(sp:Sp):Prop where
 len:∀vs H Q E,sp vs H Q E->↥vs=↥ps
 run:∀(A:Cs) (outer:↑Env) (s:Aj) (H:Hp) (args:Args) (us:↑Ae) (vs:↑V) (Q:VK) (E:XK),cP k A->n9 P w K mg base A outer s H->Ss s fd args (ps.zip us)->aZ vs us->sp vs H Q E->
  Mr (Dj P w) A (.call (.ref f) args) (CR CX outer P w H s Q E) s
abbrev Cx.f(X:Cx):=i6 X.prog X.w X.K X.mg X.base
theorem n9.make{P:Bc}{w:Bo}{K:Ac}{mg:Ay->Option Ae}{base:Ds}{A:Cs}{outer:↑Env}{s:Aj}{H:Hp}(e:n9 P w K mg base A outer s H)(C:An)(us:↑Ae)(b:↑(Ay×Ae)):
  n9 P w K mg base (A.under (.builtin "type.__call__" ⟨.ref C::us,b⟩)) outer s H:=⟨by first|exact e.frames|(simpa [Sa,Code.envs,Sq,pushEnvs] using e.frames),e.mod,e.bs,e.bsz,e.funs,e.frf,e.hok,e.bare⟩
section
variable {X:Cx}{af:Pn}{Z:St}{H:Hp}{s s':Aj}
theorem Inv.env0(I:Inv X af Z H s):n9 X.prog X.w X.K X.mg X.base X.A X.stack s H:=
 ⟨I.ok.frames,I.ok.mod,I.bs,Ar I.ok.bsz I.sz,I.stack,I.stkFree,I.hok,I.bare⟩
theorem Inv.after(I:Inv X af Z H s)(h:CE X.stack X.prog X.w H s Q u s'):EP X af Z Q u s':=by
 let⟨v,H',os,bare,un,hok,r,q⟩:=h;let⟨hh,g,d,t,a⟩:=s';obtain rfl:a=s.os:=os;exact⟨v,H',I.call (h':=hh) (g':=g) (d':=d) (t':=t) (ch:=[]) un hok bare (λb z=>absurd z (by simp)),r,q⟩
end
def C6(sp:Sp)(dvs:↑V)(E:XK)(t:TA):TE:=λZ H Q=>t Z H λvs z=>sp (vs++dvs) z Q E
def xV(C:An)(m:Ay)(sp:Sp)(dvs:↑V)(E:XK)(ta:TE)(t:TA):TE:=λZ H Q=>ta Z H λx z=>∃a dx fs,x=.ref a/\z a=aa (.ins C dx fs)/\fs.lookup m=ae/\
 t Z z λvs w=>sp (x::(vs++dvs)) w Q E
def C7(C:An)(sp:Sp)(dvs:↑V)(E:XK)(t:TA):TE:=λZ H Q=>t Z H λvs z=>∀x dx,z x=ae->z dx=ae->dx≠x->
 sp (.ref x::(vs++dvs)) (aL (aL z dx (.own x)) x (.ins C dx [])) (λv w=>v=.non/\Q (.ref x) w) E
def Binds(K:Ac)(fd:Fc)(ps:↑Ay)(ds:↑Ae):Prop:=
 ∀(s:Aj) (us:↑Ae),K.In s.heap->↥(us++ds)=↥ps->Ss s fd ⟨us,[]⟩ (ps.zip (us++ds))
theorem Binds.all{K:Ac}{fd:Fc}{ps:↑Ay}(h:∀us:↑Ae,↥us=↥ps->bindArgs fd ⟨us,[]⟩=pure (ps.zip us)):Binds K fd ps []:=λs us _ hl=>by
 rw[Ce]at hl⊢;exact .of_eq (h us hl)
def mT(CX:kM)(X:Cx)(E:XK):Prop:=∀(af:Pn) (Z:St) (H:Hp) (s:Aj) (e:Ae) (s':Aj),Inv X af Z H s->CX X.stack H s E e s'->X.xe e s'
section
variable {X:Cx}{CX:kM}{k:Nat}{f C:An}{fd:Fc}{ps:↑Ay}{sp:Sp}{dvs:↑V}{ds:↑Ae}{E:XK}{x m:Ay}{p pos apos:Hu}{e o:Cg}{es:↑Cg}{ta:TE}{t:TA}
theorem tL(F:X.f CX k f fd ps sp)(hr:cP k X.A)(hb:Binds X.K fd ps ds)(hd:aZ dvs ds)(hx:mT CX X E)(I:Inv X af Z H s)(r:aZ vs us)(h:sp (vs++dvs) H Q E):X.a (call (.ref f) us) (EP X af Z Q) X.xe s:=by
 have r2:aZ (vs++dvs) (us++ds):=r.append hd;have hl:↥(us++ds)=↥ps:=by rw[<-↥r2];exact F.len _ _ _ _ h
 refine wpAny_call (Oq (F.run X.A X.stack s H ⟨us,[]⟩ (us++ds) (vs++dvs) Q E hr I.env0 (hb s us I.kIn hl) r2 h) λr s' hq=>?_);cases r with
 | error e=>exact hx af Z H s e s' I hq
 | ok fl=>
  cases fl with
  | ret u=>exact I.after hq
  | next=>exact Bq hq
  | brk=>exact Bq hq
  | cont=>exact Bq hq
theorem SE(F:X.f CX k f fd ps sp)(T:cP k X.A)(L:Gl X x)(P:X.mg x=aa (.ref f))(hk:Gh X.K (.ref f)=ab)(G:Binds X.K fd ps ds)(hd:aZ dvs ds)(J:mT CX X E)(m:PA X (e::es) t)(l:Db x:=by decide)(Y:Se X e es:=by rfl)(a:Sb X pos es:=by rfl):
  PE X (.Call (.Name x p) (e::es) [] pos) (C6 sp dvs E t):=by
 intro af s Z H Q I h;refine Ej (tD I L P ?_ l);refine Lu (h₀:=X.base) I.ok.mod.kin hk (thn (m pos af s Z H _ I h) λus g ⟨vs,z,M,r,q⟩=>⟨M.kIn,?_⟩) Y a;exact tL F T G hd J M r q
theorem SF(Y:PE X o ta)(c:gG X.K C)(P:pI X.K C m f)(F:X.f CX k f fd ps sp)(T:cP k X.A)(G:Binds X.K fd ps ds)(hd:aZ dvs ds)(J:mT CX X E)(g:PA X (e::es) t)(j:Se X e es:=by rfl)(b:Sb X pos es:=by rfl)(ht:Eu (.Call (.Attribute o m apos) (e::es) [] pos) X.env=(do
   let L <-Eu o X.env
   Pr apos.atName
   let (f,first) <-Ji [L] (Pt L m pl)
   Ul pos f first (Mg pos (Cp (e::es) X.env)) (Oe pos (La [] X.env))):=by rfl):
  PE X (.Call (.Attribute o m apos) (e::es) [] pos) (xV C m sp dvs E ta t):=by
 intro af s Z H Q I h;refine PySem.W.methodCall_KW (pl:=pl) (thn (Y af s Z H _ I h) λu M W=>?_) ht;let⟨x,z,N,d,a,dx,fs,ex,S,l,q⟩:=W;subst ex;obtain rfl:u=Value.ref a:=d;refine C4 N S c P l ?_;refine Lu (first:=[.ref a]) (h₀:=X.base) I.ok.mod.kin P.kp (thn (g pos af M Z z _ N q) λus i ⟨vs,w,n,r,p⟩=>⟨n.kIn,?_⟩) j b;exact tL (us:=.ref a::us) (vs:=.ref a::vs) F T G hd J n (.cons rfl r) p
theorem SG(Y:PE X o ta)(c:gG X.K C)(P:pI X.K C m f)(F:X.f CX k f fd ps sp)(T:cP k X.A)(G:Binds X.K fd ps ds)(hd:aZ dvs ds)(J:mT CX X E)(ht:Eu (.Call (.Attribute o m apos) [] [] pos) X.env=(do
   let N <-Eu o X.env
   Pr apos.atName
   let (f,first) <-Ji [N] (Pt N m pl)
   Ul pos f first (Mg pos (Cp [] X.env)) (Oe pos (La [] X.env))):=by rfl):
  PE X (.Call (.Attribute o m apos) [] [] pos) (xV C m sp dvs E ta xU):=by
 intro af s Z H Q I h;refine PySem.W.methodCall_KW (pl:=pl) (thn (Y af s Z H _ I h) λu g W=>?_) ht;let⟨x,z,M,d,a,dx,fs,ex,S,l,q⟩:=W;subst ex;obtain rfl:u=Value.ref a:=d;refine C4 M S c P l ?_;exact PySem.W.callWith_K0 (first:=[.ref a]) M.kIn P.kp (tL (us:=[.ref a]) (vs:=[.ref a]) F T G hd J M (.cons rfl .nil) q)
structure Mk(K:Ac)(C f:An):Prop where
 makes:Pz K C=ab
 init:Fe K (.ref C) "__init__" = aa (aa (.ref f))
 fn:Nf K (.ref f)=ab
 kp:Gh K (.ref C)=ab
theorem C8(M:Mk X.K C f)(F:X.f CX k f fd ps sp)(hr:cP (k+1) X.A)(hb:Binds X.K fd ps ds)(hd:aZ dvs ds)(hx:mT CX X E)(I:Inv X af Z H s)(r:aZ vs us)(h:∀x dx,H x=ae->H dx=ae->dx≠x->sp (.ref x::(vs++dvs)) (aL (aL H dx (.own x)) x (.ins C dx [])) (λv H2=>v=.non/\Q (.ref x) H2) E):
  X.a (call (.ref C) us) (EP X af Z Q) X.xe s:=by
 have hq:=h (⇑s+1) ⇑s (I.hok.fresh (Hg _)) (I.hok.fresh (Ai _)) (Br (Ih _));have I2:=Inv.made (C:=C) I;have r2:aZ (V.ref (⇑s+1)::(vs++dvs)) (Value.ref (⇑s+1)::(us++ds)):=.cons rfl (r.append hd);have hl:↥(Value.ref (⇑s+1)::us++ds)=↥ps:=by
  have e:=↥r2;rw[F.len _ _ _ _ hq]at e;exact e.symm
 refine wpAny_call (RS (f:=f) I.kIn M.makes M.init (beq_iff_eq.mp M.fn) (Oq (F.run _ X.stack _ _ ⟨Value.ref (⇑s+1)::us,[]⟩ (Value.ref (⇑s+1)::(us++ds)) _ _ E (hr.make C us [])
  (I2.env0.make C us []) (hb _ (Value.ref (⇑s+1)::us) I2.kIn hl) r2 hq) λr s' hq'=>?_))
 cases r with
 | error e=>exact hx af Z _ _ e s' I2 hq'
 | ok fl=>
  cases fl with
  | ret u=>
   let⟨v,H',I3,rv,ev,q3⟩:=I2.after hq';subst ev;exact⟨rv,⟨V.ref (⇑s+1),H',I3,rfl,q3⟩⟩
  | next=>exact Bq hq'
  | brk=>exact Bq hq'
  | cont=>exact Bq hq'
theorem SH(M:Mk X.K C f)(F:X.f CX k f fd ps sp)(T:cP (k+1) X.A)(L:Gl X x)(P:X.mg x=aa (.ref C))(G:Binds X.K fd ps ds)(hd:aZ dvs ds)(J:mT CX X E)(m:PA X (e::es) t)(l:Db x:=by decide)(Y:Se X e es:=by rfl)(a:Sb X pos es:=by rfl):
  PE X (.Call (.Name x p) (e::es) [] pos) (C7 C sp dvs E t):=by
 intro af s Z H Q I h;refine Ej (tD I L P ?_ l);refine Lu (h₀:=X.base) I.ok.mod.kin M.kp (thn (m pos af s Z H _ I h) λus g ⟨vs,z,N,r,q⟩=>⟨N.kIn,?_⟩) Y a;exact C8 M F T G hd J N r q
theorem SI(M:Mk X.K C f)(F:X.f CX k f fd ps sp)(T:cP (k+1) X.A)(L:Gl X x)(P:X.mg x=aa (.ref C))(G:Binds X.K fd ps ds)(hd:aZ dvs ds)(J:mT CX X E)(l:Db x:=by decide):PE X (.Call (.Name x p) [] [] pos) (C7 C sp dvs E xU):=by
 intro af s Z H Q I h;refine Ej (tD I L P ?_ l);exact PySem.W.callWith_K0 I.kIn M.kp (C8 (us:=[]) M F T G hd J I .nil h)
end
structure mU(N P:↑Ay)(sc:Kl):Prop where
 kind:sc.kind=.function
 co:sc.isCoroutine=ac
 gen:sc.isGenerator=ac
 nd:N.Nodup
 pre:N.take ↥P=P
 par:∀x∈P,sc.names.lookup x=aa .local\/sc.names.lookup x=aa .cell
 nofree:∀y∈sc.names,y.2≠.free
theorem C9{a:Ay->Option Jr}:∀{binds:↑(Ay×Ae)} {m:Ay->Option Ae},(∀v,(x,v)∉binds)->Ti a binds m x=m x
 | [],_,_=>rfl
 | (n,v)::r,m,h=>by
  unfold Ti;rw[C9 λw hw=>h w (Bj _ hw)];split
  .have:x≠n:=by rintro rfl;exact h v Bl
   simp[this]
  .rfl
theorem DA{a:Ay->Option Jr}:∀{binds:↑(Ay×Ae)} {m:Ay->Option Ae},(∀v,(x,v)∉binds)->Tj a binds m x=m x
 | [],_,_=>rfl
 | (n,v)::r,m,h=>by
  unfold Tj;rw[DA λw hw=>h w (Bj _ hw)];split
  .rfl
  .have:x≠n:=by rintro rfl;exact h v Bl
   simp[this]
theorem DB{a:Ay->Option Jr}{x:Ay}{v:Ae}:∀{P:↑Ay} {vs:↑Ae} {i:Nat} {m:Ay->Option Ae},P.Nodup->P[i]? = aa x->vs[i]? = aa v->a x=aa .local->
  Ti a (P.zip vs) m x=aa v
 | [],_,_,_,_,h,_,_=>by simp at h
 | _::_,[],_,_,_,_,h,_=>by simp at h
 | p::P,w::vs,0,m,nd,O,L,hk=>by
  simp at O L;subst O;subst L;show Ti a ((p,w)::P.zip vs) m p=_;unfold Ti;rw[C9 λv c=>(Ca.mp nd).1 (Nx c).1,Vg hk];simp
 | p::P,w::vs,i+1,m,nd,O,L,hk=>by
  show Ti a ((p,w)::P.zip vs) m x=_;unfold Ti;exact DB (i:=i) (Ca.mp nd).2 (by simpa using O) (by simpa using L) hk
theorem DC{a:Ay->Option Jr}{x:Ay}{v:Ae}:∀{P:↑Ay} {vs:↑Ae} {i:Nat} {m:Ay->Option Ae},P.Nodup->P[i]? = aa x->vs[i]? = aa v->a x≠aa .local->
  Tj a (P.zip vs) m x=aa v
 | [],_,_,_,_,h,_,_=>by simp at h
 | _::_,[],_,_,_,_,h,_=>by simp at h
 | p::P,w::vs,0,m,nd,O,L,hk=>by
  simp at O L;subst O;subst L;show Tj a ((p,w)::P.zip vs) m p=_;unfold Tj;rw[DA λv c=>(Ca.mp nd).1 (Nx c).1,Vf hk];simp
 | p::P,w::vs,i+1,m,nd,O,L,hk=>by
  show Tj a ((p,w)::P.zip vs) m x=_;unfold Tj;exact DC (i:=i) (Ca.mp nd).2 (by simpa using O) (by simpa using L) hk
def start(N:↑Ay)(vs:↑V):St:=vs.map aa++Bz (↥N-↥vs) ae
def kN(CX:kM)(P:Bc)(w:Bo)(K:Ac)(mg:Ay->Option Ae)(base:Ds)(N:↑Ay)(j:Ay)(d:Kl)(f:An)(t:Ae)(A:Cs)(outer:↑Env)(s:Aj)(H:Hp)(E:XK):Cx where
 prog:=P
 w:=w
 K:=K
 mg:=mg
 base:=base
 A:=A.deeper (Li j d ⇑s f t)
 N:=N
 s₀:=s
 H₀:=H
 env:=Li j d ⇑s f t
 outer:=outer
 stack:=Li j d ⇑s f t::outer
 ex:=[]
 calm:=ab
 fn:=λ_=>ab
 pn:=[]
 xe:=λe W=>Bk (Dj P w) (A.deeper (Li j d ⇑s f t)) (leaving (Li j d ⇑s f t) e) (λ_ R=>CX outer H s E e R) (λg R=>CX outer H s E g R) W
theorem DD{sc:Kl}{n:Nat}{x:Ay}(h:sc.names.lookup x=aa .cell):∃c,(Vc n sc.names []).lookup x=aa c:=by
 have q:=PySem.W.cellsFrom_some sc.names n [] (.inl h);exact Ef.mp q
theorem SJ{CX:kM}{P:Bc}{w:Bo}{K:Ac}{mg:Ay->Option Ae}{base:Ds}{N ps:↑Ay}{j:Ay}{d:Kl}{f:An}{t:Ae}{A:Cs}{outer:↑Env}{s g:Aj}{H:Hp}{E:XK}{us:↑Ae}{vs:↑V}(S:mU N ps d)(hd:A.handled=ae)(F:n9 P w K mg base A outer s H)(hl:↥vs=↥ps)(r:aZ vs us)(x:InCallC s ⇑s (Ti (Li j d ⇑s f t).kindOf (ps.zip us) λ_=>ae) (Vc (⇑s+1) d.names []) (Tj (Li j d ⇑s f t).kindOf (ps.zip us) λ_=>ae) g):
  Inv (kN CX P w K mg base N j d f t A outer s H E) [] (start N vs) H g:=by
 have o:↥ps<=↥N:=by have:=congrArg Ii S.pre;rw[Ck]at this;lia
 let⟨O,tk,rfl,hk⟩:=x.done;have M:∀b:An,b∉(kN CX P w K mg base N j d f t A outer s H E).ex:=λb z=>absurd (show b∈([]:↑An) from z) (by simp);refine⟨⟨F.mod,S.kind,rfl,rfl,Ai _,λy z c O L=>?_,λy U=>?_,λy c _ h=>?_,λ_=>hd,Around.frames_deeper F.frames,.inr ⟨rfl,rfl⟩,λb z=>absurd z (M b),F.bs,F.bsz,λb _ _=>M b,λb z=>absurd z (M b),F.funs,F.frf⟩,
  rfl,F.bare,Un.kept hk,⟨_,x.toInCall.ns,λi y v O L h3=>?_⟩,λy c h=>⟨_,x.cell y c h⟩,F.hok.fresh (Ai _),λy c h=>?_,λp J=>absurd (show p∈([]:↑(An×Lv)) from J) (by simp),F.hok.kept hk,?_⟩
 .exact name_of_addr x.apart (Hx O) (Hx L)
 .have U:d.names.lookup y=aa .cell\/d.names.lookup y=aa .free:=U;rcases U with U|U
  .exact DD U
  .exact absurd rfl (S.nofree _ (Hx U))
 .exact Hf (x.above y c (Hx h))
 .have hi:i<↥vs:=by
   unfold start at L
   by_cases hi:i<↥vs
   .exact hi
   .rw[Hh (by simpa using hi)]at L;rw[List.getElem?_replicate]at L;split at L<;>cases L
  have m:vs[i]? = aa v:=by
   unfold start at L;rw[Mj (by simpa using hi),Av]at L;cases e:vs[i]? with
   | none=>rw[e]at L;cases L
   | some a=>rw[e]at L;cases L;rfl
  let⟨u,W,R⟩:=r.get m;have J:ps[i]? = aa y:=by
   rw[<-S.pre,List.getElem?_take_of_lt (by lia)];exact O
  have l:ps.Nodup:=by rw[<-S.pre];exact S.nd.sublist (List.take_sublist _ _)
  refine⟨u,R,?_⟩;rcases S.par y (Ao J) with k|k
  .exact .inl ⟨k,DB l J W k⟩
  .let⟨c,e⟩:=DD (n:=⇑s+1) k;refine .inr ⟨.inl k,c,e,?_⟩;have q:=x.cell y c e;rw[DC l J W (by show d.names.lookup y≠_;rw[k];decide)]at q;exact q
 .exact F.hok.fresh (Hf (x.above y c (Hx h)))
 .unfold start;show _=↥N;rw[Ak,Ab,Iv];lia
theorem SM{CX:kM}{P:Bc}{w:Bo}{K:Ac}{mg:Ay->Option Ae}{base:Ds}{k:Nat}{f:An}{name qual:Ay}{params:Arguments}{body:↑Jl}{scope:Kl}{dV kV doc pm cdv ct oc:Ae}{an od:Option An}{osl:Array (Option Ae)}{N ps:↑Ay}{sp:Sp}(lk:K.lookup f=aa ⟨oc,od,.func (Fv name qual params body scope dV kV doc pm an cdv ct),osl⟩)(hcd:Kg K cdv qual=ab)(S:mU N ps scope)(len:∀vs H Q E,sp vs H Q E->↥vs=↥ps)(hbody:∀(A:Cs) (outer:↑Env) (s:Aj) (H:Hp) (vs:↑V) (Q:VK) (E:XK),cP k (A.deeper (Li qual scope ⇑s f cdv))->sp vs H Q E->
   ∃t,fT (kN CX P w K mg base N qual scope f cdv A outer s H E) body t/\t {nx:=λ_ H'=>Q .non H',rt:=Q} (start N vs) H):
  i6 P w K mg base CX (k+1) f (Fv name qual params body scope dV kV doc pm an cdv ct) ps sp:=by
 refine⟨len,λA outer s H args us vs Q E hr e0 hb r hsp=>?_⟩;have hl:=len _ _ _ _ hsp;have KX:K.In s.heap:=e0.mod.kin.keeps λb o e=>(e0.bs b o e).1;have lim:s.heap.NoLimit:=e0.mod.nolimit.keeps λb o e=>(e0.bs b o e).1;have hkind:∀y∈ps.zip us,scope.names.lookup y.1=aa .local\/(scope.names.lookup y.1=aa .cell/\((Vc (⇑s+1) scope.names []).lookup y.1).isSome=ab):=λ⟨n,v⟩ hy=>by
  rcases S.par n (Nx hy).1 with q|q
  .exact .inl q
  .exact .inr ⟨q,PySem.W.cellsFrom_some _ _ _ (.inl q)⟩
 refine codeAny_call_function hr.depth (KX _ _ lk) rfl S.co S.gen rfl (PySem.W.codeRec_of KX hcd) (hb _ _ _ _ ?_);refine wpAny_newFunctionEnv_cells S.kind hkind λenv he s1 x=>?_;subst he;refine⟨lim.keeps x.toInCall.keep,codeAny_func ?_⟩;let⟨t,ht,hq⟩:=hbody A outer s H vs Q E (hr.deeper _) hsp;have I:Inv (kN CX P w K mg base N qual scope f cdv A outer s H E) [] (start N vs) H s1:=SJ S hr.hd e0 hl r x;refine Ig (ht [] s1 (start N vs) H _ I hq) (λfl s' hs=>?_) λe s' hs=>hs;have fin:∀{σ':St} {H':Hp} {v:V} {u:Ae},Inv (kN CX P w K mg base N qual scope f cdv A outer s H E) [] σ' H' s'->RelV v u->Q v H'->CE outer P w H s Q u s':=
  λ{σ' H' v u} J rv q=>⟨v,H',J.os,J.bare,J.base,J.hok,rv,q⟩
 cases fl with
 | ret u=>
  let⟨v,σ',H',J,rv,q⟩:=hs;exact fin J rv q
 | next=>
  let⟨σ',H',J,q⟩:=hs;exact fin (v:=V.non) (u:=Value.none) J rfl q
 | brk=>
  let⟨_,_,_,q⟩:=hs;exact Bq q
 | cont=>
  let⟨_,_,_,q⟩:=hs;exact Bq q
section
variable {X:Cx}{x:Ay}{p pos:Hu}{e:Cg}{es:↑Cg}{t:TA}{id T:String}{r:↑V->Hp->VK->Prop}
def xW(r:↑V->Hp->VK->Prop)(t:TA):TE:=λC H Q=>t C H λvs z=>r vs z Q
theorem SN(hc:cN X (.builtin id) r)(L:Gl X x)(P:X.mg x=ae)(c:Cr x=aa (.builtin id))(m:PA X (e::es) t)(hn:x≠"__name__":=by decide)(l:Db x:=by decide)(Y:Se X e es:=by rfl)(a:Sb X pos es:=by rfl):PE X (.Call (.Name x p) (e::es) [] pos) (xW r t):=by
 intro B s C H Q I h;refine Ej (iJ I L P c ?_ hn l);exact PyProof.Rows.callWith_builtin1 (thn (m pos B s C H _ I h) λus g ⟨vs,z,M,N,d⟩=>hc B g C z vs us Q M N d) Y a
theorem SO(hc:cN X (.type T) r)(L:Gl X x)(P:X.mg x=ae)(c:Cr x=aa (.type T))(m:PA X (e::es) t)(hn:x≠"__name__":=by decide)(l:Db x:=by decide)(Y:Se X e es:=by rfl)(a:Sb X pos es:=by rfl):PE X (.Call (.Name x p) (e::es) [] pos) (xW r t):=by
 intro B s C H Q I h;refine Ej (iJ I L P c ?_ hn l);exact Cj (thn (m pos B s C H _ I h) λus g ⟨vs,z,M,N,d⟩=>hc B g C z vs us Q M N d) Y a
end
end L2
namespace HT
section
variable {prog:Bc}{w:Bo}{A:Cs}{E:Ae->Aj->Prop}{s:Aj}
theorem cat_tup{Q:Ae->Aj->Prop}(ht:IsTup s.heap t vs.toArray)(G:IsTup s.heap b ws.toArray)(c:vs≠[])(O:ws=[]->Q (.ref t) s)(L:ws≠[]->Q (.ref ⇑s) {s with heap:=s.heap.push {cls:=.type "tuple",data:=.seq (vs++ws).toArray}})(hsz:↥vs+↥ws<=Ax):Bk (Dj prog w) A (Eh .Add (.ref t) (.ref b)) Q E s:=by
 obtain⟨⟨cls,i,data,Z⟩,S,hc,n,hd⟩:=id ht;obtain⟨⟨p,l,o,k⟩,f,h,j,C⟩:=id G;simp only at hc hd h C;subst hc hd h C;have e:vs.toArray++ws.toArray=(vs++ws).toArray:=by simp
 by_cases hw:ws=[]
 .exact Tv ⟨_,S,rfl⟩ ⟨_,f,rfl⟩ Rp Tb Ng Mv (Mi _ _)
   (tuple_addW1 t b vs.toArray ws.toArray n j i l Z k (by simpa using c) (by simp[hw])) ⟨S,f,O hw⟩
 .refine Tv ⟨_,S,rfl⟩ ⟨_,f,rfl⟩ Rp Tb Ng Mv (Mi _ _)
   (tuple_addW2 t b vs.toArray ws.toArray n j i l Z k (by simpa using c) (by simpa using hw) (by rw[Bh,Bh];exact hsz)) ⟨S,f,?_⟩
  rw[e];exact L hw
def sIx(n d:Nat):Option Int->Nat
 | none=>d
 | some v=>if v<0 then(v+(n:Int)).toNat else min v.toNat n
theorem sIx_none(n d:Nat):sIx n d ae=d:=rfl
theorem sIx_nat(n d k:Nat):sIx n d (aa (k:Int))=min k n:=by
 show(if (k:Int)<0 then((k:Int)+(n:Int)).toNat else min (k:Int).toNat n)=min k n;rw[Vf (by lia),De]
theorem SQ(n d:Nat)(hd:d<=n)(o:Option Int):sIx n d o<=n:=by
 cases o with
 | none=>exact hd
 | some v=>
  show(if v<0 then(v+(n:Int)).toNat else min v.toNat n)<=n
  by_cases c:v<0
  .rw[Vg c];lia
  .rw[Vf c];exact Qs _ _
theorem DE(v:Int)(n d:Nat):(if v<0 then max (v+(n:Int)) 0 else min v (n:Int))=((sIx n d (aa v):Nat):Int):=by
 show(if v<0 then max (v+(n:Int)) 0 else min v (n:Int))=(((if v<0 then(v+(n:Int)).toNat else min v.toNat n):Nat):Int)
 by_cases c:v<0
 .simp only[Vg c];lia
 .simp only[Vf c];lia
theorem SU(lo hi:Option Int)(n:Nat):Ll lo hi 1 (n:Int)=(((sIx n 0 lo:Nat):Int),((sIx n n hi:Nat):Int)):=by
 have O:¬((1:Int)<0):=by lia
 unfold Ll;simp only[O,if_false];refine Nj ?_ ?_
 .cases lo with
  | none=>rfl
  | some v=>exact DE v n 0
 .cases hi with
  | none=>rfl
  | some v=>exact DE v n n
theorem SW(i j:Nat):Im (i:Int) (j:Int) 1=j-i:=by
 unfold Im;have O:(1:Int) > 0:=by lia
 simp only[O,if_true,Int.ediv_one];split<;>lia
theorem DF{Q:Option Int->Aj->Prop}(p:Rt v o)(h:Q o s):Bk (Dj prog w) A (Builtin.Slice.slicePartIndex v) Q E s:=by
 cases p with
 | none=>exact slicePart_none h
 | int i t=>exact slicePart_int h
theorem SX{Z:An}{c y:Ae}{lo hi:Option Int}{n:Nat}{Q:Int×Int×Nat->Aj->Prop}(F:s.heap.IsSliceOf Z c y .none)(pl:Rt c lo)(D:Rt y hi)(h:Q (((sIx n 0 lo:Nat):Int),1,sIx n n hi-sIx n 0 lo) s):Bk (Dj prog w) A (Builtin.Slice.sliceApplied (.ref Z) (pure (n:Int))) Q E s:=by
 let⟨os,e,f,b⟩:=id F;unfold Builtin.Slice.sliceApplied Builtin.Slice.sliceFields;refine Aa (Aa (Dk e b (x:=c) rfl (Aa (Dk e b (x:=y) rfl (Aa (Dk e b (x:=.none) rfl (Ag ?_)))))));refine Aa (slicePart_none ?_);show Bk _ _ (if ((1:Int)==0)=ab then _ else _) _ _ s;rw[Vf ∅];refine Aa (DF pl (Aa (DF D (Aa (Ag ?_)))));show Bk _ _ (match Ll lo hi 1 (n:Int) with|(lo,hi)=>pure (lo,(1:Int),Im lo hi 1)) _ _ s;rw[SU lo hi n];show Bk _ _ (pure (((sIx n 0 lo:Nat):Int),(1:Int),Im ((sIx n 0 lo:Nat):Int) ((sIx n n hi:Nat):Int) 1)) _ _ s;rw[SW];exact Ag h
theorem SY(xs:Array Ae)(i k:Nat):((Ci k).filterMap λ(m:Nat)=>xs[((i:Int)+(m:Int)*1).toNat]?).toArray=((xs.toList.drop i).take k).toArray:=by
 have e:(λ(m:Nat)=>xs[((i:Int)+(m:Int)*1).toNat]?)=λm=>xs[i+m]?:=by
  funext m;have:((i:Int)+(m:Int)*1).toNat=i+m:=by lia
  rw[this]
 rw[e];have:=pick_run xs i k;rw[Ke]at this;have A:((λx=>xs[x]?) ∘ λx=>i+x)=λm=>xs[i+m]?:=rfl;rw[A]at this;rw[this]
theorem getItem_tuple_cut{t Z:An}{items:Array Ae}{c y:Ae}{lo hi:Option Int}{Q:Ae->Aj->Prop}(ht:IsTup s.heap t items)(F:s.heap.IsSliceOf Z c y .none)(pl:Rt c lo)(D:Rt y hi)(hw:¬(sIx items.size 0 lo=0/\sIx items.size items.size hi=items.size))(h:Q (.ref ⇑s) {s with heap:=s.heap.push {cls:=.type "tuple",data:=.seq ((items.toList.drop (sIx items.size 0 lo)).take (sIx items.size items.size hi-sIx items.size 0 lo)).toArray}})(hsz:items.size<=Ax):Bk (Dj prog w) A (Sn (.ref t) (.ref Z)) Q E s:=by
 have a:sizeOk (.seq ((items.toList.drop (sIx items.size 0 lo)).take (sIx items.size items.size hi-sIx items.size 0 lo)).toArray):=by
  show((items.toList.drop (sIx items.size 0 lo)).take (sIx items.size items.size hi-sIx items.size 0 lo)).toArray.size<=Ax;rw[Bh,Ck,Gf,Fs];omega
 have hj:sIx items.size items.size hi<=items.size:=SQ _ _ (Ai _) hi;let⟨os,e,f,b⟩:=id F;have i:s.TypeIs (.ref Z) "slice":=⟨os,e,f⟩;unfold Sn
 try with_reducible refine Dn ?_
 first|refine Aa (Ag ?_)|skip
 refine Aa (wpAny_sequenceKey ht.typeIs ∅ ?_);refine Aa (Cu (name:=Bs "__getitem__") ht.typeIs Jt
  (Cm Jt ht.typeIs entry_tuple_getitem ?_ (args_tuple_getitem _ _)))
 show Bk _ _ (Builtin.Tuple.tupleItemsOf (.ref t)>>=_) _ _ s;refine Aa (tupleItemsOf_ ht ?_);refine Aa (Mo i ?_);rw[Vg ∅];refine Aa (SX F pl D ?_);have g:¬((((sIx items.size 0 lo:Nat):Int)==0&&(1:Int)==1&&(sIx items.size items.size hi-sIx items.size 0 lo)==items.size)=ab):=by
  intro q;rw[Dg,Dg]at q;have d:((sIx items.size 0 lo:Nat):Int)=0:=eq_of_beq q.1.1;have p:sIx items.size items.size hi-sIx items.size 0 lo=items.size:=eq_of_beq q.2;exact hw ⟨by omega,by omega⟩
 show Bk _ _ (if (((sIx items.size 0 lo:Nat):Int)==0&&(1:Int)==1&&(sIx items.size items.size hi-sIx items.size 0 lo)==items.size)=ab then _ else _) _ _ s;rw[Vf g,SY]
 first
  | exact Aa (m:=Gr _) (Dh (Ag ⟨_,rfl,Ag h⟩) a)
  | exact Aa (m:=Gr _) (Dh (Aa (Ag (Ag ⟨_,rfl,Ag h⟩))) a)
  | exact Aa (Aa (m:=Gr _) (Dh (Ag (Ag ⟨_,rfl,Ag h⟩)) a))
  | exact Aa (Aa (m:=Gr _) (Dh (Ag ⟨_,rfl,Ag h⟩) a))
end
end HT
namespace L2
abbrev TO:=St->Hp->(Option Int->Hp->Prop)->Prop
def PO(X:Cx)(e:Option Cg)(t:TO):Prop:=
 ∀(B:Pn) (s:Aj) (C:St) (H:Hp) (Q:Option Int->Hp->Prop),Inv X B C H s->t C H Q->
  X.a (evalPart e X.env) (λu W=>∃o l,Inv X B C l W/\Rt u o/\Q o l) X.xe s
def S4:TO:=λ_ H Q=>Q ae H
def S5(t:TE):TO:=λC H Q=>t C H λx z=>∃i,x=.int i/\Q (aa i) z
section
variable {X:Cx}{e:Cg}{te:TE}{lo hi:Option Cg}{tl th:TO}{pos p2:Hu}
theorem S6:PO X ae S4:=by
 intro B s C H Q I h;rw[evalPart_none];exact Ag ⟨ae,H,I,.none,h⟩
theorem S7(h:PE X e te):PO X (aa e) (S5 te):=by
 intro B s C H Q I hw;rw[evalPart_some];refine thn (h B s C H _ I hw) λu g Z=>?_;let⟨x,z,M,N,d⟩:=Z;let⟨i,rfl,q⟩:=d;let⟨t,rfl⟩:=N;exact⟨aa i,z,M,.int i t,q⟩
def tM(X:Cx)(r:V->Option Int->Option Int->Hp->VK->Prop):Prop:=
 ∀(B:Pn) (s:Aj) (C:St) (H:Hp) (x:V) (v c y:Ae) (lo hi:Option Int) (Z:An) (Q:VK),Inv X B C H s->RelV x v->s.heap.IsSliceOf Z c y .none->Rt c lo->Rt y hi->r x lo hi H Q->
  ∃T id,Oo (.type T) "__getitem__" = pure (aa (.builtin id))/\s.TypeIs v T/\X.a (Sn v (.ref Z)) (EP X B C Q) X.xe s
def S8(r:V->Option Int->Option Int->Hp->VK->Prop)(te:TE)(tl th:TO):TE:=λC H Q=>te C H λx z=>tl C z λl E=>th C E λu w=>r x l u w Q
theorem S9{r:V->Option Int->Option Int->Hp->VK->Prop}(S:tM X r)(Y:PE X e te)(hl:PO X lo tl)(U:PO X hi th):PE X (.Subscript e (.Slice lo hi ae p2) pos) (S8 r te tl th):=by
 intro B s C H Q I h;refine Subscript_ (thn (Y B s C H _ I h) λv g Z=>?_);let⟨x,z,M,N,d⟩:=Z;refine wpAny_Slice (thn (hl B g C z _ M d) λc K ⟨l,E,i,pl,p⟩=>thn (U B K C E _ i p) λy j R=>?_);let⟨u,w,O,D,o⟩:=R;rw[evalPart_none];refine Ag ?_;have k:Inv X B C w {j with heap:=j.heap.push {cls:=.type "slice",data:=.fields #[c,y,.none]}}:=O.kept (t':=j.toks) λb ob q=>Ah _ q;let⟨T,id,f,ht,L⟩:=S B {j with heap:=j.heap.push {cls:=.type "slice",data:=.fields #[c,y,.none]}} C w x v c y l u ⇑j Q k N (Heap.IsSliceOf.new ..) pl D o;show X.a (subscriptTail e (.Slice lo hi ae p2) v (.ref ⇑j)) (EP X B C Q) X.xe {j with heap:=j.heap.push {cls:=.type "slice",data:=.fields #[c,y,.none]}};exact tail_any (ops:=[.ref ⇑j,v]) ht f L (by with_unfolding_all rfl)
def mV(xs:↑V)(lo hi:Option Int):↑V:=(xs.drop (HT.sIx ↥xs 0 lo)).take (HT.sIx ↥xs ↥xs hi-HT.sIx ↥xs 0 lo)
theorem DG(xs:↑V)(lo hi:Option Int):↥(mV xs lo hi)<=↥xs:=by
 unfold mV;rw[Ck,Gf];lia
def TB(K:Ac):V->Option Int->Option Int->Hp->VK->Prop:=λx lo hi H Q=>∃a xs,x=.ref a/\bU K H a xs/\
 ¬(HT.sIx ↥xs 0 lo=0/\HT.sIx ↥xs ↥xs hi=↥xs)/\∀p,H p=ae->Q (.ref p) (aL H p (.tup (mV xs lo hi)))
theorem TC:tM X (TB X.K):=by
 intro B s C H x v c y lo hi Z Q I d F pl D h;let⟨a,xs,rfl,J,hw,q⟩:=h;cases d;let⟨its,r,ht,hz⟩:=I.tuple J;have Y:its.toArray.size=↥xs:=by rw[Bh];exact r.length.symm
 refine⟨"tuple",_,Jt.lookup,ht.typeIs,?_⟩;refine HT.getItem_tuple_cut ht F pl D (by rw[Y];exact hw) ?_ (by rw[Y];exact hz);rw[Y];refine⟨.ref ⇑s,_,I.laid (t':=s.toks) (o:=.tup (mV xs lo hi)) (λb ob q=>Ah _ q) (Ai _) ?_,rfl,q _ (I.hok.fresh (Ai _))⟩;exact⟨Ar (DG xs lo hi) hz,_,(r.drop (HT.sIx ↥xs 0 lo)).take (HT.sIx ↥xs ↥xs hi-HT.sIx ↥xs 0 lo),Ud _ _⟩
def TF(K:Ac):R2:=λx y H Q=>∃a b xs G,x=.ref a/\y=.ref b/\bU K H a xs/\bU K H b G/\xs≠[]/\↥xs+↥G<=Ax/\
 (G=[]->Q (.ref a) H)/\(G≠[]->∀p,H p=ae->Q (.ref p) (aL H p (.tup (xs++G))))
theorem aZ.nil_iff(r:aZ xs us):us=[]↔xs=[]:=by
 cases r with
 | nil=>simp
 | cons _ _=>simp
theorem TH:bF X (Eh .Add) (TF X.K):=by
 intro B s C H x y v u Q I d P h;let⟨a,b,xs,N,rfl,rfl,m,G,J,hz,n,p⟩:=h;cases d;cases P;let⟨its,U,O,_⟩:=I.tuple m;let⟨c,Y,p2,_⟩:=I.tuple G;refine HT.cat_tup O p2 (λz=>J (U.nil_iff.mp z)) (λz=>⟨.ref a,H,I,rfl,n (Y.nil_iff.mp z)⟩) (λz=>?_) (by rw[<-↥U,<-↥Y];exact hz);refine⟨.ref ⇑s,_,I.laid (t':=s.toks) (o:=.tup (xs++N)) (λb ob q=>Ah _ q) (Ai _) ?_,rfl,p (λw=>z (Y.nil_iff.mpr w)) _ (I.hok.fresh (Ai _))⟩;exact⟨by rw[Ak];exact hz,_,U.append Y,Ud _ _⟩
end
def gX(n:Nat)(i:Int):Option Nat:=if 0<=i then(if i<n then aa i.toNat else ae) else if -(n:Int)<=i then aa (i+n).toNat else ae
def bT{q:Type}(xs:↑q)(i:Int):Option q:=(gX ↥xs i).bind λj=>xs[j]?
theorem xX{n:Nat}{i:Int}{j:Nat}(h:gX n i=aa j):Va i n=aa j/\j<n/\-(n:Int)<=i/\i<n:=by
 unfold gX at h
 by_cases G:0<=i
 .rw[Vg G]at h
  by_cases O:i<n
  .rw[Vg O]at h;have e:i.toNat=j:=Co h;exact⟨by rw[Ui G O,e],by lia,by lia,O⟩
  .rw[Vf O]at h;cases h
 .rw[Vf G]at h
  by_cases O : -(n:Int)<=i
  .rw[Vg O]at h;have e:(i+n).toNat=j:=Co h;exact⟨by rw[seqIndex_neg (by lia) O,e],by lia,O,by lia⟩
  .rw[Vf O]at h;cases h
theorem xY{q:Type}{xs:↑q}{i:Int}{v:q}(h:bT xs i=aa v):∃j,Va i ↥xs=aa j/\xs[j]? = aa v/\j<↥xs/\-(↥xs:Int)<=i/\i<↥xs:=by
 unfold bT at h;cases e:gX ↥xs i with
 | none=>rw[e]at h;cases h
 | some j=>
  rw[e]at h;let⟨O,L,h3,D⟩:=xX e;exact⟨j,O,h,L,h3,D⟩
theorem iL{q:Type}{xs:↑q}{j:Nat}{v:q}(h:xs[j]? = aa v):bT xs (j:Int)=aa v:=by
 have hj:j<↥xs:=(Am.mp h).1;have e:gX ↥xs (j:Int)=aa j:=by
  unfold gX;rw[Vg (by lia),Vg (by lia)];simp
 unfold bT;rw[e];exact h
theorem DH{q:Type}(xs:↑q)(v:q):bT (xs++[v]) (-1)=aa v:=by
 have hl:↥(xs++[v])=↥xs+1:=by simp
 have e:gX ↥(xs++[v]) (-1)=aa ↥xs:=by
  unfold gX;rw[hl,Vf ∅,Vg (by lia)];congr 1;lia
 unfold bT;rw[e];show(xs++[v])[↥xs]? = aa v;simp
def DI(b:Cg):Prop:=∀o i,subscripted b ac o i=operate [o,i] (Sn o i)
def jN(X:Cx)(r:R2):Prop:=
 ∀(e b:Cg) (B:Pn) (s:Aj) (C:St) (H:Hp) (x y:V) (v u:Ae) (Q:VK),Inv X B C H s->RelV x v->RelV y u->r x y H Q->
  subscripted b ac v u=operate [v,u] (Sn v u)->X.a (subscriptTail e b v u) (EP X B C Q) X.xe s
def fJ(X:Cx)(id:String)(r:V->↑V->Hp->VK->Prop):Prop:=
 ∀(B:Pn) (s:Aj) (C:St) (H:Hp) (x:V) (xs:↑V) (v:Ae) (us:↑Ae) (Q:VK),Inv X B C H s->RelV x v->aZ xs us->r x xs H Q->
  X.a (call (.builtin id) (v::us)) (EP X B C Q) X.xe s
section
variable {X:Cx}{a b:Cg}{ta tb:TE}{pos:Hu}
theorem jN.or(h:jN X r)(h':jN X U):jN X (λx y H Q=>r x y H Q\/U x y H Q):=by
 intro e b B s C H x y v u Q I d P q F;rcases q with q|q
 .exact h e b B s C H x y v u Q I d P q F
 .exact h' e b B s C H x y v u Q I d P q F
theorem TJ(T:jN X r)(m:PE X a ta)(G:PE X b tb)(F:DI b):PE X (.Subscript a b pos) (qP r ta tb):=by
 intro B s C H Q I h;exact Subscript_ (xR m G I h λv u K x y E i d P q=>T a b B K C E x y v u Q i d P q (F _ _))
def TL(K:Ac):R2:=λx y H Q=>∃p xs i v,x=.ref p/\y=.int i/\bL K H p xs/\bT xs i=aa v/\Q v H
def TM(K:Ac):R2:=λx y H Q=>∃p xs i v,x=.ref p/\y=.int i/\bU K H p xs/\bT xs i=aa v/\Q v H
def TN:R2:=λx y H Q=>∃z i c,x=.str z/\y=.int i/\↥z<=Ax/\bT z.cps.toList i=aa c/\Q (.str ⟨#[c]⟩) H
theorem TQ:jN X (TL X.K):=by
 intro e b B s C H x y v u Q I d P h F;let⟨p,xs,i,z,rfl,rfl,Z,Y,q⟩:=h;cases d;let⟨t,rfl⟩:=P;let⟨its,r,pl,hz⟩:=I.list Z;let⟨j,O,L,h3,D,f⟩:=xY Y;let⟨w,c,V⟩:=r.get L;have hl:=↥r;have hn:=lU;have fin:EP X B C Q w s:=⟨z,H,I,V,q⟩
 by_cases G:0<=i
 .have hj:i.toNat=j:=by
   rw[Ui G f]at O;exact Co O
  exact item_listR pl.isList G (by lia) (by rw[hj];simpa using c) fin F
 .have hj:(i+(its.toArray.size:Int)).toNat=j:=by
   rw[seqIndex_neg (by lia) D]at O;rw[Bh,<-hl];exact Co O
  exact subscriptTail_builtinR (x:=w) pl.isList.typeIs slot_list_getitem.lookup
   (wpAny_getItem_list_neg (Q:=λr W=>r=w/\EP X B C Q r W) pl.isList (by lia) (by rw[Bh]<;>lia) (by lia) (by rw[hj];simpa using c) ⟨rfl,fin⟩) F
theorem TR:jN X (TM X.K):=by
 intro e b B s C H x y v u Q I d P h F;let⟨p,xs,i,z,rfl,rfl,Z,Y,q⟩:=h;cases d;let⟨t,rfl⟩:=P;let⟨its,r,pl,hz⟩:=I.tuple Z;let⟨j,O,L,h3,D,f⟩:=xY Y;let⟨w,c,V⟩:=r.get L;have hl:=↥r;have hn:=lU;have fin:EP X B C Q w s:=⟨z,H,I,V,q⟩;exact subscriptTail_builtinR (x:=w) pl.typeIs slot_tuple_getitem.lookup
  (getItem_tuple (j:=j) (Q:=λr W=>r=w/\EP X B C Q r W) pl (by lia) (by lia) (by rw[Bh,<-hl];exact O) (by simpa using c) ⟨rfl,fin⟩) F
theorem TU:jN X TN:=by
 intro e b B s C H x y v u Q I d P h F;let⟨z,i,c,rfl,rfl,hz,Y,q⟩:=h;let⟨t,rfl⟩:=d;let⟨t',rfl⟩:=P;let⟨j,O,L,h3,m,f⟩:=xY Y;have hl:↥z.cps.toList=↥z:=by simp[Str.length]
 rw[hl]at O m f;have hn:=lU;exact tail_any (Uo s z t) slot_str_getitem.lookup (getItem_str (c:=c) (by
  have D:decide (i < -(2 ^ 63:Int))=ac:=Vj (by lia);have A:decide (i ≥ 2 ^ 63)=ac:=Vj (by lia);rw[D,A,Rz]) (by rw[O];simpa using L) ⟨.str ⟨#[c]⟩,H,I.tok _,⟨_,rfl⟩,q⟩) F
theorem TV(its:↑Ae)(n j:Nat)(u:Ae):Po (·.setIfInBounds j u) (lO its.toArray n)=(lO (its.set j u).toArray n):=by
 simp[Po]
theorem Inv.lst{B:Pn}{C:St}{H:Hp}{s:Aj}{p:An}{xs:↑V}(I:Inv X B C H s)(h:H p=aa (.lst xs)):
  ∃(its:↑Ae) (n:Nat),aZ xs its/\s.heap.get? p=aa (lO its.toArray n)/\↥xs<=Ax:=by
 let⟨z,its,n,r,e⟩:=I.hok p _ h;exact⟨its,n,r,e,z⟩
theorem Inv.lstUpd{B:Pn}{C:St}{H:Hp}{s:Aj}{p:An}{xs N:↑V}{its its':↑Ae}{n j:Nat}{f:Lv->Lv}(I:Inv X B C H s)(h:H p=aa (.lst xs))(S:s.heap.get? p=aa (lO its.toArray n))(hf:f (lO its.toArray n)=(lO its'.toArray j))(r:aZ N its')(hz:↥N<=Ax)(t:Nat):
  Inv X B C (aL H p (.lst N)) {s with heap:=s.heap.update p f,toks:=t}:=by
 have e:(s.heap.update p f).get? p=aa (lO its'.toArray j):=by
  rw[Hk f S (by rw[hf]<;>rfl),hf]
 refine I.write (x:=p) (e:=p) (by rw[h];trivial) (.inl rfl) (λb u G q=>(Kv _ _ (Bx G)).trans q) ⟨_,e⟩ ?_;exact⟨hz,its',j,r,e⟩
def TX:V->V->V->Hp->(Hp->Prop)->Prop:=λo i v H Q=>∃p xs k j,o=.ref p/\i=.int k/\H p=aa (.lst xs)/\gX ↥xs k=aa j/\Q (aL H p (.lst (xs.set j v)))
theorem TY:tF X TX:=by
 intro B s C H o i v b e u Q I x m R h;let⟨p,xs,k,j,rfl,rfl,N,hj,q⟩:=h;cases x;let⟨t,rfl⟩:=m;let⟨its,n,r,S,hz⟩:=I.lst N;let⟨O,L,h3,D⟩:=xX hj;have hl:=↥r;have hn:=lU;have c:Inv X B C (aL H p (.lst (xs.set j v))) {s with heap:=s.heap.update p (Po (·.setIfInBounds j u))}:=
  I.lstUpd N S (TV its n j u) (r.set R j) (by rw[List.length_set];exact hz) s.toks
 by_cases G:0<=k
 .have hk:k.toNat=j:=by
   rw[Ui G D]at O;exact Co O
  exact PySem.W.ki_setAt S G (by lia) (by rw[Bh,<-hl];exact D) (by rw[hk];exact⟨_,c,q⟩)
 .have hk:(k+(its.toArray.size:Int)).toNat=j:=by
   rw[seqIndex_neg (by lia) h3]at O;rw[Bh,<-hl];exact Co O
  exact PySem.W.ki_setBack S (by lia) (by rw[Bh,<-hl];exact h3) (by lia) (by rw[hk];exact⟨_,c,q⟩)
theorem TZ(lo hi:Option Int)(n:Nat):(Mc lo hi ae n).1=((HT.sIx n 0 lo:Nat):Int)/\(Mc lo hi ae n).2.1=((HT.sIx n n hi:Nat):Int)/\(Mc lo hi ae n).2.2=1:=by
 refine⟨?_,?_,rfl⟩
 .cases lo with
  | none=>simp[Mc,HT.sIx]
  | some i=>
   simp only[Mc,HT.sIx,Option.getD_none,show(1:Int) > 0 by decide,if_true]
   by_cases h:i<0
   .simp only[h,if_true]<;>lia
   .simp only[h,if_false]<;>lia
 .cases hi with
  | none=>simp[Mc,HT.sIx]
  | some i=>
   simp only[Mc,HT.sIx,Option.getD_none,show(1:Int) > 0 by decide,if_true]
   by_cases h:i<0
   .simp only[h,if_true]<;>lia
   .simp only[h,if_false]<;>lia
theorem T1(its:↑Ae)(lo hi:Option Int):slicePick its.toArray lo hi ae=((its.drop (HT.sIx ↥its 0 lo)).take (HT.sIx ↥its ↥its hi-HT.sIx ↥its 0 lo)).toArray:=by
 let⟨O,L,h3⟩:=TZ lo hi its.toArray.size;unfold slicePick;rw[O,L,h3];simp only[sliceRange_one,pick_run,Bh]<;>rfl
def T2(K:Ac):V->Option Int->Option Int->Hp->VK->Prop:=λx lo hi H Q=>∃a xs,x=.ref a/\bL K H a xs/\∀p,H p=ae->Q (.ref p) (aL H p (.lst (mV xs lo hi)))
theorem xZ:tM X (T2 X.K):=by
 intro B s C H x v c y lo hi Z Q I d F pl D h;let⟨a,xs,rfl,J,q⟩:=h;cases d;let⟨its,r,ht,hz⟩:=I.list J;have Y:=↥r;refine⟨"list",_,slot_list_getitem.lookup,ht.isList.typeIs,?_⟩;refine wpAny_getItem_list_slice ht.isList F pl D .none (by simp) ?_ (by rw[Bh]<;>lia);rw[T1,<-Y];refine⟨.ref ⇑s,_,I.laid (t':=s.toks) (o:=.lst (mV xs lo hi)) (λb ob q=>Ah _ q) (Ai _) ?_,rfl,q _ (I.hok.fresh (Ai _))⟩;exact⟨Ar (DG xs lo hi) hz,_,0,(r.drop (HT.sIx ↥xs 0 lo)).take (HT.sIx ↥xs ↥xs hi-HT.sIx ↥xs 0 lo),Bb _ rfl⟩
def kO:V->Bool
 | .non=>ab
 | .bl _=>ab
 | .int _=>ab
 | .str _=>ab
 | _=>ac
def kP:V->V->Bool
 | .non,.non=>ab
 | .bl a,.bl b=>a==b
 | .bl a,.int b=>(if a then 1 else 0)==b
 | .int a,.bl b=>a==(if b then 1 else 0)
 | .int a,.int b=>a==b
 | .str a,.str b=>a==b
 | _,_=>ac
theorem T4(P:RelV y u)(d:RelV x v)(c:kO y=ab)(g:kO x=ab):Vd A s u v (kP y x):=by
 cases y with
 | non=>
  cases P;cases x with
  | non=>cases d;exact SeqAt.EqAt.same _
  | bl b=>cases d;exact SeqAt.EqAt.none_bool b
  | int b=>let⟨t,rfl⟩:=d;exact SeqAt.EqAt.none_int b t
  | str b=>let⟨t,rfl⟩:=d;exact SeqAt.EqAt.none_str b t
  | _=>exact absurd (show ac=ab from g) Bf
 | bl a=>
  cases P;cases x with
  | non=>cases d;exact SeqAt.EqAt.bool_none a
  | bl b=>cases d;exact SeqAt.EqAt.bool_bool a b
  | int b=>let⟨t,rfl⟩:=d;exact SeqAt.EqAt.bool_int a b t
  | str b=>let⟨t,rfl⟩:=d;exact SeqAt.EqAt.bool_str a b t
  | _=>exact absurd (show ac=ab from g) Bf
 | int a=>
  let⟨t',rfl⟩:=P;cases x with
  | non=>cases d;exact SeqAt.EqAt.int_none a t'
  | bl b=>cases d;exact SeqAt.EqAt.int_bool a t' b
  | int b=>let⟨t,rfl⟩:=d;exact SeqAt.EqAt.int_int a t' b t
  | str b=>let⟨t,rfl⟩:=d;exact SeqAt.EqAt.int_str a t' b t
  | _=>exact absurd (show ac=ab from g) Bf
 | str a=>
  let⟨t',rfl⟩:=P;cases x with
  | non=>cases d;exact SeqAt.EqAt.str_none a t'
  | bl b=>cases d;exact SeqAt.EqAt.str_bool a t' b
  | int b=>let⟨t,rfl⟩:=d;exact SeqAt.EqAt.str_int a t' b t
  | str b=>let⟨t,rfl⟩:=d;exact SeqAt.EqAt.str_str a t' b t
  | _=>exact absurd (show ac=ab from g) Bf
 | _=>exact absurd (show ac=ab from c) Bf
def hZ(x:V)(u:Ae):Bool:=match u with
 | .none=>kP .non x
 | .bool b=>kP (.bl b) x
 | .int i _=>kP (.int i) x
 | .str z _=>kP (.str z) x
 | _=>ac
theorem DJ(r:RelV y u)(f:kO y=ab):hZ x u=kP y x:=by
 cases y with
 | non=>cases r;rfl
 | bl b=>cases r;rfl
 | int i=>let⟨t,rfl⟩:=r;rfl
 | str z=>let⟨t,rfl⟩:=r;rfl
 | _=>exact absurd (show ac=ab from f) Bf
theorem tN:∀{xs:↑V} {us:↑Ae},aZ xs us->xs.all kO=ab->us.any (hZ x)=xs.any λy=>kP y x:=by
 intro xs us h f
 induction h with
 | nil=>rfl
 | cons r t E=>
  rw[Jv,Dg]at f;rw[Fh,Fh,DJ r f.1,E f.2]
theorem qQ(d:RelV x v)(g:kO x=ab):∀{xs:↑V} {us:↑Ae},aZ xs us->xs.all kO=ab->∀u∈us,Vd A s u v (hZ x u)
 | _,_,.nil,_=>λu U=>by cases U
 | y::xs,u::us,.cons r t,f=>λR U=>by
  rw[Jv,Dg]at f;rcases Au.mp U with rfl|U
  .rw[DJ r f.1];exact T4 r d f.1 g
  .exact qQ d g t f.2 R U
def inV(x:V)(xs:↑V):Bool:=xs.any λy=>kP y x
def DK(K:Ac)(neg:Bool):R2:=λx y H Q=>∃p xs,y=.ref p/\(bL K H p xs\/bU K H p xs)/\kO x=ab/\xs.all kO=ab/\Q (.bl (if neg then !inV x xs else inV x xs)) H
theorem T5:bF X (Du .In) (DK X.K ac):=by
 intro B s C H x y v u Q I d P h;let⟨p,xs,rfl,Z,g,fs,q⟩:=h;cases P;rcases Z with Z|Z
 .let⟨its,r,pl,hz⟩:=I.list Z;refine SeqAt.in_listAt (hZ x) pl.isList (λw hw=>qQ d g r fs w (by simpa using hw)) ⟨.bl _,H,I,rfl,?_⟩;rw[show its.toArray.any (hZ x)=its.any (hZ x) by simp,tN r fs];exact q
 .let⟨its,r,pl,hz⟩:=I.tuple Z;refine SeqAt.in_tupleAt (hZ x) pl (λw hw=>qQ d g r fs w (by simpa using hw)) ⟨.bl _,H,I,rfl,?_⟩;rw[show its.toArray.any (hZ x)=its.any (hZ x) by simp,tN r fs];exact q
theorem T6:bF X (Du .NotIn) (DK X.K ab):=by
 intro B s C H x y v u Q I d P h;let⟨p,xs,rfl,Z,g,fs,q⟩:=h;cases P;rcases Z with Z|Z
 .let⟨its,r,pl,hz⟩:=I.list Z;refine SeqAt.notIn_listAt (hZ x) pl.isList (λw hw=>qQ d g r fs w (by simpa using hw)) ⟨.bl _,H,I,rfl,?_⟩;rw[show its.toArray.any (hZ x)=its.any (hZ x) by simp,tN r fs];exact q
 .let⟨its,r,pl,hz⟩:=I.tuple Z;refine SeqAt.notIn_tupleAt (hZ x) pl (λw hw=>qQ d g r fs w (by simpa using hw)) ⟨.bl _,H,I,rfl,?_⟩;rw[show its.toArray.any (hZ x)=its.any (hZ x) by simp,tN r fs];exact q
theorem T7:cN X (.builtin "len") (λxs H Q=>∃p G,xs=[.ref p]/\(bL X.K H p G\/bU X.K H p G)/\Q (.int ↥G) H):=by
 intro B s C H xs us Q I r h;let⟨p,G,rfl,Z,q⟩:=h;let⟨u,rfl,d⟩:=vals1 r;cases d;have hn:=lU;rcases Z with Z|Z
 .let⟨its,U,pl,hz⟩:=I.list Z;have Y:=↥U;exact Calls.call_len_list pl.isList (by simp only[Bh]<;>lia) ⟨.int ↥G,H,I.tok _,⟨s.toks+1,by rw[Bh,Y]⟩,q⟩
 .let⟨its,U,pl,hz⟩:=I.tuple Z;have Y:=↥U;exact len_tuple pl (by simp only[Bh]<;>lia) ⟨.int ↥G,H,I.tok _,⟨s.toks+1,by rw[Bh,Y]⟩,q⟩
theorem T8:cN X (.builtin "len") (λxs H Q=>∃z,xs=[.str z]/\↥z<=Ax/\Q (.int ↥z) H):=by
 intro B s C H xs us Q I r h;let⟨z,rfl,hz,q⟩:=h;let⟨u,rfl,t,rfl⟩:=vals1 r;have hn:=lU;exact len_str (by lia) ⟨.int ↥z,H,I.tok _,⟨_,rfl⟩,q⟩
theorem cN.or{r U:↑V->Hp->VK->Prop}(h:cN X f r)(h':cN X f U):cN X f (λxs H Q=>r xs H Q\/U xs H Q):=by
 intro B s C H xs us Q I rs q;rcases q with q|q
 .exact h B s C H xs us Q I rs q
 .exact h' B s C H xs us Q I rs q
theorem T9:cN X (.type "list") (λxs H Q=>∃p G,xs=[.ref p]/\(bL X.K H p G\/bU X.K H p G)/\∀l,H l=ae->Q (.ref l) (aL H l (.lst G))):=by
 intro B s C H xs us Q I r h;let⟨p,G,rfl,Z,q⟩:=h;let⟨u,rfl,d⟩:=vals1 r;cases d;have fin:∀(its:↑Ae),aZ G its->↥G<=Ax->∀(h':Ds) (T:Nat),(∀b P,s.heap.get? b=aa P->h'.get? b=aa P)->
   h'.get? ⇑s=aa {cls:=.type "list",dict:=ae,data:=.seq its.toArray T,slots:=#[]}->EP X B C Q (.ref ⇑s) {s with heap:=h'}:=λits U hz h' T kp e=>
  ⟨.ref ⇑s,_,I.laid (t':=s.toks) kp (Ai _) (show bZ X.prog X.w _ h' _ (.lst G) from⟨hz,its,T,U,e⟩),rfl,q _ (I.hok.fresh (Ai _))⟩
 rcases Z with Z|Z
 .let⟨its,U,pl,hz⟩:=I.list Z;have Y:=↥U;let⟨o,S,hc,n,hd⟩:=pl.isList;exact call_list_seq p (.inl rfl) S hc hd (λh' T kp e=>fin its U hz h' T kp e) (by simp only[Bh]<;>lia)
 .let⟨its,U,pl,hz⟩:=I.tuple Z;have Y:=↥U;let⟨o,S,hc,n,hd⟩:=pl;exact call_list_seq p (.inr rfl) S hc hd (λh' T kp e=>fin its U hz h' T kp e) (by simp only[Bh]<;>lia)
theorem UA:cN X (.type "tuple") (λxs H Q=>∃p G,xs=[.ref p]/\((bL X.K H p G/\∀l,H l=ae->Q (.ref l) (aL H l (.tup G)))\/(bU X.K H p G/\Q (.ref p) H))):=by
 intro B s C H xs us Q I r h;let⟨p,G,rfl,h⟩:=h;let⟨u,rfl,d⟩:=vals1 r;cases d;rcases h with⟨Z,q⟩|⟨Z,q⟩
 .let⟨its,U,pl,hz⟩:=I.list Z;have Y:=↥U;refine call_tuple_list pl.isList (λh' kp=>?_) (by simp only[Bh]<;>lia);have M:Inv X B C H {s with heap:=h'}:=I.kept (t':=s.toks) kp;have i:Inv X B C (aL H h'.objs.size (.tup G)) {s with heap:=h'.push {cls:=.type "tuple",data:=.seq its.toArray}}:=
   M.laid (t':=s.toks) (λb o e=>Ah _ e) (Ai _) (show bZ X.prog X.w _ _ _ (.tup G) from⟨hz,its,U,Ud _ _⟩)
  exact⟨.ref h'.objs.size,_,i,rfl,q _ (M.hok.fresh (Ai _))⟩
 .let⟨its,U,pl,hz⟩:=I.tuple Z;exact call_tuple_same pl ⟨.ref p,H,I,rfl,q⟩
def tP(K:Ac)(T:String)(x:V)(H:Hp):Prop:=match x with
 | .str _=>T = "str"
 | .int _=>T = "int"
 | .ref p=>(T = "list"/\∃xs,bL K H p xs)\/(T = "tuple"/\∃o,K.lookup p=aa o/\o.cls=.type "tuple"/\o.dict=ae)\/
   (T = "dict"/\((∃kvs,Rd H p (.dK kvs))\/∃kvs,Rd H p (.dT kvs)))\/(T = "set"/\∃S n,H p=aa (.set S n))
 | _=>False
theorem DL(I:Inv X B C H s)(r:RelV x v)(ty:tP X.K T x H):
  s.TypeIs v T/\∀a,v=.ref a->∃ob,s.heap.get? a=aa ob/\ob.dict=ae:=by
 cases x with
 | str z=>
  let⟨t,rfl⟩:=r;cases (show T = "str" from ty);exact⟨Uo s z t,λ_ e=>nomatch e⟩
 | int i=>
  let⟨t,rfl⟩:=r;cases (show T = "int" from ty);exact⟨Uq s i t,λ_ e=>nomatch e⟩
 | ref p=>
  cases r;rcases ty with⟨rfl,xs,Z⟩|⟨rfl,o,hk,hc,hd⟩|⟨rfl,hk⟩|⟨rfl,S,n,hk⟩
  .let⟨its,_,pl,_⟩:=I.list Z;refine⟨pl.isList.typeIs,λa e=>?_⟩;cases e;let⟨o,n,e,c,hd,_⟩:=pl;exact⟨o,e,hd⟩
  .refine⟨⟨o,I.kIn p o hk,hc⟩,λa e=>?_⟩;cases e;exact⟨o,I.kIn _ o hk,hd⟩
  .have z:∃o,s.heap.get? p=aa o/\o.ExactDict:=by
    rcases hk with⟨kvs,hk⟩|⟨kvs,hk⟩
    .let⟨_,_,_,_,o,_,_,e,ex,_⟩:=hk.ok I.hok;exact⟨o,e,ex⟩
    .let⟨_,_,_,_,o,_,_,e,ex,_⟩:=hk.ok I.hok;exact⟨o,e,ex⟩
   let⟨o,e,ex⟩:=z;refine⟨⟨o,e,ex.1⟩,λa A=>?_⟩;cases A;exact⟨o,e,ex.2.1⟩
  .let⟨o,_,_,_,e,ex,_⟩:=I.hok p _ hk;refine⟨⟨o,e,ex.1⟩,λa A=>?_⟩;cases A;exact⟨o,e,ex.2.1⟩
 | _=>exact Bq ty
def UB(K:Ac)(T:String)(r:V->↑V->Hp->VK->Prop)(to:TE):TE:=λC H Q=>to C H λx z=>tP K T x z/\r x [] z Q
def UC(K:Ac)(T:String)(r:V->↑V->Hp->VK->Prop)(to:TE)(t:TA):TE:=λC H Q=>to C H λx z=>tP K T x z/\t C z λxs E=>r x xs E Q
variable {o e:Cg}{es:↑Cg}{to:TE}{t:TA}{name:Ay}{apos cpos:Hu}{T id:String}{r:V->↑V->Hp->VK->Prop}
theorem DM(G:Ou T)(slot:Slot T name id)(q:Tq (.builtin id)=pure (.type "method_descriptor"))(P:fJ X id r)(S:PE X o to)(W:Gu o name X.env (Eu o X.env)=Eu o X.env:=by rfl)(y:(apos.endLine==cpos.line)=ab:=by rfl):PE X (.Call (.Attribute o name apos) [] [] cpos) (UB X.K T r to):=by
 intro B s C H Q I h;refine wpAny_Call_method0_late W y (thn (S B s C H _ I h) λv g Z=>?_);let⟨x,z,M,N,ty,d⟩:=Z;let⟨O,L⟩:=DL M N ty;exact⟨T,id,G,slot,q,O,L,Km rfl (PySem.evalArgs_none (P B g C z x [] v [] Q M N .nil d))⟩
theorem UD(G:Ou T)(slot:Slot T name id)(q:Tq (.builtin id)=pure (.type "method_descriptor"))(P:fJ X id r)(S:PE X o to)(m:PA X (e::es) t)(W:Gu o name X.env (Eu o X.env)=Eu o X.env:=by rfl)(u:((Mg cpos (Cp (e::es) X.env)).all (λx=>!x.1)&&(Oe cpos (La [] X.env)).all (λx=>x.1.isSome)
  &&decide (↥(e::es)+↥([]:↑Px)+(if ([]:↑Px).isEmpty then 0 else 1)<30))=ab:=by rfl)(y:(apos.endLine==cpos.line)=ab:=by rfl)(F:Se X e es:=by rfl)(c:Sb X cpos es:=by rfl):
  PE X (.Call (.Attribute o name apos) (e::es) [] cpos) (UC X.K T r to t):=by
 intro B s C H Q I h;refine wpAny_Call_method_late W u y rfl (thn (S B s C H _ I h) λv g Z=>?_);let⟨x,z,M,N,ty,d⟩:=Z;let⟨O,L⟩:=DL M N ty;refine⟨T,id,G,slot,q,O,L,?_⟩;have D:=m cpos B g C z _ M d;rw[F]at D⊢;refine Km (by show(ac||(Mg cpos (Cp es X.env)).any (·.1))=ac;rw[c]<;>rfl) (Calls.evalArgs_plain ?_);exact thn D λus l U=>by let⟨vs,E,i,Y,p⟩:=U;exact P B l C E x vs v us Q i N Y p
end
def tQ(X:Cx)(id:String)(r:V->↑V->Hp->VK->Prop):Prop:=
 ∀(af:Pn) (s:Aj) (Z:St) (H:Hp) (x:V) (xs:↑V) (v:Ae) (us:↑Ae) (Q:VK),Inv X af Z H s->RelV x v->aZ xs us->r x xs H Q->
  X.a (call (.builtin id) (v::us)) (EP X af Z Q) X.xe s
theorem aZ.one:∀{x:V} {us:↑Ae},aZ [x] us->∃u,us=[u]/\RelV x u:=by
 intro x us h;cases h with
 | cons r t=>cases t;exact⟨_,rfl,r⟩
theorem aZ.zero:∀{us:↑Ae},aZ [] us->us=[]
 | _,.nil=>rfl
theorem aZ.dropLast(h:aZ xs us):aZ xs.dropLast us.dropLast:=by
 induction h with
 | nil=>exact .nil
 | cons r t E=>
  cases t with
  | nil=>exact .nil
  | cons q t'=>exact .cons r E
theorem aZ.rep(h:aZ xs us):∀k:Nat,aZ (Bz k xs).flatten (Bz k us).flatten
 | 0=>.nil
 | k+1=>by
  rw[Ez,Ez,Gn,Gn];exact aZ.append h (aZ.rep h k)
theorem UE{q:Type}(l:↑q):l.eraseIdx (↥l-1)=l.dropLast:=by
 induction l with
 | nil=>rfl
 | cons a r E=>
  cases r with
  | nil=>rfl
  | cons b r=>
   have e:↥(a::b::r)-1=(↥(b::r)-1)+1:=by
    have O:↥(a::b::r)=↥r+2:=rfl;have L:↥(b::r)=↥r+1:=rfl;lia
   rw[e,List.eraseIdx_cons_succ,E]
   all_goals rfl
theorem foldl_rep(its:↑Ae):∀(k:Nat) (acc:↑Ae),
  To (λx1 x2=>x1++x2) acc.toArray (Bz k its.toArray)=(acc++(Bz k its).flatten).toArray
 | 0,acc=>by simp
 | k+1,acc=>by
  have e:acc.toArray++its.toArray=(acc++its).toArray:=by simp
  have A:(acc++its)++(Bz k its).flatten=acc++(Bz (k+1) its).flatten:=by
   rw[Ez,Gn,Dc]
  rw[<-A,<-foldl_rep its k (acc++its),<-e,Ez,Fz]
section
variable {X:Cx}{af:Pn}{Z:St}{H:Hp}{s:Aj}{l b:An}{xs ys zs:↑V}
theorem Inv.lset{its its':↑Ae}{n:Nat}{f:Array Ae->Array Ae}{t':Nat}(I:Inv X af Z H s)(g:H l=aa (.lst xs))(e:s.heap.get? l=aa (lO its.toArray n))(hf:f its.toArray=its'.toArray)(c:aZ ys its')(hz:↥ys<=Ax):
  Inv X af Z (aL H l (.lst ys)) {s with heap:=s.heap.update l (Po f),toks:=t'}:=by
 have q:=PySem.IsL.update e f;rw[hf]at q;refine I.write (x:=l) (e:=l) (by rw[g];exact trivial) (.inl rfl) (λd u G U=>(Kv s.heap (Po f) (Bx G)).trans U) ⟨_,q⟩ ?_;exact⟨hz,its',_,c,q⟩
theorem Inv.lnew{t':Nat}(I:Inv X af Z H s)(c:aZ ys its)(hz:↥ys<=Ax):
  Inv X af Z (aL H ⇑s (.lst ys)) {s with heap:=s.heap.push (lO its.toArray),toks:=t'}:=
 I.laid (λ_ _ q=>Ah _ q) (Ai _) ⟨hz,its,0,c,Bb _ rfl⟩
theorem Inv.fresh(I:Inv X af Z H s):H ⇑s=ae:=I.hok.fresh (Ai _)
theorem Inv.lstM(I:Inv X af Z H s)(g:H l=aa (.lst xs)):↥xs<=Ax/\∃(its:↑Ae) (n:Nat),aZ xs its/\↥xs=↥its/\s.heap.get? l=aa (lO its.toArray n):=by
 let⟨z,its,n,r,e⟩:=I.hok l _ g;exact⟨z,its,n,r,↥r,e⟩
theorem UG{n:Nat}(h:n<=Ax):Lr n=ac:=by
 unfold Lr;exact Vj (by lia)
end
section
variable {X:Cx}
def rAppend:V->↑V->Hp->VK->Prop:=λx vs H Q=>∃l xs y,x=.ref l/\vs=[y]/\H l=aa (.lst xs)/\↥xs<Ax/\Q .non (aL H l (.lst (xs++[y])))
theorem DN:tQ X "list.append" rAppend:=by
 intro af s Z H x vs v us Q I d R h;let⟨l,xs,y,rfl,rfl,g,hz,q⟩:=h;cases d;let⟨u,rfl,ru⟩:=R.one;let⟨z,its,n,r,hl,e⟩:=I.lstM g;refine Kx F.slot_list_append ⟨_,e,rfl⟩ F.entry_list_append (F.args_list_append_2 _ _) (PySem.list_append l its.toArray n u (by rw[Bh];lia)) ⟨e,?_⟩;refine⟨.non,_,I.lset (its':=its++[u]) g e (by simp) (r.append (.cons ru .nil)) ?_,rfl,q⟩;rw[Ak,Dl];lia
def rPopQ:V->↑V->Hp->VK->Prop:=λx vs H Q=>∃l xs y,x=.ref l/\vs=[]/\H l=aa (.lst xs)/\xs[↥xs-1]? = aa y/\Q y (aL H l (.lst xs.dropLast))
theorem UH:tQ X "list.pop" rPopQ:=by
 intro af s Z H x vs v us Q I d R h;let⟨l,xs,y,rfl,rfl,g,f,q⟩:=h;cases d;have b:=R.zero;subst b;let⟨z,its,n,r,hl,e⟩:=I.lstM g;let⟨u,U,ru⟩:=r.get f;have a:its.toArray[its.toArray.size-1]? = aa u:=by
  show its.toArray[↥its-1]? = aa u;rw[<-Ft,<-hl];exact U
 refine Kx F.slot_list_pop ⟨_,e,rfl⟩ F.entry_list_pop (F.args_list_pop_1 _) (MeetsSeq.list_pop_last l its.toArray n u a (by rw[Bh];lia)) ⟨e,?_⟩;refine⟨y,_,I.lset (its':=its.dropLast) g e ?_ r.dropLast ?_,ru,q⟩
 .show its.toArray.eraseIdxIfInBounds (its.toArray.size-1)=its.dropLast.toArray;rw[Bh,List.eraseIdxIfInBounds_toArray,UE]
 .rw[List.length_dropLast];lia
def UI:R2:=λx y H Q=>∃l b xs zs,x=.ref l/\y=.ref b/\H l=aa (.lst xs)/\H b=aa (.lst zs)/\↥xs+↥zs<=Ax/\∀p,H p=ae->Q (.ref p) (aL H p (.lst (xs++zs)))
theorem UJ:bF X (Eh .Add) UI:=by
 intro af s Z H x y v u Q I d T h;let⟨l,b,xs,zs,rfl,rfl,g,a,hz,q⟩:=h;cases d;cases T;let⟨z,its,n,r,hl,e⟩:=I.lstM g;let⟨R,c,j,Y,k,A⟩:=I.lstM a;refine PySem.P.add_list e A ?_ (by rw[Bh,Bh];lia);have S:its.toArray++c.toArray=(its++c).toArray:=by simp
 rw[S];exact⟨.ref _,_,I.lnew (t':=s.toks) (r.append Y) (by rw[Ak];lia),rfl,q _ I.fresh⟩
def UK:R2:=λx y H Q=>∃l k xs,x=.ref l/\y=.int k/\H l=aa (.lst xs)/\-(2 ^ 63)<=k/\k<2 ^ 63/\↥xs*k.toNat<=Ax/\
 ∀p,H p=ae->Q (.ref p) (aL H p (.lst (Bz k.toNat xs).flatten))
theorem UL{q:Type}(xs:↑q)(k:Nat):(Bz k xs).flatten.length=k*↥xs:=by
 induction k with
 | zero=>simp
 | succ k E=>rw[Ez,Gn,Ak,E,Qc,Nat.add_comm]
theorem UM:bF X (Eh .Mult) UK:=by
 intro af s Z H x y v u Q I rx ry h;let⟨l,k,xs,rfl,rfl,hH,h1,h2,hz,q⟩:=h;cases rx;let⟨t,rfl⟩:=ry;let⟨z,its,n,r,hl,e⟩:=I.lstM hH;have hlen:its.toArray.size*k.toNat<=Ax:=by rw[Bh,<-hl];exact hz
 have hcap:¬its.toArray.size*k.toNat > (2 ^ 63-1)/8:=by
  have:(Ax:Nat)<=(2 ^ 63-1)/8:=by decide
  lia
 have hfit:¬(!Builtin.List.listFitsIndex k)=ab:=by
  rw[fitsIndex_both h1 h2];exact Bf
 have hlong:¬Lr (its.toArray.size*k.toNat)=ab:=by
  rw[UG hlen];exact Bf
 have hnew:To (λx1 x2=>x1++x2) #[] (Bz (if its.toArray.isEmpty=ab then 0 else k.toNat) its.toArray)=(Bz k.toNat its).flatten.toArray:=by
  have f0:∀m:Nat,To (λx1 x2=>x1++x2) #[] (Bz m its.toArray)=(Bz m its).flatten.toArray:=λm=>by
   have:=foldl_rep its m [];rw[Jx]at this;exact this
  rw[f0];cases its with
  | nil=>simp
  | cons a r'=>rw[Vf (by simp)]
 refine wpAny_binaryOp_repeat_ref (T:="list") (U:="int") ∅ ⟨_,e,rfl⟩ (λs'=>Uq s' k t) noFill_list_mul F.fills_int_mul F.slot_int_rmul repeat_list F.slot_int_index.lookup
  (Kx F.slot_int_rmul (Uq s k t) F.entry_int_rmul (F.args_int_rmul_2 _ _) (int___rmul___int_list k t l its.toArray n)
   ⟨e,rfl,⟨_,e,rfl⟩,Kx F.slot_list_mul ⟨_,e,rfl⟩ F.entry_list_mul (F.args_list_mul_2 _ _) (AutoListH.list___mul___list_int_3 l its.toArray n k t hfit hcap hlong) ⟨e,?_⟩⟩)
 rw[hnew];exact⟨.ref _,_,I.lnew (t':=s.toks) (r.rep k.toNat) (by rw[UL,Nat.mul_comm];exact hz),rfl,q _ I.fresh⟩
end
section
variable {U:Type}[DecidableEq U]
def f9(kvs:↑(U×V))(k:U):Option V:=(kvs.find? λg=>decide (g.1=k)).map (·.2)
def dY(kvs:↑(U×V))(k:U)(v:V):↑(U×V):=
 if (kvs.any λg=>decide (g.1=k))=ab then kvs.map (λg=>if g.1=k then(g.1,v) else g) else kvs++[(k,v)]
def oA(kvs:↑(U×V))(k:U):↑(U×V):=kvs.filter λg=>decide (g.1≠k)
theorem tR{p:U×V}{r:↑(U×V)}{k:U}(e:p.1=k):f9 (p::r) k=aa p.2:=by simp[f9,Cq,e]
theorem tS{p:U×V}{r:↑(U×V)}{k:U}(e:¬p.1=k):f9 (p::r) k=f9 r k:=by simp[f9,Cq,e]
theorem DO(k:U):∀kvs:↑(U×V),(kvs.any λg=>decide (g.1=k))=(f9 kvs k).isSome
 | []=>rfl
 | p::r=>by
  rw[Fh]
  by_cases e:p.1=k
  .simp only[tR e,Vi e,Bool.true_or,Option.isSome_some]
  .rw[tS e,Vj e,Na];exact DO k r
theorem pJ(kvs:↑(U×V))(k:U)(v:V):↥(dY kvs k v)<=↥kvs+1:=by
 unfold dY;split
 .rw[Ab];lia
 .rw[Ak,Bw,Jy];lia
theorem fS.isSome_eq(r:fS o u):o.isSome=u.isSome:=by
 cases o with
 | none=>cases u with
  | none=>rfl
  | some _=>exact Bq r
 | some _=>cases u with
  | none=>exact Bq r
  | some _=>rfl
theorem fS.getD(r:fS o u)(c:RelV d d'):RelV (o.getD d) (u.getD d'):=by
 cases o with
 | none=>cases u with
  | none=>exact c
  | some _=>exact Bq r
 | some _=>cases u with
  | none=>exact Bq r
  | some _=>exact r
theorem KV.val{kvs:↑(U×V)}{vs:↑(U×Ae)}(r:KV kvs vs)(k:U):fS (f9 kvs k) (Rf vs k):=by
 unfold KV at r
 induction r with
 | nil=>exact True.intro
 | @cons p q ps qs h t E=>
  let⟨O,L⟩:=h
  by_cases e:p.1=k
  .have g:q.1=k:=O.symm.trans e;have b:Rf (q::qs) k=aa q.2:=by simp[Rf,Cq,g]
   rw[tR e,b];exact L
  .have g:¬q.1=k:=λz=>e (O.trans z);have b:Rf (q::qs) k=Rf qs k:=by simp[Rf,Cq,g]
   rw[tS e,b];exact E
theorem KV.any(r:KV kvs vs)(k:U):(kvs.any λg=>decide (g.1=k))=vs.any λg=>decide (g.1=k):=by
 unfold KV at r
 induction r with
 | nil=>rfl
 | cons h t E=>rw[Fh,Fh,E,h.1]
theorem KV.repl(r:KV kvs vs)(k:U)(P:RelV y u):
  KV (kvs.map λg=>if g.1=k then(g.1,y) else g) (vs.map λg=>if g.1=k then(g.1,u) else g):=by
 unfold KV at r⊢
 induction r with
 | nil=>exact .nil
 | @cons p q ps qs h t E=>
  rw[Bd,Bd];refine .cons ?_ E;let⟨O,L⟩:=h
  by_cases e:p.1=k
  .rw[Vg e,Vg (O.symm.trans e)];exact⟨O,P⟩
  .rw[Vf e,Vf (λz=>e (O.trans z))];exact⟨O,L⟩
theorem KV.put(r:KV kvs vs)(k:U)(P:RelV y u):KV (dY kvs k y) (Ts vs k u):=by
 unfold dY Ts;rw[r.any k]
 by_cases e:(vs.any λg=>decide (g.1=k))=ab
 .rw[Vg e,Vg e];exact r.repl k P
 .rw[Vf e,Vf e];exact So r ⟨rfl,P⟩
theorem KV.length(r:KV kvs vs):↥kvs=↥vs:=Cw r
theorem UN(kvs:↑(U×V))(k:U):↥(oA kvs k)<=↥kvs:=Fw _ _
end
theorem j8(r:RelV (kV k) u):(bR P w).is k u=ab:=by
 cases k with
 | inl i=>let⟨t,e⟩:=(show ∃t,u=Value.int i t from r);subst e;exact OI P w i t
 | inr x=>let⟨t,e⟩:=(show ∃t,u=Value.str x t from r);subst e;exact OJ P w x t
theorem DP:∀{ks:↑aC} {us:↑Ae},aZ (ks.map kV) us->ItemsAre (bR P w) ks us
 | [],_,r=>by rw[Nn]at r;cases r;exact .nil
 | k::ks,_,r=>by
  rw[Bd]at r;cases r with
  | cons h t=>exact .cons (j8 h) (DP t)
abbrev KT(H:Hp):↑(↑aC×V)->↑(↑aC×An×Ae)->Prop:=Ey λp q=>p.1=q.1/\H q.2.1=aa (.tup (p.1.map kV))/\RelV p.2 q.2.2
theorem KT.val{H:Hp}{kvs:↑(↑aC×V)}{xs:↑(↑aC×An×Ae)}(r:KT H kvs xs)(k:↑aC):fS (f9 kvs k) ((Lq xs k).map (·.2)):=by
 induction r with
 | nil=>exact True.intro
 | @cons p q ps qs h t E=>
  let⟨O,_,L⟩:=h
  by_cases e:p.1=k
  .have g:q.1=k:=O.symm.trans e;have b:Lq (q::qs) k=aa q.2:=by simp[Lq,Cq,g]
   rw[tR e,b];exact L
  .have g:¬q.1=k:=λz=>e (O.trans z);have b:Lq (q::qs) k=Lq qs k:=by simp[Lq,Cq,g]
   rw[tS e,b];exact E
theorem KT.repl(r:KT H kvs xs)(k:↑aC)(P:RelV y u):
  KT H (kvs.map λg=>if g.1=k then(g.1,y) else g) (xs.map (Ux k u)):=by
 induction r with
 | nil=>exact .nil
 | @cons p q ps qs h t E=>
  rw[Bd,Bd];refine .cons ?_ E;let⟨O,L,h3⟩:=h;unfold Ux
  by_cases e:p.1=k
  .rw[Vg e,Vg (O.symm.trans e)];exact⟨O,L,P⟩
  .rw[Vf e,Vf (λz=>e (O.trans z))];exact⟨O,L,h3⟩
theorem KT.put(r:KT H kvs xs)(k:↑aC)(G:H b=aa (.tup (k.map kV)))(P:RelV y u):
  KT H (dY kvs k y) (Mq xs k b u):=by
 have e:(kvs.any λg=>decide (g.1=k))=(Lq xs k).isSome:=by
  rw[DO,(r.val k).isSome_eq,Ki]
 unfold dY Mq;rw[e]
 by_cases q:(Lq xs k).isSome=ab
 .rw[Vg q,Vg q];exact r.repl k P
 .rw[Vf q,Vf q];exact So r ⟨rfl,G,P⟩
theorem KT.keeps(r:KT H kvs xs)(ht:∀b ys,H b=aa (.tup ys)->l b=aa (.tup ys)):KT l kvs xs:=
 Paired.mapP r λ_ _ z=>⟨z.1,ht _ _ z.2.1,z.2.2⟩
section
variable {P:Bc}{w:Bo}{H:Hp}{h:Ds}{a:An}
theorem DQ(ok:cU P w H h)(e:Rd H a u):bZ P w H h a u:=e.ok ok
theorem mW(ok:cU P w H h)(e:Rd H a (.dK kvs)):↥kvs<=Ax/\(a==Fn)=ac/\∃vs,KV kvs vs/\h.DictOf (bR P w) a vs:=
 show bZ P w H h a (.dK kvs) from DQ ok e
theorem DR(ok:cU P w H h)(e:H a=aa (.dK kvs)):↥kvs<=Ax/\(a==Fn)=ac/\∃vs,KV kvs vs/\h.DictOf (bR P w) a vs:=mW ok (.inl e)
theorem i7(ok:cU P w H h)(e:H a=aa (.tup (ks.map kV))):(Hc (bR P w)).is h ks a:=by
 let⟨_,its,r,o,O,L,n,h3⟩:=(show bZ P w H h a (.tup (ks.map kV)) from ok a _ e);exact⟨o,its.toArray,n,O,L,h3,by simpa using DP r⟩
theorem oB(ok:cU P w H h)(e:Rd H a (.dT kvs)):↥kvs<=Ax/\(a==Fn)=ac/\
  ∃xs,KT H kvs xs/\h.DictOfH (Hc (bR P w)) a xs:=by
 let⟨z,y,xs,r,o,es,ep,O,L,h3,D,f⟩:=(show bZ P w H h a (.dT kvs) from DQ ok e);refine⟨z,y,xs,r,o,es,ep,O,L,h3,D,λx J=>?_,f⟩;have all:∀{l:↑(↑aC×V)} {m:↑(↑aC×An×Ae)},KT H l m->∀x∈m,(Hc (bR P w)).is h x.1 x.2.1:=by
  intro l m q
  induction q with
  | nil=>intro x J;exact nomatch J
  | @cons p q ps qs Z t E=>
   intro x J;rcases Au.mp J with e|J
   .subst e;exact i7 ok (by rw[<-Z.1];exact Z.2.1)
   .exact E x J
 exact all r x J
theorem qR(ok:cU P w H h)(e:H a=aa (.dT kvs)):↥kvs<=Ax/\(a==Fn)=ac/\
  ∃xs,KT H kvs xs/\h.DictOfH (Hc (bR P w)) a xs:=oB ok (.inl e)
end
def h9(H:Hp)(a:An)(y:V)(r:Option V):Prop:=
 (∃kvs k,Rd H a (.dK kvs)/\y=kV k/\r=f9 kvs k)\/∃kvs k b,Rd H a (.dT kvs)/\y=.ref b/\H b=aa (.tup (k.map kV))/\r=f9 kvs k
def mX(H:Hp)(a:An)(y v:V)(l:Hp):Prop:=
 (∃kvs k,H a=aa (.dK kvs)/\y=kV k/\↥kvs<Ax/\l=aL H a (.dK (dY kvs k v)))\/
 ∃kvs k b,H a=aa (.dT kvs)/\y=.ref b/\H b=aa (.tup (k.map kV))/\↥kvs<Ax/\l=aL H a (.dT (dY kvs k v))
theorem mX.k{H:Hp}{a:An}{kvs:↑(aC×V)}{k:aC}{v:V}(e:H a=aa (.dK kvs))(hl:↥kvs<Ax):mX H a (kV k) v (aL H a (.dK (dY kvs k v))):=.inl ⟨kvs,k,e,rfl,hl,rfl⟩
theorem mX.t{H:Hp}{a b:An}{kvs:↑(↑aC×V)}{k:↑aC}{v:V}(e:H a=aa (.dT kvs))(T:H b=aa (.tup (k.map kV)))(hl:↥kvs<Ax):
  mX H a (.ref b) v (aL H a (.dT (dY kvs k v))):=.inr ⟨kvs,k,b,e,rfl,T,hl,rfl⟩
section
variable {X:Cx}{af:Pn}{Z:St}{H:Hp}{s:Aj}{a:An}{y v:V}{u r:Ae}{o:Option V}{A:Cs}{E:Ae->Aj->Prop}
theorem Inv.big(I:Inv X af Z H s):Fn<⇑s:=by
 have h:Ec<⇑s:=(I.mod.glob.keeps I.bk).lt;exact Fp ∅ h
theorem UO{Q:Ae->Aj->Prop}(U:A.units+1<Fd)(I:Inv X af Z H s)(g:h9 H a y (aa v))(P:RelV y u)(h:∀D W,Inv X af Z H W->RelV v D->Q D W):
  Bk X.m A (Sn (.ref a) u) Q E s:=by
 rcases g with⟨kvs,k,e,n,l⟩|⟨kvs,k,b,e,n,T,l⟩
 .subst n;let⟨z,hd,vs,J,i⟩:=mW I.hok e;let⟨D,hw,V⟩:=fS.some_of (v:=v) (o:=Rf vs k) (by rw[l];exact J.val k);exact wpAny_getItem_of (j8 P) i.mapOf hw (h D _ (I.tok _) V)
 .subst n;cases (show u=Value.ref b from P);let⟨z,hd,xs,J,i⟩:=oB I.hok e;let⟨D,hw,V⟩:=fS.some_of (v:=v) (o:=(Lq xs k).map (·.2)) (by rw[l];exact J.val k);let⟨p,N,G⟩:=Az.mp hw;refine wpAny_getItem_heap (Fm U) (i7 I.hok T) i N ?_;rw[G];exact h D _ (I.tok _) V
theorem UP{Q:Ae->Aj->Prop}(U:A.units+1<Fd)(I:Inv X af Z H s)(g:h9 H a y o)(P:RelV y u)(h:∀W,Inv X af Z H W->Q (.bool o.isSome) W):
  Bk X.m A (Du .In u (.ref a)) Q E s:=by
 rcases g with⟨kvs,k,e,n,l⟩|⟨kvs,k,b,e,n,T,l⟩
 .subst n;let⟨z,hd,vs,J,i⟩:=mW I.hok e;refine wpAny_in_of (j8 P) hd i.mapOf ?_;rw[<-(J.val k).isSome_eq,<-l];exact h _ (I.tok _)
 .subst n;cases (show u=Value.ref b from P);let⟨z,hd,xs,J,i⟩:=oB I.hok e;refine wpAny_in_heap (Fm U) (i7 I.hok T) hd i ?_;have q:=(J.val k).isSome_eq;rw[Ki]at q;rw[<-q,<-l];exact h _ (I.tok _)
theorem UQ{Q:Ae->Aj->Prop}(U:A.units+1<Fd)(I:Inv X af Z H s)(g:h9 H a y o)(P:RelV y u)(h:∀W,Inv X af Z H W->Q (.bool (!o.isSome)) W):
  Bk X.m A (Du .NotIn u (.ref a)) Q E s:=by
 rcases g with⟨kvs,k,e,n,l⟩|⟨kvs,k,b,e,n,T,l⟩
 .subst n;let⟨z,hd,vs,J,i⟩:=mW I.hok e;refine wpAny_notIn_of (j8 P) hd i.mapOf ?_;rw[<-(J.val k).isSome_eq,<-l];exact h _ (I.tok _)
 .subst n;cases (show u=Value.ref b from P);let⟨z,hd,xs,J,i⟩:=oB I.hok e;refine wpAny_notIn_heap (Fm U) (i7 I.hok T) hd i ?_;have q:=(J.val k).isSome_eq;rw[Ki]at q;rw[<-q,<-l];exact h _ (I.tok _)
theorem oC{t':Nat}(I:Inv X af Z H s)(d:qL (H a))(F:Ek a s.heap h')(Y:∃q,h'.get? a=aa q)(new:bZ X.prog X.w (aL H a ob) h' a ob):
  Inv X af Z (aL H a ob) {s with heap:=h',toks:=t'}:=
 I.write (x:=a) (e:=a) d (.inl rfl) (λb q G z=>(F.2 b G).trans z) Y new
theorem DS(z:↥kvs<=Ax)(hd:(a==Fn)=ac)(J:KV kvs vs)(i:h'.DictOf (bR P w) a vs):
  bZ P w l h' a (.dK kvs):=⟨z,hd,vs,J,i⟩
theorem UR{Q:Unit->Aj->Prop}(U:A.units+1<Fd)(I:Inv X af Z H s)(g:mX H a y v O)(P:RelV y u)(R:RelV v r)(h:∀W,Inv X af Z O W->Q () W):
  Bk X.m A (Uw (.ref a) u r) Q E s:=by
 rcases g with⟨kvs,k,e,n,l,d⟩|⟨kvs,k,b,e,n,T,l,d⟩
 .subst n d;let⟨z,hd,vs,J,i⟩:=DR I.hok e;have hz:↥vs<=Ax:=by rw[<-J.length];exact z
  have hl:↥(dY kvs k v)<=Ax:=by have:=pJ kvs k v;lia
  refine wpAny_setItem_pairs (hsz:=hz) (j8 P) i λh' j F=>h _ ?_;have Y:∃q,h'.get? a=aa q:=let ⟨q,_,_,V,_⟩:=j;⟨q,V⟩;exact oC I (by rw[e];exact True.intro) F Y (DS hl hd (J.put k R) j)
 .subst n d;cases (show u=Value.ref b from P);let⟨z,hd,xs,J,i⟩:=qR I.hok e;have hz:↥xs<=Ax:=by rw[<-Cw J];exact z
  have hl:↥(dY kvs k v)<=Ax:=by have:=pJ kvs k v;lia
  refine wpAny_setItem_heap (hsz:=hz) (Fm U) (i7 I.hok T) i λh' j F=>h _ ?_;let⟨q,es,ep,V,L,h3,D,_,f⟩:=j;refine oC I (by rw[e];exact True.intro) F ⟨q,V⟩ ⟨hl,hd,_,(J.put k T R).keeps λc ys t=>?_,q,es,ep,V,L,h3,D,f⟩;rw[a9 (sY t e (λz=>nomatch z))];exact t
end
section
variable {X:Cx}{af:Pn}{Z:St}{H:Hp}{s:Aj}{a:An}{kvs:↑(aC×V)}{k:aC}{u:Ae}{A:Cs}{E:Ae->Aj->Prop}
theorem US{Q:Ae->Aj->Prop}(I:Inv X af Z H s)(e:Rd H a (.dK kvs))(h:∀t W,Inv X af Z H W->Q (.int ↥kvs t) W):Bk X.m A (call (.builtin "len") [.ref a]) Q E s:=by
 let⟨z,hd,vs,J,i⟩:=mW I.hok e;refine call_len_dict hd i (by rw[<-J.length];rw[Jq]at z;lia) ?_;rw[<-J.length];exact h _ _ (I.tok _)
end
theorem UT(I:Inv X af Z H s)(g:h9 H a y o):s.TypeIs (.ref a) "dict":=by
 rcases g with⟨kvs,k,e,_,_⟩|⟨kvs,k,b,e,_,_,_⟩
 .let⟨_,_,vs,_,i⟩:=mW I.hok e;exact i.typeIs
 .let⟨_,_,xs,_,i⟩:=oB I.hok e;exact i.typeIs
theorem DT(h:Ds)(G:Fn<h.objs.size):bZ P w H (h.push {cls:=.type "dict",data:=.dict #[]}) h.objs.size (.dK []):=
 ⟨Cn _,beq_eq_false_iff_ne.mpr (Bx (Br G)),[],.nil,Heap.DictOf.new h⟩
theorem DU(h:Ds)(G:Fn<h.objs.size):bZ P w H (h.push {cls:=.type "dict",data:=.dict #[]}) h.objs.size (.dT []):=
 ⟨Cn _,beq_eq_false_iff_ne.mpr (Bx (Br G)),[],.nil,_,#[],0,Bb _ rfl,⟨rfl,rfl,rfl⟩,rfl,rfl,Dx⟩
def UU:TE:=λ_ H Q=>∀p,H p=ae->Q (.ref p) (aL H p (.dK []))
def UW:TE:=λ_ H Q=>∀p,H p=ae->Q (.ref p) (aL H p (.dT []))
section
variable {X:Cx}{pos:Hu}
theorem UX:PE X (.Dict [] [] pos) UU:=λaf s Z H Q I h=>
 Rn ⟨.ref ⇑s,_,I.laid (a:=⇑s) (o:=.dK []) (t':=s.toks) (λ_ _ q=>Ah _ q) (Ai _) (DT s.heap I.big),rfl,h _ (I.hok.fresh (Ai _))⟩
theorem UY:PE X (.Dict [] [] pos) UW:=λaf s Z H Q I h=>
 Rn ⟨.ref ⇑s,_,I.laid (a:=⇑s) (o:=.dT []) (t':=s.toks) (λ_ _ q=>Ah _ q) (Ai _) (DU s.heap I.big),rfl,h _ (I.hok.fresh (Ai _))⟩
end
def tT:↑(TE×TE)->St->Hp->(↑(V×V)->Hp->Prop)->Prop
 | [],_,H,Q=>Q [] H
 | (tk,O)::r,Z,H,Q=>tk Z H λx z=>O Z z λy E=>tT r Z E λps w=>Q ((x,y)::ps) w
abbrev VV:↑(V×V)->↑(Ae×Ae)->Prop:=Ey λp q=>RelV p.1 q.1/\RelV p.2 q.2
def tU(X:Cx)(pos:Hu)(keys:↑(Option Cg))(b:↑Cg)(f:↑(TE×TE)):Prop:=
 ∀(af:Pn) (s:Aj) (Z:St) (H:Hp) (Q:↑(V×V)->Hp->Prop),Inv X af Z H s->tT f Z H Q->
  X.a (evalPairs (pairTrees keys b X.env pos)) (λvs W=>∃ps l,Inv X af Z l W/\VV ps vs/\Q ps l) X.xe s
theorem DV:tU X pos [] [] []:=λaf s Z H Q I h=>pairTrees_nil_walk ⟨[],H,I,.nil,h⟩
theorem DW(hk:PE X k tk)(c:PE X v O)(T:tU X pos ks vs f):
  tU X pos (aa k::ks) (v::vs) ((tk,O)::f):=λaf s Z H Q I h=>
 pairTrees_cons_walk (thn (hk af s Z H _ I h) λu g ⟨x,z,M,d,J⟩=>thn (c af g Z z _ M J) λt C ⟨y,E,i,P,p⟩=>
  thn (T af C Z E _ i p) λws j U=>by let⟨ps,w,K,n,o⟩:=U;exact⟨(x,y)::ps,w,K,.cons ⟨d,P⟩ n,o⟩)
def qS(kvs more:↑(aC×V)):↑(aC×V):=more.foldl (λacc g=>dY acc g.1 g.2) kvs
theorem KV.merge:∀{more:↑(aC×V)} {rs:↑(aC×Ae)} {kvs:↑(aC×V)} {vs:↑(aC×Ae)},KV more rs->KV kvs vs->KV (qS kvs more) (merged vs rs):=by
 intro more rs kvs vs r;unfold KV at r
 induction r generalizing kvs vs with
 | nil=>intro q;exact q
 | @cons p q ps qs h t E=>
  intro S;have e:KV (dY kvs p.1 p.2) (Ts vs q.1 q.2):=by
   have:=S.put p.1 h.2;rw[<-h.1];exact this
  exact E e
theorem DX:∀(more kvs:↑(aC×V)),↥(qS kvs more)<=↥kvs+↥more
 | [],kvs=>by show ↥kvs<=↥kvs+0;lia
 | p::r,kvs=>by
  have O:=DX r (dY kvs p.1 p.2);have L:=pJ kvs p.1 p.2;show(qS (dY kvs p.1 p.2) r).length<=_;rw[Bw];lia
theorem DY:∀{kvs:↑(aC×V)} {ws:↑(Ae×Ae)},VV (kvs.map λg=>(kV g.1,g.2)) ws->∃rs,Carries (bR P w) ws rs/\KV kvs rs
 | [],_,r=>by rw[Nn]at r;cases r;exact⟨[],True.intro,.nil⟩
 | p::kvs,_,r=>by
  rw[Bd]at r;cases r with
  | @cons a b J bs h t=>
   let⟨rs,c,q⟩:=DY (P:=P) (w:=w) t;let⟨H,W⟩:=b;exact⟨(p.1,W)::rs,⟨j8 h.1,rfl,c⟩,.cons ⟨rfl,h.2⟩ q⟩
def UZ(f:↑(TE×TE)):TE:=λZ H Q=>∀p,H p=ae->tT f Z (aL H p (.dK [])) λps E=>E p=aa (.dK [])/\∃kvs:↑(aC×V),ps=kvs.map (λg=>(kV g.1,g.2))/\↥kvs<=15/\Q (.ref p) (aL E p (.dK (qS [] kvs)))
theorem U0(h:tU X pos keys b f)(g:keys.all (·.isSome)=ab)(hl:↥keys=↥b)(G:keys≠[])(d:↥keys<=15):PE X (.Dict keys b pos) (UZ f):=by
 intro af s Z H Q I q;have hn:=I.hok.fresh (Ai ⇑s);have M:=I.laid (a:=⇑s) (o:=.dK []) (h':=s.heap.push {cls:=.type "dict",data:=.dict #[]}) (t':=s.toks) (λ_ _ q=>Ah _ q) (Ai _) (DT s.heap I.big);refine wpAny_Dict_walk (knd:=bR X.prog X.w) g hl G d (thn (h af _ Z _ _ M (q _ hn)) λws C W=>?_);let⟨ps,E,i,J,e,kvs,ep,y,p⟩:=W;subst ep;let⟨rs,c,rk⟩:=DY (P:=X.prog) (w:=X.w) J;let⟨z,hd,k,S,x⟩:=DR i.hok e;cases S;refine⟨rs,c,x,λh' j F=>⟨.ref ⇑s,_,?_,rfl,p⟩⟩;have hz:↥(qS [] kvs)<=Ax:=by
  have O:=DX kvs [];rw[Jy]at O;rw[Jq];lia
 have Y:∃q,h'.get? ⇑s=aa q:=let ⟨q,_,_,hq,_⟩:=j;⟨q,hq⟩;exact oC i (by rw[e];exact True.intro) F Y (DS hz hd (rk.merge .nil) j)
section
variable {X:Cx}{af:Pn}{Z:St}{H:Hp}{s:Aj}{a:An}{y d:V}{u r:Ae}{o:Option V}{A:Cs}{E:Ae->Aj->Prop}
theorem DZ{Q:Ae->Aj->Prop}(U:A.units+1<Fd)(I:Inv X af Z H s)(g:h9 H a y o)(P:RelV y u)(h:∀D W,Inv X af Z H W->RelV (o.getD .non) D->Q D W):
  Bk X.m A (call (.builtin "dict.get") [.ref a,u]) Q E s:=by
 rcases g with⟨kvs,k,e,n,l⟩|⟨kvs,k,b,e,n,T,l⟩
 .subst n;let⟨z,hd,vs,J,i⟩:=mW I.hok e;refine Iw Kr i.typeIs Kh (PySem.F.args_dict_get_2 _ _) (meets_dict_get (bR X.prog X.w) a (j8 P) hd) ⟨_,i.mapOf,h _ _ (I.tok _) ?_⟩;rw[l];exact(J.val k).getD rfl
 .subst n;cases (show u=Value.ref b from P);let⟨z,hd,xs,J,i⟩:=oB I.hok e;refine Iw Kr i.typeIs Kh (PySem.F.args_dict_get_2 _ _) (meetsH_dict_get (Hc (bR X.prog X.w)) a b hd) ⟨Fm U,k,xs,i7 I.hok T,i,h _ _ (I.tok _) ?_⟩;rw[l];exact(J.val k).getD rfl
theorem D0{Q:Ae->Aj->Prop}(U:A.units+1<Fd)(I:Inv X af Z H s)(g:h9 H a y o)(P:RelV y u)(c:RelV d r)(h:∀D W,Inv X af Z H W->RelV (o.getD d) D->Q D W):
  Bk X.m A (call (.builtin "dict.get") [.ref a,u,r]) Q E s:=by
 rcases g with⟨kvs,k,e,n,l⟩|⟨kvs,k,b,e,n,T,l⟩
 .subst n;let⟨z,hd,vs,J,i⟩:=mW I.hok e;refine Iw Kr i.typeIs Kh (PySem.F.args_dict_get_3 _ _ _) (meets_dict_get_default (bR X.prog X.w) a (j8 P) hd r) ⟨_,i.mapOf,h _ _ (I.tok _) ?_⟩;rw[l];exact(J.val k).getD c
 .subst n;cases (show u=Value.ref b from P);let⟨z,hd,xs,J,i⟩:=oB I.hok e;refine Iw Kr i.typeIs Kh (PySem.F.args_dict_get_3 _ _ _) (meetsH_dict_get_default (Hc (bR X.prog X.w)) a b hd r) ⟨Fm U,k,xs,i7 I.hok T,i,h _ _ (I.tok _) ?_⟩;rw[l];exact(J.val k).getD c
end
end L2
namespace Att
open PySem.W PySem.Calls
theorem U1:∀(ns:↑Int) (vs:↑Ae),WellAll P h vs (ns.map WData.int)->Ue vs ns:=by
 intro ns
 induction ns with
 | nil=>
  intro vs w;rw[Nn]at w;cases w;exact .nil
 | cons n ns E=>
  intro vs w;rw[Bd]at w;cases w with
  | cons a b=>
   cases a;exact .cons _ _ (E _ b)
theorem U2{l:OpenLaw}{n:Nat}(hn:l.most=aa n){P:Rr}{h:Ds}{args:↑WData}{vals:↑Ae}(b:l.row.toRowW.claim.pre args=ab)(E:WellAll P h vals args):
  ∃a vs ns,vals=[Value.ref a]/\args=[WData.list (ns.map WData.int)]/\h.get? a=aa {cls:=.type "list",data:=.seq vs.toArray}/\Ue vs ns/\↥ns<=n:=by
 have c:WShape.hasAll [] args [.list .int]=ab:=(pre_splitW b).1;have hc:l.pre.holds [] {args:=args} = ab:=(pre_splitW b).2;let⟨d,r,rfl,O,L⟩:=hasAllW_cons c;obtain rfl:=hasAllW_nil L;let⟨xs,rfl,h3⟩:=hasW_list O;let⟨ns,rfl⟩:=items_int h3;have Y:↥ns<=n:=by
  unfold OpenLaw.pre at hc;have D:(WTm.not (.lt (.lit (.int (n:Int))) (.len (.arg 0)))).holds [] {args:=[.list (ns.map .int)]} = ab:=by
   have D:=(holds_andW hc).1;rw[hn]at D;exact D
  have f:=condW_of D (w_not (w_lt w_lit (w_len_list (w_arg rfl))));rw[Ab]at f;refine Nat.le_of_not_lt λq=>?_;have C:(n:Int)<((↥ns:Nat):Int):=by lia
  first
   | (rw[Vi C]at f;exact absurd f ∅)
   | (simp at f;lia)
 cases E with
 | cons u t=>
  cases t;cases u with
  | list S g=>exact⟨_,_,ns,rfl,rfl,S,U1 ns _ g,Y⟩
theorem U3(l:OpenLaw)(args:↑WData):l.row.toRowW.claim.post args (.bool ab) args=ab:=
 postW_of (r:=l.row.toRowW) (X:=(ab==ab))
  (show WShape.has [] (.bool ab) .bool=ab by first|rfl|decide|simp[WShape.has,WShape.arms,WShape.armsAll])
  (show(WTm.eq .res (.lit (.bool ab))).value [] {args:=args,res:=aa (.bool ab),after:=args} = aa (.bool (ab==ab)) from w_eq_bool (w_res rfl) w_lit) rfl
theorem attach_call{l:OpenLaw}{n:Nat}{q:Bc}{loose:↑Ay}{XP:(Ay->Option Ae)->Ds->Prop}{YP:Bo->Ds->Prop}{d:DefRec}(hn:l.most=aa n)(i:d.params.defaults=[])(call:∀(w:Bo) (s₀ y:Aj) (mg R:Ay->Option Ae) (fa:An) (o:Lv) (I t p:Ae) (a:An) (vs:↑Ae) (ns:↑Int),
   Ground q loose [] XP w s₀ mg R y.heap->YP w y.heap->
   y.heap.get? fa=aa o->o.data=.func (docDef d.name d.params d.body d.scope I t p)->y.heap.CodeRec t d.name->mg d.name=aa (.ref fa)->
   y.heap.get? a=aa {cls:=.type "list",data:=.seq vs.toArray}->Ue vs ns->↥ns<=n->y.gens = #[]->
   Mr (Dj l.prog w) Rg (.call (.ref fa) ⟨[.ref a],[]⟩) (λr W=>r=.ok (.ret (.bool ab))/\OldK y.heap W.heap/\W.os=y.os/\Ow W.gens) y):
  WalkO q loose XP YP l.row.toRowW d [] (λf vs=>Td f vs):=by
 intro w s₀ y mg R G Y fa o I t p dV kV S hd z K Q T args vals J b e g E CL;obtain rfl:dV=.none:=Dflts.none K i;obtain rfl:kV=.none:=Dflts.noKw K;let⟨a,vs,ns,rfl,rfl,N,c,m⟩:=U2 hn b E;refine enter_call (Oq (call w s₀ y mg R fa o I t p a vs ns G Y S (fd_plain hd) z Q N c m T) λr W Z=>?_);let⟨rfl,L,h3,D⟩:=Z;exact⟨.inl ⟨.bool ab,.bool ab,[],rfl,λ_=>rfl,.bool ab,U3 l _,λ_=>⟨List.Pairwise.nil,λ_ P=>(nomatch P)⟩⟩,L,h3,D⟩
end Att
namespace L2
theorem U4:∀{vs:↑Ae} {ns:↑Int},Ue vs ns->aZ (ns.map V.int) vs:=by
 intro vs ns h
 induction h with
 | nil=>exact .nil
 | cons n t h E=>exact .cons ⟨t,rfl⟩ E
def tV(H:Hp):Prop:=∀b,H b=ae\/∃o xs,H b=aa (.frz o (.lst xs))
theorem U5{P:Bc}{w:Bo}{K:Ac}{mg mb:Ay->Option Ae}{CX:kM}{k:Nat}{fa a:An}{fd:Fc}{x:Ay}{sp:Sp}{s1:Aj}{vs:↑Ae}{ns:↑Int}(KX:K.In s1.heap)(hns:s1.heap.Ns Ec mg)(hb:s1.heap.Ns Uu mb)(hbb:∀x:Ay,x≠"__name__"->mb x=Cr x)(hlim:s1.heap.NoLimit)(hg:s1.gens = #[])(ha:s1.heap.get? a=aa (lO vs.toArray))(hi:Ue vs ns)(hl:↥ns<=Ax)(hr:cP k Rg)(F:∀base:Ds,K.In base->base.Ns Ec mg->i6 P w K mg base CX k fa fd [x] sp)(hbind:∀(s:Aj) (u:Ae),Ss s fd ⟨[u],[]⟩ [(x,u)])(hsp:∀H:Hp,tV H->bL K H a (ns.map V.int)->sp [.ref a] H (λv _=>v=.bl ab) λ_ _ _=>False)(hCX:∀H e s',CX [] H s1 (λ_ _ _=>False) e s'->False):
  Mr (Dj P w) Rg (.call (.ref fa) ⟨[.ref a],[]⟩) (λr s'=>r=.ok (.ret (.bool ab))/\OldK s1.heap s'.heap/\s'.os=s1.os/\Ow s'.gens) s1:=by
 have rv:=U4 hi;have lenV:=↥hi;have core:∀H:Hp,tV H->bL K H a (ns.map V.int)->cU P w H s1.heap->(∀b,H b≠ae->b=a)->(H a≠ae->K.lookup a=ae)->
   Mr (Dj P w) Rg (.call (.ref fa) ⟨[.ref a],[]⟩) (λr s'=>r=.ok (.ret (.bool ab))/\OldK s1.heap s'.heap/\s'.os=s1.os/\Ow s'.gens) s1:=by
  intro H hO hS hok hA hK;have base_of:∀{b:An} {o:Lv},s1.heap.get? b=aa o->H b=ae->(lR s1.heap H).get? b=aa o:=λe n=>OM e n;have noA:∀{b:An} {o:Lv} {es:Array Eg} {ep:Nat},s1.heap.get? b=aa o->o.data=.dict es ep->H b=ae:=λ{b o es ep} e d=>by
   cases q:H b with
   | none=>rfl
   | some u=>
    have e':b=a:=hA b (by rw[q];simp);subst e';rw[ha]at e;cases e;have d':Data.seq vs.toArray _=Data.dict es ep:=d;cases d'
  have nsK:∀{b:An} {m:Ay->Option Ae},s1.heap.Ns b m->(lR s1.heap H).Ns b m:=λ{b m} ⟨o,es,ep,e,d,r⟩=>⟨o,es,ep,base_of e (noA e d),d,r⟩
  have hKb:K.In (lR s1.heap H):=λb o e=>base_of (KX b o e) (by
   cases q:H b with
   | none=>rfl
   | some u=>
    have e':b=a:=hA b (by rw[q];simp);subst e';rw[hK (by rw[q];simp)]at e;cases e)
  have hM:Mod K mg (lR s1.heap H):=⟨hKb,nsK hns,⟨mb,nsK hb,hbb⟩,let ⟨mc,h1,h2⟩:=hlim;⟨mc,nsK h1,h2⟩⟩;have e0:n9 P w K mg (lR s1.heap H) Rg [] s1 H:=⟨rfl,hM,λb o e=>ON e,Qd (OL _ _),trivial,λb hb=>absurd (show b∈([]:↑An) from hb) (by simp),hok,.of_eq hg⟩;refine Oq ((F _ hKb (nsK hns)).run Rg [] s1 H ⟨[.ref a],[]⟩ [.ref a] [.ref a] _ _ hr e0 (hbind s1 (.ref a)) (.cons rfl .nil) (hsp H hO hS)) λr s' h=>?_;cases r with
  | error e=>exact(hCX H e s' h).elim
  | ok fl=>
   cases fl with
   | next=>exact Bq h
   | brk=>exact Bq h
   | cont=>exact Bq h
   | ret u=>
    let⟨v,H',os,bare,un,hok',r',q⟩:=h;have q':v=.bl ab:=q;subst q';obtain rfl:u=Value.bool ab:=r';refine⟨rfl,OldK.of_keep λb o e=>?_,os,bare⟩;cases q:H b with
    | none=>exact un.keep b o e q (by intro z;exact absurd (show b∈([]:↑An) from z) (by simp)) (by simp)
    | some u=>
     rcases hO b with z|⟨ob,xs,z⟩
     .rw[q]at z;cases z
     .have z2:=un.frzs b ob _ z;let⟨e1,_⟩:=hok b _ z;let⟨e2,_⟩:=hok' b _ z2;rw[e]at e1;cases e1;exact e2
 cases hk:K.lookup a with
 | some o=>
  have e:=KX a o hk;rw[ha]at e;cases e;refine core (λ_=>ae) (λ_=>.inl rfl) (.inr ⟨_,vs.toArray,_,hk,rfl,rfl,rfl,by rw[Bh,lenV];exact hl,by simpa using rv⟩) (λb u z=>by have z':(ae:Option HO)=aa u:=z;cases z') (λb z=>absurd rfl z) λz=>absurd rfl z
 | none=>
  refine core (λb=>if b=a then aa (.frz (lO vs.toArray) (.lst (ns.map V.int))) else ae) (λb=>?_) (.inl (.inr ⟨(lO vs.toArray),Vg rfl⟩)) (λb u z=>?_) (λb z=>?_) λ_=>hk
  .by_cases hb:b=a
   .exact .inr ⟨_,_,Vg hb⟩
   .exact .inl (Vf hb)
  .by_cases hb:b=a
   .have z':=(Vg hb).symm.trans z;cases z';subst hb;exact⟨ha,by rw[Ab];exact hl,vs,_,rv,ha⟩
   .have z':=(Vf hb).symm.trans z;cases z'
  .by_cases hb:b=a
   .exact hb
   .exact absurd (Vf hb) z
theorem U6{l:Qa}{n k:Nat}{q:Bc}{loose:↑Ay}{XP:(Ay->Option Ae)->Ds->Prop}{YP:Bo->Ds->Prop}{d:DefRec}{K:Rr->Ac}{CX:Bo->kM}{sp:Bo->Sp}{x:Ay}(hn:l.most=aa n)(O:n<=Ax)(i:d.params.defaults=[])(S:cP k Rg)(E:∀(w:Bo) (h:Ds),YP w h->(K w.params).In h)(F:∀(w:Bo) (mg:Ay->Option Ae) (fa:An) (h:Ds),(K w.params).In h->h.Ns Ec mg->mg d.name=aa (.ref fa)->
   ∃fd:Fc,(∀(s:Aj) (u:Ae),Ss s fd ⟨[u],[]⟩ [(x,u)])/\
    ∀base:Ds,(K w.params).In base->base.Ns Ec mg->i6 l.prog w (K w.params) mg base (CX w) k fa fd [x] (sp w))(B:∀(w:Bo) (H:Hp) (a:An) (ns:↑Int),↥ns<=n->tV H->bL (K w.params) H a (ns.map V.int)->sp w [.ref a] H (λv _=>v=.bl ab) λ_ _ _=>False)(D:∀(w:Bo) (H:Hp) (s:Aj) (e:Ae) (M:Aj),CX w [] H s (λ_ _ _=>False) e M->False):
  PySem.W.WalkO q loose XP YP l.row.toRowW d [] (λf vs=>Td f vs):=by
 refine Att.attach_call hn i λw s₀ y mg R fa o I t p a vs ns G Y C hd z Q N c m L=>?_;have r:=E w _ Y;let⟨fd,j,A⟩:=F w mg fa _ r G.T.g Q;exact U5 r G.T.g G.T.b G.T.builtins G.T.nolimit L N c (Ar m O) S A j (λH X Z=>B w H a ns m X Z) λH e M=>D w H y e M
abbrev eQ:kM:=λ_ _ _ _ _ _=>False
abbrev E0:XK:=λ_ _ _=>False
theorem pK:mT eQ X E0:=λ_ _ _ _ _ _ _ h=>h.elim
structure jO(K:Ac)(x qual:Ay)(st:Jl)(f:An)(fd:Fc):Prop where
 ex:∃(oc:Ae) (od:Option An) (kV doc pm:Ae) (an:Option An) (cdv ct:Ae) (osl:Array (Option Ae)),
  fd=Fv x qual (jL st) (gF st) (dO st) .none kV doc pm an cdv ct/\K.lookup f=aa ⟨oc,od,.func fd,osl⟩/\Kg K cdv qual=ab
 kp:Gh K (.ref f)=ab
section
variable {P:Bc}{w:Bo}{K:Ac}{mg:Ay->Option Ae}{base:Ds}
theorem jO.ok{x j:Ay}{st:Jl}{f:An}{fd:Fc}{N ps:↑Ay}{k:Nat}{sp:Sp}(F:jO K x j st f fd)(S:mU N ps (dO st))(len:∀vs H Q E,sp vs H Q E->↥vs=↥ps)(m:∀(i:Ae) (A:Cs) (outer:↑Env) (s:Aj) (H:Hp) (vs:↑V) (Q:VK) (E:XK),cP k (A.deeper (Li j (dO st) ⇑s f i))->sp vs H Q E->
   ∃t,fT (kN eQ P w K mg base N j (dO st) f i A outer s H E).nox (gF st) t/\t {nx:=λ_ l=>Q .non l,rt:=Q} (start N vs) H):i6 P w K mg base eQ (k+1) f fd ps sp:=by
 let⟨a,D,kV,p,I,d,i,ct,b,rfl,X,z⟩:=F.ex;refine SM X z S len λA outer s H vs Q E T B=>?_;let⟨t,h,q⟩:=m i A outer s H vs Q E T B;exact⟨t,h.nox,q⟩
theorem jO.binds{x j:Ay}{st:Jl}{f:An}{fd:Fc}{ps:↑Ay}(F:jO K x j st f fd)(h:∀(kV p I:Ae) (d:Option An) (i ct:Ae) (us:↑Ae),↥us=↥ps->bindArgs (Fv x j (jL st) (gF st) (dO st) .none kV p I d i ct) ⟨us,[]⟩=pure (ps.zip us)):Binds K fd ps []:=by
 let⟨a,D,kV,p,I,d,i,ct,b,rfl,X,z⟩:=F.ex;exact .all (h kV p I d i ct)
theorem pL{x j:Ay}{st:Jl}{f:An}{a:Ae}{D d:Option An}{b:Array (Option Ae)}{kV p I i ct:Ae}(l:K.lookup f=aa ⟨a,D,.func (Fv x j (jL st) (gF st) (dO st) .none kV p I d i ct),b⟩)(c:Kg K i j=ab)(k:Gh K (.ref f)=ab):jO K x j st f (Fv x j (jL st) (gF st) (dO st) .none kV p I d i ct):=⟨⟨a,D,kV,p,I,d,i,ct,b,rfl,l,c⟩,k⟩
end
theorem D4{k:Nat}(T:cP k A):A.units+1<Fd:=Gb (Ma (by decide:1<=64) _) T.units
section
variable {X:Cx}
theorem U7:cN X (.builtin "len") (λxs H Q=>∃a kvs,xs=[V.ref a]/\H a=aa (.dK kvs)/\Q (.int ↥kvs) H):=by
 intro af s Z H xs us Q I r h;let⟨a,kvs,rfl,m,q⟩:=h;let⟨u,rfl,ru⟩:=vals1 r;cases ru;exact US I (.inl m) λt W c=>⟨.int ↥kvs,H,c,⟨t,rfl⟩,q⟩
end
theorem U8{A B:Prop}(h:B):if ac=ab then A else B:=by
 rw[Vf Bf];exact h
theorem U9{A B:Prop}(h:A):if ab=ab then A else B:=by
 rw[Vg rfl];exact h
end L2
set_option maxHeartbeats 4000000
namespace L2
structure kQ where
 cl:↑(Ay×An)
 s:Aj
 H:Hp
 fp:↑An
 C:An
def dR(X:Cx)(sc:Kl)(i:↑Ay)(B:kQ):Cx where
 prog:=X.prog
 w:=X.w
 K:=X.K
 mg:=X.mg
 base:=X.base
 A:=X.A
 N:=i
 s₀:=B.s
 H₀:=B.H
 env:=compEnvC sc B.cl B.C X.env
 outer:=X.stack
 stack:=X.stack
 ex:=B.fp
 fn:=λ_=>ac
 calm:=X.calm
 pn:=[]
 xe:=λ_ _=>False
def gH(cells:↑(Ay×An)):↑(Ay×Jr)->↑(Ay×An)->↑(Ay×An)
 | [],acc=>acc
 | (n,k)::r,acc=>if k=.free then gH cells r ((n,(cells.lookup n).getD 0)::acc) else gH cells r acc
theorem D5{scope:Kl}{env:Env}(h:∀y∈scope.names,y.2=.free->∃c,env.cells.lookup y.1=aa c):Ut scope env=pure (gH env.cells scope.names []):=by
 have key:∀(names:↑(Ay×Jr)) (acc:↑(Ay×An)),(∀y∈names,y.2=.free->∃c,env.cells.lookup y.1=aa c)->
   (forIn names acc λ(x:Ay×Jr) (cs:↑(Ay×An))=>(if (x.2==NameKind.free)=ab then(do let a <-cellOf env x.1;pure (ForInStep.yield ((x.1,a)::cs))) else pure (ForInStep.yield cs):Sg (ForInStep (↑(Ay×An)))))=(pure (gH env.cells names acc):Sg _):=by
  intro names
  induction names with
  | nil=>intro acc _;rfl
  | cons y r ih=>
   intro acc hy;let⟨n,k⟩:=y;rw[Jz]
   by_cases hk:k=.free
   .subst hk;let⟨c,hc⟩:=hy (n,.free) Bl rfl;have e1:cellOf env n=(pure c:Sg An):=by
     unfold cellOf;rw[show env.cells.lookup n=aa c from hc]
    simp only[beq_self_eq_true,if_true,e1,pure_bind];rw[ih _ λz hz=>hy z (Bj _ hz)];simp only[gH,if_true];rw[show env.cells.lookup n=aa c from hc];rfl
   .have hb:(k==NameKind.free)=ac:=by simpa using hk
    simp only[hb,Fg,if_false,pure_bind];rw[ih _ λz hz=>hy z (Bj _ hz)];simp only[gH,Vf hk]
 have e:Ut scope env=((forIn scope.names [] λ(x:Ay×Jr) (cs:↑(Ay×An))=>(if (x.2==NameKind.free)=ab then(do let a <-cellOf env x.1;pure (ForInStep.yield ((x.1,a)::cs))) else pure (ForInStep.yield cs):Sg (ForInStep (↑(Ay×An)))))>>=λcs=>pure cs):=by
  unfold Ut;rfl
 rw[e,key _ _ h,pure_bind]
theorem yA:∀{names:↑(Ay×Jr)} {acc:↑(Ay×An)},(∀y∈names,y.2=.free->∃c,cells.lookup y.1=aa c)->
  (∀x c,acc.lookup x=aa c->cells.lookup x=aa c)->(gH cells names acc).lookup x=aa c->cells.lookup x=aa c
 | [],acc,_,m,e=>m x c e
 | (n,k)::r,acc,f,m,e=>by
  have T:∀y∈r,y.2=.free->∃c,cells.lookup y.1=aa c:=λz hz=>f z (Bj _ hz);unfold gH at e
  by_cases hk:k=.free
  .subst hk;rw[Vg rfl]at e;let⟨d,hd⟩:=f (n,.free) Bl rfl;have hd:cells.lookup n=aa d:=hd;refine yA T (λz b q=>?_) e;rw[Dz]at q
   by_cases hz:z=n
   .subst hz;rw[beq_self_eq_true,hd]at q;rw[hd];exact q
   .have:(z==n)=ac:=beq_eq_false_iff_ne.mpr hz;rw[this]at q;exact m z b q
  .rw[Vf hk]at e;exact yA T m e
theorem tW:∀{names:↑(Ay×Jr)} {acc:↑(Ay×An)},((x,NameKind.free)∈names\/∃c,acc.lookup x=aa c)->∃c,(gH cells names acc).lookup x=aa c
 | [],acc,h=>by
  rcases h with h|h
  .cases h
  .exact h
 | (n,k)::r,acc,h=>by
  unfold gH
  by_cases hk:k=.free
  .subst hk;rw[Vg rfl];refine tW ?_
   by_cases J:x=n
   .subst J;right;rw[Dz,beq_self_eq_true];exact⟨_,rfl⟩
   .have G:(x==n)=ac:=beq_eq_false_iff_ne.mpr J;rcases h with h|⟨c,h⟩
    .rcases Au.mp h with e|h
     .cases e;exact absurd rfl J
     .exact .inl h
    .right;rw[Dz,G];exact⟨c,h⟩
  .rw[Vf hk];refine tW ?_;rcases h with h|h
   .rcases Au.mp h with e|h
    .cases e;exact absurd rfl hk
    .exact .inl h
   .exact .inr h
structure oE(N':↑Ay)(sc osc:Kl):Prop where
 kind:sc.kind=.function
 nd:N'.Nodup
 nocell:∀y∈sc.names,y.2≠.cell
 loc:∀y∈sc.names,y.2=.local->sc.names.lookup y.1=aa .local
 free:∀y∈sc.names,y.2=.free->osc.names.lookup y.1=aa .cell\/osc.names.lookup y.1=aa .free
def oF(N':↑Ay)(sc a:Kl):Bool:=
 decide (sc.kind=.function)&&decide N'.Nodup&&sc.names.all (λy=>decide (y.2≠.cell))&&sc.names.all (λy=>decide (y.2=.local->sc.names.lookup y.1=aa .local)) &&
  sc.names.all (λy=>decide (y.2=.free->a.names.lookup y.1=aa .cell\/a.names.lookup y.1=aa .free))
theorem oE.of(h:oF N' sc a=ab):oE N' sc a:=by
 unfold oF at h;simp only[Dg]at h;obtain⟨⟨⟨⟨O,L⟩,h3⟩,D⟩,T⟩:=h;exact⟨Vh O,Vh L,λy f=>Vh (Fj.mp h3 y f),λy f=>Vh (Fj.mp D y f),λy f=>Vh (Fj.mp T y f)⟩
def cmap(js:↑(Option Nat))(Z:St):St:=js.map λo=>o.bind λj=>(Z[j]?).join
def fL(N' N:↑Ay)(sc:Kl):↑(Option Nat)->↑Ay->Bool
 | [],[]=>ab
 | none::js,_::r=>fL N' N sc js r
 | some j::js,x::r=>decide (N[j]? = aa x)&&decide (sc.names.lookup x=aa .free)&&fL N' N sc js r
 | _,_=>ac
theorem yB:∀{js:↑(Option Nat)} {r:↑Ay},fL N' N sc js r=ab->↥js=↥r
 | [],[],_=>rfl
 | none::js,_::r,h=>by
  have:=yB (js:=js) (r:=r) h;simp[this]
 | some j::js,x::r,h=>by
  unfold fL at h;rw[Dg]at h;have:=yB (js:=js) (r:=r) h.2;simp[this]
 | [],_::_,h=>by simp[fL]at h
 | none::_,[],h=>by simp[fL]at h
 | some _::_,[],h=>by simp[fL]at h
theorem yC:∀{js:↑(Option Nat)} {r:↑Ay} {i j:Nat} {x:Ay},fL N' N sc js r=ab->js[i]? = aa (aa j)->r[i]? = aa x->N[j]? = aa x/\sc.names.lookup x=aa .free
 | [],[],i,j,x,_,e,_=>by simp at e
 | none::js,_::r,0,j,x,h,e,_=>by simp at e
 | none::js,_::r,i+1,j,x,h,e,A=>yC (js:=js) (r:=r) (i:=i) h (by simpa using e) (by simpa using A)
 | some k::js,y::r,0,j,x,h,e,A=>by
  unfold fL at h;rw[Dg,Dg]at h;simp at e A;subst e;subst A;exact⟨Vh h.1.1,Vh h.1.2⟩
 | some k::js,y::r,i+1,j,x,h,e,A=>by
  unfold fL at h;rw[Dg,Dg]at h;exact yC (js:=js) (r:=r) (i:=i) h.2 (by simpa using e) (by simpa using A)
 | [],_::_,_,_,_,h,_,_=>by simp[fL]at h
 | none::_,[],_,_,_,h,_,_=>by simp[fL]at h
 | some _::_,[],_,_,_,h,_,_=>by simp[fL]at h
theorem yD{env:Env}{x:Ay}:∀{names:↑(Ay×Jr)},(∀y∈names,y.2≠.cell)->
  (((names.map λ(n,k)=>if (k==NameKind.free&&env.scope.kind==.function&&env.kindOf n==aa .cell) then(n,NameKind.cell) else(n,k)).lookup x=aa .cell\/
    (names.map λ(n,k)=>if (k==NameKind.free&&env.scope.kind==.function&&env.kindOf n==aa .cell) then(n,NameKind.cell) else(n,k)).lookup x=aa .free)↔names.lookup x=aa .free)
 | [],_=>by simp
 | (n,k)::r,h=>by
  have E:=@yD env x r λy f=>h y (Bj _ f);have hk:k≠.cell:=h (n,k) Bl;rw[Bd];dsimp only
  by_cases J:(x==n)=ab
  .by_cases hc:(k==NameKind.free&&env.scope.kind==.function&&env.kindOf n==aa .cell)=ab
   .rw[Vg hc];simp only[Dz,J];have:k=.free:=by
     rw[Dg,Dg]at hc;exact beq_iff_eq.mp hc.1.1
    simp[this]
   .rw[Vf hc];simp only[Dz,J];constructor
    .rintro(e|e)
     .cases e;exact absurd rfl hk
     .exact e
    .intro e;exact .inr e
  .have J:(x==n)=ac:=by simpa using J
   by_cases hc:(k==NameKind.free&&env.scope.kind==.function&&env.kindOf n==aa .cell)=ab
   .rw[Vg hc];simp only[Dz,J];exact E
   .rw[Vf hc];simp only[Dz,J];exact E
theorem yE:∀{names:↑(Ay×Jr)},names.lookup x=aa k->(x,k)∈names:=λh=>Hx h
section
variable {X:Cx}{sc:Kl}{N':↑Ay}{js:↑(Option Nat)}{af:Pn}{Z:St}{H H1:Hp}{s:Aj}{fp:↑An}{C:An}
theorem yF(S:oE N' sc X.env.scope)(I:Inv X af Z H s):∀y∈sc.names,y.2=.free->∃c,X.env.cells.lookup y.1=aa c:=λy f hk=>
 I.ok.has y.1 (S.free y f hk)
theorem VA(S:oE N' sc X.env.scope)(hj:fL N' X.N sc js N'=ab)(I:Inv X af Z H s)(hf:∀b∈fp,gW X af H b)(f:∀b∈fp,∃o,s.heap.get? b=aa o){tk:Nat}{m:Ay->Option Ae}(d:⇑s<=C)(keep:∀b o,s.heap.get? b=aa o->O.get? b=aa o)(un:Un (iI X.stack) fp H H1 s.heap O)(hok:cU X.prog X.w H1 O)(hn:O.Ns C m)(K:H1 C=ae):
  Inv (dR X sc N' ⟨gH X.env.cells sc.names [],s,H,fp,C⟩) [] (cmap js Z) H1 {s with heap:=O,toks:=tk}:=by
 have cs:=yF S I;have sub:∀x c,(gH X.env.cells sc.names []).lookup x=aa c->X.env.cells.lookup x=aa c:=λx c e=>yA cs (λ_ _ z=>by simp at z) e;refine⟨⟨I.ok.mod,S.kind,I.ok.glob,I.ok.blt,d,λx y c D A=>I.ok.inj x y c (sub x c D) (sub y c A),λx J=>?_,λ_ _ h _=>absurd (show ac=ab from h) Bf,I.ok.hd,I.ok.frames,.inl rfl,λb G=>?_,I.bs,Ar I.ok.bsz I.sz,λb o e G=>?_,λb G Q=>?_,I.stack,I.stkFree⟩,
  rfl,I.bare,un,⟨m,hn,λi x v D A P=>?_⟩,λx c e=>?_,K,λx c e=>?_,λp V=>absurd (show p∈([]:↑(An×Lv)) from V) (by simp),hok,?_⟩
 .have q:sc.names.lookup x=aa .free:=(yD (env:=X.env) S.nocell).mp J;exact tW (.inl (yE q))
 .let⟨o,e⟩:=f b G;exact⟨Br (Bv (Bg e) d),λx c q=>(hf b G).2.2.2.2.1 x c (sub x c q)⟩
 .rcases(hf b G).2.2.2.1 with z|z
  .exact I.ok.noex b o e z
  .exact absurd (Bv (Bg e) (Ar I.ok.bsz z)) (Iu _)
 .rcases Au.mp (I.stkSub b Q) with z|z
  .exact(hf b G).2.1 z
  .exact(hf b G).2.2.1 z
 .
  have D:N'[i]? = aa x:=D;unfold cmap at A;rw[Av]at A;cases g:js[i]? with
  | none=>rw[g]at A;cases A
  | some o=>
   rw[g]at A;cases o with
   | none=>cases A
   | some j=>
    let⟨W,n⟩:=yC hj g D;have A:(Z[j]?).join=aa v:=by simpa using A
    have M:Z[j]? = aa (aa v):=by
     cases q:Z[j]? with
     | none=>rw[q]at A;cases A
     | some z=>rw[q]at A;simpa using A
    let⟨m0,F,B⟩:=I.loc;have kx:=S.free _ (yE n) rfl;let⟨u,r,l⟩:=B j x v W M (kx.elim (λz=>.inr (.inl z)) λz=>.inr (.inr z));refine⟨u,r,.inr ⟨(yD (env:=X.env) S.nocell).mpr n,?_⟩⟩;rcases l with⟨k,_⟩|⟨_,c,t,hc⟩
    .have k:X.env.scope.names.lookup x=aa .local:=k;rcases kx with z|z
     .rw[k]at z;cases z
     .rw[k]at z;cases z
    .let⟨T,L⟩:=tW (cells:=X.env.cells) (acc:=[]) (.inl (yE n));have:T=c:=Co ((sub x T L).symm.trans t);subst this;let⟨a,Y,hd⟩:=hc;exact⟨T,L,a,keep _ _ Y,hd⟩
 .let⟨v,a,Y,hd⟩:=I.cell x c (sub x c e);exact⟨v,a,keep _ _ Y,hd⟩
 .let⟨v,a,Y,hd⟩:=I.cell x c (sub x c e);have E:c∉fp:=λz=>(hf c z).2.2.2.2.1 x c (sub x c e) rfl;exact un.free c a Y (I.freeC x c (sub x c e)) E
 .show(cmap js Z).length=↥N';unfold cmap;rw[Ab];exact yB hj
end
section
variable {prog:Bc}{w:Bo}{A:Cs}{R:Ua->Aj->Prop}{s:Aj}
theorem VB(I:Nat->Aj->Prop)(q:∀n s,I n s->Bk (Dj prog w) A (Hi it) (λr y=>match r with
   | none=>R (.ok .next) y
   | some v=>Bk (Dj prog w) A (Oz b it v) (λ_ s₀=>Bk (Dj prog w) A (Nr b env v) (λ_ K=>
     Bk (Dj prog w) A (forIn ifs ab λc r=>if r=ab then do let ok <-Tu c env (Eu c env);pure (ForInStep.yield ok) else pure (ForInStep.yield r)) (λok a=>
      if ok=ab then Bk (Dj prog w) A (Eu elt env) (λx e=>
       Bk (Dj prog w) A (call (.builtin "list.append") [acc,x]) (λ_ f=>∃m,m<n/\I m f) (λ_ _=>False) e) (λ_ _=>False) a
      else ∃m,m<n/\I m a) (λ_ _=>False) K) (λ_ _=>False) s₀) (λ_ _=>False) y) (λ_ _=>False) s)(n:Nat)(h:I n s):
  Mr (Dj prog w) A (.compLoop (.ListComp elt [⟨b,iter,ifs,0⟩] d pos) 0 it acc env) R s:=by
 refine codeAny_loop rfl I (λn s j=>?_) n h;show Bk _ A ((compTurn (.ListComp elt [⟨b,iter,ifs,0⟩] d pos) 0 it acc env).onRaise (λx=>do noteFrame x env;theTreesLotGoes x)) _ _ s;refine wpAny_noted ?_;rw[compTurn_list];refine Aa (Qe (Aa (Ig (q n s j) (λr y k=>?_) λ_ _ h'=>h'.elim)));cases r with
 | none=>exact Ag k
 | some v=>
  refine Aa (Ig k (λ_ s₀ h₀=>?_) λ_ _ h'=>h'.elim);refine Aa (Ig h₀ (λ_ K M=>Aa (Ig M (λok a g=>?_) λ_ _ h'=>h'.elim)) λ_ _ h'=>h'.elim);cases ok with
  | false=>exact Ag ⟨rfl,g⟩
  | true=>
   exact Aa (Aa (Ig g (λx e i=>Aa (Ig i (λ_ f l=>Ag (Ag ⟨rfl,l⟩)) λ_ _ h'=>h'.elim)) λ_ _ h'=>h'.elim))
end
def iM(X:Cx)(ifs:↑Cg)(t:TT):Prop:=
 ∀(af:Pn) (s:Aj) (Z:St) (H:Hp) (Q:Bool->Hp->Prop),Inv X af Z H s->t Z H Q->
  X.a (forIn ifs ab λc r=>if r=ab then do let ok <-Tu c X.env (Eu c X.env);pure (ForInStep.yield ok) else pure (ForInStep.yield r)) (TP X af Z Q) X.xe s
def VC:TT:=λ_ H Q=>Q ab H
theorem VD:iM X [] VC:=λ_ _ _ H _ I h=>wpAny_tests_nil ⟨H,I,h⟩
theorem VE(h:PT X c t):iM X [c] t:=λaf s Z H Q I hw=>wpAny_tests_one (h af s Z H Q I hw)
def yG(J:It)(g:TG)(tt:TT)(te:TE)(p:An)(σ₀:St)(H1:Hp)(Q:VK):Prop:=
 ∃W:Nat->Nat->St->↑V->Hp->Prop,(∃m,W 0 m σ₀ [] (aL H1 p (.lst [])))/\∀i m O acc H,W i m O acc H->
  (J.stop i H/\Q (.ref p) H)\/(J.go i H/\∃N:St->↑V->Hp->Prop,(∀c t l,N c t l->∃e,e<m/\W (i+1) e c t l)/\∀x l,J.yld i H x l->g x O l λc E=>tt c E λb w=>
   if b=ab then te c w λy d=>d p=aa (.lst acc)/\↥acc<Ax/\N c (acc++[y]) (aL d p (.lst (acc++[y])))
   else N c acc w)
def yH(wi:TI)(g:kQ->TG)(tt:kQ->TT)(te:kQ->TE)(js:↑(Option Nat)):TE:=λZ H Q=>wi Z H λJ H1=>∀p,H1 p=ae->∀B:kQ,yG J (g B) (tt B) (te B) p (cmap js Z) H1 Q
section
variable {X:Cx}{sc:Kl}{N':↑Ay}{js:↑(Option Nat)}{tg iter elt:Cg}{ifs:↑Cg}{pos:Hu}{wi:TI}{g:kQ->TG}{tt:kQ->TT}{te:kQ->TE}
theorem D6(S:oE N' sc X.env.scope)(hj:fL N' X.N sc js N'=ab)(hc:X.calm=ab)(hg:∀B,PG (dR X sc N' B) tg (g B))(ht:∀B,iM (dR X sc N' B) ifs (tt B))(he:∀B,PE (dR X sc N' B) elt (te B)){tn:Nat->Ds->Prop}(I:Inv X af Z H s)(T:jM X.prog X.w X.K tg J fp it tn)(st:tn 0 s.heap)(hf:∀b∈fp,gW X af H b)(hw:∀p,H p=ae->∀B:kQ,yG J (g B) (tt B) (te B) p (cmap js Z) H Q){E:Ae->Aj->Prop}{RR:Ae->An->Ua->Aj->Prop}(hRR:∀p C H' s' m,Inv X af Z H' s'->gW X af H' C->s'.heap.Ns C m->Q (.ref p) H'->RR (.ref p) C (.ok .next) s'):
  X.a (newList []) (λacc s₃=>X.a (newFunctionEnv sc X.env.globals (gH X.env.cells sc.names []) [] X.env.qual ae .none (aa X.env)) (λcenv s₄=>
   Mr X.m X.A (.compStart (.ListComp elt [⟨tg,iter,ifs,0⟩] sc pos) 0 (.ref it) acc {cenv with scope:=relabel sc X.env}) (RR acc cenv.locals) s₄) E s₃) E s:=by
 refine Dh (wpAny_newFunctionEnv S.nocell (by intro y hy;simp at hy) (λh1 hns1 hsb1=>?_) S.kind);dsimp only at hns1 hsb1⊢;generalize hH2:s.heap.push {cls:=.type "list",dict:=ae,data:=.seq ([]:↑Ae).toArray} = H2 at hns1 hsb1⊢;have hC:H2.objs.size=⇑s+1:=by rw[<-hH2,Gp]
 have hDC:⇑s≠H2.objs.size:=by rw[hC];exact Br (Ih _)
 have hCle:⇑s<=H2.objs.size:=by rw[hC];exact Hg _
 have below:∀b,b<⇑s->b≠H2.objs.size:=λb hb=>by rw[hC];exact Br (Mw hb)
 have old:∀b o,s.heap.get? b=aa o->h1.get? b=aa o:=λb o e=>hsb1.extBut b o (below b (Bg e)) (Ah _ (hH2▸Ah _ e));have hacc:h1.get? ⇑s=aa {cls:=.type "list",dict:=ae,data:=.seq ([]:↑Ae).toArray}:=hsb1.extBut _ _ hDC (Ah _ (hH2▸Bb _ rfl));have hp0:H ⇑s=ae:=I.hok.fresh (Ai _);have newO:bZ X.prog X.w (aL H ⇑s (.lst [])) h1 ⇑s (.lst []):=⟨Cn _,[],_,.nil,hacc⟩;have hok1:cU X.prog X.w (aL H ⇑s (.lst [])) h1:=I.hok.laid old (Ai _) newO;have un1:Un (iI X.stack) fp H (aL H ⇑s (.lst [])) s.heap h1:=Un.laid old (Ai _) hp0;have fC:(aL H ⇑s (.lst [])) H2.objs.size=ae:=by rw[a9 (Bx hDC)];exact I.hok.fresh hCle
 have IB:=VA (tk:=s.toks+↥([]:↑(Ay×Ae))) S hj I hf (λb hb=>let ⟨o,e,_⟩:=T.obj 0 _ st b hb;⟨o,e⟩) hCle old un1 hok1 hns1 fC;obtain⟨W,⟨m0,w0⟩,turn⟩:=hw _ hp0 ⟨gH X.env.cells sc.names [],s,H,fp,H2.objs.size⟩;have st1:tn 0 h1:=T.keep _ _ _ st λb _ o e=>old b o e;have loop:∀s₃:Aj,s₃ = {s with heap:=h1,toks:=s.toks+↥([]:↑(Ay×Ae))}->
   Mr X.m X.A (.compLoop (.ListComp elt [⟨tg,iter,ifs,0⟩] sc pos) 0 (.ref it) (.ref ⇑s) (compEnvC sc (gH X.env.cells sc.names []) H2.objs.size X.env))
    (RR (.ref ⇑s) H2.objs.size) s₃:=by
  rintro s₃ rfl;generalize hB:(⟨gH X.env.cells sc.names [],s,H,fp,H2.objs.size⟩:kQ)=B at turn w0 IB;have eB:compEnvC sc (gH X.env.cells sc.names []) H2.objs.size X.env=(dR X sc N' B).env:=by subst hB;rfl
  have exB:(dR X sc N' B).ex=fp:=by subst hB;rfl
  rw[eB];have stat:∀{σ':St} {H':Hp} {s':Aj},Inv (dR X sc N' B) [] σ' H' s'->(∀b∈fp,H' b=ae)->∀b∈fp,gW (dR X sc N' B) [] H' b:=λ{σ' H' s'} J' hn b hb=>by
   refine⟨hn b hb,(J'.ok.exf b (by rw[exB];exact hb)).1,J'.ok.exfs b (by rw[exB];exact hb),.inl (by rw[exB];exact hb),(J'.ok.exf b (by rw[exB];exact hb)).2,λp hp=>absurd (show p∈([]:↑(An×Lv)) from hp) (by simp)⟩
  have fp0:∀b∈fp,(aL H ⇑s (.lst [])) b=ae:=λb hb=>by
   let⟨o,e,_⟩:=T.obj 0 _ st b hb;rw[a9 (Br (Bg e))];exact(hf b hb).1
  refine VB (λn s'=>∃i σ' acc H',Inv (dR X sc N' B) [] σ' H' s'/\tn i s'.heap/\(∀b∈fp,H' b=ae)/\W i n σ' acc H') ?_ m0 ⟨0,_,[],_,IB,st1,fp0,w0⟩;rintro n s3 ⟨i,σ3,acc,H3,I3,st3,fr3,w3⟩;rcases turn i n σ3 acc H3 w3 with⟨stop,qn⟩|⟨go,N,hN,step⟩
  .refine thn (T.done (dR X sc N' B) rfl rfl rfl hc i [] s3 σ3 H3 (λ_ _=>False) I3 (stat I3 fr3) st3 stop) λr s4 z0=>?_;let⟨hr,I4⟩:=z0;subst hr;let⟨m4,hn4,_⟩:=I4.loc;have u4:Un (iI X.stack) fp H H3 s.heap s4.heap:=by have:=I4.base;subst hB;exact this
   have o4:s4.os=s.os:=by have:=I4.os;subst hB;exact this
   have c4:(dR X sc N' B).env.locals=H2.objs.size:=by subst hB;rfl
   have hIX:Inv X af Z H3 s4:=I.call' (ch:=fp) o4 u4 I4.hok I4.bare λb hb=>⟨(hf b hb).2.2.2.1,(hf b hb).2.1,(hf b hb).2.2.2.2.1,(hf b hb).2.2.2.2.2⟩
   exact hRR _ _ H3 s4 m4 hIX (I.fpOk hCle (by rw[<-c4];exact I4.free)) (by rw[<-c4];exact hn4) qn
  .refine thn (T.item (dR X sc N' B) rfl rfl rfl hc i [] s3 σ3 H3 (λ_ _=>False) I3 (stat I3 fr3) st3 go) λr s4 z1=>?_;let⟨u,hr,h4⟩:=z1;subst hr;refine thn h4 λ_ s5 z2=>?_;let⟨x,H5,I5,r5,y5,st5,fr5⟩:=z2;have I5':=I5.pinned (stat I5 fr5) (T.obj _ _ st5);refine thn (hg B _ s5 σ3 H5 x u _ I5' r5 (step x H5 y5)) λ_ s6 z3=>?_;let⟨σ6,H6,I6,q6⟩:=z3;refine thn (ht B _ s6 σ6 H6 _ I6 q6) λok s7 z4=>?_;let⟨H7,I7,q7⟩:=z4;have again:∀{H8:Hp} {s8:Aj} {acc':↑V},Inv (dR X sc N' B) ([]++qN fp s5.heap) σ6 H8 s8->(∃m',m'<n/\W (i+1) m' σ6 acc' H8)->∃m,m<n/\∃i σ' acc H',Inv (dR X sc N' B) [] σ' H' s8/\tn i s8.heap/\(∀b∈fp,H' b=ae)/\W i m σ' acc H':=
    λ{H8 s8 acc'} I8 ⟨m',hm,w8⟩=>by
     refine⟨m',hm,i+1,σ6,acc',H8,I8.unpinned,T.keep _ _ _ st5 λb hb o e=>(I8.pin (b,o) (Bi _ (Bi _ (tH hb e)))).1,λb hb=>?_,w8⟩;let⟨o,e,d⟩:=T.obj _ _ st5 b hb;exact(I8.pin (b,o) (Bi _ (Bi _ (tH hb e)))).2.1
   cases ok with
   | false=>
    rw[Vf Bf]at q7;rw[Vf Bf];exact again I7 (hN _ _ _ q7)
   | true=>
    rw[Vg rfl]at q7;rw[Vg rfl];refine thn (he B _ s7 σ6 H7 _ I7 q7) λy s8 z5=>?_;let⟨z,H8,I8,r8,hp8,hl8,q8⟩:=z5;exact thn (DN _ s8 σ6 H8 (.ref ⇑s) [z] (.ref ⇑s) [y] (λ_ H9=>N σ6 (acc++[z]) H9) I8 rfl (.cons r8 .nil) ⟨_,acc,z,rfl,rfl,hp8,hl8,q8⟩) λ_ s9 z6=>by let⟨_,H9,I9,_,q9⟩:=z6;exact again I9 (hN _ _ _ q9)
 exact codeAny_compStart_list (loop _ rfl) (T.self _ 0 _ _ _ st1 (loop _ rfl))
theorem VF(N':↑Ay)(js:↑(Option Nat))(hi:PI X tg iter wi)(L:∀B,PG (dR X sc N' B) tg (g B))(ht:∀B,iM (dR X sc N' B) ifs (tt B))(Y:∀B,PE (dR X sc N' B) elt (te B))(w:oF N' sc X.env.scope=ab:=by kernel_rfl)(hj:fL N' X.N sc js N'=ab:=by kernel_rfl)(hc:X.calm=ab:=by rfl)(F:∀x,Hz iter X.env x=pure x:=by intro _;rfl):PE X (.ListComp elt [⟨tg,iter,ifs,0⟩] sc pos) (yH wi g tt te js):=by
 intro af s Z H Q I h;have S:=oE.of w;rw[eval_ListComp];refine wpAny_comprehension_free (use:=ae) rfl F (D5 (yF S I)) S.kind S.loc (thn (hi af s Z H _ I h) λf y v=>thn v λa K M=>?_);let⟨it,fp,U,J,E,e,i,T,d,O,hw⟩:=M;subst e;refine D6 (RR:=λacc C=>compPost X.m X.A X.xe ae (EP X af Z Q) acc C) S hj hc L ht Y i T d O hw ?_;intro p C l W m c P hn q;refine⟨m,hn,λh' u=>⟨.ref p,l,?_,rfl,q⟩⟩;exact c.turned (t':=W.toks) (λb o G e=>(u.2 b G).trans e) P.1 P.2.1 P.2.2.2.1 P.2.2.2.2.1 P.2.2.2.2.2
theorem D7{i:Nat}{x:Ay}{V r:Hu}(t:X.N.Nodup)(hi0:X.N[i]? = aa x)(f:Loc X.env.scope x)(N':↑Ay)(js:↑(Option Nat))(hi:PI X tg iter wi)(L:∀B,PG (dR X sc N' B) tg (g B))(ht:∀B,iM (dR X sc N' B) ifs (tt B))(Y:∀B,PE (dR X sc N' B) elt (te B))(w:oF N' sc X.env.scope=ab:=by kernel_rfl)(hj:fL N' X.N sc js N'=ab:=by kernel_rfl)(hc:X.calm=ab:=by rfl)(hsw:Ls (.ListComp elt [⟨tg,iter,ifs,0⟩] sc pos) (aa (.Name x V)) r.line X.env=pure ab:=by rfl)(hf:Fy X x:=by first|exact .inl rfl|exact .inr rfl|assumption)(F:∀x,Hz iter X.env x=pure x:=by intro _;rfl):PS X (.Assign [.Name x V] (.ListComp elt [⟨tg,iter,ifs,0⟩] sc pos) r) (tG (yH wi g tt te js) (xN i)):=by
 intro af s Z H D I h;have S:=oE.of w;rw[exec_Assign_Name_used _ _ _ _ hsw];refine Aa (Qe (Aa ?_));show Bk _ X.A (do let _ <-comprehension (.ListComp elt [⟨tg,iter,ifs,0⟩] sc pos) sc X.env _ (newList []) ac (Eu iter X.env) (aa (Nr (.Name x V) X.env))) _ _ s;refine Aa (Ig (wpAny_comprehension_free (use:=aa (Nr (.Name x V) X.env)) (Q:=λ_ W=>SP X af D .next W) rfl F (D5 (yF S I)) S.kind S.loc
  (thn (hi af s Z H _ I h) λxv y k=>thn k λitv K M=>?_)) (λ_ W N=>Ag (Ag N)) λ_ _ e=>e)
 let⟨it,fp,U,J,E,e,n,T,d,O,hw⟩:=M;subst e;refine D6 (RR:=λacc C=>compPost X.m X.A X.xe (aa (Nr (.Name x V) X.env)) (λ_ W=>SP X af D .next W) acc C) S hj hc L ht Y n T d O hw ?_;intro p C l W m c P hn q;show Bk _ X.A (Nr (.Name x V) X.env (.ref p)) _ _ _;refine wpAny_assign_Name (CN c t hi0 f (v:=.ref p) rfl (λR I'' ⟨a,sb,j⟩=>?_) hf);have hCa:C≠a:=by
  rcases j with e|e
  .rw[e];exact P.2.1
  .exact λz=>P.2.2.2.2.1 x a e z.symm
 refine⟨m,hn.sameBut sb hCa,λh' u=>⟨_,l,?_,q⟩⟩;exact I''.turned (t':=R.toks) (λb o G e=>(u.2 b G).trans e) P.1 P.2.1 P.2.2.2.1 P.2.2.2.2.1 P.2.2.2.2.2
end
section
variable {g:TG}{tt:TT}{te:TE}{p:An}{σ₀:St}{H1:Hp}{Q:VK}
theorem VG(n:Nat)(r:Nat->St->↑V->Hp->Prop)(G:r 0 σ₀ [] (aL H1 p (.lst [])))(hd:∀Z acc H,r n Z acc H->J.stop n H/\Q (.ref p) H)(F:∀i Z acc H,i<n->r i Z acc H->J.go i H/\∀x l,J.yld i H x l->g x Z l λc E=>tt c E λb w=>
   if b=ab then te c w λy d=>d p=aa (.lst acc)/\↥acc<Ax/\r (i+1) c (acc++[y]) (aL d p (.lst (acc++[y]))) else r (i+1) c acc w):yG J g tt te p σ₀ H1 Q:=by
 refine⟨λi m Z acc H=>m=n-i/\i<=n/\r i Z acc H,⟨n,by simp,Cn _,G⟩,?_⟩;rintro i m Z acc H ⟨rfl,hi,q⟩
 by_cases a:i<n
 .let⟨L,f⟩:=F i Z acc H a q;exact .inr ⟨L,r (i+1),λc t l C=>⟨n-(i+1),by lia,rfl,a,C⟩,f⟩
 .have e:i=n:=by lia
  subst e;exact .inl (hd Z acc H q)
end
section
variable {X:Cx}
theorem D8{i:Int}(h:i.natAbs<2 ^ 4096):Builtin.Int.intBits i<=2 ^ 20:=by
 unfold Builtin.Int.intBits;split
 .exact Cn _
 .rename_i G;have hn:i.natAbs≠0:=by
   intro z;have:i=0:=Int.natAbs_eq_zero.mp z;rw[this]at G;exact G rfl
  have:i.natAbs.log2<4096:=(Te hn).mpr h;have e:(2:Nat) ^ 20=1048576:=by decide
  lia
def tX(i j:Int):Prop:=i.natAbs<2 ^ 4096/\j.natAbs<2 ^ 4096
theorem VH:bF X (Eh .Mult) (rI tX λi j=>.int (i*j)):=pF λ_ _ _ _ _ _ _ hc q=>mul_int q (IntMulOk.of_bits (D8 hc.1) (D8 hc.2))
def D9(i j:Int):Prop:=0<j/\j<2 ^ 4096
theorem VI:bF X (Eh .FloorDiv) (rI D9 λi j=>.int (i/j)):=pF λi j _ _ _ _ _ hc q=>by
 refine floordiv_int (by have:=hc.1;lia) ?_ (.inl (PyProof.noPylong_of_log2 ?_))
 .rw[Int.fdiv_eq_ediv_of_nonneg _ (Int.le_of_lt hc.1)];exact q
 .have G:j.natAbs≠0:=by have:=hc.1;lia
  have O:j.natAbs<2 ^ 4096:=by
   have a:=hc.1;have b:=hc.2;lia
  have:=(Te G).mpr O;lia
theorem VJ:bF X (Eh .Mult) (λx y H Q=>∃z n,x=.str z/\y=.int n/\↥z<=16/\-(2 ^ 63)<=n/\n<=1048576/\Q (.str (Ib z n)) H):=by
 intro af s Z H x y v u Q I d P h;let⟨z,n,rfl,rfl,O,L,h3,q⟩:=h;let⟨t,rfl⟩:=d;let⟨t',rfl⟩:=P;exact SB.mul (mulOk_of 16 1048576 O h3 L ∅ ∅) λt' k=>⟨.str _,H,I.tok _,⟨_,rfl⟩,q⟩
theorem VL:fJ X "str.upper" (λx vs H Q=>∃z,x=.str z/\vs=[]/\↥z<=5592405/\Q (.str (Qq z)) H):=by
 intro af s Z H x xs v us Q I d R h;let⟨z,rfl,rfl,hz,q⟩:=h;let⟨t,rfl⟩:=d;have:=R.zero;subst this;exact SC.upper (fit_upper hz) ⟨.str _,H,I.tok _,⟨_,rfl⟩,q⟩
theorem VM:fJ X "str.partition" (λx vs H Q=>∃z y,x=.str z/\vs=[.str y]/\(↥y==0)=ac/\↥z<=Ax/\
  ∀p,H p=ae->Q (.ref p) (aL H p (.tup [.str (Cz z y).1,.str (Cz z y).2.1,.str (Cz z y).2.2]))):=by
 intro af s Z H x xs v us Q I d R h;let⟨z,y,rfl,rfl,f,hz,q⟩:=h;let⟨t,rfl⟩:=d;let⟨u,rfl,ru⟩:=R.one;let⟨t',rfl⟩:=ru;refine Kx F.slot_str_partition (Uo _ _ _) F.entry_str_partition (F.args_str_partition_2 _ _) (meets_str_partition z y t t' f hz) ?_;have C:=q ⇑s (I.hok.fresh (Ai _));have fin:∀(a b c:Ay) (j l k:Tz) (tk:Nat),Q (.ref ⇑s) (aL H ⇑s (.tup [.str a,.str b,.str c]))->
   EP X af Z Q (.ref ⇑s) {s with toks:=tk,heap:=s.heap.push {cls:=.type "tuple",data:=.seq [.str a j,.str b l,.str c k].toArray}}:=λa b c j l k tk g=>
  ⟨.ref ⇑s,_,I.laid (o:=.tup [.str a,.str b,.str c]) (t':=tk) (λb o e=>Ah _ e) (Ai _)
   ⟨by show 3<=Ax;decide,[.str a j,.str b l,.str c k],.cons ⟨_,rfl⟩ (.cons ⟨_,rfl⟩ (.cons ⟨_,rfl⟩ .nil)),⟨_,Bb _ rfl,rfl,_,rfl⟩⟩,rfl,g⟩
 unfold Cz at C
 revert C
 cases Jj z y 0 ↥z 1 with
 | nil=>intro C;exact fin _ _ _ _ _ _ _ C
 | cons i r=>intro C;exact fin _ _ _ _ _ _ _ C
theorem all_range{bs:↑Bool}:(Ci ↥bs).all (λi=>bs.getD i ac)=bs.all id:=by
 induction bs with
 | nil=>rfl
 | cons b r E=>
  rw[Bw,List.range_succ_eq_map,Jv,Mb,Jv];have:((λi=>(b::r).getD i ac) ∘ Nat.succ)=λi=>r.getD i ac:=by
   funext i;simp[Sl]
  rw[this,E];simp
theorem any_range{bs:↑Bool}:(Ci ↥bs).any (λi=>bs.getD i ac)=bs.any id:=by
 induction bs with
 | nil=>rfl
 | cons b r E=>
  rw[Bw,List.range_succ_eq_map,Fh,Ku,Fh];have:((λi=>(b::r).getD i ac) ∘ Nat.succ)=λi=>r.getD i ac:=by
   funext i;simp[Sl]
  rw[this,E];simp
theorem tY(g:Bool)(hc:X.calm=ab):cN X (.builtin (cond g "any" "all")) (λxs H Q=>∃(p:An) (bs:↑Bool),xs=[.ref p]/\bL X.K H p (bs.map V.bl)/\Q (.bl (cond g (bs.any id) (bs.all id))) H):=by
 cases g
 all_goals
  intro af s Z H xs us Q I r h;let⟨p,bs,rfl,Y,q⟩:=h;let⟨u,rfl,ru⟩:=vals1 r;cases ru;let⟨its,R,pl,hz⟩:=I.list Y;have a:p<⇑s:=by let⟨_,e,_⟩:=pl.isList;exact Bg e
  first
   | refine call_all_walk (Jh pl.isList ?_)
   | refine call_any_walk (Jh pl.isList ?_)
  have D:X.A.in1.handled=ae:=I.ok.hd hc;refine⟨⇑s,[⇑s,p],[⇑s],its.toArray.size,(λi v=>its.toArray[i]? = aa v),_,(λi=>bs.getD i ac),rfl,Rh D ⇑s p (Br a) its.toArray,
   ⟨⟨_,Bb _ rfl,rfl,rfl⟩,pl.isList.push _⟩,?_,λh' tk hk=>?_⟩
  .intro i v W d l c j;have k:its[i]? = aa v:=by simpa using c
   have hi:i<↥its:=(Am.mp k).1;have hl:=↥R;rw[Ab]at hl;have G:bs[i]? = aa (bs.getD i ac):=by
    have f:i<↥bs:=by lia
    simp[Sl,Bn f]
   let⟨u,U,ru⟩:=R.get (i:=i) (x:=.bl (bs.getD i ac)) (by rw[Av,G];rfl);rw[k]at U;cases U;cases (show v=Value.bool (bs.getD i ac) from ru);exact Ag j
  .have hl:=↥R;rw[Ab]at hl;rw[Bh,<-hl]
   first
    | rw[all_range]
    | rw[any_range]
   first
    | refine⟨.bl (bs.all id),H,?_,rfl,q⟩
    | refine⟨.bl (bs.any id),H,?_,rfl,q⟩
   exact I.kept (t':=tk) λb o T=>hk b o (λz=>by
    have:b=⇑s:=by simpa using z
    exact absurd (Bg T) (by rw[this];exact Iu _)) (Ah _ T)
theorem VN:cN X (.builtin "isinstance") (λxs H Q=>∃x T t b,xs=[x,.ty T]/\iK X.K H x t/\Kf X.K t (.type T)=aa b/\Q (.bl b) H):=by
 intro af s Z H xs us Q I r h;let⟨x,T,t,b,rfl,ty,e,q⟩:=h;let⟨u,D,rfl,ru,V⟩:=vals2 r;cases (show D=Value.type T from V);exact R1 I ru ty e λtk=>⟨.bl b,H,I.tok _,rfl,q⟩
def yI(z:Ay):It:=⟨λi _=>i<z.cps.size,λi H x l=>l=H/\∃c,z.cps.toList[i]? = aa c/\x=.str ⟨#[c]⟩,λi _=>z.cps.size<=i⟩
theorem EA{P:Bc}{w:Bo}{K:Ac}{x:Ay}{V:Hu}(z:Ay)(it:An)(ty:String)(a:Tz)(nx:∀(A:Cs) (s:Aj) (i c:Nat) (Q:Option Ae->Aj->Prop) (E:Ae->Aj->Prop),s.heap.IsStrIter it ty z a i->z.cps[i]? = aa c->
   (∀h',h'.IsStrIter it ty z a (i+1)->Ek it s.heap h'->Q (aa (.str ⟨#[c]⟩ s.toks)) {s with heap:=h',toks:=s.toks+1})->Bk (Dj P w) A (Hi (.ref it)) Q E s)(en:∀(A:Cs) (s:Aj) (i:Nat) (Q:Option Ae->Aj->Prop) (E:Ae->Aj->Prop),A.handled=ae->s.heap.IsStrIter it ty z a i->z.cps[i]? = ae->
   (∀h',Ol it s.heap h'->Q ae {s with heap:=h'})->Bk (Dj P w) A (Hi (.ref it)) Q E s)(f:∀(A:Cs) (i:Nat) (s:Aj) (Q:Ae->Aj->Prop) (E:Ae->Aj->Prop),s.heap.IsStrIter it ty z a i->Q (.ref it) s->Bk (Dj P w) A (Ro (.ref it)) Q E s):
  jM P w K (.Name x V) (yI z) [it] it (λi h=>h.IsStrIter it ty z a i) where
 mem:=by simp
 obj:=λi h st b G=>by
  have e:b=it:=by simpa using G
  subst e;let⟨o,S,_,hd⟩:=st;exact⟨o,S,λv q=>by rw[hd]at q;cases q⟩
 keep:=λi h h' st k=>by
  let⟨o,S,r⟩:=st;exact⟨o,k it (by simp) o S,r⟩
 item:=by
  intro X t hw Y hc i af s Z H E I hf st L;subst t hw Y;let⟨f0,C,O,B,j,y⟩:=hf it (by simp);have hi:z.cps[i]? = aa z.cps[i]:=Array.getElem?_eq_getElem L;refine nx X.A s i _ _ _ st hi λh' m sb=>?_;have M:Inv X af Z H {s with heap:=h',toks:=s.toks+1}:=I.turned (λb o G e=>(sb.2 b G).trans e) f0 C B j y;exact⟨_,rfl,Ag ⟨.str ⟨#[z.cps[i]]⟩,H,M,⟨_,rfl⟩,⟨rfl,z.cps[i],by rw[Ft];exact hi,rfl⟩,m,λb G=>(hf b G).1⟩⟩
 done:=by
  intro X t hw Y hc i af s Z H E I hf st L;subst t hw Y;let⟨f0,C,O,B,j,y⟩:=hf it (by simp);have d:z.cps.size<=i:=L;exact en X.A s i _ _ (I.ok.hd hc) st (Array.getElem?_eq_none d) λh' T=>⟨rfl,I.turned (t':=s.toks) (λb o G e=>T b o G e) f0 C B j y⟩
 self:=f
theorem EB{E:Ae->Aj->Prop}(j:l≠it):∀(n i:Nat) (s:Aj) (Q:↑Ae->Aj->Prop),s.heap.IsListIter it l i->s.heap.IsList l items->i+n<=items.size->
  (∀h',h'.IsListIter it l (i+n)->Ek it s.heap h'->Q ((items.toList.drop i).take n) {s with heap:=h'})->Bk (Dj prog w) A (draw (.ref it) n) Q E s
 | 0,i,s,Q,f,_,_,K=>by
  show Bk _ _ (pure []) Q E s;exact Ag (by simpa using K s.heap f (Heap.SameBut.refl ..))
 | n+1,i,s,Q,f,ht,b,K=>by
  have a:i<items.size:=by lia
  show Bk _ _ (Hi (.ref it)>>=_) Q E s;refine Aa (wpAny_pyNext_list_item f ht (x:=items[i]) (by simp[a]) λv k d=>?_);refine Aa (Dn (EB j n (i+1) _ _ k (ht.extBut d.extBut j) (by lia) λM c e=>Ag ?_));have hd:items.toList.drop i=items[i]::items.toList.drop (i+1):=by simp[Fq,a]
  have:=K M (by rw[show i+(n+1)=i+1+n by lia];exact c) (d.trans e);rw[hd,List.take_succ_cons]at this;exact this
theorem VO{prog:Bc}{w:Bo}{A:Cs}{E:Ae->Aj->Prop}{s:Aj}{t:An}{items:Array Ae}{c:↑(Bool×(Ae->Sg Unit))}{Q:Unit->Aj->Prop}(hh:A.handled=ae)(ht:s.heap.IsList t items)(hn:↥c=items.size)(j:c.findIdx? (·.1)=ae)(h:∀h',Ol ⇑s s.heap h'->Bk (Dj prog w) A (assignInOrder (c.map (·.2)) items.toList) Q E {s with heap:=h'}):
  Bk (Dj prog w) A (unpack (.ref t) c) Q E s:=by
 have a:t≠⇑s:=by let⟨o,S,_⟩:=ht;exact Br (Bg S)
 unfold unpack;rw[hn,j];refine Aa (Dn ?_);unfold unpackItems;refine Aa ?_;unfold notIterableAtAll;refine Aa (Hw ht.typeIs F.slot_list_iter.lookup ?_);refine Ag ?_;simp only[Fg,if_false];refine Aa (Dn (Jh ht ?_));refine Aa (Dn (EB a items.size 0 _ _ ⟨_,Bb _ rfl,rfl,rfl⟩ (ht.push _) (by lia) λv k d=>?_));have g:List.take items.size (List.drop 0 items.toList)=items.toList:=by
  rw[Oj];exact Ks (by simp)
 rw[g];rw[Vf (by simp)];have i:v.IsList t items:=(ht.push _).extBut d.extBut a;refine Aa (Dn (wpAny_pyNext_list_end hh k i (by simp) λM f=>?_));simp only[Option.isSome_none,Fg,if_false];refine Ag (h M λb o G e=>f b o G (d.extBut b o G (Ah _ e)))
def VP(K:Ac)(n:Nat)(t:j7):TG:=λv Z H Q=>∃a xs,v=.ref a/\bL K H a xs/\↥xs=n/\t xs Z H Q
theorem EC{k:Nat}{n:Nat}(hc:X.calm=ab)(h:i5 X es t)(hn:↥(Hq es X.env)=n:=by rfl)(j:(Hq es X.env).findIdx? (·.1)=ae:=by rfl):PG X (.Tuple es k pos) (VP X.K n t):=by
 intro af s Z H v u Q I r hw;let⟨a,xs,D,Y,hl,hw⟩:=hw;subst D;cases r;let⟨its,R,ht,hz⟩:=I.list Y;rw[PyProof.Rows.assign_Tuple];refine Aa (Qe (VO (I.ok.hd hc) ht.isList (by simp[hn,<-hl,↥R]) j λh' J=>?_));have M:Inv X af Z H {s with heap:=h'}:=I.kept (t':=s.toks) λb o e=>J b o (Br (Bg e)) e;exact h af _ Z H xs _ Q M (by simpa using R) hw
end
abbrev gJ:Ay:="ABCDEFGHIJKLMNOPQRSTUVWXYZ"
abbrev mY:Ay:="0123456789"
abbrev kR:Ay:="abcdefghijklmnopqrstuvwxyz"
def cs(z:Ay):↑Nat:=z.cps.toList
def lV(z g:Ay):Bool:=(!decide (V.str z=V.str ""))&&(cs z).all λc=>decide (c∈cs g)
def isNameB(z:Ay):Bool:=(decide (V.str (Cz z "_").2.1=V.str "")||lV (Cz z "_").2.2 mY)&&lV (Cz z "_").1 gJ
theorem yJ(h:cs x=cs y):x=y:=by
 let⟨x⟩:=x;let⟨y⟩:=y;exact congrArg Str.mk (Array.toList_inj.mp h)
theorem qT(x:Ay):↥(cs x)=↥x:=by unfold cs Str.length;simp
theorem pM(x y:Ay):cs (x++y)=cs x++cs y:=by
 show(x.cps++y.cps).toList=_;rw[Ov];rfl
theorem ED:cs "" = []:=by decide +kernel
theorem EE(z:Ay):decide (V.str z=V.str "")=decide (cs z=[]):=by
 by_cases h:z = ""
 .subst h;simp[ED]
 .rw[Vj (λe=>h (V.str.inj e)),Vj];intro e;exact h (yJ (e.trans ED.symm))
theorem qU(z g:Ay):lV z g=(!decide (cs z=[])&&(cs z).all λc=>decide (c∈cs g)):=by unfold lV;rw[EE]
theorem EF:("_" : Ay)=⟨#[95]⟩:=by decide +kernel
theorem EG:cs "_" = [95]:=by decide +kernel
theorem EH(h:95∉cs z):Cz z "_" = (z,Qr,Qr):=by
 rw[EF];rcases partition_whole z ⟨#[95]⟩ with⟨e,_⟩|⟨i,_,hi,_⟩
 .exact e
 .exact absurd ((mem_iff_at z 95).mpr ⟨i,hi⟩) h
theorem EI(z:Ay)(i j:Nat):cs (Nz z i j)=((cs z).drop i).take (j-i):=by
 show(z.cps.extract i j).toList=_;rw[Array.toList_extract];rfl
theorem VQ(e:cs z=cs a++95::cs b)(h:95∉cs a):Cz z "_" = (a,("_" : Ay),b):=by
 have hz:↥z=↥(cs a)+1+↥(cs b):=by
  rw[<-qT,e,Ak,Bw];lia
 rw[EF];rcases partition_whole z ⟨#[95]⟩ with⟨_,hn⟩|⟨i,N,hi,hn⟩
 .have P:95∈cs z:=by rw[e];simp
  let⟨j,hj⟩:=(mem_iff_at z 95).mp P;exact absurd hj (hn j)
 .have O:(cs z)[i]? = aa 95:=(StrLaws.subAt_one z 95 i).mp hi;have L:∀k,k<i->(cs z)[k]?≠aa 95:=λk hk q=>hn k hk ((StrLaws.subAt_one z 95 k).mpr q);have f:i=↥(cs a):=by
   rcases Nat.lt_trichotomy i ↥(cs a) with q|q|q
   .rw[e,Mj q]at O;exact absurd (Ao O) h
   .exact q
   .refine absurd ?_ (L ↥(cs a) q);rw[e,Hh (Ai _)];simp
  rw[N];have S:Nz z 0 i=a:=by
   apply yJ;rw[EI,Oj,e,f,Sx,Qy];rfl
  have T:Nz z (i+↥(⟨#[95]⟩:Ay)) ↥z=b:=by
   apply yJ;have J:↥(⟨#[95]⟩:Ay)=1:=rfl;rw[EI,J,e,f,hz];have d:(cs a++95::cs b).drop (↥(cs a)+1)=cs b:=by
    rw[Ql];simp
   rw[d];have:↥(cs a)+1+↥(cs b)-(↥(cs a)+1)=↥(cs b):=by lia
   rw[this,Bp]
  rw[S,T]
theorem VR(G:cs z≠[])(h:∀c∈cs z,c∈cs gJ):isNameB z=ab:=by
 have d:95∉cs z:=λm=>absurd (h _ m) (by decide +kernel);unfold isNameB;rw[EH d];dsimp only;rw[EE];have e:cs Qr=[]:=by decide +kernel
 simp only[e,decide_true,Bool.true_or,Ry];rw[qU,Vj G,Fj.mpr λc hc=>Vi (h c hc)];rfl
theorem VS(e:cs z=cs a++95::cs b)(G:cs a≠[])(h:∀c∈cs a,c∈cs gJ)(O:cs b≠[])(L:∀c∈cs b,c∈cs mY):isNameB z=ab:=by
 have d:95∉cs a:=λm=>absurd (h _ m) (by decide +kernel);unfold isNameB;rw[VQ e d,qU,qU];rw[Vj G,Fj.mpr λc hc=>Vi (h c hc),Vj O,Fj.mpr λc hc=>Vi (L c hc)];simp
theorem yK(G:cs z≠[])(h:∀c∈cs z,c∈cs kR):isNameB z=ac:=by
 have d:95∉cs z:=λm=>absurd (h _ m) (by decide +kernel);unfold isNameB;rw[EH d,qU,qU];have hh:((cs z).all λc=>decide (c∈cs gJ))=ac:=by
  cases hz:cs z with
  | nil=>exact absurd hz G
  | cons c r=>
   have hc:c∈cs kR:=h c (by rw[hz];simp);have hn:c∉cs gJ:=by
    have key:∀c∈cs kR,c∉cs gJ:=by decide +kernel
    exact key c hc
   rw[Jv,Vj hn,Om]
 rw[hh];simp
theorem EJ{m:Nat}:(∀c∈cs (Bs (toString ((m:Nat):Int))),c∈cs mY)/\cs (Bs (toString ((m:Nat):Int)))≠[]:=by
 have e:=PySem.W.KIN.signs_num m;have e:cs (Bs (toString ((m:Nat):Int)))=(Ht 10 m).map Tp:=e;constructor
 .intro c hc;rw[e]at hc;let⟨ch,hch,rfl⟩:=Ap.mp hc;have hd:ch.isDigit=ab:=Nat.isDigit_of_mem_toDigits ∅ ∅ hch;have:48<=ch.toNat/\ch.toNat<=57:=by
   unfold Char.isDigit at hd;simp only[Dg,decide_eq_true_eq]at hd;exact⟨hd.1,hd.2⟩
  have key:∀k,48<=k->k<=57->k∈cs mY:=by
   intro k h1 h2;have:k=48\/k=49\/k=50\/k=51\/k=52\/k=53\/k=54\/k=55\/k=56\/k=57:=by lia
   rcases this with h|h|h|h|h|h|h|h|h|h<;>subst h<;>decide +kernel
  exact key _ this.1 this.2
 .rw[e];intro z;have:Ht 10 m=[]:=List.map_eq_nil_iff.mp z;have hl:0<↥(Ht 10 m):=by
   by_cases h:m<10
   .rw[Nk h];simp
   .have hm:m % 10<10:=Nat.mod_lt m ∅;have t:Ht 10 (m/10)++Ht 10 (m % 10)=Ht 10 (10*(m/10)+m % 10):=Nat.toDigits_append_toDigits ∅ (by lia) hm;rw[Nat.div_add_mod]at t;rw[<-t,Nk hm];simp
  rw[this]at hl;exact absurd hl (by simp)
def Below(d s:Int):Prop:=0<=d/\d<s
abbrev Drawn:↑Int->↑Int->Prop:=Ey Below
theorem VT{a k:Int}(G:0<=a)(O:a<10 ^ 40)(L:0<=k)(h3:k<=1000):(a*48271+3 ^ 60*(k+1)*(k+1)+k).natAbs<2 ^ 200:=by
 have l:(3:Int) ^ 60=42391158275216203514294433201:=by decide
 have D:(10:Int) ^ 40=10000000000000000000000000000000000000000:=by decide
 have A:(2:Nat) ^ 200=1606938044258990275541962092341162602522202993782792835301376:=by decide
 rw[l,A];rw[D]at O;have m1:(k+1)*(k+1)<=1001*1001:=Int.mul_le_mul (by lia) (by lia) (by lia) (by lia);have m0:0<=(k+1)*(k+1):=Int.mul_nonneg (by lia) (by lia);rw[Int.mul_assoc];generalize (k+1)*(k+1)=q at m1 m0;lia
theorem EK{i j:Int}{m n:Nat}(hi:i.natAbs<2 ^ m)(hj:j.natAbs<2 ^ n):(i*j).natAbs<2 ^ (m+n):=by
 rw[Int.natAbs_mul,Nat.pow_add];exact Nat.mul_lt_mul'' hi hj
theorem VU{i j:Int}{m:Nat}(hi:i.natAbs<2 ^ m)(hj:j.natAbs<2 ^ m):(i+j).natAbs<2 ^ (m+1):=by
 rw[Nat.pow_succ,Nat.mul_two];exact Gb (Int.natAbs_add_le i j) (Nat.add_lt_add hi hj)
theorem tZ{i:Nat}{m n:Nat}(h:i<2 ^ m)(P:m<=n):i<2 ^ n:=Bv h (Lp ∅ P)
section
variable {X:Cx}
def EL(d:Nh):Prop:=d.canLay0=ab/\d.depth<=60
theorem qV:∀{xs:↑V} {us:↑Ae},↥xs=↥us->(∀(j:Nat) (u:Ae),us[j]? = aa u->∃x,xs[j]? = aa x/\RelV x u)->aZ xs us
 | [],[],_,_=>.nil
 | [],_::_,h,_=>by simp at h
 | _::_,[],h,_=>by simp at h
 | x::xs,u::us,h,k=>by
  let⟨y,e,r⟩:=k 0 u rfl;simp at e;subst e;exact .cons r (qV (by simpa using h) λj v c=>by
   let⟨y,e,r⟩:=k (j+1) v (by simpa using c);exact⟨y,by simpa using e,r⟩)
theorem yL:∀{kvs:↑(aC×V)} {vs:↑(aC×Ae)} {j:Nat} {k:aC} {x:Ae},KV kvs vs->vs[j]? = aa (k,x)->∃v,kvs[j]? = aa (k,v)
 | _,_,_,_,_,.nil,e=>by simp at e
 | _,_,0,_,_,.cons (a:=p) r _,e=>by
  simp at e;subst e;exact⟨p.2,by let⟨a,b⟩:=p;cases r.1;rfl⟩
 | _,_,j+1,k,x,.cons _ t,e=>by
  let⟨v,q⟩:=yL (j:=j) (k:=k) (x:=x) t (by simpa using e);exact⟨v,by simpa using q⟩
theorem t5(h:n6 k v=ab):RelV (kV k) v:=by
 rcases kJ h with⟨i,t,rfl,rfl⟩|⟨x,t,rfl,rfl⟩
 .exact⟨t,rfl⟩
 .exact⟨t,rfl⟩
theorem VW(hc:X.calm=ab):cN X (.type "list") (λxs H Q=>∃d kvs,xs=[.ref d]/\H d=aa (.dK kvs)/\∀l,H l=ae->Q (.ref l) (aL H l (.lst (kvs.map λg=>kV g.1)))):=by
 intro B s C H xs us Q I r h;let⟨d,kvs,rfl,hd,q⟩:=h;let⟨u,rfl,ru⟩:=vals1 r;cases ru;let⟨hz,F,vs,R,K⟩:=(show bZ X.prog X.w H s.heap d (.dK kvs) from I.hok d _ hd);let⟨ep,m⟩:=K.dictAt;have hl:=↥R;refine PySem.W.kdl_call (PySem.W.kdl_dict (knd:=bR X.prog X.w) (kvs:=vs) (ep:=ep) F) (I.ok.hd hc) m (by rw[<-hl];exact hz) λh' tk t T hk Z U=>?_;refine⟨.ref ⇑s,_,I.laid (o:=.lst (kvs.map λg=>kV g.1)) (t':=tk) hk (Ai _) ⟨by rw[Ab];exact hz,t.toList,T,?_,by rw[Hr];exact Z⟩,rfl,q _ (I.hok.fresh (Ai _))⟩;refine qV (by have O:=U.1;have L:↥t.toList=t.size:=Fs;have h3:↥(kvs.map λg=>kV g.1)=↥kvs:=Ab ..;lia) λj v c=>?_;let⟨k,x,J,a⟩:=U.2 j v (by rw[<-Ft];exact c);let⟨y,f⟩:=yL R J;exact⟨kV k,by rw[Av,f];rfl,t5 a⟩
theorem EM{n:Nat}(i:Nat)(h:i≠0):n+i≠n:=by lia
theorem lX{n a:Nat}(i:Nat)(h:a<n):a≠n+i:=by lia
theorem yM{n a:Nat}(h:a<n):a≠n:=by lia
theorem EN{n:Nat}(i:Nat):n<=n+i:=by lia
theorem VX:Cr "zip" = aa (.type "zip"):=by decide +kernel
end
section
variable {X:Cx}
def yN(K:Ac)(a:An)(xs:↑V):It:=
 ⟨λi H=>bL K H a xs/\i<↥xs,
   λi H x l=>∃p u,xs[i]? = aa u/\H p=ae/\x=.ref p/\l=aL H p (.tup [.int (i:Nat),u]),
   λi H=>bL K H a xs/\↥xs<=i⟩
theorem Inv.laidT{B:Pn}{C:St}{H:Hp}{s:Aj}{fp:↑An}{p:Ds}{tk:Nat}{xs:↑V}{its:↑Ae}(I:Inv X B C H s)(hf:∀b∈fp,gW X B H b)(f:∀q o,q∉fp->s.heap.get? q=aa o->p.get? q=aa o)(hz:↥xs<=Ax)(R:aZ xs its)(Q:p.get? ⇑s=aa {cls:=.type "tuple",data:=.seq its.toArray}):
  Inv X B C (aL H ⇑s (.tup xs)) {s with heap:=p,toks:=tk}:=by
 have y:H ⇑s=ae:=I.hok.fresh (Ai _);have E:∀q∈fp,H q=ae:=λq Z=>(hf q Z).1;refine I.step (g':=s.gens) (d':=s.drawn) (t':=tk) (ch:=fp) (λq Z=>⟨(hf q Z).2.2.2.1,(hf q Z).2.1,(hf q Z).2.2.2.2.1,(hf q Z).2.2.2.2.2⟩)
  (λq o _ _ hc e _=>f q o hc e) (λq o _ _ hc e _=>⟨o.slots,f q o hc e⟩) (λq o _ e n=>by rw[a9 (Br (Bg e))];exact n)
  (λq o hc e=>⟨o,f q o hc e⟩) (λq d e=>by rw[a9 (eO e y)];exact e) (λq o d e=>by rw[a9 (eO e y)];exact e) (λq ps e=>⟨#[],by rw[a9 (eO e y),e];simp⟩) (λm P=>?_) ?_ I.bare
 .let⟨o,es,ep,S,r⟩:=P;exact⟨o,es,ep,f _ o (λz=>absurd rfl (hf _ z).2.1) S,r⟩
 .intro q o e
  by_cases Z:q=⇑s
  .subst Z;rw[bY]at e;cases e;exact⟨hz,its,R,⟨_,Q,rfl,_,rfl⟩⟩
  .rw[a9 Z]at e;refine(I.hok q o e).stay (λt D ht g=>f t D (λz=>?_) g) (λt g=>by rw[a9 (eO g y)];exact g) λt d g=>by rw[a9 (eO g y)];exact g
   have c:=E t z;rcases ht with rfl|ht
   .rw[c]at e;cases e
   .rw[c]at ht;cases ht
theorem Inv.turnedT{B:Pn}{C:St}{H:Hp}{s:Aj}{fp:↑An}{p:Ds}{tk:Nat}(I:Inv X B C H s)(hf:∀b∈fp,gW X B H b)(f:∀q o,q∉fp->s.heap.get? q=aa o->p.get? q=aa o):Inv X B C H {s with heap:=p,toks:=tk}:=by
 have E:∀q∈fp,H q=ae:=λq Z=>(hf q Z).1;refine I.step (g':=s.gens) (d':=s.drawn) (t':=tk) (ch:=fp) (λq Z=>⟨(hf q Z).2.2.2.1,(hf q Z).2.1,(hf q Z).2.2.2.2.1,(hf q Z).2.2.2.2.2⟩)
   (λq o _ _ hc e _=>f q o hc e) (λq o _ _ hc e _=>⟨o.slots,f q o hc e⟩) (λq o _ e n=>n)
   (λq o hc e=>⟨o,f q o hc e⟩) (λq d e=>e) (λq o d e=>e) (λq ps e=>⟨#[],by rw[e];simp⟩) (λm P=>?_) ?_ I.bare
 .let⟨o,es,ep,S,r⟩:=P;exact⟨o,es,ep,f _ o (λz=>absurd rfl (hf _ z).2.1) S,r⟩
 .intro q o e;refine(I.hok q o e).stay (λt D ht g=>f t D (λz=>?_) g) (λt g=>g) λt d g=>g;have c:=E t z;rcases ht with rfl|ht
  .rw[c]at e;cases e
  .rw[c]at ht;cases ht
theorem VY{P:Bc}{w:Bo}{K:Ac}{es:↑Cg}{kx:Nat}{b:Hu}(a e it:An)(xs:↑V)(j:e≠it):
  jM P w K (.Tuple es kx b) (yN K a xs) [e,it] e (λi h=>(∃old,IsEnum h e it (i:Nat) old)/\h.IsListIter it a i) where
 mem:=by simp
 obj:=λi h st c hc=>by
  obtain⟨⟨old,O⟩,⟨F,D,_,G⟩⟩:=st;simp only[Au,Gv,or_false]at hc;rcases hc with rfl|rfl
  .exact⟨_,O,λv q=>by cases q⟩
  .exact⟨_,D,λv q=>by rw[G]at q;cases q⟩
 keep:=λi h h' st k=>by
  obtain⟨⟨old,O⟩,⟨F,D,m⟩⟩:=st;exact⟨⟨old,k e (by simp) _ O⟩,⟨F,k it (by simp) _ D,m⟩⟩
 item:=by
  intro X r hw Y hc i B s C H E I hf st L;subst r hw Y;obtain⟨⟨old,O⟩,D⟩:=st;let⟨t,hi⟩:=L;let⟨its,R,pl,hz⟩:=I.list t;let⟨u,U,ru⟩:=R.get (Bn hi);refine wpAny_pyNext_enum_item O D pl.isList (x:=u) (by simpa using U) j λh' W n N S hk=>?_;refine⟨_,rfl,wpAny_letOwnedTupleGo_enum W λp g sb=>?_⟩;have y:H ⇑s=ae:=I.hok.fresh (Ai _);have d:e<⇑s:=Bg O;have T:it<⇑s:=by let⟨_,q,_⟩:=D;exact Bg q
  have f:∀q o,q∉[e,it]->s.heap.get? q=aa o->p.get? q=aa o:=λq o Z eq=>by
   simp only[Au,Gv,or_false,not_or]at Z;exact(sb.2 q Z.1).trans (hk q o Z.1 Z.2 eq)
  have Q:p.get? ⇑s=aa {cls:=.type "tuple",data:=.seq [.int (i:Nat) s.toks,u].toArray}:=(sb.2 _ (Ct d)).trans N;have M:Inv X B C (aL H ⇑s (.tup [.int (i:Nat),xs[i]])) {s with heap:=p,toks:=s.toks+1}:=I.laidT (its:=[.int (i:Nat) s.toks,u]) hf f (by show 2<=Ax;decide) (.cons ⟨_,rfl⟩ (.cons ru .nil)) Q;refine⟨.ref ⇑s,_,M,rfl,⟨⇑s,xs[i],Bn hi,y,rfl,rfl⟩,⟨⟨u,by rw[Od];exact g⟩,n.extBut sb.extBut j.symm⟩,λq Z=>?_⟩;rw[a9]
  .exact(hf q Z).1
  .intro eq;subst eq;simp only[Au,Gv,or_false]at Z;rcases Z with q|q
   .exact Ct d q
   .exact Ct T q
 done:=by
  intro X r hw Y hc i B s C H E I hf st L;subst r hw Y;obtain⟨⟨old,O⟩,D⟩:=st;let⟨t,l⟩:=L;let⟨its,R,pl,hz⟩:=I.list t;have J:=↥R;refine wpAny_pyNext_enum_end (I.ok.hd hc) O D pl.isList (by simp;lia) λh' hk=>⟨rfl,?_⟩
  exact I.turnedT (tk:=s.toks) hf λq o Z eq=>hk q o (λz=>Z (by simp[z])) eq
 self:=λ_ _ _ _ _ st h=>by
  obtain⟨⟨old,O⟩,_⟩:=st;exact Nm O h
def VZ(K:Ac)(j:TA):TI:=λC H R=>j C H λvs z=>∃a xs,vs=[.ref a]/\bL K z a xs/\R (yN K a xs) z
theorem V0{a:Cg}{j:TA}{p pos:Hu}{es:↑Cg}{kx:Nat}{V:Hu}(L:Gl X "enumerate")(P:X.mg "enumerate" = ae)(m:PA X [a] j)(F:Cp [a] X.env=[(ac,Eu a X.env)]:=by rfl):
  PI X (.Tuple es kx V) (.Call (.Name "enumerate" p) [a] [] pos) (VZ X.K j):=by
 intro B s C H R I h;refine Call_ (iJ I L P boot_enumerate (Cj (thn (m pos B s C H _ I h) λus g n=>?_) F rfl));let⟨vs,z,M,N,d⟩:=n;let⟨a,xs,rfl,t,q⟩:=d;let⟨u,rfl,ru⟩:=vals1 N;cases ru;let⟨its,c,pl,hz⟩:=M.list t;refine call_enumerate_list pl.isList λh' G T l k=>?_;refine Nm G ?_;refine⟨⇑g+1,[⇑g+1,⇑g],_,_,z,rfl,M.kept (t':=g.toks) k,VY a _ _ xs (EM 1 ∅),⟨⟨_,G⟩,T⟩,λq Z=>?_,q⟩;have b:⇑g<=q:=by
  simp only[Au,Gv,or_false]at Z;rcases Z with e|e
  .rw[e];exact EN 1
  .rw[e];exact Ai _
 exact M.fpOk b (M.hok.fresh b)
end
section
variable {prog:Bc}{w:Bo}{A:Cs}{E:Ae->Aj->Prop}{s:Aj}
inductive oG(prog:Bc)(w:Bo)(hh:Ds)(A0:Cs):↑Ae->↑Int->Nat->Prop
 | nil:oG prog w hh A0 [] [] 0
 | cons {v:Ae} {vs:↑Ae} {i:Int} {is:↑Int} {d n:Nat} (h:∀(E:Ae->Aj->Prop) (s:Aj) (Q:Int->Aj->Prop),s.heap=hh->Q i {s with toks:=s.toks+d}->Bk (Dj prog w) A0 (pyHash v) Q E s) (t:oG prog w hh A0 vs is n):oG prog w hh A0 (v::vs) (i::is) (d+n)
theorem V1{a:An}{o:Lv}{items:Array Ae}{n m:Nat}{is:↑Int}{Q:Int->Aj->Prop}(U:A.units<Fd)(S:s.heap.get? a=aa o)(L:o.cls=.type "tuple")(hd:o.data=.seq items n)(hi:oG prog w s.heap A.in1 items.toList is m)(h:Q (Ur (El is)) {s with toks:=s.toks+(m+1)}):Bk (Dj prog w) A (pyHash (.ref a)) Q E s:=by
 have I:s.TypeIs (.ref a) "tuple":=⟨o,S,L⟩;unfold pyHash
 first|unfold pyHashByItsType|skip
 first|refine Aa (wpAny_cRoomFor_or (.inr U) ?_)|skip
 refine Aa (Hw I Js.lookup ?_);rw[Vf (by rw[beq_builtin_none];exact Bf)];refine Aa (Hw I Js.lookup ?_);refine Aa (wpAny_callSpecialIfBoundUnlessNone?_slot I Js (Cm Js I PySem.F.entry_tuple_hash ?_ (PySem.F.args_tuple_hash_1 _)));refine Aa (Ag ?_);refine Aa (Ho S hd ?_);refine Aa ?_;rw[<-Kb];refine Jw _
  (λrest (b:Array Int) W=>∃done left k y,is=done++left/\oG prog w s.heap A.in1 rest left y/\b.toList=done/\W = {s with toks:=s.toks+k}/\k+y=m)
  _ ?_ ?_ _ _ ⟨[],is,0,m,rfl,hi,rfl,rfl,by lia⟩
 .rintro x rest b W ⟨done,left,k,y,rfl,hl,G,rfl,hk⟩;cases hl with
  | @cons _ _ i c d j J M=>
   refine Aa (J _ _ _ rfl ?_)
   first
    | exact Ag ⟨done++[i],c,k+d,j,by simp,M,by simp[G],by simp[Lm],by lia⟩
    | exact Aa (Ag (Ag ⟨done++[i],c,k+d,j,by simp,M,by simp[G],by simp[Lm],by lia⟩))
 .rintro b W ⟨done,left,k,y,rfl,hl,G,rfl,hk⟩;cases hl;rw[Ce]at h;dsimp only;rw[G];have u:k=m:=by lia
  subst u;refine wpAny_ret_mkInt ?_;unfold Ur at h
  by_cases T:(decide (-(2:Int) ^ 63<=El done)&&decide (El done<2 ^ 63))=ab
  .rw[Vg T]at h;show Bk _ _ (if (decide (-(2:Int) ^ 63<=El done)&&decide (El done<2 ^ 63))=ab then _ else _) Q E _;rw[Vg T];exact Ag (by simpa [Lm] using h)
  .rw[Vf T]at h;show Bk _ _ (if (decide (-(2:Int) ^ 63<=El done)&&decide (El done<2 ^ 63))=ab then _ else _) Q E _;rw[Vf T];exact Aa (Ie (Ag (by simpa [Lm] using h)))
inductive lY(prog:Bc)(w:Bo)(hh:Ds)(A0:Cs):↑Ae->↑Ae->Bool->Prop
 | nil:lY prog w hh A0 [] [] ab
 | cons {u v:Ae} {us vs:↑Ae} {b c:Bool} (h:∀(E:Ae->Aj->Prop) (s:Aj) (Q:Bool->Aj->Prop),s.heap=hh->Q b s->Bk (Dj prog w) A0 (eqBool u v) Q E s) (t:lY prog w hh A0 us vs c):lY prog w hh A0 (u::us) (v::vs) (b&&c)
theorem lY.len{b:Bool}(h:lY prog w hh A0 us vs b):↥us=↥vs:=by
 induction h with
 | nil=>rfl
 | cons _ _ E=>simp[E]
theorem V2{I nb:Nat}{r:Bool}{Q:Bool->Aj->Prop}(U:A.units<Fd)(f:s.heap.get? a=aa z)(C:z.cls=.type "tuple")(V:z.data=.seq xs I)(o:s.heap.get? b=aa ob)(O:ob.cls=.type "tuple")(l:ob.data=.seq G nb)(hi:lY prog w s.heap A.in1 xs.toList G.toList r)(same:a=b->r=ab)(h:Q r s):Bk (Dj prog w) A (eqBool (.ref a) (.ref b)) Q E s:=by
 have n:s.TypeIs (.ref a) "tuple":=⟨z,f,C⟩;have k:s.TypeIs (.ref b) "tuple":=⟨ob,o,O⟩;unfold eqBool
 try with_reducible refine Dn ?_
 show Bk _ _ (if (Value.ref a==Value.ref b)=ab then _ else _) Q E s
 by_cases g:(Value.ref a==Value.ref b)=ab
 .rw[Vg g];have e:a=b:=by have:=eq_of_beq g;injection this
  rw[same e]at h;exact Aa (Ie (Ag h))
 .rw[Vf g];refine Aa (Mp (op:=.Eq) n k Kq (Cm Kq n PySem.F.entry_tuple_eq ?_ (PySem.F.args_tuple_eq_2 _ _)) U);show Bk _ _ (Us (.ref b) (.type "tuple")>>=_) _ _ s;refine Aa (Gj k Je ?_);simp only[Pg,Fg,if_false];refine Aa (Ho f V ?_);refine Aa (Ho o l ?_);refine Aa ?_;refine Jw _
   (λrest q W=>q.1=ae/\W=s/\∃us vs c,rest=List.zip us vs/\lY prog w s.heap A.in1 us vs c/\c=r)
   _ ?_ ?_ _ _ ⟨rfl,rfl,xs.toList,G.toList,r,rfl,hi,rfl⟩
  .rintro⟨u,v⟩ rest q W ⟨Z,rfl,us,vs,c,hz,Y,rfl⟩;cases Y with
   | nil=>simp at hz
   | @cons R X i j H m J x=>
    simp only[Kd,Es,Prod.mk.injEq]at hz;obtain⟨⟨rfl,rfl⟩,rfl⟩:=hz;refine Aa (J _ _ _ rfl ?_);cases H with
    | true=>
     simp only[Pg,Fg,if_false];exact Ag ⟨rfl,rfl,i,j,m,rfl,x,by rw[Ry]⟩
    | false=>
     simp only[Bool.not_false,if_true];rw[Om]at h;exact Aa (Ag (Ag (Ag ⟨_,rfl,(λe=>nomatch e),Jg h⟩)))
  .rintro⟨d,p⟩ W ⟨Z,rfl,us,vs,c,hz,Y,rfl⟩;simp only at Z;subst Z;refine Ag ?_;have hsz:(xs.size==G.size)=ab:=by
    have:=hi.len;simp at this;simpa using this
   have hc:c=ab:=by
    cases Y with
    | nil=>rfl
    | cons _ _=>simp at hz
   subst hc;refine⟨_,rfl,(λe=>nomatch e),?_⟩;show Bk _ _ (truthOfDropped (.bool (xs.size==G.size))) Q E _;rw[hsz];exact Jg h
theorem V3{K:Type}[DecidableEq K]{knd:KeyKind prog w K}{m:Nat}{ks:↑K}{a:An}{Q:Bool->Aj->Prop}(hk:IsTupleKey knd s.heap ks a)(h:Q ab s):Bk (Dj prog w) A (Vb (m+1) (.ref a)) Q E s:=by
 have I:=hk.typeIs;let⟨o,items,n,S,L,hd,hi⟩:=hk;unfold Vb;refine Aa (Hw I Kq.lookup ?_)
 try dsimp only
 refine Aa (Gj I Je ?_);rw[Vf ∅]
 try dsimp only
 refine Aa (Fb S hd (Aa ?_));show Bk _ _ (forIn items _ _) _ _ _;rw[<-Kb];refine Jw _ (λrest q W=>q.1=ae/\W=s/\∀v∈rest,Sv v=ab) _ ?_ ?_ _ _ ⟨rfl,rfl,hi.byValue⟩
 .rintro v rest q W ⟨Z,rfl,g⟩;rw[eqIsQuiet_byValue _ (g v Bl)];refine Aa (Ag ?_);rw[Vf ∅];exact Ag ⟨rfl,rfl,λu b=>g u (Bj _ b)⟩
 .rintro⟨d,p⟩ W ⟨Z,rfl,_⟩;simp only at Z;subst Z;exact Ag h
end
abbrev bP:=aC×↑aC
section
variable {prog:Bc}{w:Bo}
def t6(prog:Bc)(w:Bo)(tl:↑Int)(h:Ds)(x:bP)(a:An):Prop:=
 ∃o items n v G ts,h.get? a=aa o/\o.cls=.type "tuple"/\o.data=.seq items n/\items.toList=v::.ref G::ts/\(bR prog w).is x.1 v=ab/\IsTupleKey (bR prog w) h x.2 G/\ItemsAre (bR prog w) (tl.map Sum.inl) ts
def V4(prog:Bc)(w:Bo)(tl:↑Int)(x:bP):Int:=Ur (El ((bR prog w).hash x.1::tupleKeyHash (bR prog w) x.2::tl.map λi=>(bR prog w).hash (Sum.inl i)))
theorem EO:∀{tl:↑Int} {ts:↑Ae},ItemsAre (bR prog w) (tl.map Sum.inl) ts->oG prog w hh A ts (tl.map λi=>(bR prog w).hash (Sum.inl i)) ↥tl
 | [],_,h=>by cases h;exact .nil
 | i::tl,_,h=>by
  cases h with
  | @cons _ v _ vs O t=>
   have:=oG.cons (A0:=A) (hh:=hh) (d:=1) (λE s Q _ q=>(bR prog w).pyHash O q) (EO t);rw[Bw,Nat.add_comm];exact this
theorem ER:∀{tl:↑Int} {ts us:↑Ae},ItemsAre (bR prog w) (tl.map Sum.inl) ts->ItemsAre (bR prog w) (tl.map Sum.inl) us->lY prog w hh A ts us ab
 | [],_,_,h,h'=>by cases h;cases h';exact .nil
 | i::tl,_,_,h,h'=>by
  cases h with
  | @cons _ v _ vs O t=>
   cases h' with
   | @cons _ X _ j a t'=>exact lY.cons (b:=ab) (λE s Q _ q=>(bR prog w).eqBool O a (by rw[Vi rfl];exact q)) (ER t t')
theorem t6.inj(J:t6 prog w tl h x a)(f:t6 prog w tl h y a):x=y:=by
 let⟨o,items,n,v,G,ts,D,_,l,L,z,H,_⟩:=J;let⟨P,Y,M,X,b,K,C,_,B,j,g,c,_⟩:=f;obtain rfl:o=P:=Co (D.symm.trans C);rw[l]at B;injection B with g1 _;subst g1;rw[L]at j;simp only[Es,Value.ref.injEq]at j;let⟨rfl,rfl,rfl⟩:=j;exact Nj ((bR prog w).inj _ _ _ z g) (H.inj c)
def jP(prog:Bc)(w:Bo)(tl:↑Int):HeapKind prog w bP where
 is:=t6 prog w tl
 hash:=V4 prog w tl
 draws:=λx=>(1+((↥x.2+1)+↥tl))+1
 room:=λA=>A.units+1<Fd
 inj:=λJ f=>J.inj f
 keeps:=λ{h h' k a d o es ep} x S hd F=>by
  let⟨P,items,n,v,G,ts,D,B,l,L,z,H,e7⟩:=x;have j:a≠d:=by
   rintro rfl;obtain rfl:P=o:=Co (D.symm.trans S);rw[hd]at l;exact nomatch l
  exact⟨P,items,n,v,G,ts,(F.2 a j).trans D,B,l,L,z,H.keeps S hd F,e7⟩
 pyHash:=λ{A E s k a Q} U hk h=>by
  let⟨o,items,n,v,G,ts,D,B,l,L,z,H,e7⟩:=hk;have hu1:A.in1.units<Fd:=U;refine V1 (Ky U) D B l (m:=1+((↥k.2+1)+↥tl)) (is:=(bR prog w).hash k.1::tupleKeyHash (bR prog w) k.2::tl.map λi=>(bR prog w).hash (Sum.inl i)) ?_ h;rw[L];refine .cons (d:=1) (λE W Q' _ q=>(bR prog w).pyHash z q) (.cons (d:=↥k.2+1) (λE W Q' es q=>?_) (EO e7));exact wpAny_pyHash_tuple hu1 (by rw[es];exact H) q
 eqBool:=λ{A E s x y a b Q} U J f h=>by
  have same:a=b->x=y:=λe=>by subst e;exact J.inj f
  let⟨o,items,n,v,G,ts,D,B,l,L,z,H,e7⟩:=J;let⟨P,Y,M,X,pa',K,C,O,t,N,V,f6,f7⟩:=f;have hu1:A.in1.units<Fd:=U;have er:(decide (x.1=y.1)&&(decide (x.2=y.2)&&ab))=decide (x=y):=by
   rw[Bool.and_true,Dw,Dg,decide_eq_true_eq,decide_eq_true_eq,decide_eq_true_eq,Prod.ext_iff]
  refine V2 (Ky U) D B l C O t (r:=decide (x.1=y.1)&&(decide (x.2=y.2)&&ab)) ?_ (λe=>by rw[er,same e];simp) (by rw[er];exact h);rw[L,N];refine .cons (λE W Q' _ q=>(bR prog w).eqBool z V q) (.cons (λE W Q' es q=>?_) (ER e7 f7));exact wpAny_eqBool_tuple hu1 (by rw[es];exact H) (by rw[es];exact f6) q
 quiet:=λ{A E s k a Q} hk h=>by
  let⟨o,items,n,v,G,ts,D,B,l,L,z,H,e7⟩:=hk;have I:s.TypeIs (.ref a) "tuple":=⟨o,D,B⟩;unfold Vb;refine Aa (Hw I Kq.lookup ?_)
  try dsimp only
  refine Aa (Gj I Je ?_);rw[Vf ∅]
  try dsimp only
  refine Aa (Fb D l (Aa ?_));show Bk _ _ (forIn items _ _) _ _ _;rw[<-Kb];refine Jw _ (λrest q W=>q.1=ae/\W=s/\∀u∈rest,Sv u=ab\/u=.ref G) _ ?_ ?_ _ _ ⟨rfl,rfl,λu U=>?_⟩
  .rintro u rest q W ⟨Z,rfl,g⟩;have next:∀R∈rest,Sv R=ab\/R=.ref G:=λR hu'=>g R (Bj _ hu');rcases g u Bl with c|rfl
   .rw[eqIsQuiet_byValue _ c];refine Aa (Ag ?_);rw[Vf ∅];exact Ag ⟨rfl,rfl,next⟩
   .refine Aa (V3 H ?_);rw[Vf ∅];exact Ag ⟨rfl,rfl,next⟩
  .rintro⟨T,p⟩ W ⟨Z,rfl,_⟩;simp only at Z;subst Z;exact Ag h
  .rw[L]at U;rcases Au.mp U with rfl|U
   .exact .inl ((bR prog w).byValue _ _ z)
   .rcases Au.mp U with rfl|U
    .exact .inr rfl
    .exact .inl (e7.byValue u U)
end
section
open PySem.W
section
variable {prog:Bc}{w:Bo}{A:Cs}{E:Ae->Aj->Prop}{s:Aj}
theorem t7(v:Bool){i ep:Nat}{Q:Option Ae->Aj->Prop}(f:cond v (s.heap.IsValIter it d i es.size ep) (s.heap.IsKeyIter it d i es.size ep))(c:s.heap.get? d=aa D)(M:D.data=.dict es ep)(hi:i<es.size)(K:∀h',cond v (h'.IsValIter it d (i+1) es.size ep) (h'.IsKeyIter it d (i+1) es.size ep)->Ek it s.heap h'->Q (aa (cond v es[i].val es[i].key)) {s with heap:=h'}):Bk (Dj prog w) A (Hi (.ref it)) Q E s:=by
 cases v
 all_goals
  dsimp only[cond]at f K⊢;have I:=f.typeIs;let⟨o,S,hc,hd⟩:=id f;have g:¬((Value.ref d==Value.none)=ab):=Bf
  first
   | have up:(s.heap.update it (Sj (·.setIfInBounds 1 (He ((i:Int)+1))))).IsKeyIter it d (i+1) es.size ep:=
    ⟨_,Hk _ S (Og (Il hd _)),(Qb ..).trans hc,by rw[Il hd];simp[He]⟩
   | have up:(s.heap.update it (Sj (·.setIfInBounds 1 (He ((i:Int)+1))))).IsValIter it d (i+1) es.size ep:=
    ⟨_,Hk _ S (Og (Il hd _)),(Qb ..).trans hc,by rw[Il hd];simp[He]⟩
  have a:=up.typeIs (s:={s with heap:=s.heap.update it (Sj (·.setIfInBounds 1 (He ((i:Int)+1))))});unfold Hi
  first
   | refine Aa (Gz (Cu (name:=Bs "__next__") I Fx (Cm Fx I PySem.F.entry_dict_keyiterator_next ?_ (PySem.F.args_dict_keyiterator_next_1 _))))
   | refine Aa (Gz (Cu (name:=Bs "__next__") I Fo (Cm Fo I PySem.F.entry_dict_valueiterator_next ?_ (PySem.F.args_dict_valueiterator_next_1 _))))
  refine Aa (Ag (Aa (Aa ?_)))
  first
   | refine Aa (Ir I (Ag ?_))|refine Aa (Kk I (Ag ?_))
   | refine Aa (Iq I (Ag ?_))|refine Aa (Kj I (Ag ?_))
  refine Aa (wpAny_fieldsOf S hd ?_)
  first
   | rw[show Gs "dict_keyiterator" = ac by decide]
   | rw[show Gs "dict_valueiterator" = ac by decide]
  rw[Vf Bf];show Bk _ _ (if (Value.ref d==Value.none)=ab then _ else _) _ _ _;rw[Vf g];refine Aa (Ag (Aa (Hy c M ?_)));rw[Vf (by simp)];refine Aa (Ag (Aa (Oy c M ?_)));rw[Vf (by simp)];refine Ag ?_;simp only[show ¬((i:Int)<0) by lia,if_false,De,Array.getElem?_eq_getElem hi];refine Aa ?_
  first
   | refine Aa (Ir I (Ag ?_))|refine Aa (Kk I (Ag ?_))
   | refine Aa (Iq I (Ag ?_))|refine Aa (Kj I (Ag ?_))
  first
   | refine Aa (wpAny_isOneOf_keyiter I ?_)
   | refine Aa (Pb I ?_)
  show Bk _ _ (setField (.ref it) 1 (He ((i:Int)+1))>>=_) _ _ _
  first
   | refine Aa (Nb S hd (by simp) (Aa (Dn (Aa (wpAny_isOneOf_keyiter a ?_)))))
   | refine Aa (Nb S hd (by simp) (Aa (Dn (Aa (Pb a (Aa (Pb a ?_)))))))
  first
   | show Bk _ _ (pure es[i].key) _ _ _
   | show Bk _ _ (pure es[i].val) _ _ _
  exact Ag (Ag ⟨_,rfl,Ag (K _ up (Ge ..))⟩)
theorem t9(v:Bool){i ep:Nat}{Q:Option Ae->Aj->Prop}(hh:A.handled=ae)(f:cond v (s.heap.IsValIter it d i es.size ep) (s.heap.IsKeyIter it d i es.size ep))(c:s.heap.get? d=aa D)(M:D.data=.dict es ep)(hi:es.size<=i)(K:∀h',Ol it s.heap h'->Q ae {s with heap:=h'}):Bk (Dj prog w) A (Hi (.ref it)) Q E s:=by
 cases v
 all_goals
  dsimp only[cond]at f K⊢;have I:=f.typeIs;let⟨o,S,hc,hd⟩:=id f;have g:¬((Value.ref d==Value.none)=ab):=Bf;unfold Hi
  first
   | refine Aa (Gz (Cu (name:=Bs "__next__") I Fx (Cm Fx I PySem.F.entry_dict_keyiterator_next ?_ (PySem.F.args_dict_keyiterator_next_1 _))))
   | refine Aa (Gz (Cu (name:=Bs "__next__") I Fo (Cm Fo I PySem.F.entry_dict_valueiterator_next ?_ (PySem.F.args_dict_valueiterator_next_1 _))))
  refine Aa (Ag (Aa (Aa ?_)))
  first
   | refine Aa (Ir I (Ag ?_))|refine Aa (Kk I (Ag ?_))
   | refine Aa (Iq I (Ag ?_))|refine Aa (Kj I (Ag ?_))
  refine Aa (wpAny_fieldsOf S hd ?_)
  first
   | rw[show Gs "dict_keyiterator" = ac by decide]
   | rw[show Gs "dict_valueiterator" = ac by decide]
  rw[Vf Bf];show Bk _ _ (if (Value.ref d==Value.none)=ab then _ else _) _ _ _;rw[Vf g];refine Aa (Ag (Aa (Hy c M ?_)));rw[Vf (by simp)];refine Aa (Ag (Aa (Oy c M ?_)));rw[Vf (by simp)];refine Ag ?_;simp only[show ¬((i:Int)<0) by lia,if_false,De,Array.getElem?_eq_none hi];refine Aa ?_
  first
   | refine Aa (Ir I (Ag ?_))|refine Aa (Kk I (Ag ?_))
   | refine Aa (Iq I (Ag ?_))|refine Aa (Kj I (Ag ?_))
  show Bk _ _ (setField (.ref it) 0 .none>>=_) _ _ _;refine Aa (Nb S hd (by simp) ?_);show Bk _ _ (Tt (.type "StopIteration") []>>=_) _ _ _;refine Aa ?_;simp only[Tt,newTuple];refine Aa (Dh (Aa (m:=Lh _ _) (Jp (a:=Value.none) (by first|rfl|(simp only[Lh];rfl)) (Dh ?_ (by size_fits)))) (by size_fits));simp only[raiseNew];refine Aa (Ta ?_);rw[show A.in1.handled=ae from hh];refine Aa (Ag (Uh ?_));refine Aa (Gj (T:="StopIteration") (b:=ab) ⟨_,Bb _ rfl,rfl⟩ Pm ?_);exact Ag (K _ (((Ge ..).extBut.push _).push _))
theorem V5(hh:A.handled=ae)(I d:An)(j:d≠I)(es:Array Eg)(ep:Nat):
  Walks prog w A I [I,d] [I] es.size (λi v=>∃e,es[i]? = aa e/\v=e.key) (λi h=>h.IsKeyIter I d i es.size ep/\∃D,h.get? d=aa D/\D.data=.dict es ep) where
 sub:=λb G=>by simp at G;simp[G]
 frame:=λ_ _ _ st hk=>⟨st.1.at λo e=>hk I (by simp) o e,let ⟨D,O,L⟩:=st.2;⟨D,hk d (by simp) D O,L⟩⟩
 item:=λi s Q E hi st K=>by
  let⟨D,O,L⟩:=st.2;refine t7 ac st.1 O L hi λh' a u=>?_;exact K _ h' s.toks ⟨es[i],by simp[hi],rfl⟩ ⟨a,D,u.extBut d D j O,L⟩ λb o G e=>u.extBut b o (λh=>G (by simp[h])) e
 done:=λs Q E st K=>by
  let⟨D,O,L⟩:=st.2;exact t9 ac hh st.1 O L (Ai _) λh' x=>K h' s.toks λb o G e=>x b o (λh=>G (by simp[h])) e
 self:=λ_ _ _ _ st K=>Pj st.1 K
theorem V6(hh:A.handled=ae)(I d:An)(j:d≠I)(es:Array Eg)(ep:Nat):
  Walks prog w A I [I,d] [I] es.size (λi v=>∃e,es[i]? = aa e/\v=e.val) (λi h=>h.IsValIter I d i es.size ep/\∃D,h.get? d=aa D/\D.data=.dict es ep) where
 sub:=λb G=>by simp at G;simp[G]
 frame:=λ_ _ _ st hk=>⟨st.1.at λo e=>hk I (by simp) o e,let ⟨D,O,L⟩:=st.2;⟨D,hk d (by simp) D O,L⟩⟩
 item:=λi s Q E hi st K=>by
  let⟨D,O,L⟩:=st.2;refine t7 ab st.1 O L hi λh' a u=>?_;exact K _ h' s.toks ⟨es[i],by simp[hi],rfl⟩ ⟨a,D,u.extBut d D j O,L⟩ λb o G e=>u.extBut b o (λh=>G (by simp[h])) e
 done:=λs Q E st K=>by
  let⟨D,O,L⟩:=st.2;exact t9 ab hh st.1 O L (Ai _) λh' x=>K h' s.toks λb o G e=>x b o (λh=>G (by simp[h])) e
 self:=λ_ _ _ _ st K=>wpAny_pyIter_valiter st.1 K
def gK(h:Ds)(a:An)(es:Array Eg)(ep:Nat):Prop:=∃o,h.get? a=aa o/\o.ExactDict/\o.data=.dict es ep
theorem gK.typeIs{ep:Nat}(h:gK s.heap d es ep):s.TypeIs (.ref d) "dict":=let ⟨o,ho,hc,_⟩:=h;⟨o,ho,hc.1⟩
theorem gK.at{ep:Nat}(x:gK h d es ep)(e:∀o,h.get? d=aa o->h'.get? d=aa o):gK h' d es ep:=let ⟨o,ho,r⟩:=x;⟨o,e o ho,r⟩
theorem gK.lt{ep:Nat}(x:gK h d es ep):d<h.objs.size:=let ⟨_,ho,_⟩:=x;Bg ho
theorem uA{d:An}{es:Array Eg}{ep:Nat}{Q:Ae->Aj->Prop}(hd:(d==Fn)=ac)(P:gK s.heap d es ep)(K:Q (.ref ⇑s) {s with heap:=s.heap.push {cls:=.type "dict_keyiterator",data:=.fields #[.ref d,.int 0 0,.int es.size 0,.int ep 0]}}):Bk (Dj prog w) A (Ro (.ref d)) Q E s:=by
 have I:=P.typeIs;let⟨o,S,hc,a⟩:=P;refine Rb I PySem.F.slot_dict_iter (Cm PySem.F.slot_dict_iter I PySem.F.entry_dict_iter ?_ (PySem.F.args_dict_iter_1 _));unfold Ha.«dict.__iter__»;refine Aa ?_;unfold Builtin.Dict.dictSlotNone;refine Aa (Gx I (Ag ?_));show Bk _ _ (Ka d>>=_) _ _ _;unfold Ka;rw[Vf (by rw[hd];exact Bf)];refine Aa (Ag (Aa (Hy S a (Aa (Oy S a ?_)))));refine Aa (Dh (Ag ⟨_,rfl,"dict_keyiterator",_,⟨_,Bb _ rfl,rfl⟩,Fx.lookup,?_⟩));simpa [He] using K
theorem V7{ep:Nat}{Q:Ae->Aj->Prop}(c:s.heap.IsValuesView v d)(P:gK s.heap d es ep)(K:Q (.ref ⇑s) {s with heap:=s.heap.push {cls:=.type "dict_valueiterator",data:=.fields #[.ref d,.int 0 0,.int es.size 0,.int ep 0]}}):Bk (Dj prog w) A (Ro (.ref v)) Q E s:=by
 have I:=c.typeIs;let⟨N,b,f,e⟩:=id c;let⟨o,S,hc,a⟩:=P;refine Rb I PySem.F.slot_dict_values_iter (Cm PySem.F.slot_dict_values_iter I PySem.F.entry_dict_values_iter ?_ (PySem.F.args_dict_values_iter_1 _));unfold Ha.«dict_values.__iter__»;refine Aa (Ag (Aa ?_));unfold Builtin.Dict_items.dictOf;refine Aa (Dk b e (x:=.ref d) rfl (Ag (Aa ?_)));unfold Builtin.Dict_items.newIterator;refine Aa (Hy S a (Aa (Oy S a ?_)));simp only[show Gs "dict_valueiterator" = ac by decide,Fg,if_false];refine Dh (Ag ⟨_,rfl,"dict_valueiterator",_,⟨_,Bb _ rfl,rfl⟩,Fo.lookup,?_⟩);simpa [He] using K
theorem ES{ep:Nat}(lo:(d==Fn)=ac):KdlSrc prog w "dict" d d es.size (λi v=>∃e,es[i]? = aa e/\v=e.key) (λh=>gK h d es ep) where
 type:=λ_ P=>P.typeIs
 there:=λ_ P=>⟨P.lt,P.lt⟩
 keep:=λ_ _ P hk=>P.at λo e=>hk d (.inl rfl) o e
 notList:=by decide
 notTuple:=by decide
 hint:=λ_ _ _ _ P Z=>kdl_hint_dict P.typeIs Z
 iter:=λ_ _ hh P=>⟨_,_,(λ_ _ Z=>uA lo P Z),V5 hh _ d (Br P.lt) es ep,⟨⟨_,Bb _ rfl,rfl,rfl⟩,let ⟨o,ho,_,hd⟩:=P;⟨o,Ah _ ho,hd⟩⟩⟩
theorem V8{ep:Nat}:KdlSrc prog w "dict_values" r d es.size (λi v=>∃e,es[i]? = aa e/\v=e.val) (λh=>h.IsValuesView r d/\gK h d es ep) where
 type:=λ_ P=>P.1.typeIs
 there:=λ_ P=>⟨let ⟨_,ho,_⟩:=P.1;Bg ho,P.2.lt⟩
 keep:=λ_ _ P hk=>⟨let ⟨o,ho,x⟩:=P.1;⟨o,hk r (.inl rfl) o ho,x⟩,P.2.at λo e=>hk d (.inr rfl) o e⟩
 notList:=by decide
 notTuple:=by decide
 hint:=λ_ _ _ _ P Z=>kdl_hint_values P.1.typeIs Z
 iter:=λ_ _ hh P=>⟨_,_,(λ_ _ Z=>V7 P.1 P.2 Z),V6 hh _ d (Br P.2.lt) es ep,⟨⟨_,Bb _ rfl,rfl,rfl⟩,let ⟨o,ho,_,hd⟩:=P.2;⟨o,Ah _ ho,hd⟩⟩⟩
end
end
end L2
namespace PySem
namespace Rv
open L2
theorem V9:TypeCalled "reversed" "reversed.__new__" "object.__init__":=
 ⟨by decide +kernel,by decide +kernel,⟨_,_,F.mro_reversed⟩,madeBy_type F.mro_reversed F.lookup_reversed_new (by decide +kernel),by decide +kernel,F.sub_reversed_self,
  .of (owner:="object") (n:="__init__") (by rw[Jb,Gy];kernel_rfl) (by decide +kernel) (by decide +kernel) (by decide +kernel) (by first|exact .inl (by decide +kernel)|exact .inr (by decide +kernel)) (by rw[Pk];kernel_rfl)⟩
theorem WA:Oo (.type "tuple") "__reversed__" = pure ae:=by rw[Jb,Gy];kernel_rfl
def rvObj(t:An)(i:Int):Lv:={cls:=.type "reversed",data:=.fields #[.ref t,He i]}
theorem WB(t:An)(items:Array Ae):
  Meets (Ha.«reversed.__new__» ⟨[.type "reversed",.ref t],[]⟩) (λ_ R s=>s.heap.IsTuple t items/\items.size<=Ax/\
   ∀n,R (.ok (.ret (.ref ⇑s))) {s with toks:=n,heap:=s.heap.push (rvObj t ((items.size:Int)-1))}):=
 .of_wp λprog w A R s h=>by
  let⟨N,g,d,tk,os⟩:=s;let⟨ht,hz,h⟩:=h;have q:=Heap.IsTuple.typeIs (s:=⟨N,g,d,tk,os⟩) ht;unfold Ha.«reversed.__new__»;refine Aa (Jp (newClass_reversed _) (by
   dsimp only;refine Aa (Jp (a:=()) rfl (Aa (Jp (a:=()) (by first|rfl|kernel_rfl) ?_)))
   try dsimp only
   refine Aa (Hw q WA (Aa ?_))
   wp_delta
   refine Aa (Gj (T:="tuple") (b:=ac) q (by rw[Pk];kernel_rfl) ?_)
   try dsimp only
   rw[Vf ∅];refine Aa (Hw q F.slot_tuple_getitem.lookup ?_);generalize c:("tuple.__getitem__" : String)=id0;dsimp only;rw[Vg (by subst c;decide +kernel)];refine Ag ?_;rw[Vf ∅];refine Aa (len_tuple (s:=⟨N,g,d,tk,os⟩) (t:=t) (items:=items) ht (by have:=lU;lia) (Aa (Jp (a:=aa (items.size:Int)) rfl (Aa (m:=Builtin.SmallTypes.newRecord _ _) ?_))));unfold Builtin.SmallTypes.newRecord;dsimp only;exact Dh (Ag ⟨_,rfl,h _⟩) (by first|size_fits|decide)))
section
variable {prog:Bc}{w:Bo}{A:Cs}{E:Ae->Aj->Prop}{s:Aj}
theorem call_rev{Q:Ae->Aj->Prop}(ht:s.heap.IsTuple t items)(hz:items.size<=Ax)(h:∀n,Q (.ref ⇑s) {s with toks:=n,heap:=s.heap.push (rvObj t ((items.size:Int)-1))}):Bk (Dj prog w) A (call (.type "reversed") [.ref t]) Q E s:=
 callType_new V9 ∅ (F.typeCall_reversed_1 _) (F.newCall_reversed_1 _) (λobj=>F.args_object_init_2 obj _) F.entry_reversed_new (WB t items) ⟨ht,hz,λn=>⟨⟨_,Bb _ rfl,rfl⟩,h n⟩⟩
theorem qW:Slot "reversed" "__next__" "reversed.__next__":=
 .of (owner:="reversed") (n:="__next__") (by rw[Jb,Gy];kernel_rfl) (by decide +kernel) (by decide +kernel) (by decide +kernel) (by first|exact .inl (by decide +kernel)|exact .inr (by decide +kernel)) (by rw[Pk];kernel_rfl)
theorem ET:Slot "reversed" "__iter__" "reversed.__iter__":=
 .of (owner:="reversed") (n:="__iter__") (by rw[Jb,Gy];kernel_rfl) (by decide +kernel) (by decide +kernel) (by decide +kernel) (by first|exact .inl (by decide +kernel)|exact .inr (by decide +kernel)) (by rw[Pk];kernel_rfl)
theorem EU:Uk table "reversed.__next__" = aa Ha.«reversed.__next__»:=entryFor_of_tree (by kernel_rfl)
theorem WC:Uk table "reversed.__iter__" = aa Ha.«dict_keyiterator.__iter__»:=
 entryFor_alias (id':="dict_keyiterator.__iter__") (by kernel_rfl) (by first|rfl|decide +kernel) (by decide +kernel) (by kernel_rfl)
theorem EV:Manifest.owners.lookup (String.ofList ['d','e','s','r','e','v','e','r'].reverse)=aa Manifest.sig_reversed:=by kernel_rfl
theorem EW(a:Ae):argsOk "reversed.__next__" ⟨[a],[]⟩:=by
 unfold argsOk;rw[signature?_of (id:="reversed.__next__") (n:=['_','_','t','x','e','n','_','_']) (o:=['d','e','s','r','e','v','e','r']) (by kernel_rfl) EV]
 kernel_rfl
theorem WD(a:Ae):argsOk "reversed.__iter__" ⟨[a],[]⟩:=by
 unfold argsOk;rw[signature?_of (id:="reversed.__iter__") (n:=['_','_','r','e','t','i','_','_']) (o:=['d','e','s','r','e','v','e','r']) (by kernel_rfl) EV]
 kernel_rfl
abbrev IsRv(h:Ds)(a t:An)(i:Int):Prop:=h.get? a=aa {cls:=.type "reversed",dict:=ae,data:=.fields #[.ref t,He i],slots:=#[]}
theorem oH{i:Int}(x:IsRv s.heap a t i):s.TypeIs (.ref a) "reversed":=⟨_,x,rfl⟩
theorem next_item{a t:An}{i:Nat}{items:Array Ae}{x:Ae}{Q:Option Ae->Aj->Prop}(T:IsRv s.heap a t i)(ht:s.heap.IsTuple t items)(J:items[i]? = aa x)(hi:(i:Int)<2 ^ 63)(H:∀h' tk,IsRv h' a t ((i:Int)-1)->Ek a s.heap h'->Q (aa x) {s with heap:=h',toks:=tk}):Bk (Dj prog w) A (Hi (.ref a)) Q E s:=by
 unfold Hi;refine Aa (Gz (Cu (name:=Bs "__next__") (oH T) qW (Cm qW (oH T) EU ?_ (EW _))));unfold Ha.«reversed.__next__»;refine Aa (Jp (a:=(Value.ref a,[])) rfl ?_);dsimp only;refine Aa (Dk T rfl (x:=.ref t) rfl (Aa (Dk T rfl (x:=He (i:Int)) rfl ?_)));show Bk _ _ (if (i:Int)<0 then _ else _) _ _ _;rw[Vf (by lia)];refine Aa (Hw ht.typeIs F.slot_tuple_getitem.lookup ?_);rw[Vf ∅];have K:i<items.size:=(Jc.mp J).1;have b:gX items.size (i:Int)=aa i:=by unfold gX;rw[Vg (by lia),Vg (by lia),De]
 refine Aa (wpAny_mkInt (Aa (Gz (getItem_tuple (j:=i) (x:=x) ht (by lia) hi (xX b).1 J ?_))));dsimp only;refine Aa (Dk (s:={s with toks:=s.toks+1}) T rfl (x:=He (i:Int)) rfl ?_);exact Aa (Fl (s:={s with toks:=s.toks+1}) T (by simp) λO N sb=>Ag ⟨x,rfl,Ag (H O _ N sb)⟩)
theorem next_end{a t:An}{Q:Option Ae->Aj->Prop}(hh:A.handled=ae)(V:IsRv s.heap a t (-1))(K:∀h',Ol a s.heap h'->Q ae {s with heap:=h'}):Bk (Dj prog w) A (Hi (.ref a)) Q E s:=by
 unfold Hi;refine Aa (Gz (Cu (name:=Bs "__next__") (oH V) qW (Cm qW (oH V) EU ?_ (EW _))));unfold Ha.«reversed.__next__»;refine Aa (Jp (a:=(Value.ref a,[])) rfl ?_);dsimp only;refine Aa (Dk V rfl (x:=.ref t) rfl (Aa (Dk V rfl (x:=He (-1)) rfl ?_)));show Bk _ _ (if (-1:Int)<0 then _ else _) _ _ _;rw[Vg ∅];refine Aa (Ie (Aa ?_))
 wp_delta
 refine Aa (Fl V (by simp) λO N d=>Fl N (by simp) λL Y f=>Aa ?_);unfold Iz;refine Aa (m:=Tt (.type "StopIteration") []) ?_;simp only[Tt,newTuple];refine Aa (Dh (Aa (m:=Lh _ _) (Jp (a:=Value.none) (by first|rfl|(simp only[Lh];rfl)) (Dh ?_ (by size_fits)))) (by size_fits));simp only[raiseNew];refine Aa (Ta ?_);rw[show A.in1.handled=ae from hh];refine Aa (Ag (Uh (Aa ?_)));refine Gj (T:="StopIteration") (b:=ab) ⟨_,Bb _ rfl,rfl⟩ Pm (Ag (K _ λc o hc e=>?_));exact Ah _ (Ah _ (f.extBut _ _ hc (d.extBut _ _ hc e)))
theorem iter_self{i:Int}{Q:Ae->Aj->Prop}(T:IsRv s.heap a t i)(h:Q (.ref a) s):Bk (Dj prog w) A (Ro (.ref a)) Q E s:=by
 refine Rb (oH T) ET (Cm ET (oH T) WC ?_ (WD _));show Bk _ _ (ret (.ref a)) _ _ s;exact Ag ⟨_,rfl,"reversed",_,oH T,qW.lookup,h⟩
end
end Rv
end PySem
namespace L2
section
variable {X:Cx}{a:Cg}{ta:TA}{p p2 pos pos2:Hu}
theorem WE:Cr "reversed" = aa (.type "reversed"):=by decide +kernel
end
end L2
namespace PySem
namespace Zt
open L2
section
variable {prog:Bc}{w:Bo}{A:Cs}{E:Ae->Aj->Prop}{s:Aj}
theorem WG{O:Type}{Q:O->Aj->Prop}(hh:A.handled=ae)(hE:∀h' e,(∀c o,s.heap.get? c=aa o->h'.get? c=aa o)->(∃o,h'.get? e=aa o/\o.cls=.type "StopIteration")->E (.ref e) {s with heap:=h'}):
  Bk (Dj prog w) A (Iz:Sg O) Q E s:=by
 unfold Iz;refine Aa (m:=Tt (.type "StopIteration") []) ?_;simp only[Tt,newTuple];refine Aa (Dh (Aa (m:=Lh _ _) (Jp (a:=Value.none) (by first|rfl|(simp only[Lh];rfl)) (Dh ?_ (by size_fits)))) (by size_fits));simp only[raiseNew];refine Aa (Ta ?_);rw[hh];refine Aa (Ag (Uh (hE _ _ (λc o e=>Ah _ (Ah _ e)) ⟨_,Bb _ rfl,rfl⟩)))
structure eY(prog:Bc)(w:Bo)(i l:An)(xs:Array Ae)(St:Nat->Ds->Prop):Prop where
 keep:∀k h h',St k h->(∀c,c=i\/c=l->∀o,h.get? c=aa o->h'.get? c=aa o)->St k h'
 there:∀k h,St k h->i<h.objs.size
 item:∀(A:Cs) (E:Ae->Aj->Prop) (s:Aj) (k:Nat) (x:Ae) (Q:Ae->Aj->Prop),St k s.heap->xs[k]? = aa x->(∀h',St (k+1) h'->Ek i s.heap h'->Q x {s with heap:=h'})->
  Bk (Dj prog w) A (Cy (.ref i)) Q E s
 stop:∀(A:Cs) (E:Ae->Aj->Prop) (s:Aj) (k:Nat) (Q:Ae->Aj->Prop),A.handled=ae->St k s.heap->xs[k]? = ae->
  (∀h' e,Ol i s.heap h'->(∃o,h'.get? e=aa o/\o.cls=.type "StopIteration")->E (.ref e) {s with heap:=h'})->Bk (Dj prog w) A (Cy (.ref i)) Q E s
theorem EX(i l:An)(j:l≠i)(xs:Array Ae):eY prog w i l xs (λk h=>h.IsListIter i l k/\h.IsList l xs) where
 keep:=λk h h' x hk=>⟨x.1.at λo e=>hk i (.inl rfl) o e,x.2.at λo e=>hk l (.inr rfl) o e⟩
 there:=λk h x=>by let⟨_,e,_⟩:=x.1;exact Bg e
 item:=λA E s k x Q st J K=>wpAny_nextOf_list_item st.1 st.2 J λh' a b=>K h' ⟨a,st.2.at λo e=>(b.2 l j).trans e⟩ b
 stop:=λA E s k Q hh st J H=>wpAny_nextOf_list_end hh st.1 st.2 J λh' e a b=>H h' e a b
theorem side_tuple(i l:An)(hne:l≠i)(xs:Array Ae):eY prog w i l xs (λk h=>h.IsTupleIter i l k/\h.IsTuple l xs) where
 keep:=λk h h' x hk=>by
  obtain⟨⟨o,e,r⟩,⟨u,g,q⟩⟩:=x;exact⟨⟨o,hk i (.inl rfl) o e,r⟩,⟨u,hk l (.inr rfl) u g,q⟩⟩
 there:=λk h x=>by let⟨_,e,_⟩:=x.1;exact Bg e
 item:=λA E s k x Q st hx hQ=>by
  obtain⟨⟨o,ho,hc,hd⟩,⟨u,hu,hcu,n,hdu⟩⟩:=st;have ty:s.TypeIs (.ref i) "tuple_iterator":=⟨o,ho,hc⟩;unfold Cy;refine Aa (Cu (name:=Bs "__next__") ty F.slot_tuple_iterator_next (Cm F.slot_tuple_iterator_next ty F.entry_tuple_iterator_next ?_ (F.args_tuple_iterator_next_1 _)));show Bk _ _ (Qg (.ref i) 0>>=λq=>_) _ _ _;refine Aa (Dk ho hd (x:=.ref l) rfl ?_);show Bk _ _ (if (Value.ref l==Value.none)=ab then _ else _) _ _ s;rw[Vf (show ¬(Value.ref l==Value.none)=ab from λz=>nomatch z)];show Bk _ _ (Qg (.ref i) 1>>=λq=>_) _ _ _;refine Aa (Dk ho hd (x:=.int k 0) rfl ?_);show Bk _ _ (seqItems? (.ref l)>>=λq=>_) _ _ _;refine Aa (Fb hu hdu ?_);simp only[De,hx];refine Aa (Nb ho hd (by simp) (Ag ⟨x,rfl,Ag (hQ _ ⟨⟨_,Hk _ ho (Og (Il hd _)),(Qb ..).trans hc,?_⟩,⟨u,?_,hcu,n,hdu⟩⟩ (Ge ..))⟩))
  .rw[Il hd];simp[He]
  .exact(Kv _ _ (Bx hne)).trans hu
 stop:=λA E s k Q hh st hx hE=>by
  obtain⟨⟨o,ho,hc,hd⟩,⟨u,hu,hcu,n,hdu⟩⟩:=st;have ty:s.TypeIs (.ref i) "tuple_iterator":=⟨o,ho,hc⟩;unfold Cy;refine Aa (Cu (name:=Bs "__next__") ty F.slot_tuple_iterator_next (Cm F.slot_tuple_iterator_next ty F.entry_tuple_iterator_next ?_ (F.args_tuple_iterator_next_1 _)));show Bk _ _ (Qg (.ref i) 0>>=λq=>_) _ _ _;refine Aa (Dk ho hd (x:=.ref l) rfl ?_);show Bk _ _ (if (Value.ref l==Value.none)=ab then _ else _) _ _ s;rw[Vf (show ¬(Value.ref l==Value.none)=ab from λz=>nomatch z)];show Bk _ _ (Qg (.ref i) 1>>=λq=>_) _ _ _;refine Aa (Dk ho hd (x:=.int k 0) rfl ?_);show Bk _ _ (seqItems? (.ref l)>>=λq=>_) _ _ _;refine Aa (Fb hu hdu ?_);simp only[De,hx];refine Aa (Ie (Aa (Nb ho hd (by simp) (WG hh λh' e hk he=>hE h' e (λc q hc' g=>hk c q ((Kv _ _ (Bx hc')).trans g)) he))))
structure Apart(z TI TO i1 i2 l1 l2:An):Prop where
 nd : [z,TI,TO,i1,i2].Nodup
 a:l1≠z/\l1≠TI/\l1≠TO/\l1≠i1/\l1≠i2
 b:l2≠z/\l2≠TI/\l2≠TO/\l2≠i1/\l2≠i2
variable {z TI TO i1 i2 l1 l2:An}{xs ys:Array Ae}{S1 S2:Nat->Ds->Prop}
theorem item{k:Nat}{Q:Ae->Aj->Prop}(D:Apart z TI TO i1 i2 l1 l2)(r:eY prog w i1 l1 xs S1)(W2:eY prog w i2 l2 ys S2)(hz:Qn s.heap z TI TO .none)(hI:Hv s.heap TI (.ref i1) (.ref i2))(hO:Hv s.heap TO a b)(O:S1 k s.heap)(L:S2 k s.heap)(J:xs[k]? = aa x)(f:ys[k]? = aa y)(K:∀h',Qn h' z TI TO (He ⇑s)->Hv h' TO x y->S1 (k+1) h'->S2 (k+1) h'->Hv h' ⇑s x y->(∀c o,c≠z->c≠TO->c≠i1->c≠i2->s.heap.get? c=aa o->h'.get? c=aa o)->Q (.ref ⇑s) {s with heap:=h'}):
  Bk (Dj prog w) A (Ha.«zip.__next__» ⟨[.ref z],[]⟩) (λfin W=>∃v,fin=.done (.ret v)/\Q v W) E s:=by
 have nd:=D.nd;simp only[Ca,Au,Em,or_false,not_or,not_false_eq_true,Dx,and_true]at nd;obtain⟨⟨zI,zO,U,R⟩,⟨IO,M,i⟩,⟨O1,O2⟩,n12⟩:=nd;let⟨F,aI,aO,l,P⟩:=D.a;let⟨bz,bI,bO,I,p⟩:=D.b;show Bk _ _ (Qg (.ref z) 2>>=λq=>_) _ _ _;refine Aa (Dk hz rfl (x:=.bool ac) rfl ?_);show Bk _ _ (Qg (.ref z) 3>>=λq=>_) _ _ _;refine Aa (Dk hz rfl (x:=.ref TI) rfl (Aa (Fb hI rfl ?_)));show Bk _ _ (Cv (.ref z)>>=λq=>_) _ _ _;refine Aa ?_;unfold Cv;refine Aa (Dk hz rfl (x:=.none) rfl (Ag ?_));simp only[if_true];refine Aa (Ie (Aa (Dk hz rfl (x:=.ref TO) rfl (Aa (Fl hz (by simp) λG d g=>Aa ?_)))));simp only[Le,List.zipIdx_nil,Jz,Oi];have V:∀c,c=i1\/c=l1->c≠z/\c≠TO/\c≠i2:=λc hc=>by
  rcases hc with rfl|rfl
  .exact⟨Bx U,Bx O1,n12⟩
  .exact⟨F,aO,P⟩
 have B:∀c,c=i2\/c=l2->c≠z/\c≠TO/\c≠i1:=λc hc=>by
  rcases hc with rfl|rfl
  .exact⟨Bx R,Bx O2,Bx n12⟩
  .exact⟨bz,bO,I⟩
 refine Aa (Aa (Qf ?_));show Bk _ _ (Cy (.ref i1)>>=λq=>_) _ _ _;refine Aa (r.item _ _ {s with heap:=G} k x _ (r.keep k _ _ O λc hc o e=>g.extBut c o (V c hc).1 e) J λT h C=>Ag ?_);have n:Hv T TO a b:=C.extBut _ _ O1 (g.extBut _ _ (Bx zO) hO);refine Aa (Fb n rfl (Aa (Ph n λZ o3 j=>Aa (Ru (Ag ?_)))))
 replace o3:Hv Z TO x b:=o3
 refine Aa (Aa (Qf ?_));show Bk _ _ (Cy (.ref i2)>>=λq=>_) _ _ _;refine Aa (W2.item _ _ {s with heap:=Z} k y _ (W2.keep k _ _ L λc hc o e=>j.extBut c o (B c hc).2.1 (C.extBut c o (B c hc).2.2 (g.extBut c o (B c hc).1 e))) f λg4 t4 s4=>Ag ?_);have X:Hv g4 TO x b:=s4.extBut _ _ O2 o3;refine Aa (Fb X rfl (Aa (Ph X λg5 u s5=>Aa (Ru (Ag (Ag ?_))))))
 replace u:Hv g5 TO x y:=u
 refine Aa (Fb u rfl (Aa (wpAny_newTuple ?_)));have size5:g5.objs.size=⇑s:=by rw[s5.1,s4.1,j.1,C.1,g.1]
 have z5:Qn g5 z TI TO .ellipsis:=s5.extBut _ _ zO (s4.extBut _ _ R (j.extBut _ _ zO (C.extBut _ _ U d)));have lz:z<g5.objs.size:=Bg z5;refine Aa (m:=Builtin.SmallTypes.ownedTupleHandOut _ _) ?_;unfold Builtin.SmallTypes.ownedTupleHandOut;have z6:Qn (g5.push {cls:=.type "tuple",data:=.seq #[x,y]}) z TI TO .ellipsis:=Ah _ z5;refine Aa (Fl z6 (by simp) λg7 z7 s7=>Fl z7 (by simp) λg8 z8 s8=>Ag ⟨_,rfl,?_⟩);have up:∀c o,c≠z->g5.get? c=aa o->g8.get? c=aa o:=λc o hc e=>s8.extBut _ _ hc (s7.extBut _ _ hc (Ah _ e));have t8:Hv g8 g5.objs.size x y:=s8.extBut _ _ (Ct lz) (s7.extBut _ _ (Ct lz) (Bb _ rfl));have N:S1 (k+1) g8:=r.keep _ _ _ h λc hc o e=>up c o (V c hc).1 (s5.extBut _ _ (V c hc).2.1 (s4.extBut _ _ (V c hc).2.2 (j.extBut _ _ (V c hc).2.1 e)));have Y:S2 (k+1) g8:=W2.keep _ _ _ t4 λc hc o e=>up c o (B c hc).1 (s5.extBut _ _ (B c hc).2.1 e);show Q (.ref g5.objs.size) _
 replace z8:Qn g8 z TI TO (He g5.objs.size):=z8
 rw[size5]at z8 t8⊢;exact K g8 z8 (up _ _ (Bx zO) u) N Y t8 λc o H S t c4 e=>up c o H (s5.extBut _ _ S (s4.extBut _ _ c4 (j.extBut _ _ S (C.extBut _ _ t (g.extBut _ _ H e)))))
theorem stop{k:Nat}{Q:Fin->Aj->Prop}(hh:A.handled=ae)(D:Apart z TI TO i1 i2 l1 l2)(r:eY prog w i1 l1 xs S1)(v:eY prog w i2 l2 ys S2)(hz:Qn s.heap z TI TO .none)(K:Hv s.heap TI (.ref i1) (.ref i2))(hO:Hv s.heap TO a b)(O:S1 k s.heap)(L:S2 k s.heap)(hend:xs[k]? = ae\/ys[k]? = ae)(y:∀h' e,(∀c o,c≠z->c≠TO->c≠i1->c≠i2->s.heap.get? c=aa o->h'.get? c=aa o)->(∃o,h'.get? e=aa o/\o.cls=.type "StopIteration")->E (.ref e) {s with heap:=h'}):
  Bk (Dj prog w) A (Ha.«zip.__next__» ⟨[.ref z],[]⟩) Q E s:=by
 have nd:=D.nd;simp only[Ca,Au,Em,or_false,not_or,not_false_eq_true,Dx,and_true]at nd;obtain⟨⟨zI,zO,U,R⟩,⟨IO,M,i⟩,⟨O1,O2⟩,n12⟩:=nd;let⟨F,aI,aO,W,P⟩:=D.a;let⟨bz,bI,bO,H,I⟩:=D.b;have V:∀c,c=i1\/c=l1->c≠z:=λc hc=>by rcases hc with rfl|rfl;exact Bx U;exact F
 have B:∀c,c=i2\/c=l2->c≠z/\c≠TO/\c≠i1:=λc hc=>by
  rcases hc with rfl|rfl
  .exact⟨Bx R,Bx O2,Bx n12⟩
  .exact⟨bz,bO,H⟩
 show Bk _ _ (Qg (.ref z) 2>>=λq=>_) _ _ _;refine Aa (Dk hz rfl (x:=.bool ac) rfl ?_);show Bk _ _ (Qg (.ref z) 3>>=λq=>_) _ _ _;refine Aa (Dk hz rfl (x:=.ref TI) rfl (Aa (Fb K rfl ?_)));show Bk _ _ (Cv (.ref z)>>=λq=>_) _ _ _;refine Aa ?_;unfold Cv;refine Aa (Dk hz rfl (x:=.none) rfl (Ag ?_));simp only[if_true];refine Aa (Ie (Aa (Dk hz rfl (x:=.ref TO) rfl (Aa (Fl hz (by simp) λG d g=>Aa ?_)))));simp only[Le,List.zipIdx_nil,Jz,Oi];refine Aa (Aa (Qf ?_));show Bk _ _ (Cy (.ref i1)>>=λq=>_) _ _ _;cases J:xs[k]? with
 | none=>
  refine Aa (r.stop _ _ {s with heap:=G} k _ hh (r.keep k _ _ O λc hc o e=>g.extBut c o (V c hc) e) J λT e C Y=>?_);let⟨oe,ge,ce⟩:=Y;have p:Qn T z TI TO .ellipsis:=C _ _ U d;have ez:e≠z:=λu=>by subst u;rw[p]at ge;cases ge;simp at ce
  exact Fl p (by simp) λZ _ j=>y Z e (λc o m _ t _ u=>j.extBut _ _ m (C _ _ t (g.extBut _ _ m u))) ⟨oe,j.extBut _ _ ez ge,ce⟩
 | some x=>
  have f:ys[k]? = ae:=by rcases hend with h|h;rw[J]at h;cases h;exact h
  refine Aa (r.item _ _ {s with heap:=G} k x _ (r.keep k _ _ O λc hc o e=>g.extBut c o (V c hc) e) J λT X C=>Ag ?_);have n:Hv T TO a b:=C.extBut _ _ O1 (g.extBut _ _ (Bx zO) hO);refine Aa (Fb n rfl (Aa (Ph n λZ N j=>Aa (Ru (Ag ?_)))));refine Aa (Aa (Qf ?_));show Bk _ _ (Cy (.ref i2)>>=λq=>_) _ _ _;refine Aa (v.stop _ _ {s with heap:=Z} k _ hh (v.keep k _ _ L λc hc o e=>j.extBut c o (B c hc).2.1 (C.extBut c o (B c hc).2.2 (g.extBut c o (B c hc).1 e))) f λl e s4 Y=>?_);let⟨oe,ge,ce⟩:=Y;have q4:Qn l z TI TO .ellipsis:=s4 _ _ R (j.extBut _ _ zO (C.extBut _ _ U d));have ez:e≠z:=λu=>by subst u;rw[q4]at ge;cases ge;simp at ce
  exact Fl q4 (by simp) λg5 _ s5=>y g5 e (λc o m S t c4 u=>s5.extBut _ _ m (s4 _ _ c4 (j.extBut _ _ S (C.extBut _ _ t (g.extBut _ _ m u))))) ⟨oe,s5.extBut _ _ ez ge,ce⟩
end
end Zt
end PySem
namespace PySem
namespace Zt
open L2
section
variable {prog:Bc}{w:Bo}{A:Cs}{E:Ae->Aj->Prop}{s:Aj}{z TI TO i1 i2 l1 l2:An}{xs ys:Array Ae}{S1 S2:Nat->Ds->Prop}
theorem next_item{k:Nat}{Q:Option Ae->Aj->Prop}(D:Apart z TI TO i1 i2 l1 l2)(r:eY prog w i1 l1 xs S1)(n:eY prog w i2 l2 ys S2)(hz:Qn s.heap z TI TO .none)(j:Hv s.heap TI (.ref i1) (.ref i2))(X:Hv s.heap TO a b)(O:S1 k s.heap)(L:S2 k s.heap)(J:xs[k]? = aa x)(f:ys[k]? = aa y)(K:∀h',Qn h' z TI TO (He ⇑s)->Hv h' TO x y->S1 (k+1) h'->S2 (k+1) h'->Hv h' ⇑s x y->(∀c o,c≠z->c≠TO->c≠i1->c≠i2->s.heap.get? c=aa o->h'.get? c=aa o)->Q (aa (.ref ⇑s)) {s with heap:=h'}):
  Bk (Dj prog w) A (Hi (.ref z)) Q E s:=by
 have ty:s.TypeIs (.ref z) "zip":=⟨_,hz,rfl⟩;unfold Hi;exact Aa (Gz (Cu (name:=Bs "__next__") ty F.slot_zip_next (Cm F.slot_zip_next ty F.entry_zip_next (item D r n hz j X O L J f λh' m S t u q Y=>Ag (K h' m S t u q Y)) (F.args_zip_next_1 _))))
theorem WH{k:Nat}{Q:Option Ae->Aj->Prop}(hh:A.handled=ae)(D:Apart z TI TO i1 i2 l1 l2)(r:eY prog w i1 l1 xs S1)(n:eY prog w i2 l2 ys S2)(hz:Qn s.heap z TI TO .none)(j:Hv s.heap TI (.ref i1) (.ref i2))(X:Hv s.heap TO a b)(O:S1 k s.heap)(L:S2 k s.heap)(f:xs[k]? = ae\/ys[k]? = ae)(K:∀h',(∀c o,c≠z->c≠TO->c≠i1->c≠i2->s.heap.get? c=aa o->h'.get? c=aa o)->Q ae {s with heap:=h'}):Bk (Dj prog w) A (Hi (.ref z)) Q E s:=by
 have ty:s.TypeIs (.ref z) "zip":=⟨_,hz,rfl⟩;unfold Hi;refine Aa (Gz (Cu (name:=Bs "__next__") ty F.slot_zip_next (Cm F.slot_zip_next ty F.entry_zip_next (stop hh D r n hz j X O L f λh' e hk ⟨o,S,hc⟩=>?_) (F.args_zip_next_1 _))));exact Aa (Gj (T:="StopIteration") (b:=ab) ⟨o,S,hc⟩ Pm (Ag (K _ hk)))
end
end Zt
end PySem
namespace L2
theorem WI(n:Nat): [n+4,n+2,n+3,n,n+1].Nodup:=by
 simp only[Ca,Au,Em,or_false,not_or,not_false_eq_true,Dx,and_true];lia
section
variable {X:Cx}
theorem EY:∀{vs:↑Ae} {ks:↑Ay},↥vs=↥ks->(∀(j:Nat) v,vs[j]? = aa v->∃x t,ks[j]? = aa x/\v=.str x t)->StrsAre vs ks
 | [],[],_,_=>.nil
 | [],_::_,e,_=>by simp at e
 | _::_,[],e,_=>by simp at e
 | v::vs,k::ks,e,h=>by
  let⟨x,t,O,rfl⟩:=h 0 v rfl;cases (show k=x by simpa using O);exact .cons k t (EY (by simpa using e) λj v c=>by simpa using h (j+1) v (by simpa using c))
theorem EZ:∀{vs:↑Ae} {ss:↑Ay},StrsAre vs ss->aZ (ss.map V.str) vs
 | _,_,.nil=>.nil
 | _,_,.cons y t r=>.cons ⟨t,rfl⟩ (EZ r)
theorem WJ(hc:X.calm=ab):cN X (.builtin "sorted") (λxs H Q=>∃(d:An) (kvs:↑(aC×V)) (ks:↑Ay),xs=[.ref d]/\H d=aa (.dK kvs)/\kvs.map Eb=ks.map Sum.inr/\↥ks<64/\
  ∀ss:↑Ay,ss.Perm ks->∀p,H p=ae->Q (.ref p) (aL H p (.lst (ss.map V.str)))):=by
 intro B s C H xs us Q I r h;let⟨d,kvs,ks,rfl,hd,hks,N,q⟩:=h;let⟨u,rfl,ru⟩:=vals1 r;cases ru;let⟨hz,F,vs,R,K⟩:=(show bZ X.prog X.w H s.heap d (.dK kvs) from I.hok d _ hd);let⟨ep,g⟩:=K.dictAt;have hl:=↥R;have hkl:↥kvs=↥ks:=by have:=congrArg Ii hks;simpa using this
 refine Calls.call_function_entry kind_sorted plain_sorted entry_sorted (args_sorted1 _) ?_;unfold Ha.«sorted»;refine Aa (m:=checkCount "sorted" 1 1 _) (Ag (Aa (PySem.W.kdu_collect (A:=X.A.in1) (PySem.W.kdl_dict (knd:=bR X.prog X.w) (kvs:=vs) (ep:=ep) F) (I.ok.hd hc) g (by rw[<-hl];exact hz) λh' tk acc hk U=>?_)));have hsz:↥acc.toList=↥ks:=by have O:=U.1;have L:↥acc.toList=acc.size:=Fs;lia
 have Z:StrsAre acc.toList ks:=EY hsz λj v c=>by
  let⟨k,x,J,n⟩:=U.2 j v (by rw[<-Ft];exact c);let⟨y,f⟩:=yL R J;have D:(kvs.map Eb)[j]? = aa k:=by rw[Av,f];rfl
  rw[hks,Av]at D;let⟨z,G,rfl⟩:=Az.mp D;let⟨t,e⟩:=(show RelV (kV (Sum.inr z)) v from t5 n);exact⟨z,t,G,e⟩
 have M:Inv X B C H {s with heap:=h',toks:=tk}:=I.kept (t':=tk) hk;refine Aa (wpAny_newList ?_ (by rw[hsz];lia));have S:(h'.push (seqObj "list" acc.toList.toArray 0)).get? h'.objs.size=aa (seqObj "list" acc.toList.toArray 0):=Bb _ rfl;refine Aa (Dn (Cm slot_list_sort ⟨_,S,rfl⟩ entry_list_sort (list_sort_treeK strKind_oneLt S Z.keysOf (λv1 v2 rest e=>keyKind_strs (by rw[<-e];exact Z)) (by rw[hsz];exact N) λl i P=>⟨_,rfl,?_⟩) (args_list_sort _)));let⟨ss,O,L,h3⟩:=sorted_out_str Z i P;let⟨e,Y⟩:=sortedHeap_at (out:=(arrOf l).map (·.2)) S;have E:↥ss=↥ks:=L.length_eq;refine Ag ⟨_,rfl,.ref h'.objs.size,_,M.laid (o:=.lst (ss.map V.str)) (t':=tk) (λb o T=>?_) (Ai _) ⟨by rw[Ab];exact Ar (Hf (by lia:↥ss<64)) ∅,((arrOf l).map (·.2)).toList,e,EZ O,by rw[Hr];exact Y⟩,rfl,q ss L _ M.fresh⟩;have a:b<h'.objs.size:=Bg T;exact(sortedHeap_old (Br a) (by rw[Gp];exact Mw a)).trans (Ah _ T)
end
section
variable {X:Cx}
theorem ints_get{ns:↑Int}{its:↑Ae}(r:aZ (ns.map V.int) its){i:Nat}{v:Ae}(h:its[i]? = aa v):∃t,v=.int (ns.getD i 0) t:=by
 have hl:=↥r;rw[Ab]at hl;have hi:i<↥ns:=by have:=(Am.mp h).1;lia
 let⟨u,U,ru⟩:=r.get (i:=i) (x:=.int ns[i]) (by rw[Av,Bn hi];rfl);rw[h]at U;cases U;let⟨t,e⟩:=ru;exact⟨t,by rw[e];congr 1;simp[Sl,Bn hi]⟩
theorem WK(hc:X.calm=ab):cN X (.builtin "sum") (λxs H Q=>∃(p:An) (ns:↑Int),xs=[.ref p]/\bL X.K H p (ns.map V.int)/\Q (.int ns.sum) H):=by
 intro B s C H xs us Q I r h;let⟨p,ns,rfl,Z,q⟩:=h;let⟨u,rfl,ru⟩:=vals1 r;cases ru;let⟨its,R,pl,hz⟩:=I.list Z;have a:p<⇑s:=by let⟨_,e,_⟩:=pl.isList;exact Bg e
 have hl:=↥R;rw[Ab]at hl;have D:X.A.in1.handled=ae:=I.ok.hd hc;refine call_sum_walkG (Jh pl.isList ⟨⇑s,[⇑s,p],[⇑s],its.toArray.size,(λi v=>its.toArray[i]? = aa v),_,(λi=>ns.getD i 0),rfl,Rh (A:=X.A.in1) D ⇑s p (Br a) its.toArray,
  ⟨⟨_,Bb _ rfl,rfl,rfl⟩,pl.isList.push _⟩,?_,λi v c=>ints_get R (by simpa using c),λh' tk t' hk=>?_⟩)
 .intro b G;rw[Gp];simp only[Au,Gv,or_false]at G;rcases G with rfl|rfl
  .exact Ih _
  .exact Mw a
 .rw[preSum_getD,Bh,<-hl,Bp];refine⟨.int ns.sum,H,I.kept (t':=tk) λb o T=>hk b o (λz=>?_) (Ah _ T),⟨_,rfl⟩,q⟩;exact absurd (Bg T) (by rw[Af.mp z];exact Iu _)
end
abbrev NX(es:↑(bP×An×V))(xs:↑(bP×An×Ae)):Prop:=Ey (λp q=>p.1=q.1/\p.2.1=q.2.1/\RelV p.2.2 q.2.2) es xs
def dJ(P:Bc)(w:Bo)(tl:↑Int)(a:An)(es:↑(bP×An×V))(h:Ds):Prop:=
 ∃o m ep xs,h.get? a=aa o/\o.ExactDict/\o.data=.dict m ep/\m.toList=xs.map (Qp (jP P w tl))/\NX es xs/\(xs.map (·.1)).Nodup/\↥xs<=Ax/\(a==Fn)=ac
theorem dJ.stay(x:dJ P w tl a es O)(k:∀o,O.get? a=aa o->L.get? a=aa o):dJ P w tl a es L:=by
 let⟨o,m,ep,xs,e,r⟩:=x;exact⟨o,m,ep,xs,k o e,r⟩
theorem dJ.ok(x:dJ P w tl a es h):bZ P w H h a (.ext (dJ P w tl a es)):=
 ⟨x,let ⟨o,_,_,_,e,_⟩:=x;⟨o,e⟩,λO L y k=>y.stay k⟩
def iA(P:Bc)(w:Bo)(tl:↑Int)(a:An)(es:↑(bP×An×V))(o:Lv)(h:Ds):Prop:=h.get? a=aa o/\dJ P w tl a es h
theorem iA.ok(x:iA P w tl a es o h):bZ P w H h a (.ext (iA P w tl a es o)):=
 ⟨x,⟨o,x.1⟩,λO L y k=>⟨k _ y.1,y.2.stay k⟩⟩
def WL(o:Lv)(es:↑(bP×An×V)):Prop:=∃m ep,o.data=.dict m ep/\m.size=↥es/\∀(j:Nat) (e:Eg),m[j]? = aa e->∃z:bP×An×V,es[j]? = aa z/\e.key=.ref z.2.1
def iB(H:Hp)(tl:↑Int)(x:bP)(b:An):Prop:=∃G,H b=aa (.tup (kV x.1::.ref G::tl.map V.int))/\H G=aa (.tup (x.2.map kV))
theorem E1:∀{tl:↑Int} {us:↑Ae},aZ (tl.map V.int) us->ItemsAre (bR P w) (tl.map Sum.inl) us
 | [],_,h=>by cases h;exact .nil
 | i::tl,_,h=>by
  cases h with
  | cons r t=>
   let⟨tk,rfl⟩:=r;exact .cons (j8 (k:=Sum.inl i) ⟨tk,rfl⟩) (E1 t)
theorem iB.is(hok:cU P w H h)(n:iB H tl x b):(jP P w tl).is h x b:=by
 let⟨G,D,A⟩:=n;let⟨_,its,r,o,O,L,m,h3⟩:=(show bZ P w H h b (.tup (kV x.1::.ref G::tl.map V.int)) from hok b _ D);cases r with
 | @cons _ v _ vs N g=>
  cases g with
  | @cons _ Z _ a Y X=>
   cases (show Z=Value.ref G from Y);exact⟨o,_,m,v,G,a,O,L,h3,by simp,j8 N,i7 hok A,E1 X⟩
abbrev SV:=L2.St
inductive W where
 | non|bl (b:Bool)|int (i:Int)|str (x:Ay)|ty (n:String)|tup (ws:↑W)|rl (ws:↑W)|sc (ws:↑W)|ref (a:An)
 | dk (kvs:↑(aC×W))|dt (kvs:↑(↑aC×W))|fk (kvs:↑(aC×W))|ft (kvs:↑(↑aC×W))
inductive MO where
 | lst (ws:↑W)|dK (kvs:↑(aC×W))|dT (kvs:↑(↑aC×W))|fix (vs:↑V)|ins (C dx:An) (fs:↑(Ay×W))|dn (P:Bc) (w:Bo) (tl:↑Int) (kvs:↑(bP×W))|vw (d:An)|dh (P:Bc) (w:Bo) (tl:↑Int) (kvs:↑(bP×W)) (o:Lv)
abbrev Mm:=An->Option MO
def zjY(pos:Hu):Option An->Array Ae
 | none=>#[]
 | some c=>#[He pos.line,He pos.col,.ref c]
def put(M:Mm)(a:An)(o:MO):Mm:=λb=>if b=a then aa o else M b
def del(M:Mm)(a:An):Mm:=λb=>if b=a then ae else M b
theorem aJ{M:Mm}{a:An}{o:MO}:put M a o a=aa o:=by unfold put;rw[Vg rfl]
theorem aT{M:Mm}{a b:An}{o:MO}(h:b≠a):put M a o b=M b:=by unfold put;rw[Vf h]
theorem cJ:put (put M a o) a u=put M a u:=by
 funext b;unfold put;split<;>rfl
theorem jQ(h:M a=ae):del (put M a o) a=M:=by
 funext b;unfold del put;split
 .rename_i e;rw[e,h]
 .rfl
theorem pN{M:Mm}{a:An}:del M a a=ae:=by unfold del;rw[Vg rfl]
theorem jR{M:Mm}{a b:An}(h:b≠a):del M a b=M b:=by unfold del;rw[Vf h]
theorem oI(h:a≠b):put (put M a o) b u=put (put M b u) a o:=by
 funext c;unfold put
 by_cases O:c=b
 .by_cases L:c=a
  .exact absurd (L.symm.trans O) h
  .rw[Vg O,Vf L,Vg O]
 .by_cases L:c=a
  .rw[Vf O,Vg L,Vg L]
  .rw[Vf O,Vf L,Vf L,Vf O]
theorem yO(h:M a=aa o):put M a o=M:=by
 funext b;unfold put;split
 .rename_i e;rw[e,h]
 .rfl
def Sub(M M':Mm):Prop:=∀a o,M a=aa o->M' a=aa o
theorem Sub.refl(M:Mm):Sub M M:=λ_ _ h=>h
theorem aP:Sub M M:=Sub.refl M
theorem Sub.trans(a:Sub M M1)(b:Sub M1 M2):Sub M M2:=λc o h=>b c o (a c o h)
theorem Sub.new(h:M a=ae):Sub M (put M a o):=λb u e=>by
 rw[aT (λz=>by rw[z,h]at e;cases e)];exact e
theorem Sub.put(h:Sub M M'):Sub (put M a o) (put M' a o):=λb u e=>by
 unfold L2.put at e⊢;split at e
 .rename_i z;rw[Vg z];exact e
 .rename_i z;rw[Vf z];exact h b u e
theorem Sub.del:Sub (del M a) M:=λb u e=>by
 unfold L2.del at e;split at e
 .cases e
 .exact e
theorem Sub.non(h:Sub M M')(e:M' a=ae):M a=ae:=by
 cases q:M a with
 | none=>rfl
 | some o=>rw[h a o q]at e;cases e
def lZ(K:Ac)(H:Hp)(a:An)(xs:↑V):Prop:=
 (∃o,H a=aa (.frz o (.lst xs)))\/
  ∃(o:Lv) (its:Array Ae) (n:Nat),K.lookup a=aa o/\o.cls=.type "list"/\o.dict=ae/\o.data=.seq its n/\its.size<=Ax/\aZ xs its.toList
theorem lZ.sq{K:Ac}{H:Hp}{a:An}{xs:↑V}(h:lZ K H a xs):bL K H a xs:=by
 rcases h with⟨o,h⟩|h
 .exact .inl (.inr ⟨o,h⟩)
 .exact .inr h
mutual
inductive AV(K:Ac)(H:Hp)(M:Mm):V->W->Prop
 | non:AV K H M .non .non
 | bl (b:Bool):AV K H M (.bl b) (.bl b)
 | int (i:Int):AV K H M (.int i) (.int i)
 | str (x:Ay):AV K H M (.str x) (.str x)
 | ty (n:String):AV K H M (.ty n) (.ty n)
 | tup {a:An} {xs:↑V} {ws:↑W}:H a=aa (.tup xs)->aK K H M xs ws->AV K H M (.ref a) (.tup ws)
 | sc {a:An} {xs:↑V} {ws:↑W}:lZ K H a xs->aK K H M xs ws->AV K H M (.ref a) (.sc ws)
 | rl {a:An} {xs:↑V} {ws:↑W}:H a=aa (.lst xs)->M a=ae->aK K H M xs ws->AV K H M (.ref a) (.rl ws)
 | ref (a:An):AV K H M (.ref a) (.ref a)
 | dk {a:An} {ks:↑(aC×V)} {kvs:↑(aC×W)}:H a=aa (.dK ks)->M a=ae->ks.map Eb=kvs.map Eb->aK K H M (ks.map Ju) (kvs.map Ju)->AV K H M (.ref a) (.dk kvs)
 | dt {a:An} {ks:↑(↑aC×V)} {kvs:↑(↑aC×W)}:H a=aa (.dT ks)->M a=ae->ks.map Eb=kvs.map Eb->aK K H M (ks.map Ju) (kvs.map Ju)->AV K H M (.ref a) (.dt kvs)
 | fk {a:An} {o:Lv} {ks:↑(aC×V)} {kvs:↑(aC×W)}:H a=aa (.frz o (.dK ks))->ks.map Eb=kvs.map Eb->aK K H M (ks.map Ju) (kvs.map Ju)->AV K H M (.ref a) (.fk kvs)
 | ft {a:An} {o:Lv} {ks:↑(↑aC×V)} {kvs:↑(↑aC×W)}:H a=aa (.frz o (.dT ks))->ks.map Eb=kvs.map Eb->aK K H M (ks.map Ju) (kvs.map Ju)->AV K H M (.ref a) (.ft kvs)
inductive aK(K:Ac)(H:Hp)(M:Mm):↑V->↑W->Prop
 | nil:aK K H M [] []
 | cons {v:V} {vs:↑V} {w:W} {ws:↑W}:AV K H M v w->aK K H M vs ws->aK K H M (v::vs) (w::ws)
end
abbrev bQ(K:Ac)(H:Hp)(M:Mm)(b:Type):↑(b×V)->↑(b×W)->Prop:=Ey λp q=>p.1=q.1/\AV K H M p.2 q.2
theorem oJ{K:Ac}{H:Hp}{M:Mm}{b:Type}:∀{ks:↑(b×V)} {kvs:↑(b×W)},ks.map Eb=kvs.map Eb->aK K H M (ks.map Ju) (kvs.map Ju)->bQ K H M b ks kvs
 | [],[],_,_=>.nil
 | [],_::_,e,_=>by simp at e
 | _::_,[],e,_=>by simp at e
 | p::ps,q::qs,e,h=>by
  rw[Bd,Bd]at e h;rw[Es]at e;cases h with
  | cons x r=>exact .cons ⟨e.1,x⟩ (oJ e.2 r)
theorem bQ.keys{K:Ac}{H:Hp}{M:Mm}{b:Type}{ks:↑(b×V)}{kvs:↑(b×W)}(h:bQ K H M b ks kvs):ks.map Eb=kvs.map Eb:=by
 induction h with
 | nil=>rfl
 | cons r _ E=>rw[Bd,Bd,E,r.1]
theorem bQ.vals{K:Ac}{H:Hp}{M:Mm}{b:Type}{ks:↑(b×V)}{kvs:↑(b×W)}(h:bQ K H M b ks kvs):aK K H M (ks.map Ju) (kvs.map Ju):=by
 induction h with
 | nil=>exact .nil
 | cons r _ E=>exact .cons r.2 E
def AO(K:Ac)(H:Hp)(M:Mm)(a:An):MO->Prop
 | .lst ws=>∃vs,H a=aa (.lst vs)/\aK K H M vs ws
 | .dK kvs=>∃ks,H a=aa (.dK ks)/\bQ K H M aC ks kvs
 | .dT kvs=>∃ks,H a=aa (.dT ks)/\bQ K H M (↑aC) ks kvs
 | .fix vs=>H a=aa (.lst vs)
 | .ins C dx fs=>∃i,H a=aa (.ins C dx i)/\bQ K H M Ay i fs
 | .dn P w tl kvs=>∃es,H a=aa (.ext (dJ P w tl a es))/\Ey (λ(e:bP×An×V) (p:bP×W)=>e.1=p.1/\iB H tl e.1 e.2.1/\AV K H M e.2.2 p.2) es kvs
 | .vw d=>H a=aa (.ext λh=>h.IsValuesView a d)
 | .dh P w tl kvs o=>∃es,H a=aa (.ext (iA P w tl a es o))/\WL o es/\Ey (λ(e:bP×An×V) (p:bP×W)=>e.1=p.1/\iB H tl e.1 e.2.1/\AV K H M e.2.2 p.2) es kvs
def AM(K:Ac)(H:Hp)(M:Mm):Prop:=∀a o,M a=aa o->AO K H M a o
structure Kp(H:Hp)(M:Mm)(H':Hp)(M':Mm):Prop where
 fr:∀a o,M a=ae->H a=aa o->H' a=aa o/\M' a=ae
 dom:∀a o,M a=aa o->∃u,H' a=aa u
structure Go(H:Hp)(M:Mm)(H':Hp)(M':Mm):Prop where
 ht:∀b xs,H b=aa (.tup xs)->H' b=aa (.tup xs)
 hf:∀b o u,H b=aa (.frz o u)->H' b=aa (.frz o u)
 hl:∀b o,M b=ae->H b=aa o->H' b=aa o/\M' b=ae
section
variable {K:Ac}{H H' H1 H2:Hp}{M M' M1 M2:Mm}{a:An}
theorem AO.has(h:AO K H M a o):∃u,H a=aa u:=by
 cases o with
 | lst ws=>let⟨vs,e,_⟩:=h;exact⟨_,e⟩
 | dK kvs=>let⟨ks,e,_⟩:=h;exact⟨_,e⟩
 | dT kvs=>let⟨ks,e,_⟩:=h;exact⟨_,e⟩
 | fix vs=>exact⟨_,h⟩
 | ins C dx fs=>let⟨gs,e,_⟩:=h;exact⟨_,e⟩
 | dn P w tl kvs=>let⟨gs,e,_⟩:=h;exact⟨_,e⟩
 | vw d=>exact⟨_,h⟩
 | dh P w tl kvs o=>let⟨gs,e,_⟩:=h;exact⟨_,e⟩
theorem AM.nonM(Y:AM K H M)(h:H a=ae):M a=ae:=by
 cases q:M a with
 | none=>rfl
 | some o=>let⟨u,e⟩:=(Y a o q).has;rw[h]at e;cases e
theorem AM.noTup(am:AM K H M)(h:H a=aa (.tup xs)):M a=ae:=by
 cases q:M a with
 | none=>rfl
 | some o=>
  have:=am a o q;cases o with
  | lst ws=>let⟨vs,e,_⟩:=this;rw[h]at e;cases e
  | dK kvs=>let⟨ks,e,_⟩:=this;rw[h]at e;cases e
  | dT kvs=>let⟨ks,e,_⟩:=this;rw[h]at e;cases e
  | fix vs=>have e:H a=aa (.lst vs):=this;rw[h]at e;cases e
  | ins C dx fs=>let⟨gs,e,_⟩:=this;rw[h]at e;cases e
  | dn P w tl kvs=>let⟨gs,e,_⟩:=this;rw[h]at e;cases e
  | vw d=>have e:H a=aa (.ext λh=>h.IsValuesView a d):=this;rw[h]at e;cases e
  | dh P w tl kvs o=>let⟨gs,e,_⟩:=this;rw[h]at e;cases e
theorem AM.noFrz(am:AM K H M)(h:H a=aa (.frz ob u)):M a=ae:=by
 cases q:M a with
 | none=>rfl
 | some o=>
  have:=am a o q;cases o with
  | lst ws=>let⟨vs,e,_⟩:=this;rw[h]at e;cases e
  | dK kvs=>let⟨ks,e,_⟩:=this;rw[h]at e;cases e
  | dT kvs=>let⟨ks,e,_⟩:=this;rw[h]at e;cases e
  | fix vs=>have e:H a=aa (.lst vs):=this;rw[h]at e;cases e
  | ins C dx fs=>let⟨gs,e,_⟩:=this;rw[h]at e;cases e
  | dn P w tl kvs=>let⟨gs,e,_⟩:=this;rw[h]at e;cases e
  | vw d=>have e:H a=aa (.ext λh=>h.IsValuesView a d):=this;rw[h]at e;cases e
  | dh P w tl kvs o=>let⟨gs,e,_⟩:=this;rw[h]at e;cases e
theorem Kp.refl(Y:AM K H M):Kp H M H M:=⟨λa o h e=>⟨e,h⟩,λa o h=>(Y a o h).has⟩
theorem Kp.trans(x:Kp H M H1 M1)(y:Kp H1 M1 H2 M2):Kp H M H2 M2 where
 fr:=λa o h e=>by
  let⟨D,d⟩:=x.fr a o h e;exact y.fr a o d D
 dom:=λa o h=>by
  let⟨u,e⟩:=x.dom a o h;cases q:M1 a with
  | none=>exact⟨u,(y.fr a u q e).1⟩
  | some c=>exact y.dom a c q
theorem Kp.sub(x:Kp H M H1 M1)(h:Sub M2 M1):Kp H M H1 M2 where
 fr:=λa o n e=>⟨(x.fr a o n e).1,h.non (x.fr a o n e).2⟩
 dom:=x.dom
theorem Kp.go(Y:AM K H M)(k:Kp H M H' M'):Go H M H' M':=⟨λb xs e=>(k.fr b _ (Y.noTup e) e).1,λb o u e=>(k.fr b _ (Y.noFrz e) e).1,k.fr⟩
theorem Go.sub(h:Sub M' M):Go H M H M':=⟨λ_ _ e=>e,λ_ _ _ e=>e,λb o n e=>⟨e,h.non n⟩⟩
theorem AV.go(g:Go H M H' M')(h:AV K H M v w):AV K H' M' v w:=AV.rec (motive_1:=λv w _=>AV K H' M' v w) (motive_2:=λvs ws _=>aK K H' M' vs ws) .non .bl .int .str .ty (λe _ q=>.tup (g.ht _ _ e) q) (λe _ q=>.sc (e.elim (λz=>.inl (z.elim λo q=>⟨o,g.hf _ _ _ q⟩)) .inr) q) (λe n _ q=>.rl (g.hl _ _ n e).1 (g.hl _ _ n e).2 q) .ref
  (λe n j _ q=>.dk (g.hl _ _ n e).1 (g.hl _ _ n e).2 j q) (λe n j _ q=>.dt (g.hl _ _ n e).1 (g.hl _ _ n e).2 j q) (λe j _ q=>.fk (g.hf _ _ _ e) j q) (λe j _ q=>.ft (g.hf _ _ _ e) j q) .nil (λ_ _ x r=>.cons x r) h
theorem aK.go(g:Go H M H' M')(h:aK K H M vs ws):aK K H' M' vs ws:=aK.rec (motive_1:=λv w _=>AV K H' M' v w) (motive_2:=λvs ws _=>aK K H' M' vs ws) .non .bl .int .str .ty (λe _ q=>.tup (g.ht _ _ e) q) (λe _ q=>.sc (e.elim (λz=>.inl (z.elim λo q=>⟨o,g.hf _ _ _ q⟩)) .inr) q) (λe n _ q=>.rl (g.hl _ _ n e).1 (g.hl _ _ n e).2 q) .ref
  (λe n j _ q=>.dk (g.hl _ _ n e).1 (g.hl _ _ n e).2 j q) (λe n j _ q=>.dt (g.hl _ _ n e).1 (g.hl _ _ n e).2 j q) (λe j _ q=>.fk (g.hf _ _ _ e) j q) (λe j _ q=>.ft (g.hf _ _ _ e) j q) .nil (λ_ _ x r=>.cons x r) h
theorem bQ.go{b:Type}{ks:↑(b×V)}{kvs:↑(b×W)}(g:Go H M H' M')(h:bQ K H M b ks kvs):bQ K H' M' b ks kvs:=Paired.mapP h λp q z=>⟨z.1,z.2.go g⟩
theorem AO.go{o:MO}(g:Go H M H' M')(e:H' a=H a)(h:AO K H M a o):AO K H' M' a o:=by
 cases o with
 | lst ws=>let⟨vs,e1,r⟩:=h;exact⟨vs,by rw[e];exact e1,r.go g⟩
 | dK kvs=>let⟨vs,e1,r⟩:=h;exact⟨vs,by rw[e];exact e1,r.go g⟩
 | dT kvs=>let⟨vs,e1,r⟩:=h;exact⟨vs,by rw[e];exact e1,r.go g⟩
 | fix vs=>exact e.trans h
 | ins C dx fs=>let⟨gs,e1,r⟩:=h;exact⟨gs,by rw[e];exact e1,r.go g⟩
 | dn P w tl kvs=>let⟨gs,e1,r⟩:=h;exact⟨gs,by rw[e];exact e1,Paired.mapP r λp q z=>⟨z.1,let ⟨pa,n1,n2⟩:=z.2.1;⟨pa,g.ht _ _ n1,g.ht _ _ n2⟩,z.2.2.go g⟩⟩
 | vw d=>exact e.trans h
 | dh P w tl kvs o=>let⟨gs,e1,z0,r⟩:=h;exact⟨gs,by rw[e];exact e1,z0,Paired.mapP r λp q z=>⟨z.1,let ⟨pa,n1,n2⟩:=z.2.1;⟨pa,g.ht _ _ n1,g.ht _ _ n2⟩,z.2.2.go g⟩⟩
theorem AM.sub(Y:AM K H M')(h:Sub M M'):AM K H M:=λa o e=>(Y a o (h a o e)).go (Go.sub h) rfl
theorem AV.sub(h:Sub M' M)(x:AV K H M v w):AV K H M' v w:=x.go (Go.sub h)
theorem aK.sub(h:Sub M' M)(x:aK K H M v w):aK K H M' v w:=x.go (Go.sub h)
theorem AV.kp(Y:AM K H M)(k:Kp H M H' M')(h:AV K H M v w):AV K H' M' v w:=h.go (k.go Y)
theorem aK.kp(Y:AM K H M)(k:Kp H M H' M')(h:aK K H M vs ws):aK K H' M' vs ws:=h.go (k.go Y)
theorem aK.length:∀{vs:↑V} {ws:↑W},aK K H M vs ws->↥vs=↥ws
 | _,_,.nil=>rfl
 | _,_,.cons _ r=>by simp[aK.length r]
theorem aK.append:∀{vs us:↑V} {ws d:↑W},aK K H M vs ws->aK K H M us d->aK K H M (vs++us) (ws++d)
 | _,_,_,_,.nil,s=>s
 | _,_,_,_,.cons x r,s=>.cons x (aK.append r s)
theorem aK.getW:∀{vs:↑V} {ws:↑W} {i:Nat} {w:W},aK K H M vs ws->ws[i]? = aa w->∃v,vs[i]? = aa v/\AV K H M v w
 | _,_,_,_,.nil,e=>by simp at e
 | _,_,0,_,.cons x _,e=>by simp at e;subst e;exact⟨_,rfl,x⟩
 | _,_,i+1,w,.cons _ r,e=>by
  let⟨v,O,L⟩:=aK.getW (i:=i) (w:=w) r (by simpa using e);exact⟨v,by simpa using O,L⟩
theorem aK.getV:∀{vs:↑V} {ws:↑W} {i:Nat} {v:V},aK K H M vs ws->vs[i]? = aa v->∃w,ws[i]? = aa w/\AV K H M v w
 | _,_,_,_,.nil,e=>by simp at e
 | _,_,0,_,.cons x _,e=>by simp at e;subst e;exact⟨_,rfl,x⟩
 | _,_,i+1,v,.cons _ r,e=>by
  let⟨w,O,L⟩:=aK.getV (i:=i) (v:=v) r (by simpa using e);exact⟨w,by simpa using O,L⟩
theorem aK.set(x:AV K H M v w):∀{vs:↑V} {ws:↑W} (i:Nat),aK K H M vs ws->aK K H M (vs.set i v) (ws.set i w)
 | _,_,_,.nil=>.nil
 | _,_,0,.cons _ t=>.cons x t
 | _,_,i+1,.cons q t=>.cons q (aK.set x i t)
theorem aK.take:∀{vs:↑V} {ws:↑W} (n:Nat),aK K H M vs ws->aK K H M (vs.take n) (ws.take n)
 | _,_,0,_=>by simp;exact .nil
 | _,_,_+1,.nil=>.nil
 | _,_,n+1,.cons x t=>.cons x (aK.take n t)
theorem aK.drop:∀{vs:↑V} {ws:↑W} (n:Nat),aK K H M vs ws->aK K H M (vs.drop n) (ws.drop n)
 | _,_,0,h=>h
 | _,_,_+1,.nil=>.nil
 | _,_,n+1,.cons _ t=>aK.drop n t
theorem aK.reverse(h:aK K H M vs ws):aK K H M vs.reverse ws.reverse:=by
 induction vs generalizing ws with
 | nil=>cases h;exact .nil
 | cons v vs E=>
  cases h with
  | cons x r=>rw[List.reverse_cons,List.reverse_cons];exact(E r).append (.cons x .nil)
theorem aK.dropLast(h:aK K H M vs ws):aK K H M vs.dropLast ws.dropLast:=by
 rw[List.dropLast_eq_take,List.dropLast_eq_take,↥h];exact h.take _
theorem aK.flatRep(h:aK K H M vs ws):∀n:Nat,aK K H M (Bz n vs).flatten (Bz n ws).flatten
 | 0=>.nil
 | n+1=>by
  rw[Ez,Ez,Gn,Gn];exact h.append (aK.flatRep h n)
theorem aK.int(is:↑Int):aK K H M (is.map V.int) (is.map W.int):=by
 induction is with
 | nil=>exact .nil
 | cons i r E=>exact .cons (.int i) E
theorem E2(N:H p=ae)(F:∀b,b≠p->M b=ae->M' b=ae):Go H M (aL H p u) M':=
 ⟨λb xs e=>by rw[a9 (eO e N)];exact e,λb o x e=>by rw[a9 (eO e N)];exact e,λb o n e=>⟨by rw[a9 (eO e N)];exact e,F b (eO e N) n⟩⟩
theorem E4(N:H p=ae):Go H M (aL H p u) (put M p o):=E2 N λb ne n=>by rw[aT ne];exact n
theorem go_same(N:H p=ae):Go H M (aL H p u) M:=E2 N λb ne n=>n
theorem AM.laid(Y:AM K H M)(N:H p=ae)(h:AO K (aL H p u) (put M p o) p o):AM K (aL H p u) (put M p o)/\Kp H M (aL H p u) (put M p o):=by
 refine⟨λa x e=>?_,λa x h e=>⟨?_,?_⟩,λa x h=>?_⟩
 .by_cases m:a=p
  .subst m;rw[aJ]at e;cases e;exact h
  .rw[aT m]at e;exact(Y a x e).go (E4 N) (a9 m)
 .rw[a9 (eO e N)];exact e
 .rw[aT (eO e N)];exact h
 .let⟨y,e⟩:=(Y a x h).has;exact⟨y,by rw[a9 (eO e N)];exact e⟩
theorem E5:Go H (put M p o) H (put M p u):=⟨λ_ _ e=>e,λ_ _ _ e=>e,λb x n e=>⟨e,by
 have ne:b≠p:=λz=>by rw[z,aJ]at n;cases n
 rw[aT ne]at n⊢;exact n⟩⟩
theorem AM.tup{p:An}{u:HO}(Y:AM K H M)(N:H p=ae):AM K (aL H p u) M/\Kp H M (aL H p u) M:=by
 refine⟨λa x e=>?_,λa x h e=>⟨?_,h⟩,λa x h=>?_⟩
 .have ne:a≠p:=λz=>by rw[z,Y.nonM N]at e;cases e
  exact(Y a x e).go (go_same N) (a9 ne)
 .rw[a9 (eO e N)];exact e
 .let⟨y,e⟩:=(Y a x h).has;exact⟨y,by rw[a9 (eO e N)];exact e⟩
theorem oK(Y:AM K H M)(hl:M l=aa d):Go H M (aL H l u) (put M l o):=
 ⟨λb xs e=>by rw[a9 (λz=>by rw[<-z,Y.noTup e]at hl;cases hl)];exact e,λb ob x e=>by rw[a9 (λz=>by rw[<-z,Y.noFrz e]at hl;cases hl)];exact e,
   λb x n e=>by
  have ne:b≠l:=λz=>by rw[<-z,n]at hl;cases hl
  rw[a9 ne,aT ne];exact⟨e,n⟩⟩
theorem AM.write(Y:AM K H M)(hl:M l=aa d)(h:AO K (aL H l u) (put M l o) l o):AM K (aL H l u) (put M l o)/\Kp H M (aL H l u) (put M l o):=by
 refine⟨λa x e=>?_,λa x h e=>?_,λa x h=>?_⟩
 .by_cases m:a=l
  .subst m;rw[aJ]at e;cases e;exact h
  .rw[aT m]at e;exact(Y a x e).go (oK Y hl) (a9 m)
 .have:a≠l:=λz=>by rw[z,hl]at h;cases h
  rw[a9 this,aT this];exact⟨e,h⟩
 .by_cases m:a=l
  .subst m;exact⟨u,bY⟩
  .let⟨y,e⟩:=(Y a x h).has;exact⟨y,by rw[a9 m];exact e⟩
theorem AM.lst(Y:AM K H M){ws:↑W}(h:M a=aa (.lst ws)):∃vs,H a=aa (.lst vs)/\aK K H M vs ws:=Y a _ h
theorem aK.newT(N:H p=ae)(h:aK K H M vs ws):aK K (aL H p u) M vs ws:=h.go (go_same N)
theorem aK.newL(N:H p=ae)(h:aK K H M vs ws):aK K (aL H p u) (put M p o) vs ws:=h.go (E4 N)
theorem aK.wr(Y:AM K H M)(hl:M l=aa d)(h:aK K H M vs ws):aK K (aL H l u) (put M l o) vs ws:=h.go (oK Y hl)
theorem AV.wr(Y:AM K H M)(hl:M l=aa d)(h:AV K H M v w):AV K (aL H l u) (put M l o) v w:=h.go (oK Y hl)
end
abbrev S3:=↑(Option W)
abbrev K3:=W->Mm->Prop
abbrev aS:=S3->Mm->K3->Prop
abbrev dE:=S3->Mm->(Bool->Mm->Prop)->Prop
abbrev dG:=S3->Mm->(↑W->Mm->Prop)->Prop
abbrev R3:=W->W->Mm->K3->Prop
structure D3 where
 nx:S3->Mm->Prop
 rt:K3
 bk:S3->Mm->Prop:=λ_ _=>False
 ct:S3->Mm->Prop:=λ_ _=>False
abbrev aD:=D3->S3->Mm->Prop
def AS(K:Ac)(H:Hp)(M:Mm):SV->S3->Prop:=Ey λN l=>∀w,l=aa w->∃v,N=aa v/\AV K H M v w
section
variable {K:Ac}{H H':Hp}{M M':Mm}
theorem AS.kp(Y:AM K H M)(k:Kp H M H' M')(h:AS K H M Z U):AS K H' M' Z U:=
 Paired.mapP h λN l z w e=>by let⟨v,D,r⟩:=z w e;exact⟨v,D,r.kp Y k⟩
theorem AS.sub(g:Sub M' M)(h:AS K H M Z U):AS K H M' Z U:=
 Paired.mapP h λN l z w e=>by let⟨v,D,r⟩:=z w e;exact⟨v,D,r.sub g⟩
theorem AS.get:∀{Z:SV} {U:S3} {i:Nat},AS K H M Z U->U[i]? = aa (aa w)->∃v,Z[i]? = aa (aa v)/\AV K H M v w
 | _,_,_,.nil,e=>by simp at e
 | _,_,0,.cons r _,e=>by
  simp at e;let⟨v,O,L⟩:=r w e;exact⟨v,by rw[O];rfl,L⟩
 | _,_,i+1,.cons _ t,e=>by
  let⟨v,O,L⟩:=AS.get (i:=i) t (by simpa using e);exact⟨v,by simpa using O,L⟩
theorem AS.set(r:AV K H M v w):∀{Z:SV} {U:S3} (i:Nat),AS K H M Z U->AS K H M (Z.set i (aa v)) (U.set i (aa w))
 | _,_,_,.nil=>.nil
 | _,_,0,.cons _ t=>.cons (λx e=>⟨v,rfl,by cases e;exact r⟩) t
 | _,_,i+1,.cons q t=>.cons q (AS.set r i t)
theorem AS.nones:∀n:Nat,AS K H M (Bz n ae) (Bz n ae)
 | 0=>.nil
 | n+1=>.cons (λ_ e=>nomatch e) (AS.nones n)
theorem AS.start(h:aK K H M vs ws)(n:Nat):AS K H M (vs.map aa++Bz n ae) (ws.map aa++Bz n ae):=by
 induction vs generalizing ws with
 | nil=>cases h;exact AS.nones n
 | cons v vs E=>
  cases h with
  | cons x r=>exact .cons (λw e=>⟨v,rfl,by cases e;exact x⟩) (E r)
end
def Up(K:Ac)(H:Hp)(M:Mm)(R:K3)(Q:VK):Prop:=∀v H' w M',Kp H M H' M'->AM K H' M'->AV K H' M' v w->R w M'->Q v H'
def up(K:Ac)(t:aS):TE:=λZ H Q=>∃U M R,AS K H M Z U/\AM K H M/\t U M R/\Up K H M R Q
def kS(K:Ac)(t:dE):TT:=λZ H Q=>∃(U:S3) (M:Mm) (R:Bool->Mm->Prop),AS K H M Z U/\AM K H M/\t U M R/\∀b H' M',Kp H M H' M'->AM K H' M'->R b M'->Q b H'
def pO(K:Ac)(t:dG):TA:=λZ H Q=>∃(U:S3) (M:Mm) (R:↑W->Mm->Prop),AS K H M Z U/\AM K H M/\t U M R/\∀vs H' ws M',Kp H M H' M'->AM K H' M'->aK K H' M' vs ws->R ws M'->Q vs H'
def iN(K:Ac)(H:Hp)(M:Mm)(R:S3->Mm->Prop)(Q:SV->Hp->Prop):Prop:=∀O H' v M',Kp H M H' M'->AM K H' M'->AS K H' M' O v->R v M'->Q O H'
structure qX(K:Ac)(H:Hp)(M:Mm)(D:D3)(E:lS):Prop where
 nx:iN K H M D.nx E.nx
 rt:Up K H M D.rt E.rt
 bk:iN K H M D.bk E.bk
 ct:iN K H M D.ct E.ct
def qY(K:Ac)(t:aD):TS:=λE Z H=>∃U M D,AS K H M Z U/\AM K H M/\t D U M/\qX K H M D E
section
variable {K:Ac}{H H1:Hp}{M M1:Mm}
theorem Up.kp(h:Up K H M R Q)(k:Kp H M H1 M1):Up K H1 M1 R Q:=λv H' w M' y Y av r=>h v H' w M' (k.trans y) Y av r
theorem iN.kp{R:S3->Mm->Prop}{Q:SV->Hp->Prop}(h:iN K H M R Q)(k:Kp H M H1 M1):iN K H1 M1 R Q:=λv H' w M' y Y av r=>h v H' w M' (k.trans y) Y av r
theorem qX.kp(h:qX K H M D E)(k:Kp H M H1 M1):qX K H1 M1 D E:=⟨h.nx.kp k,h.rt.kp k,h.bk.kp k,h.ct.kp k⟩
theorem Up.at(h:Up K H M R Q)(Y:AM K H M)(av:AV K H M v w)(r:R w M):Q v H:=h v H w M (Kp.refl Y) Y av r
end
@[irreducible] def i8(p:An)(M:Mm)(R:K3):Prop:=(∃ws,M p=aa (.lst ws)/\R (.rl ws) (del M p))\/(∃kvs,M p=aa (.dK kvs)/\R (.dk kvs) (del M p))\/(∃kvs,M p=aa (.dT kvs)/\R (.dt kvs) (del M p))\/R (.ref p) M
def frz:W->Mm->K3->Prop
 | .ref p,M,R=>i8 p M R
 | w,M,R=>R w M
theorem Up.frz{K:Ac}{H:Hp}{M:Mm}{R:K3}{Q:VK}(h:Up K H M R Q):Up K H M (λw M'=>frz w M' R) Q:=λv H' w M' k Y av r=>by
 have d:=av;cases av<;>first|exact h _ _ _ _ k Y d r|skip
 case ref p=>
  have r:i8 p M' R:=r;unfold i8 at r;rcases r with⟨ws,e,r⟩|⟨kvs,e,r⟩|⟨kvs,e,r⟩|r
  .let⟨vs,f,q⟩:=Y.lst e;exact h _ _ _ _ (k.sub Sub.del) (Y.sub Sub.del) (.rl f pN (q.sub Sub.del)) r
  .let⟨ks,f,q⟩:=Y _ _ e;exact h _ _ _ _ (k.sub Sub.del) (Y.sub Sub.del) (.dk f pN q.keys (q.vals.sub Sub.del)) r
  .let⟨ks,f,q⟩:=Y _ _ e;exact h _ _ _ _ (k.sub Sub.del) (Y.sub Sub.del) (.dt f pN q.keys (q.vals.sub Sub.del)) r
  .exact h _ _ _ _ k Y (.ref p) r
theorem E6(N:M p=ae)(r:R (.rl ws) M):i8 p (put M p (.lst ws)) R:=by unfold i8;exact .inl ⟨ws,aJ,by rw[jQ N];exact r⟩
theorem E7(N:M p=ae)(r:R (.dk kvs) M):i8 p (put M p (.dK kvs)) R:=by unfold i8;exact .inr (.inl ⟨kvs,aJ,by rw[jQ N];exact r⟩)
theorem WM(N:M p=ae)(r:R (.dt kvs) M):i8 p (put M p (.dT kvs)) R:=by unfold i8;exact .inr (.inr (.inl ⟨kvs,aJ,by rw[jQ N];exact r⟩))
def aR(ws:↑W)(M:Mm)(R:K3):Prop:=∀p,M p=ae->R (.ref p) (put M p (.lst ws))
def iO(kvs:↑(aC×W))(M:Mm)(R:K3):Prop:=∀p,M p=ae->R (.ref p) (put M p (.dK kvs))
def j9(kvs:↑(↑aC×W))(M:Mm)(R:K3):Prop:=∀p,M p=ae->R (.ref p) (put M p (.dT kvs))
theorem aR.frz{M:Mm}{ws:↑W}{R:K3}(r:R (.rl ws) M):aR ws M λw M'=>L2.frz w M' R:=λp N=>E6 N r
theorem iO.frz{M:Mm}{kvs:↑(aC×W)}{R:K3}(r:R (.dk kvs) M):iO kvs M λw M'=>L2.frz w M' R:=λp N=>E7 N r
theorem j9.frz{M:Mm}{kvs:↑(↑aC×W)}{R:K3}(r:R (.dt kvs) M):j9 kvs M λw M'=>L2.frz w M' R:=λp N=>WM N r
abbrev bE(t:aS):aS:=λU M R=>t U M λw M'=>frz w M' R
def WN(K:Ac)(H:Hp)(M:Mm)(v:V):W->Prop
 | .non=>v=.non
 | .bl b=>v=.bl b
 | .int i=>v=.int i
 | .str x=>v=.str x
 | .ty n=>v=.ty n
 | .tup ws=>∃a xs,v=.ref a/\H a=aa (.tup xs)/\aK K H M xs ws
 | .sc ws=>∃a xs,v=.ref a/\lZ K H a xs/\aK K H M xs ws
 | .rl ws=>∃a xs,v=.ref a/\H a=aa (.lst xs)/\M a=ae/\aK K H M xs ws
 | .ref a=>v=.ref a
 | .dk kvs=>∃a ks,v=.ref a/\H a=aa (.dK ks)/\M a=ae/\bQ K H M aC ks kvs
 | .dt kvs=>∃a ks,v=.ref a/\H a=aa (.dT ks)/\M a=ae/\bQ K H M (↑aC) ks kvs
 | .fk kvs=>∃a ks,v=.ref a/\(∃o,H a=aa (.frz o (.dK ks)))/\bQ K H M aC ks kvs
 | .ft kvs=>∃a ks,v=.ref a/\(∃o,H a=aa (.frz o (.dT ks)))/\bQ K H M (↑aC) ks kvs
section
variable {K:Ac}{H:Hp}{M:Mm}{v:V}{vs:↑V}{w:W}{ws:↑W}{C:Prop}
theorem AV.inv(h:AV K H M v w):WN K H M v w:=by
 cases h
 case non|bl|int|str|ty|ref=>rfl
 case tup|sc=>rename_i e q;exact⟨_,_,rfl,e,q⟩
 case rl=>rename_i e n q;exact⟨_,_,rfl,e,n,q⟩
 case dk|dt=>rename_i e n z q;exact⟨_,_,rfl,e,n,oJ z q⟩
 case fk|ft=>rename_i e z q;exact⟨_,_,rfl,⟨_,e⟩,oJ z q⟩
theorem AV.tupE(h:AV K H M v (.tup ws))(c:∀a xs,v=.ref a->H a=aa (.tup xs)->aK K H M xs ws->C):C:=
 let ⟨a,xs,e,f,q⟩:=h.inv;c a xs e f q
theorem AV.scE(h:AV K H M v (.sc ws))(c:∀a xs,v=.ref a->lZ K H a xs->aK K H M xs ws->C):C:=
 let ⟨a,xs,e,f,q⟩:=h.inv;c a xs e f q
theorem AV.rlE(h:AV K H M v (.rl ws))(c:∀a xs,v=.ref a->H a=aa (.lst xs)->aK K H M xs ws->C):C:=
 let ⟨a,xs,e,f,_,q⟩:=h.inv;c a xs e f q
theorem aK.nil_(h:aK K H M vs []):vs=[]:=by cases h;rfl
theorem aK.one(h:aK K H M vs [w]):∃v,vs=[v]/\AV K H M v w:=by
 cases h with
 | cons x r=>rw[r.nil_];exact⟨_,rfl,x⟩
theorem aK.oneE(h:aK K H M vs [w])(c:∀v,vs=[v]->AV K H M v w->C):C:=h.one.elim λv h=>c v h.1 h.2
theorem aK.two(h:aK K H M vs [w,z]):∃v u,vs=[v,u]/\AV K H M v w/\AV K H M u z:=by
 cases h with
 | cons x r=>let⟨u,rfl,y⟩:=r.one;exact⟨_,_,rfl,x,y⟩
theorem AM.lstE(Y:AM K H M)(e:M a=aa (.lst ws))(c:∀xs,H a=aa (.lst xs)->aK K H M xs ws->C):C:=(Y.lst e).elim λv h=>c v h.1 h.2
theorem iP(e:vs=[x])(f:x=y):vs=[y]:=by rw[e,f]
end
theorem up.el{K:Ac}{H:Hp}{Z:SV}{C:Prop}{t:aS}{Q:VK}(h:up K t Z H Q)(c:∀U M R,AS K H M Z U->AM K H M->t U M R->Up K H M R Q->C):C:=by let⟨U,M,R,a,b,h,k⟩:=h;exact c U M R a b h k
theorem kS.el{K:Ac}{H:Hp}{Z:SV}{C:Prop}{t:dE}{Q:Bool->Hp->Prop}(h:kS K t Z H Q)(c:∀U M R,AS K H M Z U->AM K H M->t U M R->(∀b H' M',Kp H M H' M'->AM K H' M'->R b M'->Q b H')->C):C:=by let⟨U,M,R,a,b,h,k⟩:=h;exact c U M R a b h k
theorem pO.el{K:Ac}{H:Hp}{Z:SV}{C:Prop}{t:dG}{Q:↑V->Hp->Prop}(h:pO K t Z H Q)(c:∀U M R,AS K H M Z U->AM K H M->t U M R->(∀vs H' ws M',Kp H M H' M'->AM K H' M'->aK K H' M' vs ws->R ws M'->Q vs H')->C):C:=by let⟨U,M,R,a,b,h,k⟩:=h;exact c U M R a b h k
theorem qY.el{K:Ac}{H:Hp}{Z:SV}{C:Prop}{t:aD}{E:lS}(h:qY K t E Z H)(c:∀U M D,AS K H M Z U->AM K H M->t D U M->qX K H M D E->C):C:=by let⟨U,M,D,a,b,h,k⟩:=h;exact c U M D a b h k
section
variable {X:Cx}
theorem PE.weak(h:PE X e t)(k:∀Z H Q,t' Z H Q->t Z H Q):PE X e t':=λaf s Z H Q I q=>h af s Z H Q I (k Z H Q q)
theorem PT.weak(h:PT X e t)(k:∀Z H Q,t' Z H Q->t Z H Q):PT X e t':=λaf s Z H Q I q=>h af s Z H Q I (k Z H Q q)
theorem PW.weak(h:PW X e t)(k:∀Z H Q,t' Z H Q->t Z H Q):PW X e t':=λf af s Z H Q I q=>h f af s Z H Q I (k Z H Q q)
theorem PA.weak(h:PA X es t)(k:∀Z H Q,t' Z H Q->t Z H Q):PA X es t':=λpos af s Z H Q I q=>h pos af s Z H Q I (k Z H Q q)
theorem PS.weak{st:PySem.Stmt}{t t':TS}(h:PS X st t)(k:∀D Z H,t' D Z H->t D Z H):PS X st t':=λaf s Z H D I q=>h af s Z H D I (k D Z H q)
theorem fT.weak{st:List PySem.Stmt}{t t':TS}(h:fT X st t)(k:∀D Z H,t' D Z H->t D Z H):fT X st t':=λaf s Z H D I q=>h af s Z H D I (k D Z H q)
theorem PO.weak(h:PO X e t)(k:∀Z H Q,t' Z H Q->t Z H Q):PO X e t':=λaf s Z H Q I q=>h af s Z H Q I (k Z H Q q)
theorem iM.weak(h:iM X es t)(k:∀Z H Q,t' Z H Q->t Z H Q):iM X es t':=λaf s Z H Q I q=>h af s Z H Q I (k Z H Q q)
end
abbrev E3(X:Cx)(e:Cg)(t:aS):Prop:=PE X e (up X.K t)
abbrev T3(X:Cx)(e:Cg)(t:dE):Prop:=PT X e (kS X.K t)
abbrev W3(X:Cx)(e:Cg)(t:dE):Prop:=PW X e (kS X.K t)
abbrev A3(X:Cx)(es:↑Cg)(t:dG):Prop:=PA X es (pO X.K t)
def cV(K:Ac)(r:R3):R2:=λx y H Q=>∃n l M R,AM K H M/\AV K H M x n/\AV K H M y l/\r n l M R/\Up K H M R Q
def E8(K:Ac)(r:W->Mm->K3->Prop):V->Hp->VK->Prop:=λx H Q=>∃n M R,AM K H M/\AV K H M x n/\r n M R/\Up K H M R Q
def eR(K:Ac)(r:↑W->Mm->K3->Prop):↑V->Hp->VK->Prop:=λxs H Q=>∃ws M R,AM K H M/\aK K H M xs ws/\r ws M R/\Up K H M R Q
def kA(K:Ac)(r:W->↑W->Mm->K3->Prop):V->↑V->Hp->VK->Prop:=λx xs H Q=>∃n ws M R,AM K H M/\AV K H M x n/\aK K H M xs ws/\r n ws M R/\Up K H M R Q
section
variable {X:Cx}{a b c:Cg}{ta tb tc:aS}{pos:Hu}
def so{q:Type}:Option q->(q->Prop)->Prop
 | some a,Q=>Q a
 | none,_=>False
theorem so.el{q:Type}{o:Option q}{Q:q->Prop}(h:so o Q):∃a,o=aa a/\Q a:=by
 cases o
 .exact h.elim
 .exact⟨_,rfl,h⟩
theorem so.of{q:Type}{o:Option q}{a:q}{Q:q->Prop}(e:o=aa a)(h:Q a):so o Q:=by subst e;exact h
abbrev qZ:W->(Bool->Prop)->Prop
 | .bl k,Q=>Q k
 | _,_=>False
theorem qZ.el{Q:Bool->Prop}(h:qZ w Q):∃k,w=.bl k/\Q k:=by cases w<;>first|exact⟨_,rfl,h⟩|exact h.elim
abbrev sz:↑W->Prop->Prop
 | [],Q=>Q
 | [_],Q=>Q
 | [_,_],Q=>Q
 | [_,_,_],Q=>Q
 | [_,_,_,_],Q=>Q
 | ws,Q=>↥ws<=Ax/\Q
theorem sz.el{Q:Prop}(h:sz ws Q):↥ws<=Ax/\Q:=by
 unfold sz at h;split at h
 case h_6=>exact h
 all_goals exact⟨Ar (by simp) (show 4<=Ax by decide),h⟩
abbrev cH(i:Nat):aS:=λU M R=>match U[i]? with
 | some (aa w)=>R w M
 | _=>False
theorem WO{i:Nat}(h:cH i U M R):∃w,U[i]? = aa (aa w)/\R w M:=by
 unfold cH at h;split at h
 .exact⟨_,‹_›,h⟩
 .exact h.elim
abbrev vC(w:W):aS:=λ_ M R=>R w M
theorem v(i:Nat)(t:X.N[i]? = aa x:=by rfl)(c:tB X.env.scope x:=by first|exact Or.inl rfl|exact Or.inr (Or.inl rfl)|exact Or.inr (Or.inr rfl))(hd:Db x:=by decide)(z:(x==("__classdict__" : Ay))=ac:=by decide):E3 X (.Name x pos) (cH i):=(CP t c hd z).weak λZ H Q W=>by
 let⟨U,M,R,J,Y,h,k⟩:=W;let⟨w,e,r⟩:=WO h;let⟨v,D,av⟩:=J.get e;exact⟨v,D,k.at Y av r⟩
theorem i9{i j pos}:E3 X (.Constant (.int i) j pos) (vC (.int i)):=OP.weak λZ H Q W=>W.el λU M R J Y r k=>k.at Y (.int i) r
theorem WQ{b j pos}:E3 X (.Constant (.bool b) j pos) (vC (.bl b)):=OQ.weak λZ H Q W=>W.el λU M R J Y r k=>k.at Y (.bl b) r
theorem WR{x j pos}:E3 X (.Constant (.str x) j pos) (vC (.str x)):=OR.weak λZ H Q W=>W.el λU M R J Y r k=>k.at Y (.str x) r
theorem rA{x:Ay}{y:V}{w:W}{u:Ae}{pos:Hu}(L:Gl X x)(P:X.mg x=aa u)(r:RelV y u)(hw:∀H M,AV X.K H M y w)(hd:Db x:=by decide):E3 X (.Name x pos) (vC w):=
 (OS L P r hd).weak λZ H Q T=>T.el λU M R J Y r k=>k.at Y (hw H M) r
theorem WS{x:Ay}{y:V}{w:W}{u:Ae}{pos:Hu}(L:Gl X x)(P:X.mg x=ae)(c:Cr x=aa u)(r:RelV y u)(hw:∀H M,AV X.K H M y w)(hn:x≠"__name__":=by decide)(hd:Db x:=by decide):E3 X (.Name x pos) (vC w):=
 (OT L P c r hn hd).weak λZ H Q T=>T.el λU M R J Y r k=>k.at Y (hw H M) r
theorem WT(m:E3 X a ta):E3 X a (bE ta):=m.weak λZ H Q W=>W.el λU M R J Y h k=>⟨U,M,_,J,Y,h,k.frz⟩
abbrev aG(r:R3)(ta tb:aS):aS:=λU M R=>ta U M λx M1=>tb U M1 λy d=>r x y d R
abbrev aH:=cH 0
abbrev aM:=cH 1
abbrev aX:=cH 2
abbrev bB:=cH 3
abbrev bA:=cH 4
abbrev cB:=cH 5
abbrev cQ:=cH 6
abbrev cD:=cH 7
abbrev eZ:=cH 8
abbrev iQ:=cH 9
abbrev pP:=cH 10
abbrev mZ:=cH 11
abbrev rB:=cH 12
abbrev WU:=cH 13
abbrev vI(i:Int):=vC (.int i)
abbrev bC:=vI 0
abbrev a7:=vI 1
abbrev l5:=vI 2
abbrev kT:=vI 3
theorem uB{K:Ac}{r:R3}{Z:SV}{H:Hp}{Q:VK}(h:up K (aG r ta tb) Z H Q):qP (cV K r) (up K ta) (up K tb) Z H Q:=by
 let⟨U,M,R,J,Y,h,k⟩:=h;refine⟨U,M,_,J,Y,h,λx H1 n M1 s j S O=>⟨U,M1,_,J.kp Y s,j,O,λy w l d B P E L=>?_⟩⟩;exact⟨n,l,d,R,P,S.kp j B,E,L,(k.kp s).kp B⟩
theorem rC(S:bF X (Eh op) (cV X.K r))(m:E3 X a ta)(G:E3 X b tb):E3 X (.BinOp a op b pos) (aG r ta tb):=(QS S m G).weak λ_ _ _ h=>uB h
theorem WV(ho:bF X (Du op) (cV X.K r))(ha:E3 X a ta)(hb:E3 X b tb)(hm:Ly op b=ac:=by first|exact CY _|with_unfolding_all rfl):E3 X (.Compare a [op] [b] pos) (aG r ta tb):=(RF ho ha hb hm).weak λ_ _ _ h=>uB h
abbrev bN(t:aS):dE:=λU M Q=>t U M λw M'=>qZ w λk=>Q k M'
theorem AV.bl_inv{K:Ac}{H:Hp}{M:Mm}{v:V}{k:Bool}(h:AV K H M v (.bl k)):v=.bl k:=by cases h;rfl
theorem yP{op:CmpOp}{r:R3}(S:bF X (Du op) (cV X.K r))(m:E3 X a ta)(G:E3 X b tb)(P:Ly op b=ac:=by first|exact CY _|with_unfolding_all rfl):T3 X (.Compare a [op] [b] pos) (bN (aG r ta tb)):=
 (RH S m G P).weak λZ H Q V=>V.el λU M R J Y h k=>uB ⟨U,M,_,J,Y,h,λv H' w M' y W av h=>by
  let⟨c,rfl,r⟩:=h.el;exact⟨c,av.bl_inv,k c H' M' y W r⟩⟩
abbrev kB(r:W->Mm->K3->Prop)(ta:aS):aS:=λU M R=>ta U M λx M1=>r x M1 R
theorem WW{op:UnaryOp}{r:W->Mm->K3->Prop}(S:qO X (Uv op) (E8 X.K r))(m:E3 X a ta):E3 X (.UnaryOp op a pos) (kB r ta):=
 (QT S m).weak λZ H Q V=>V.el λU M R J Y h k=>⟨U,M,_,J,Y,h,λx H1 n M1 s j t O=>⟨n,M1,R,j,t,O,k.kp s⟩⟩
def yQ:W->Mm->(Bool->Mm->Prop)->Prop
 | .non,M,Q=>Q ac M
 | .bl b,M,Q=>Q b M
 | .int i,M,Q=>Q (i !=0) M
 | .str y,M,Q=>↥y<=Ax/\Q ((↥y:Int) !=0) M
 | .tup ws,M,Q=>Q (!ws.isEmpty) M
 | .rl ws,M,Q=>Q (!ws.isEmpty) M
 | .sc ws,M,Q=>Q (!ws.isEmpty) M
 | .dk kvs,M,Q=>Q (!kvs.isEmpty) M
 | .ref p,M,Q=>(∃ws,M p=aa (.lst ws)/\Q (!ws.isEmpty) M)\/∃kvs,M p=aa (.dK kvs)/\Q (!kvs.isEmpty) M
 | _,_,_=>False
abbrev fB(t:aS):dE:=λU M Q=>t U M λw M'=>yQ w M' Q
theorem aK.empty{K:Ac}{H:Hp}{M:Mm}{vs:↑V}{ws:↑W}(h:aK K H M vs ws):(!ws.isEmpty) = !vs.isEmpty:=by cases h<;>rfl
theorem uC(m:E3 X a ta)(d:∀f,Tu a X.env f=(do let v <-f;Pr a.pos;Ji [v] (truthy v)):=by intro _;rfl):T3 X a (fB ta):=
 (RK m d).weak λZ H Q W=>W.el λU M R J Y h k=>⟨U,M,_,J,Y,h,λv H' w M' L c av r=>by
  cases av with
  | non=>exact⟨ac,rfl,k _ _ _ L c r⟩
  | bl b=>exact⟨b,rfl,k _ _ _ L c r⟩
  | int i=>exact⟨_,rfl,k _ _ _ L c r⟩
  | str y=>exact⟨_,⟨r.1,rfl⟩,k _ _ _ L c r.2⟩
  | ty n=>exact Bq r
  | tup e q=>exact⟨_,.inr (.inl ⟨_,bU.of e,q.empty⟩),k _ _ _ L c r⟩
  | rl e n q=>exact⟨_,.inl ⟨_,bL.of e,q.empty⟩,k _ _ _ L c r⟩
  | sc e q=>exact⟨_,.inl ⟨_,e.sq,q.empty⟩,k _ _ _ L c r⟩
  | @dk a ks kvs e n j q=>exact⟨!kvs.isEmpty,.inr (.inr ⟨_,e,by have:=oJ j q;cases this<;>rfl⟩),k _ _ _ L c r⟩
  | dt e n j q=>exact Bq r
  | fk e j q=>exact Bq r
  | ft e j q=>exact Bq r
  | ref p=>
   rcases r with⟨ws,e,r⟩|⟨kvs,e,r⟩
   .let⟨vs,D,q⟩:=c.lst e;exact⟨_,.inl ⟨_,bL.of D,q.empty⟩,k _ _ _ L c r⟩
   .let⟨ks,D,q⟩:=c _ _ e;exact⟨!kvs.isEmpty,.inr (.inr ⟨_,D,by cases q<;>rfl⟩),k _ _ _ L c r⟩⟩
abbrev iR(t u:dE):dE:=λU M Q=>t U M λc M1=>if c=ab then u U M1 Q else Q ac M1
abbrev uD(t u:dE):dE:=λU M Q=>t U M λc M1=>if c=ab then Q ab M1 else u U M1 Q
abbrev rD(t:dE):dE:=λU M Q=>t U M λc M1=>Q (!c) M1
variable {tA tB':dE}{rest:↑Cg}
theorem E9(m:T3 X a tA):W3 X (.BoolOp .And [a] pos) tA:=OX m
theorem WX(m:T3 X a tA):W3 X (.BoolOp .Or [a] pos) tA:=OY m
theorem FA(m:T3 X a tA)(G:W3 X (.BoolOp .And (b::rest) pos) tB'):W3 X (.BoolOp .And (a::b::rest) pos) (iR tA tB'):=
 (OZ m G).weak λZ H Q V=>V.el λU M R J Y h k=>⟨U,M,_,J,Y,h,λc H1 M1 s j O=>by
  cases c with
  | true=>exact⟨U,M1,R,J.kp Y s,j,O,λb H' M' y W r=>k b H' M' (s.trans y) W r⟩
  | false=>exact k ac H1 M1 s j O⟩
theorem WY(m:T3 X a tA)(G:W3 X (.BoolOp .Or (b::rest) pos) tB'):W3 X (.BoolOp .Or (a::b::rest) pos) (uD tA tB'):=
 (O0 m G).weak λZ H Q V=>V.el λU M R J Y h k=>⟨U,M,_,J,Y,h,λc H1 M1 s j O=>by
  cases c with
  | true=>exact k ab H1 M1 s j O
  | false=>exact⟨U,M1,R,J.kp Y s,j,O,λb H' M' y W r=>k b H' M' (s.trans y) W r⟩⟩
theorem WZ(m:T3 X a tA):T3 X (.UnaryOp .Not a pos) (rD tA):=
 (O3 m).weak λZ H Q W=>W.el λU M R J Y h k=>⟨U,M,_,J,Y,h,λc H1 M1 s j O=>k (!c) H1 M1 s j O⟩
abbrev uE(ta tb:aS):aS:=λU M R=>ta U M λx M1=>qZ x λc=>if c=ab then tb U M1 R else R (.bl ac) M1
abbrev oM(ta tb:aS):aS:=λU M R=>ta U M λx M1=>qZ x λc=>if c=ab then R (.bl ab) M1 else tb U M1 R
theorem W0{op}(h:E3 X a ta):E3 X (.BoolOp op [a] pos) ta:=O6 h
theorem v_and(m:E3 X a ta)(G:E3 X (.BoolOp .And (b::rest) pos) tb):E3 X (.BoolOp .And (a::b::rest) pos) (uE ta tb):=
 (O7 m G).weak λZ H Q W=>W.el λU M R J Y h k=>⟨U,M,_,J,Y,h,λx H1 n M1 s j S h=>by
  let⟨c,rfl,O⟩:=h.el;refine⟨c,S.bl_inv,?_⟩;cases c with
  | true=>exact⟨U,M1,R,J.kp Y s,j,O,k.kp s⟩
  | false=>exact(k.kp s).at j (.bl ac) O⟩
theorem v_or(m:E3 X a ta)(G:E3 X (.BoolOp .Or (b::rest) pos) tb):E3 X (.BoolOp .Or (a::b::rest) pos) (oM ta tb):=
 (O8 m G).weak λZ H Q W=>W.el λU M R J Y h k=>⟨U,M,_,J,Y,h,λx H1 n M1 s j S h=>by
  let⟨c,rfl,O⟩:=h.el;refine⟨c,S.bl_inv,?_⟩;cases c with
  | true=>exact(k.kp s).at j (.bl ab) O
  | false=>exact⟨U,M1,R,J.kp Y s,j,O,k.kp s⟩⟩
abbrev yR(t:dE)(ta tb:aS):aS:=λU M R=>t U M λc M1=>if c=ab then ta U M1 R else tb U M1 R
theorem W4(hc:T3 X c tA)(m:E3 X a ta)(G:E3 X b tb):E3 X (.IfExp c a b pos) (yR tA ta tb):=
 (PB hc m G).weak λZ H Q W=>W.el λU M R J Y h k=>⟨U,M,_,J,Y,h,λc H1 M1 s j O=>by
  cases c with
  | true=>exact⟨U,M1,R,J.kp Y s,j,O,k.kp s⟩
  | false=>exact⟨U,M1,R,J.kp Y s,j,O,k.kp s⟩⟩
abbrev aB:dG:=λ_ M R=>R [] M
abbrev aA(ta:aS)(a:dG):dG:=λU M R=>ta U M λx M1=>a U M1 λxs d=>R (x::xs) d
variable {e:Cg}{es:↑Cg}{te:aS}{t:dG}
theorem e8:A3 X [] aB:=R7.weak λZ H Q W=>W.el λU M R J Y h k=>k [] H [] M (Kp.refl Y) Y .nil h
theorem eC(m:E3 X e te)(T:A3 X es t)(F:Se X e es:=by rfl):A3 X (e::es) (aA te t):=
 (R8 m T F).weak λZ H Q W=>W.el λU M R J Y h k=>⟨U,M,_,J,Y,h,λx H1 n M1 s j S O=>⟨U,M1,_,J.kp Y s,j,O,λxs w ws d B P E L=>
  k (x::xs) w (n::ws) d (s.trans B) P (.cons (S.kp j B) E) L⟩⟩
abbrev a8(t:dG):aS:=λU M R=>t U M λws M1=>sz ws (R (.tup ws) M1)
abbrev gA(t:dG):aS:=λU M R=>t U M λws M1=>sz ws (aR ws M1 R)
theorem laidT{K:Ac}{H:Hp}{M:Mm}{R:K3}{Q:VK}{p:An}{xs:↑V}{ws:↑W}(Y:AM K H M)(k:Up K H M R Q)(N:H p=ae)(S:aK K H M xs ws)(r:R (.tup ws) M):Q (.ref p) (aL H p (.tup xs)):=by
 let⟨P,B⟩:=Y.tup (u:=.tup xs) N;exact k _ _ _ _ B P (.tup bY (S.newT N)) r
theorem gY{K:Ac}{H:Hp}{M:Mm}{R:K3}{Q:VK}{p:An}{xs:↑V}{ws:↑W}(Y:AM K H M)(k:Up K H M R Q)(N:H p=ae)(S:aK K H M xs ws)(r:∀p,M p=ae->R (.ref p) (put M p (.lst ws))):Q (.ref p) (aL H p (.lst xs)):=by
 let⟨P,B⟩:=Y.laid (o:=.lst ws) (u:=.lst xs) N ⟨xs,bY,S.newL N⟩;exact k _ _ _ _ B P (.ref p) (r p (Y.nonM N))
theorem yS{K:Ac}{H:Hp}{M:Mm}{R:K3}{Q:VK}{l:An}{xs:↑V}{ws b:↑W}{y:V}{w:W}(Y:AM K H M)(k:Up K H M R Q)(hl:M l=aa (.lst b))(S:aK K H M xs ws)(E:AV K H M y w)(r:R w (put M l (.lst ws))):Q y (aL H l (.lst xs)):=by
 let⟨P,B⟩:=Y.write (o:=.lst ws) (u:=.lst xs) hl ⟨xs,bY,S.wr Y hl⟩;exact k _ _ _ _ B P (E.wr Y hl) r
theorem FC{x1}(h:A3 X es t):E3 X (.Tuple es x1 pos) (a8 t):=
 (SD h).weak λZ H Q W=>W.el λU M R J Y h k=>⟨U,M,_,J,Y,h,λxs H1 ws M1 s j E r=>⟨by rw[↥E];exact r.el.1,λp N=>laidT j (k.kp s) N E r.el.2⟩⟩
theorem yT(h:A3 X es t):E3 X (.List es pos) (gA t):=
 (C5 h).weak λZ H Q W=>W.el λU M R J Y h k=>⟨U,M,_,J,Y,h,λxs H1 ws M1 s j E r=>⟨by rw[↥E];exact r.el.1,λp N=>gY j (k.kp s) N E r.el.2⟩⟩
abbrev bH(r:↑W->Mm->K3->Prop)(t:dG):aS:=λU M R=>t U M λws M1=>r ws M1 R
variable {x:Ay}{p:Hu}{id T:String}{r:↑W->Mm->K3->Prop}
theorem FD{K:Ac}{Z:SV}{H:Hp}{Q:VK}(h:up K (bH r t) Z H Q):xW (eR K r) (pO K t) Z H Q:=by
 let⟨U,M,R,J,Y,h,k⟩:=h;exact⟨U,M,_,J,Y,h,λxs H1 ws M1 s j E O=>⟨ws,M1,R,j,E,O,k.kp s⟩⟩
theorem kU(hc:cN X (.builtin id) (eR X.K r))(L:Gl X x)(P:X.mg x=ae)(c:Cr x=aa (.builtin id))(m:A3 X (e::es) t)(hn:x≠"__name__":=by decide)(l:Db x:=by decide)(F:Se X e es:=by rfl)(a:Sb X pos es:=by rfl):E3 X (.Call (.Name x p) (e::es) [] pos) (bH r t):=(SN hc L P c m hn l F a).weak λ_ _ _ h=>FD h
theorem kC(hc:cN X (.type T) (eR X.K r))(L:Gl X x)(P:X.mg x=ae)(c:Cr x=aa (.type T))(m:A3 X (e::es) t)(hn:x≠"__name__":=by decide)(l:Db x:=by decide)(F:Se X e es:=by rfl)(a:Sb X pos es:=by rfl):E3 X (.Call (.Name x p) (e::es) [] pos) (bH r t):=(SO hc L P c m hn l F a).weak λ_ _ _ h=>FD h
abbrev aY:=↑W->Mm->K3->Prop
def fM(K:Ac)(sp:aY):Sp:=λvs H Q _=>∃ws M R,AM K H M/\aK K H M vs ws/\sp ws M R/\Up K H M R Q
variable {k:Nat}{f:An}{fd:Fc}{ps:↑Ay}{sp:aY}
abbrev aW(sp:aY)(t:dG):aS:=λU M R=>t U M λws M1=>sp ws M1 R
theorem FE{K:Ac}{Z:SV}{H:Hp}{Q:VK}(h:up K (aW sp t) Z H Q):C6 (fM K sp) [] E0 (pO K t) Z H Q:=by
 let⟨U,M,R,J,Y,h,k⟩:=h;exact⟨U,M,_,J,Y,h,λxs H1 ws M1 s j E O=>⟨ws,M1,R,j,by rw[Ce];exact E,O,k.kp s⟩⟩
theorem rE(F:X.f eQ k f fd ps (fM X.K sp))(T:cP k X.A)(L:Gl X x)(P:X.mg x=aa (.ref f))(hk:Gh X.K (.ref f)=ab)(G:Binds X.K fd ps [])(m:A3 X (e::es) t)(l:Db x:=by decide)(Y:Se X e es:=by rfl)(a:Sb X pos es:=by rfl):
  E3 X (.Call (.Name x p) (e::es) [] pos) (aW sp t):=(SE F T L P hk G .nil pK m l Y a).weak λ_ _ _ h=>FE h
def kD(T:String):W->Mm->Prop
 | .str _,_=>T = "str"
 | .int _,_=>T = "int"
 | .rl _,_=>T = "list"
 | .sc _,_=>T = "list"
 | .dk _,_=>T = "dict"
 | .dt _,_=>T = "dict"
 | .fk _,_=>T = "dict"
 | .ft _,_=>T = "dict"
 | .ref p,M=>(T = "list"/\∃ws,M p=aa (.lst ws))\/(T = "dict"/\((∃kvs,M p=aa (.dK kvs))\/∃kvs,M p=aa (.dT kvs)))
 | _,_=>False
theorem FF{K:Ac}{H:Hp}{M:Mm}{v:V}{w:W}(Y:AM K H M)(av:AV K H M v w)(h:kD T w M):tP K T v H:=by
 cases av with
 | str y=>exact h
 | int i=>exact h
 | rl e n q=>exact .inl ⟨h,_,bL.of e⟩
 | sc e q=>exact .inl ⟨h,_,e.sq⟩
 | dk e n j q=>exact .inr (.inr (.inl ⟨h,.inl ⟨_,.inl e⟩⟩))
 | dt e n j q=>exact .inr (.inr (.inl ⟨h,.inr ⟨_,.inl e⟩⟩))
 | ref p=>
  rcases h with⟨e,ws,h⟩|⟨e,h⟩
  .let⟨vs,D,_⟩:=Y.lst h;exact .inl ⟨e,vs,bL.of D⟩
  .refine .inr (.inr (.inl ⟨e,?_⟩));rcases h with⟨kvs,h⟩|⟨kvs,h⟩
   .let⟨ks,D,_⟩:=Y _ _ h;exact .inl ⟨ks,.inl D⟩
   .let⟨ks,D,_⟩:=Y _ _ h;exact .inr ⟨ks,.inl D⟩
 | non=>exact h.elim
 | bl b=>exact h.elim
 | ty n=>exact h.elim
 | tup e q=>exact h.elim
 | fk e j q=>exact .inr (.inr (.inl ⟨h,.inl ⟨_,.inr ⟨_,e⟩⟩⟩))
 | ft e j q=>exact .inr (.inr (.inl ⟨h,.inr ⟨_,.inr ⟨_,e⟩⟩⟩))
variable {o:Cg}{to:aS}{name:Ay}{apos cpos:Hu}{rm:W->↑W->Mm->K3->Prop}
abbrev rF(T:String)(r:W->↑W->Mm->K3->Prop)(to:aS):aS:=λU M R=>to U M λx M1=>kD T x M1/\r x [] M1 R
abbrev cR(T:String)(r:W->↑W->Mm->K3->Prop)(to:aS)(t:dG):aS:=λU M R=>to U M λx M1=>kD T x M1/\t U M1 λxs d=>r x xs d R
theorem FG(G:Ou T)(slot:Slot T name id)(q:Tq (.builtin id)=pure (.type "method_descriptor"))(P:fJ X id (kA X.K rm))(S:E3 X o to)(W:Gu o name X.env (Eu o X.env)=Eu o X.env:=by rfl)(y:(apos.endLine==cpos.line)=ab:=by rfl):E3 X (.Call (.Attribute o name apos) [] [] cpos) (rF T rm to):=
 (DM G slot q P S W y).weak λZ H Q V=>V.el λU M R J Y h k=>⟨U,M,_,J,Y,h,λx H1 n M1 s j t ⟨ty,O⟩=>⟨FF j t ty,n,[],M1,R,j,t,.nil,O,k.kp s⟩⟩
theorem kW(G:Ou T)(slot:Slot T name id)(q:Tq (.builtin id)=pure (.type "method_descriptor"))(P:fJ X id (kA X.K rm))(S:E3 X o to)(m:A3 X (e::es) t)(W:Gu o name X.env (Eu o X.env)=Eu o X.env:=by rfl)(u:((Mg cpos (Cp (e::es) X.env)).all (λx=>!x.1)&&(Oe cpos (La [] X.env)).all (λx=>x.1.isSome)
  &&decide (↥(e::es)+↥([]:↑Px)+(if ([]:↑Px).isEmpty then 0 else 1)<30))=ab:=by rfl)(y:(apos.endLine==cpos.line)=ab:=by rfl)(F:Se X e es:=by rfl)(c:Sb X cpos es:=by rfl):
  E3 X (.Call (.Attribute o name apos) (e::es) [] cpos) (cR T rm to t):=
 (UD G slot q P S m W u y F c).weak λZ H Q B=>B.el λU M R J Y h k=>⟨U,M,_,J,Y,h,λx H1 n M1 s j V ⟨ty,O⟩=>⟨FF j V ty,U,M1,_,J.kp Y s,j,O,λxs w ws f i d E L=>
  ⟨n,ws,f,R,d,V.kp j i,E,L,(k.kp s).kp i⟩⟩⟩
end
section
variable {X:Cx}
theorem m8{f:Ae->Ae->Sg Ae}(G:bF X f r)(h:∀x y H Q M R,AM X.K H M->Up X.K H M R Q->∀n l,J n l M R->AV X.K H M x n->AV X.K H M y l->r x y H Q):bF X f (cV X.K J):=
 λaf s Z H x y v u Q I d P W=>by let⟨n,l,M,R,Y,S,E,O,k⟩:=W;exact G af s Z H x y v u Q I d P (h x y H Q M R Y k n l O S E)
theorem W5(G:jN X r)(h:∀x y H Q M R,AM X.K H M->Up X.K H M R Q->∀n l,J n l M R->AV X.K H M x n->AV X.K H M y l->r x y H Q):jN X (cV X.K J):=
 λe b af s Z H x y v u Q I d P ⟨n,l,M,R,Y,S,E,O,k⟩=>G e b af s Z H x y v u Q I d P (h x y H Q M R Y k n l O S E)
theorem yU{r:↑V->Hp->VK->Prop}{J:↑W->Mm->K3->Prop}(G:cN X f r)(h:∀xs H Q M R,AM X.K H M->Up X.K H M R Q->∀ws,J ws M R->aK X.K H M xs ws->r xs H Q):cN X f (eR X.K J):=
 λaf s Z H xs us Q I rs U=>by let⟨ws,M,R,Y,S,O,k⟩:=U;exact G af s Z H xs us Q I rs (h xs H Q M R Y k ws O S)
abbrev rG:R3
 | .int i,.int j,M,R=>R (.int (i+j)) M
 | .tup xs,.tup G,M,R=>xs≠[]/\↥xs+↥G<=Ax/\R (.tup (xs++G)) M
 | .ref a,.ref b,M,R=>∃xs G,M a=aa (.lst xs)/\M b=aa (.lst G)/\↥xs+↥G<=Ax/\aR (xs++G) M R
 | .rl xs,.ref b,M,R=>∃G,M b=aa (.lst G)/\↥xs+↥G<=Ax/\aR (xs++G) M R
 | .ref a,.rl G,M,R=>∃xs,M a=aa (.lst xs)/\↥xs+↥G<=Ax/\aR (xs++G) M R
 | .rl xs,.rl G,M,R=>↥xs+↥G<=Ax/\aR (xs++G) M R
 | _,_,_,_=>False
def l6(M:Mm):W->↑W->Prop
 | .ref a,ws=>M a=aa (.lst ws)
 | .rl ws,d=>ws=d
 | _,_=>False
theorem m9{K:Ac}{H:Hp}{M:Mm}{v:V}{w:W}{ws:↑W}(Y:AM K H M)(h:AV K H M v w)(e:l6 M w ws):∃a xs,v=.ref a/\H a=aa (.lst xs)/\aK K H M xs ws:=by
 cases w<;>first|exact Bq e|skip
 case ref a=>exact Y.lstE e λxs f q=>⟨_,_,h.inv,f,q⟩
 case rl zs=>exact h.rlE λa xs D f q=>⟨_,_,D,f,by rw[<-show zs=ws from e];exact q⟩
theorem W6{P:W->W->Prop}(m:∀i j,R (.int (i+j)) M->P (.int i) (.int j))(S:∀xs G,xs≠[]/\↥xs+↥G<=Ax/\R (.tup (xs++G)) M->P (.tup xs) (.tup G))(t:∀x y xs G,l6 M x xs->l6 M y G->↥xs+↥G<=Ax->aR (xs++G) M R->P x y):∀x y,rG x y M R->P x y:=by
 intro x y h;cases x<;>first|exact Bq h|(cases y<;>first|exact Bq h|skip)
 case int.int=>exact m _ _ h
 case tup.tup=>exact S _ _ h
 case ref.ref=>let⟨xs,G,e,f,l,r⟩:=h;exact t _ _ _ _ e f l r
 case rl.ref=>let⟨G,f,l,r⟩:=h;exact t _ _ _ _ rfl f l r
 case ref.rl=>let⟨xs,e,l,r⟩:=h;exact t _ _ _ _ e rfl l r
 case rl.rl=>exact t _ _ _ _ rfl rfl h.1 h.2
theorem FH:bF X (Eh .Add) (cV X.K rG):=m8 (QV.or (TH.or UJ)) λx y H Q M R Y k=>W6
 (λi j h S E=>.inl ⟨i,j,S.inv,E.inv,k.at Y (.int _) h⟩)
 (λxs G h S E=>S.tupE λa us D C d=>E.tupE λb vs A V U=>.inr (.inl ⟨a,b,us,vs,D,A,bU.of C,bU.of V,
  λz=>h.1 (Eo.mp (by rw[<-↥d,z];rfl)),by rw[↥d,↥U];exact h.2.1,
  λz=>k.at Y (by rw[<-D];exact S) (by rw[<-Ce xs,<-Eo.mp (show ↥G=0 by rw[<-↥U,z];rfl)];exact h.2.2),
  λ_ p N=>laidT Y k N (d.append U) h.2.2⟩))
 (λn T xs G O L l r S E=>.inr (.inr (by
  let⟨a,us,D,C,d⟩:=m9 Y S O;let⟨b,vs,A,V,U⟩:=m9 Y E L;exact⟨a,b,us,vs,D,A,C,V,by rw[↥d,↥U];exact l,λp N=>gY Y k N (d.append U) r⟩)))
abbrev pQ(C:Int->Int->Prop)(g:Int->Int->W):R3
 | .int i,.int j,M,R=>C i j/\R (g i j) M
 | _,_,_,_=>False
theorem W7{C:Int->Int->Prop}{g:Int->Int->W}{P:W->W->Prop}(c:∀i j,C i j/\R (g i j) M->P (.int i) (.int j))(x y:W)(h:pQ C g x y M R):P x y:=by
 cases x<;>first|exact Bq h|(cases y<;>first|exact Bq h|exact c _ _ h)
theorem uF{f:Ae->Ae->Sg Ae}{C:Int->Int->Prop}{g:Int->Int->V}{g':Int->Int->W}(G:bF X f (rI C g))(L:∀H M i j,AV X.K H M (g i j) (g' i j)):bF X f (cV X.K (pQ C g')):=
 m8 G λx y H Q M R Y k=>W7 λi j h S E=>⟨i,j,S.inv,E.inv,h.1,k.at Y (L H M i j) h.2⟩
abbrev nB(g:Int->Int->W):R3
 | .int i,.int j,M,R=>R (g i j) M
 | _,_,_,_=>False
theorem W8{g:Int->Int->W}{P:W->W->Prop}(c:∀i j,R (g i j) M->P (.int i) (.int j))(x y:W)(h:nB g x y M R):P x y:=by
 cases x<;>first|exact Bq h|(cases y<;>first|exact Bq h|exact c _ _ h)
theorem pR{f:Ae->Ae->Sg Ae}{g:Int->Int->V}{g':Int->Int->W}(G:bF X f (kK g))(L:∀H M i j,AV X.K H M (g i j) (g' i j)):bF X f (cV X.K (nB g')):=
 m8 G λx y H Q M R Y k=>W8 λi j h S E=>⟨i,j,S.inv,E.inv,k.at Y (L H M i j) h⟩
abbrev kX:R3:=nB λi j=>.int (i-j)
theorem W9:bF X (Eh .Sub) (cV X.K kX):=pR QW λ_ _ _ _=>.int _
abbrev jA:R3:=pQ D9 λi j=>.int (i/j)
theorem FI:bF X (Eh .FloorDiv) (cV X.K jA):=uF VI λ_ _ _ _=>.int _
abbrev gL:R3:=pQ (λ_ j=>0<j) λi j=>.int (i % j)
theorem FJ:bF X (Eh .Mod) (cV X.K gL):=uF QY λ_ _ _ _=>.int _
abbrev jB:R3:=pQ pG λi j=>.int (i ^ j.toNat)
theorem XA:bF X (Eh .Pow) (cV X.K jB):=uF QZ λ_ _ _ _=>.int _
abbrev FK:R3:=pQ (λ_ j=>0<=j) λi j=>.int (i/2 ^ j.toNat)
theorem XB:bF X (Eh .RShift) (cV X.K FK):=uF Q0 λ_ _ _ _=>.int _
abbrev FL:R3:=nB λi j=>.int (Builtin.bitAnd i j)
theorem XC:bF X (Eh .BitAnd) (cV X.K FL):=pR Q1 λ_ _ _ _=>.int _
abbrev FN:R3
 | .int i,.int j,M,R=>(pH i j\/tX i j)/\R (.int (i*j)) M
 | .ref a,.int n,M,R=>∃xs,M a=aa (.lst xs)/\-(2 ^ 63)<=n/\n<2 ^ 63/\↥xs*n.toNat<=Ax/\aR (Bz n.toNat xs).flatten M R
 | .rl xs,.int n,M,R=>-(2 ^ 63)<=n/\n<2 ^ 63/\↥xs*n.toNat<=Ax/\aR (Bz n.toNat xs).flatten M R
 | _,_,_,_=>False
theorem XD{P:W->W->Prop}(m:∀i j,(pH i j\/tX i j)/\R (.int (i*j)) M->P (.int i) (.int j))(t:∀x n xs,l6 M x xs->-(2 ^ 63)<=n/\n<2 ^ 63/\↥xs*n.toNat<=Ax/\aR (Bz n.toNat xs).flatten M R->P x (.int n)):∀x y,FN x y M R->P x y:=by
 intro x y h;cases x<;>first|exact Bq h|(cases y<;>first|exact Bq h|skip)
 case int.int=>exact m _ _ h
 case ref.int=>let⟨xs,e,h⟩:=h;exact t _ _ _ e h
 case rl.int=>exact t _ _ _ rfl h
theorem XE:bF X (Eh .Mult) (cV X.K FN):=m8 (QX.or (VH.or UM)) λx y H Q M R Y k=>XD
 (λi j h S E=>h.1.elim (λz=>.inl ⟨i,j,S.inv,E.inv,z,k.at Y (.int _) h.2⟩) λz=>.inr (.inl ⟨i,j,S.inv,E.inv,z,k.at Y (.int _) h.2⟩))
 (λt n xs O h S E=>.inr (.inr (by
  let⟨a,us,D,C,d⟩:=m9 Y S O;exact⟨a,n,us,D,E.inv,C,h.1,h.2.1,by rw[↥d];exact h.2.2.1,λp N=>gY Y k N (d.flatRep _) h.2.2.2⟩)))
abbrev kE:W->Mm->K3->Prop
 | .int i,M,R=>R (.int (-i)) M
 | _,_,_=>False
theorem XF:qO X (Uv .USub) (E8 X.K kE):=by
 rintro af s Z H x v Q I d ⟨n,M,R,Y,S,h,k⟩;cases n<;>first|exact Bq h|skip
 case int i=>exact Q3 af s Z H _ v Q I d ⟨i,S.inv,k.at Y (.int _) h⟩
abbrev nC:R3:=nB λi j=>.bl (decide (i<j))
theorem yV:bF X (Du .Lt) (cV X.K nC):=pR Q9 λ_ _ _ _=>.bl _
abbrev FO:R3:=nB λi j=>.bl (decide (i<=j))
theorem FP:bF X (Du .LtE) (cV X.K FO):=pR RA λ_ _ _ _=>.bl _
abbrev rH:R3:=nB λi j=>.bl (decide (j<i))
theorem FQ:bF X (Du .Gt) (cV X.K rH):=pR RB λ_ _ _ _=>.bl _
abbrev yW:R3:=nB λi j=>.bl (decide (j<=i))
theorem FR:bF X (Du .GtE) (cV X.K yW):=pR RC λ_ _ _ _=>.bl _
mutual
inductive Snap(M:Mm):W->Nh->Prop
 | non:Snap M .non .none
 | bl (b:Bool):Snap M (.bl b) (.bool b)
 | int (i:Int):Snap M (.int i) (.int i)
 | str (x:Ay):Snap M (.str x) (.str x)
 | tup {ws:↑W} {ds:↑Nh}:jC M ws ds->Snap M (.tup ws) (.tuple ds)
 | rl {ws:↑W} {ds:↑Nh}:jC M ws ds->Snap M (.rl ws) (.list ds)
 | ref {a:An} {ws:↑W} {ds:↑Nh}:M a=aa (.lst ws)->jC M ws ds->Snap M (.ref a) (.list ds)
inductive jC(M:Mm):↑W->↑Nh->Prop
 | nil:jC M [] []
 | cons {w:W} {ws:↑W} {d:Nh} {ds:↑Nh}:Snap M w d->jC M ws ds->jC M (w::ws) (d::ds)
end
section
variable {af:Pn}{Z:SV}{H:Hp}{s:Aj}{M:Mm}
theorem jC.reads(I:Inv X af Z H s)(Y:AM X.K H M)(h:jC M ws B):∀{vs:↑V} {us:↑Ae},aK X.K H M vs ws->aZ vs us->∃J,ReadsAll s.heap us B J:=
 jC.rec (motive_1:=λw d _=>∀{v:V} {u:Ae},AV X.K H M v w->RelV v u->∃J,Reads s.heap u d J) (motive_2:=λws B _=>∀{vs:↑V} {us:↑Ae},aK X.K H M vs ws->aZ vs us->∃J,ReadsAll s.heap us B J)
  (λav r=>by rw[show _=_ from av.inv]at r;rw[show _=_ from r];exact⟨_,.none⟩)
  (λb _ _ av r=>by rw[show _=_ from av.inv]at r;rw[show _=_ from r];exact⟨_,.bool b⟩)
  (λi _ _ av r=>by rw[show _=_ from av.inv]at r;exact r.elim λt r=>by rw[r];exact⟨_,.int i t⟩)
  (λx _ _ av r=>by rw[show _=_ from av.inv]at r;exact r.elim λt r=>by rw[r];exact⟨_,.str x t⟩)
  (λ_ E _ _ av r=>av.tupE λa xs e f q=>by
   rw[e]at r;rw[show _=_ from r];obtain⟨its,R,⟨o,D,A,n,l⟩,_⟩:=I.tuple (bU.of f);exact(E q R).elim λJ z=>⟨_,.tuple D A l (by simpa using z)⟩)
  (λ_ E _ _ av r=>av.rlE λa xs e f q=>by
   rw[e]at r;rw[show _=_ from r];let⟨its,R,pl,_⟩:=I.list (bL.of f);let⟨o,D,A,n,l⟩:=pl.isList;exact(E q R).elim λJ z=>⟨_,.list D A l (by simpa using z)⟩)
  (λF _ E _ _ av r=>Y.lstE F λvs f q=>by
   rw[show _=_ from av.inv]at r;rw[show _=_ from r];let⟨its,R,pl,_⟩:=I.list (bL.of f);let⟨o,D,A,n,l⟩:=pl.isList;exact(E q R).elim λJ z=>⟨_,.list D A l (by simpa using z)⟩)
  (λav r=>by cases av;cases r;exact⟨_,.nil⟩)
  (λ_ _ m Q _ _ av r=>by
   cases av with
   | cons a b=>
    cases r with
    | cons N c=>exact(m a N).elim λx T=>(Q b c).elim λy p=>⟨_,.cons T p⟩) h
theorem Snap.reads(I:Inv X af Z H s)(Y:AM X.K H M){w:W}{d:Nh}{v:V}{u:Ae}(h:Snap M w d)(av:AV X.K H M v w)(r:RelV v u):∃J,Reads s.heap u d J:=
 (jC.reads I Y (.cons h .nil) (.cons av .nil) (.cons r .nil)).elim λ_ z=>by
  cases z with
  | cons q _=>exact⟨_,q⟩
end
@[irreducible] def nD(neg:Bool)(x y:W)(M:Mm)(R:K3):Prop:=∃z a,Snap M x z/\Snap M y a/\EL z/\EL a/\R (.bl (if neg then !PyData.eqv z a else Lz z a)) M
def eD(neg:Bool):R3
 | .int i,.int j,M,R=>R (.bl (if neg then !decide (i=j) else decide (i=j))) M
 | .str i,.str j,M,R=>R (.bl (if neg then !decide (i=j) else decide (i=j))) M
 | .bl i,.bl j,M,R=>R (.bl (if neg then !decide (i=j) else decide (i=j))) M
 | x,y,M,R=>nD neg x y M R
theorem FT{i j:Int}:decide (V.int i=V.int j)=decide (i=j):=by rw[Dw];simp
theorem uG:decide (V.str i=V.str j)=decide (i=j):=by rw[Dw];simp
theorem FU{i j:Bool}:decide (V.bl i=V.bl j)=decide (i=j):=by rw[Dw];simp
theorem FV{n:Bool}{P:W->W->Prop}(m:∀i j,R (.bl (if n then !decide (i=j) else decide (i=j))) M->P (.int i) (.int j))(S:∀i j,R (.bl (if n then !decide (i=j) else decide (i=j))) M->P (.str i) (.str j))(t:∀i j,R (.bl (if n then !decide (i=j) else decide (i=j))) M->P (.bl i) (.bl j))(u:∀x y,nD n x y M R->P x y)(x y:W)(h:eD n x y M R):P x y:=by
 cases x<;>first|exact u _ _ h|(cases y<;>first|exact m _ _ h|exact S _ _ h|exact t _ _ h|exact u _ _ h)
theorem sV(e:x=i)(f:y=j)(h:tJ i j=ab):tJ x y=ab:=by rw[e,f];exact h
theorem dV{i j:V}{x y:V}{b:Bool}{Q:Bool->Prop}(e:x=i)(f:y=j)(h:decide (i=j)=b)(q:Q b):Q (decide (x=y)):=by rw[e,f,h];exact q
theorem XG(U:X.A.units+64<Fd):bF X (Du .Eq) (cV X.K (nD ac)):=by
 rintro af s Z H x y v u Q I d P ⟨n,l,M,R,Y,S,E,h,k⟩;unfold nD at h;let⟨z,a,m,G,fa,O,q⟩:=h;let⟨J,b⟩:=m.reads I Y S d;let⟨bs,rb⟩:=G.reads I Y E P;exact SeqAt.compareEq_reads b rb fa.1 O.1 (Gb (Ma (Ar (Lw _ _) (Ar fa.2 ∅)) _) U) ⟨.bl _,H,I,rfl,k.at Y (.bl _) q⟩
theorem XH(U:X.A.units+64<Fd):bF X (Du .NotEq) (cV X.K (nD ab)):=by
 rintro af s Z H x y v u Q I d P ⟨n,l,M,R,Y,S,E,h,k⟩;unfold nD at h;let⟨z,a,m,G,fa,O,q⟩:=h;let⟨J,b⟩:=m.reads I Y S d;let⟨bs,rb⟩:=G.reads I Y E P;exact SeqAt.compareNe_reads b rb fa.1 O.1 (Gb (Ma (Ar (Lw _ _) (Ar fa.2 ∅)) _) U) ⟨.bl _,H,I,rfl,k.at Y (.bl _) q⟩
theorem yX(U:X.A.units+64<Fd):bF X (Du .Eq) (cV X.K (eD ac)):=m8 (Q7.or (XG U)) λx y H Q M R Y k=>FV
 (λi j h S E=>.inl ⟨sV S.inv E.inv rfl,dV (Q:=λb=>Q (.bl b) H) S.inv E.inv FT (k.at Y (.bl _) h)⟩)
 (λi j h S E=>.inl ⟨sV S.inv E.inv rfl,dV (Q:=λb=>Q (.bl b) H) S.inv E.inv uG (k.at Y (.bl _) h)⟩)
 (λi j h S E=>.inl ⟨sV S.inv E.inv rfl,dV (Q:=λb=>Q (.bl b) H) S.inv E.inv FU (k.at Y (.bl _) h)⟩)
 (λn l h S E=>.inr ⟨n,l,M,R,Y,S,E,h,k⟩)
theorem FX(U:X.A.units+64<Fd):bF X (Du .NotEq) (cV X.K (eD ab)):=m8 (Q8.or (XH U)) λx y H Q M R Y k=>FV
 (λi j h S E=>.inl ⟨sV S.inv E.inv rfl,dV (Q:=λb=>Q (.bl !b) H) S.inv E.inv FT (k.at Y (.bl _) h)⟩)
 (λi j h S E=>.inl ⟨sV S.inv E.inv rfl,dV (Q:=λb=>Q (.bl !b) H) S.inv E.inv uG (k.at Y (.bl _) h)⟩)
 (λi j h S E=>.inl ⟨sV S.inv E.inv rfl,dV (Q:=λb=>Q (.bl !b) H) S.inv E.inv FU (k.at Y (.bl _) h)⟩)
 (λn l h S E=>.inr ⟨n,l,M,R,Y,S,E,h,k⟩)
def wK:aC->W
 | .inl i=>.int i
 | .inr x=>.str x
def aQ{U:Type}[DecidableEq U](kvs:↑(U×W))(k:U):Option W:=(kvs.find? λg=>decide (g.1=k)).map (·.2)
def bW{U:Type}[DecidableEq U](kvs:↑(U×W))(k:U)(v:W):↑(U×W):=
 if (kvs.any λg=>decide (g.1=k))=ab then kvs.map (λg=>if g.1=k then(g.1,v) else g) else kvs++[(k,v)]
theorem AV.key{K:Ac}{H:Hp}{M:Mm}{v:V}{k:aC}(h:AV K H M v (wK k)):v=kV k:=by
 cases k<;>exact h.inv
theorem aK.keys{K:Ac}{H:Hp}{M:Mm}:∀{vs:↑V} {k:↑aC},aK K H M vs (k.map wK)->vs=k.map kV
 | _,[],h=>by cases h;rfl
 | _,a::r,h=>by
  cases h with
  | cons x y=>rw[x.key,aK.keys y];rfl
section
variable {U:Type}[DecidableEq U]{K:Ac}{H:Hp}{M:Mm}
theorem uH(h:bQ K H M U ks kvs)(k:U):(aQ kvs k=ae/\f9 ks k=ae)\/∃v w,aQ kvs k=aa w/\f9 ks k=aa v/\AV K H M v w:=by
 induction h with
 | nil=>exact .inl ⟨rfl,rfl⟩
 | @cons p q ps qs r t E=>
  by_cases e:p.1=k
  .refine .inr ⟨p.2,q.2,?_,?_,r.2⟩
   .unfold aQ;rw[Cq,Vi (by rw[<-r.1];exact e)];rfl
   .exact tR e
  .have A:¬q.1=k:=by rw[<-r.1];exact e
   have l:aQ (q::qs) k=aQ qs k:=by unfold aQ;rw[Cq,Vj A]
   rw[l,tS e];exact E
theorem XI(h:bQ K H M U ks kvs)(k:U):(ks.any λg=>decide (g.1=k))=(kvs.any λg=>decide (g.1=k)):=by
 induction h with
 | nil=>rfl
 | cons r t E=>rw[Fh,Fh,E,r.1]
theorem XJ{ks:↑(U×V)}{kvs:↑(U×W)}{v:V}{w:W}{k:U}(av:AV K H M v w)(h:bQ K H M U ks kvs):bQ K H M U (ks.map (λg=>if g.1=k then(g.1,v) else g)) (kvs.map (λg=>if g.1=k then(g.1,w) else g)):=by
 induction h with
 | nil=>exact .nil
 | @cons p q ps qs r t E=>
  rw[Bd,Bd];refine .cons ?_ E
  by_cases e:p.1=k
  .rw[Vg e,Vg (by rw[<-r.1];exact e)];exact⟨r.1,av⟩
  .rw[Vf e,Vf (by rw[<-r.1];exact e)];exact r
theorem XM{ks:↑(U×V)}{kvs:↑(U×W)}{v:V}{w:W}{k:U}(av:AV K H M v w)(h:bQ K H M U ks kvs):bQ K H M U (ks++[(k,v)]) (kvs++[(k,w)]):=by
 induction h with
 | nil=>exact .cons ⟨rfl,av⟩ .nil
 | cons r t E=>exact .cons r E
theorem rJ{ks:↑(U×V)}{kvs:↑(U×W)}{v:V}{w:W}(h:bQ K H M U ks kvs)(k:U)(av:AV K H M v w):bQ K H M U (dY ks k v) (bW kvs k w):=by
 unfold dY bW;rw[XI h k];split
 .exact XJ av h
 .exact XM av h
end
def e9(M:Mm):W->W->Option W->Prop
 | .ref a,y,o=>(∃kvs k,M a=aa (.dK kvs)/\y=wK k/\o=aQ kvs k)\/∃kvs k,M a=aa (.dT kvs)/\y=.tup (k.map wK)/\o=aQ kvs k
 | .dk kvs,y,o=>∃k,y=wK k/\o=aQ kvs k
 | .dt kvs,y,o=>∃k,y=.tup (k.map wK)/\o=aQ kvs k
 | .fk kvs,y,o=>∃k,y=wK k/\o=aQ kvs k
 | .ft kvs,y,o=>∃k,y=.tup (k.map wK)/\o=aQ kvs k
 | _,_,_=>False
theorem yY{K:Ac}{H:Hp}{M:Mm}{a:An}{y:V}{k:aC}{ks:↑(aC×V)}{kvs:↑(aC×W)}(D:Rd H a (.dK ks))(q:bQ K H M aC ks kvs)(E:AV K H M y (wK k)):(aQ kvs k=ae/\h9 H a y ae)\/∃v w,aQ kvs k=aa w/\h9 H a y (aa v)/\AV K H M v w:=by
 rw[E.key];rcases uH q k with⟨J,m⟩|⟨v,w,J,m,av⟩
 .exact .inl ⟨J,by rw[<-m];exact .inl ⟨_,_,D,rfl,rfl⟩⟩
 .exact .inr ⟨v,w,J,by rw[<-m];exact .inl ⟨_,_,D,rfl,rfl⟩,av⟩
theorem yZ{K:Ac}{H:Hp}{M:Mm}{a:An}{y:V}{k:↑aC}{ks:↑(↑aC×V)}{kvs:↑(↑aC×W)}(D:Rd H a (.dT ks))(q:bQ K H M (↑aC) ks kvs)(E:AV K H M y (.tup (k.map wK))):(aQ kvs k=ae/\h9 H a y ae)\/∃v w,aQ kvs k=aa w/\h9 H a y (aa v)/\AV K H M v w:=
 E.tupE λb xs e T G=>by
  rw[G.keys]at T;rcases uH q k with⟨J,m⟩|⟨v,w,J,m,av⟩
  .exact .inl ⟨J,by rw[<-m];exact .inr ⟨_,_,_,D,e,T,rfl⟩⟩
  .exact .inr ⟨v,w,J,by rw[<-m];exact .inr ⟨_,_,_,D,e,T,rfl⟩,av⟩
theorem uI{K:Ac}{H:Hp}{M:Mm}{x y:V}{n l:W}{o:Option W}(Y:AM K H M)(S:AV K H M x n)(E:AV K H M y l)(h:e9 M n l o):∃a,x=.ref a/\((o=ae/\h9 H a y ae)\/∃v w,o=aa w/\h9 H a y (aa v)/\AV K H M v w):=by
 cases n<;>first|exact Bq h|skip
 case ref a=>
  rcases h with⟨kvs,k,e,rfl,rfl⟩|⟨kvs,k,e,rfl,rfl⟩
  .let⟨ks,D,q⟩:=Y _ _ e;exact⟨a,S.inv,yY (.inl D) q E⟩
  .let⟨ks,D,q⟩:=Y _ _ e;exact⟨a,S.inv,yZ (.inl D) q E⟩
 all_goals
  let⟨k,rfl,rfl⟩:=h;have S:=S.inv
 case dk=>let⟨a,ks,e,f,_,q⟩:=S;exact⟨a,e,yY (.inl f) q E⟩
 case dt=>let⟨a,ks,e,f,_,q⟩:=S;exact⟨a,e,yZ (.inl f) q E⟩
 case fk=>let⟨a,ks,e,f,q⟩:=S;exact⟨a,e,yY (.inr f) q E⟩
 case ft=>let⟨a,ks,e,f,q⟩:=S;exact⟨a,e,yZ (.inr f) q E⟩
@[irreducible] def nE(a:An)(y:W)(M:Mm)(R:K3):Prop:=(∃i ws w,y=.int i/\M a=aa (.lst ws)/\bT ws i=aa w/\R w M)\/∃w,e9 M (.ref a) y (aa w)/\R w M
theorem kY{i:Int}(h:M a=aa (.lst ws))(e:bT ws i=aa w)(r:R w M):nE a (.int i) M R:=by unfold nE;exact .inl ⟨i,ws,w,rfl,h,e,r⟩
theorem FY(h:e9 M (.ref a) y (aa w))(r:R w M):nE a y M R:=by unfold nE;exact .inr ⟨w,h,r⟩
abbrev oN:R3
 | .tup ws,.int i,M,R=>so (bT ws i) λw=>R w M
 | .rl ws,.int i,M,R=>so (bT ws i) λw=>R w M
 | .sc ws,.int i,M,R=>so (bT ws i) λw=>R w M
 | .dk kvs,y,M,R=>∃w,e9 M (.dk kvs) y (aa w)/\R w M
 | .dt kvs,y,M,R=>∃w,e9 M (.dt kvs) y (aa w)/\R w M
 | .fk kvs,y,M,R=>∃w,e9 M (.fk kvs) y (aa w)/\R w M
 | .ft kvs,y,M,R=>∃w,e9 M (.ft kvs) y (aa w)/\R w M
 | .str z,.int i,M,R=>↥z<=Ax/\so (bT z.cps.toList i) λc=>R (.str ⟨#[c]⟩) M
 | .ref a,y,M,R=>nE a y M R
 | _,_,_,_=>False
abbrev vX:=aG oN
theorem y0{K:Ac}{H:Hp}{M:Mm}{vs:↑V}{ws:↑W}{i:Int}{w:W}(q:aK K H M vs ws)(h:bT ws i=aa w):∃v,bT vs i=aa v/\AV K H M v w:=by
 unfold bT at h⊢;rw[↥q];cases e:gX ↥ws i with
 | none=>rw[e]at h;cases h
 | some j=>
  rw[e]at h;exact q.getW (i:=j) h
theorem XN(U:X.A.units+1<Fd):jN X (λx y H Q=>∃a v,x=.ref a/\h9 H a y (aa v)/\Q v H):=by
 intro e b af s Z H x y v u Q I d P h l;let⟨a,z,rfl,g,q⟩:=h;cases d;exact tail_any (UT I g) PySem.F.slot_dict_getitem.lookup (UO U I g P λD j K V=>⟨z,H,K,V,q⟩) l
theorem XO{P:W->W->Prop}(m:∀ws i w,bT ws i=aa w->R w M->P (.tup ws) (.int i))(S:∀ws i w,bT ws i=aa w->R w M->P (.sc ws) (.int i))(t:∀x ws i w,l6 M x ws->bT ws i=aa w->R w M->P x (.int i))(u:∀z i,↥z<=Ax/\(so (bT z.cps.toList i) λc=>R (.str ⟨#[c]⟩) M)->P (.str z) (.int i))(q:∀x y w,e9 M x y (aa w)->R w M->P x y)(x y:W)(h:oN x y M R):P x y:=by
 cases x
 case non|bl|int|ty=>exact Bq h
 case dk|dt|fk|ft=>exact h.elim λw h=>q _ _ _ h.1 h.2
 case ref a=>
  have h:nE a y M R:=h;unfold nE at h;exact h.elim (λZ=>by let⟨i,ws,w,F,e,A,r⟩:=Z;rw[F];exact t _ _ _ _ e A r) λU=>by let⟨w,e,r⟩:=U;exact q _ _ _ e r
 all_goals cases y<;>first|exact Bq h|skip
 case tup.int=>let⟨w,e,r⟩:=so.el h;exact m _ _ _ e r
 case sc.int=>let⟨w,e,r⟩:=so.el h;exact S _ _ _ e r
 case rl.int=>let⟨w,e,r⟩:=so.el h;exact t _ _ _ _ rfl e r
 case str.int=>exact u _ _ h
theorem XQ(U:X.A.units+1<Fd):jN X (cV X.K oN):=W5 (TQ.or (TR.or (TU.or (XN U)))) λx y H Q M R Y k=>XO
 (λws i w h r S E=>S.tupE λa xs e f q=>let ⟨z,e3,av⟩:=y0 q h;.inr (.inl ⟨a,xs,i,z,e,E.inv,bU.of f,e3,k.at Y av r⟩))
 (λws i w h r S E=>S.scE λa xs e f q=>let ⟨z,e3,av⟩:=y0 q h;.inl ⟨a,xs,i,z,e,E.inv,f.sq,e3,k.at Y av r⟩)
 (λn ws i w O h r S E=>let ⟨a,xs,e,f,q⟩:=m9 Y S O;let ⟨z,e3,av⟩:=y0 q h;.inl ⟨a,xs,i,z,e,E.inv,bL.of f,e3,k.at Y av r⟩)
 (λz i h S E=>let ⟨c,e,r⟩:=so.el h.2;.inr (.inr (.inl ⟨z,i,c,S.inv,E.inv,h.1,e,k.at Y (.str _) r⟩)))
 (λn l w g r S E=>.inr (.inr (.inr (by
  let⟨a,e,g⟩:=uI Y S E g;rcases g with⟨z,_⟩|⟨z,D,C,g',av⟩
  .cases z
  .exact⟨a,z,e,g',k.at Y av (by rw[<-Co C];exact r)⟩))))
variable {a b:Cg}{ta tb:aS}{pos:Hu}
theorem iS(U:X.A.units+1<Fd)(m:E3 X a ta)(G:E3 X b tb)(F:DI b:=by exact λ_ _=>rfl):E3 X (.Subscript a b pos) (aG oN ta tb):=(TJ (XQ U) m G F).weak λ_ _ _ h=>uB h
def dH(ws:↑W)(lo hi:Option Int):↑W:=(ws.drop (HT.sIx ↥ws 0 lo)).take (HT.sIx ↥ws ↥ws hi-HT.sIx ↥ws 0 lo)
abbrev FZ:W->Option Int->Option Int->Mm->K3->Prop
 | .rl ws,lo,hi,M,R=>aR (dH ws lo hi) M R
 | .sc ws,lo,hi,M,R=>aR (dH ws lo hi) M R
 | .ref a,lo,hi,M,R=>∃ws,M a=aa (.lst ws)/\aR (dH ws lo hi) M R
 | .tup ws,lo,hi,M,R=>¬(HT.sIx ↥ws 0 lo=0/\HT.sIx ↥ws ↥ws hi=↥ws)/\R (.tup (dH ws lo hi)) M
 | _,_,_,_,_=>False
theorem uJ{K:Ac}{H:Hp}{M:Mm}{vs:↑V}{ws:↑W}{lo hi:Option Int}(q:aK K H M vs ws):aK K H M (mV vs lo hi) (dH ws lo hi):=by
 unfold mV dH;rw[↥q];exact(q.drop _).take _
def XR(K:Ac)(r:W->Option Int->Option Int->Mm->K3->Prop):V->Option Int->Option Int->Hp->VK->Prop:=λx lo hi H Q=>∃n M R,AM K H M/\AV K H M x n/\r n lo hi M R/\Up K H M R Q
theorem XS:tM X (XR X.K FZ):=by
 rintro af s Z H x v c y lo hi W Q I d F pl D ⟨n,M,R,Y,S,h,k⟩;cases n<;>first|exact Bq h|skip
 case tup ws=>exact S.tupE λa xs e f q=>TC af s Z H _ v c y lo hi W Q I d F pl D ⟨a,xs,e,bU.of f,by rw[↥q];exact h.1,λp N=>laidT Y k N (uJ q) h.2⟩
 case sc ws=>exact S.scE λa xs e f q=>xZ af s Z H _ v c y lo hi W Q I d F pl D ⟨a,xs,e,f.sq,λp N=>gY Y k N (uJ q) h⟩
 case rl ws=>exact S.rlE λa xs e f q=>xZ af s Z H _ v c y lo hi W Q I d F pl D ⟨a,xs,e,bL.of f,λp N=>gY Y k N (uJ q) h⟩
 case ref a=>
  let⟨ws,e,r⟩:=h;exact Y.lstE e λvs f q=>xZ af s Z H _ v c y lo hi W Q I d F pl D ⟨a,vs,S.inv,bL.of f,λp N=>gY Y k N (uJ q) r⟩
abbrev pT:=S3->Mm->(Option Int->Mm->Prop)->Prop
def pU(K:Ac)(t:pT):TO:=λZ H Q=>∃(U:S3) (M:Mm) (R:Option Int->Mm->Prop),AS K H M Z U/\AM K H M/\t U M R/\∀o H' M',Kp H M H' M'->AM K H' M'->R o M'->Q o H'
theorem pU.el{K:Ac}{H:Hp}{Z:SV}{C:Prop}{t:pT}{Q:Option Int->Hp->Prop}(h:pU K t Z H Q)(c:∀U M R,AS K H M Z U->AM K H M->t U M R->(∀o H' M',Kp H M H' M'->AM K H' M'->R o M'->Q o H')->C):C:=by let⟨U,M,R,a,b,h,k⟩:=h;exact c U M R a b h k
abbrev rK:pT:=λ_ M Q=>Q ae M
abbrev y6:W->(Int->Prop)->Prop
 | .int i,Q=>Q i
 | _,_=>False
theorem y6.el{Q:Int->Prop}(h:y6 w Q):∃i,w=.int i/\Q i:=by cases w<;>first|exact⟨_,rfl,h⟩|exact h.elim
abbrev iC(t:aS):pT:=λU M Q=>t U M λx M1=>y6 x λi=>Q (aa i) M1
theorem XT:PO X ae (pU X.K rK):=S6.weak λZ H Q W=>W.el λU M R J Y h k=>k ae H M (Kp.refl Y) Y h
theorem XU(h:E3 X a ta):PO X (aa a) (pU X.K (iC ta)):=(S7 h).weak λZ H Q W=>W.el λU M R J Y h k=>⟨U,M,_,J,Y,h,λx H1 n M1 s j S h=>by
 let⟨i,e,O⟩:=h.el;subst e;exact⟨i,S.inv,k _ _ _ s j O⟩⟩
def fN:W->Bool
 | .non=>ab
 | .bl _=>ab
 | .int _=>ab
 | .str _=>ab
 | _=>ac
def y7:W->W->Bool
 | .non,.non=>ab
 | .bl a,.bl b=>a==b
 | .bl a,.int b=>(if a then 1 else 0)==b
 | .int a,.bl b=>a==(if b then 1 else 0)
 | .int a,.int b=>a==b
 | .str a,.str b=>a==b
 | _,_=>ac
def inW(x:W)(ws:↑W):Bool:=ws.any λy=>y7 y x
theorem AV.flat{K:Ac}{H:Hp}{M:Mm}{v:V}{w:W}(h:AV K H M v w)(f:fN w=ab):kO v=ab:=by cases h<;>first|rfl|exact f
def y8:W->V
 | .non=>.non
 | .bl b=>.bl b
 | .int i=>.int i
 | .str x=>.str x
 | _=>.non
theorem AV.flv{K:Ac}{H:Hp}{M:Mm}{v:V}{w:W}(h:AV K H M v w)(f:fN w=ab):v=y8 w:=by
 cases w<;>first|exact h.inv|exact absurd f Bf
theorem XW:∀{w z:W},fN w=ab->fN z=ab->kP (y8 w) (y8 z)=y7 w z:=by
 intro w z f g;cases w<;>first|exact absurd f Bf|(cases z<;>first|rfl|exact absurd g Bf)
theorem AV.eq{K:Ac}{H:Hp}{M:Mm}{v u:V}{w z:W}(h:AV K H M v w)(L:AV K H M u z)(f:fN w=ab)(O:fN z=ab):kP v u=y7 w z:=by
 rw[h.flv f,L.flv O];exact XW f O
theorem aK.inn{K:Ac}{H:Hp}{M:Mm}{u:V}{z:W}(hz:AV K H M u z)(a:fN z=ab):∀{vs:↑V} {ws:↑W},aK K H M vs ws->ws.all fN=ab->vs.all kO=ab/\inV u vs=inW z ws
 | _,_,.nil,_=>⟨rfl,rfl⟩
 | _,_,.cons x r,f=>by
  rw[Jv,Dg]at f;let⟨O,L⟩:=aK.inn hz a r f.2;refine⟨by rw[Jv,x.flat f.1,O];rfl,?_⟩;unfold inV inW at L⊢;rw[Fh,Fh,L,x.eq hz f.1 a]
def occ(i j:Ay):Bool:=!(Jj j i 0 ↥j 1).isEmpty
abbrev bX(neg:Bool):R3
 | .str i,.str j,M,R=>R (.bl (if neg then !occ i j else occ i j)) M
 | x,.tup ws,M,R=>fN x=ab/\ws.all fN=ab/\R (.bl (if neg then !inW x ws else inW x ws)) M
 | x,.rl ws,M,R=>fN x=ab/\ws.all fN=ab/\R (.bl (if neg then !inW x ws else inW x ws)) M
 | x,.ref a,M,R=>(∃ws,M a=aa (.lst ws)/\fN x=ab/\ws.all fN=ab/\R (.bl (if neg then !inW x ws else inW x ws)) M)\/∃o,e9 M (.ref a) x o/\R (.bl (if neg then !o.isSome else o.isSome)) M
 | x,.dk kvs,M,R=>∃o,e9 M (.dk kvs) x o/\R (.bl (if neg then !o.isSome else o.isSome)) M
 | x,.dt kvs,M,R=>∃o,e9 M (.dt kvs) x o/\R (.bl (if neg then !o.isSome else o.isSome)) M
 | x,.fk kvs,M,R=>∃o,e9 M (.fk kvs) x o/\R (.bl (if neg then !o.isSome else o.isSome)) M
 | x,.ft kvs,M,R=>∃o,e9 M (.ft kvs) x o/\R (.bl (if neg then !o.isSome else o.isSome)) M
 | _,_,_,_=>False
def F0(M:Mm):W->↑W->Prop
 | .tup ws,d=>ws=d
 | x,ws=>l6 M x ws
theorem F1{K:Ac}{H:Hp}{M:Mm}{v:V}{w:W}{ws:↑W}(Y:AM K H M)(h:AV K H M v w)(e:F0 M w ws):∃a xs,v=.ref a/\(bL K H a xs\/bU K H a xs)/\aK K H M xs ws:=by
 cases w
 case tup zs=>exact h.tupE λa xs D f q=>⟨_,_,D,.inr (bU.of f),by rw[<-show zs=ws from e];exact q⟩
 case ref|rl=>let⟨a,xs,D,f,q⟩:=m9 Y h e;exact⟨a,xs,D,.inl (bL.of f),q⟩
 all_goals exact Bq e
theorem F4{n:Bool}{P:W->W->Prop}(m:∀i j,R (.bl (if n then !occ i j else occ i j)) M->P (.str i) (.str j))(S:∀x y ws,F0 M y ws->fN x=ab/\ws.all fN=ab/\R (.bl (if n then !inW x ws else inW x ws)) M->P x y)(t:∀x y o,e9 M y x o->R (.bl (if n then !o.isSome else o.isSome)) M->P x y)(x y:W)(h:bX n x y M R):P x y:=by
 cases y
 case non|bl|int|ty|sc=>exfalso;cases x<;>exact h
 case str=>cases x<;>first|exact Bq h|exact m _ _ h
 case tup=>exact S _ _ _ rfl (by cases x<;>exact h)
 case rl=>exact S _ _ _ rfl (by cases x<;>exact h)
 case ref a=>
  have h:(∃ws,M a=aa (.lst ws)/\fN x=ab/\ws.all fN=ab/\R (.bl (if n then !inW x ws else inW x ws)) M)\/∃o,e9 M (.ref a) x o/\R (.bl (if n then !o.isSome else o.isSome)) M:=by cases x<;>exact h
  exact h.elim (λ⟨ws,e,h⟩=>S _ _ _ e h) λ⟨o,g,r⟩=>t _ _ _ g r
 case dk kvs=>have h:∃o,e9 M (.dk kvs) x o/\R (.bl (if n then !o.isSome else o.isSome)) M:=(by cases x<;>exact h);exact h.elim λo h=>t _ _ _ h.1 h.2
 case dt kvs=>have h:∃o,e9 M (.dt kvs) x o/\R (.bl (if n then !o.isSome else o.isSome)) M:=(by cases x<;>exact h);exact h.elim λo h=>t _ _ _ h.1 h.2
 case fk kvs=>have h:∃o,e9 M (.fk kvs) x o/\R (.bl (if n then !o.isSome else o.isSome)) M:=(by cases x<;>exact h);exact h.elim λo h=>t _ _ _ h.1 h.2
 case ft kvs=>have h:∃o,e9 M (.ft kvs) x o/\R (.bl (if n then !o.isSome else o.isSome)) M:=(by cases x<;>exact h);exact h.elim λo h=>t _ _ _ h.1 h.2
def F5(n:Bool):R2:=λx y H Q=>∃a o,y=.ref a/\h9 H a x o/\Q (.bl (if n then !o.isSome else o.isSome)) H
theorem XX(U:X.A.units+1<Fd):bF X (Du .In) (F5 ac):=by
 rintro af s Z H x y v u Q I d P ⟨a,o,rfl,g,q⟩;cases P;exact UP U I g d λj K=>⟨.bl _,H,K,rfl,q⟩
theorem XY(U:X.A.units+1<Fd):bF X (Du .NotIn) (F5 ab):=by
 rintro af s Z H x y v u Q I d P ⟨a,o,rfl,g,q⟩;cases P;exact UQ U I g d λj K=>⟨.bl _,H,K,rfl,q⟩
theorem F6{K:Ac}{H:Hp}{M:Mm}{x y:V}{n l:W}{o:Option W}(Y:AM K H M)(S:AV K H M x n)(E:AV K H M y l)(h:e9 M n l o):∃a P,x=.ref a/\h9 H a y P/\P.isSome=o.isSome:=by
 obtain⟨a,e,⟨rfl,g⟩|⟨v,w,rfl,g,_⟩⟩:=uI Y S E h
 .exact⟨a,_,e,g,rfl⟩
 .exact⟨a,_,e,g,rfl⟩
theorem F7(U:X.A.units+1<Fd):bF X (Du .In) (cV X.K (bX ac)):=m8 (RD.or (T5.or (XX U))) λx y H Q M R Y k=>F4
 (λi j h S E=>.inl ⟨i,j,S.inv,E.inv,k.at Y (.bl _) h⟩)
 (λn l ws e h S E=>let ⟨a,xs,e1,f,q⟩:=F1 Y E e;.inr (.inl ⟨a,xs,e1,f,S.flat h.1,(aK.inn S h.1 q h.2.1).1,by rw[(aK.inn S h.1 q h.2.1).2];exact k.at Y (.bl _) h.2.2⟩))
 (λn l o g r S E=>let ⟨a,o',e,g,z⟩:=F6 Y E S g;.inr (.inr ⟨a,o',e,g,by rw[z];exact k.at Y (.bl _) r⟩))
theorem F8(U:X.A.units+1<Fd):bF X (Du .NotIn) (cV X.K (bX ab)):=m8 (RE.or (T6.or (XY U))) λx y H Q M R Y k=>F4
 (λi j h S E=>.inl ⟨i,j,S.inv,E.inv,k.at Y (.bl _) h⟩)
 (λn l ws e h S E=>let ⟨a,xs,e1,f,q⟩:=F1 Y E e;.inr (.inl ⟨a,xs,e1,f,S.flat h.1,(aK.inn S h.1 q h.2.1).1,by rw[(aK.inn S h.1 q h.2.1).2];exact k.at Y (.bl _) h.2.2⟩))
 (λn l o g r S E=>let ⟨a,o',e,g,z⟩:=F6 Y E S g;.inr (.inr ⟨a,o',e,g,by rw[z];exact k.at Y (.bl _) r⟩))
abbrev cL:↑W->Mm->K3->Prop
 | [.tup ws],M,R=>R (.int ↥ws) M
 | [.rl ws],M,R=>R (.int ↥ws) M
 | [.sc ws],M,R=>R (.int ↥ws) M
 | [.dk kvs],M,R=>R (.int ↥kvs) M
 | [.str z],M,R=>↥z<=Ax/\R (.int ↥z) M
 | [.ref a],M,R=>(∃ws,M a=aa (.lst ws)/\R (.int ↥ws) M)\/∃kvs,M a=aa (.dK kvs)/\R (.int ↥kvs) M
 | _,_,_=>False
theorem XZ{P:↑W->Prop}(m:∀ws,R (.int ↥ws) M->P [.tup ws])(S:∀ws,R (.int ↥ws) M->P [.sc ws])(t:∀x ws,l6 M x ws->R (.int ↥ws) M->P [x])(u:∀z,↥z<=Ax/\R (.int ↥z) M->P [.str z])(q:∀kvs,R (.int ↥kvs) M->P [.dk kvs])(Y:∀a kvs,M a=aa (.dK kvs)->R (.int ↥kvs) M->P [.ref a])(l:↑W)(h:cL l M R):P l:=by
 match l,h with
 | [.tup _],h=>exact m _ h
 | [.rl _],h=>exact t _ _ rfl h
 | [.sc _],h=>exact S _ h
 | [.dk _],h=>exact q _ h
 | [.str _],h=>exact u _ h
 | [.ref _],h=>exact h.elim (λZ=>by let⟨ws,e,r⟩:=Z;exact t _ _ e r) λU=>by let⟨ws,e,r⟩:=U;exact Y _ _ e r
theorem uK:cN X (.builtin "len") (eR X.K cL):=yU (T7.or (T8.or U7)) λxs H Q M R Y k=>XZ
 (λws h S=>S.oneE λv D av=>av.tupE λa us e f q=>.inl ⟨_,_,iP D e,.inr (bU.of f),by rw[↥q];exact k.at Y (.int _) h⟩)
 (λws h S=>S.oneE λv D av=>av.scE λa us e f q=>.inl ⟨_,_,iP D e,.inl f.sq,by rw[↥q];exact k.at Y (.int _) h⟩)
 (λx ws F h S=>S.oneE λv D av=>let ⟨a,us,e,f,q⟩:=m9 Y av F;.inl ⟨_,_,iP D e,.inl (bL.of f),by rw[↥q];exact k.at Y (.int _) h⟩)
 (λz h S=>S.oneE λv D av=>.inr (.inl ⟨z,iP D av.inv,h.1,k.at Y (.int _) h.2⟩))
 (λkvs h S=>S.oneE λv D av=>let ⟨a,ks,e,f,_,q⟩:=av.inv;.inr (.inr ⟨a,ks,iP D e,f,by rw[Cw q];exact k.at Y (.int _) h⟩))
 (λa kvs F h S=>S.oneE λv D av=>let ⟨ks,f,q⟩:=Y _ _ F;.inr (.inr ⟨a,ks,iP D av.inv,f,by rw[Cw q];exact k.at Y (.int _) h⟩))
def uL:↑W->Mm->K3->Prop
 | [.tup ws],M,R=>aR ws M R
 | [.rl ws],M,R=>aR ws M R
 | [.sc ws],M,R=>aR ws M R
 | [.dk kvs],M,R=>aR (kvs.map λg=>wK g.1) M R
 | [.ref a],M,R=>(∃ws,M a=aa (.lst ws)/\aR ws M R)\/∃kvs,M a=aa (.dK kvs)/\aR (kvs.map λg=>wK g.1) M R
 | _,_,_=>False
theorem F9{K:Ac}{H:Hp}{M:Mm}{ks:↑(aC×V)}{kvs:↑(aC×W)}(h:bQ K H M aC ks kvs):aK K H M (ks.map λg=>kV g.1) (kvs.map λg=>wK g.1):=by
 induction h with
 | nil=>exact .nil
 | @cons p q ps qs r t E=>
  refine .cons ?_ E;show AV K H M (kV p.1) (wK q.1);rw[r.1];cases q.1 with
  | inl i=>exact .int i
  | inr x=>exact .str x
theorem X0{P:↑W->Prop}(m:∀ws,aR ws M R->P [.tup ws])(S:∀ws,aR ws M R->P [.sc ws])(t:∀x ws,l6 M x ws->aR ws M R->P [x])(q:∀kvs:↑(aC×W),aR (kvs.map λg=>wK g.1) M R->P [.dk kvs])(Y:∀a kvs,M a=aa (.dK kvs)->aR (kvs.map λg=>wK g.1) M R->P [.ref a])(l:↑W)(h:uL l M R):P l:=by
 match l,h with
 | [.tup _],h=>exact m _ h
 | [.rl _],h=>exact t _ _ rfl h
 | [.sc _],h=>exact S _ h
 | [.dk _],h=>exact q _ h
 | [.ref _],h=>exact h.elim (λZ=>by let⟨ws,e,r⟩:=Z;exact t _ _ e r) λU=>by let⟨ws,e,r⟩:=U;exact Y _ _ e r
theorem GA(hc:X.calm=ab):cN X (.type "list") (eR X.K uL):=yU (T9.or (VW hc)) λxs H Q M R Y k=>X0
 (λws h S=>S.oneE λv D av=>av.tupE λa us e f q=>.inl ⟨_,_,iP D e,.inr (bU.of f),λp N=>gY Y k N q h⟩)
 (λws h S=>S.oneE λv D av=>av.scE λa us e f q=>.inl ⟨_,_,iP D e,.inl f.sq,λp N=>gY Y k N q h⟩)
 (λx ws F h S=>S.oneE λv D av=>let ⟨a,us,e,f,q⟩:=m9 Y av F;.inl ⟨_,_,iP D e,.inl (bL.of f),λp N=>gY Y k N q h⟩)
 (λkvs h S=>S.oneE λv D av=>let ⟨a,ks,e,f,_,q⟩:=av.inv;.inr ⟨a,ks,iP D e,f,λp N=>gY Y k N (F9 q) h⟩)
 (λa kvs F h S=>S.oneE λv D av=>let ⟨ks,f,q⟩:=Y _ _ F;.inr ⟨a,ks,iP D av.inv,f,λp N=>gY Y k N (F9 q) h⟩)
def rL:↑W->Mm->K3->Prop
 | [.tup ws],M,R=>R (.tup ws) M
 | [.rl ws],M,R=>R (.tup ws) M
 | [.ref a],M,R=>∃ws,M a=aa (.lst ws)/\R (.tup ws) M
 | _,_,_=>False
theorem X1{P:↑W->Prop}(m:∀ws,R (.tup ws) M->P [.tup ws])(t:∀x ws,l6 M x ws->R (.tup ws) M->P [x])(l:↑W)(h:rL l M R):P l:=by
 match l,h with
 | [.tup _],h=>exact m _ h
 | [.rl _],h=>exact t _ _ rfl h
 | [.ref _],h=>exact h.elim λws h=>t _ _ h.1 h.2
theorem GB:cN X (.type "tuple") (eR X.K rL):=yU UA λxs H Q M R Y k=>X1
 (λws h S=>S.oneE λv D av=>av.tupE λa us e f q=>⟨_,_,iP D e,.inr ⟨bU.of f,k.at Y (by rw[<-e];exact av) h⟩⟩)
 (λx ws F h S=>S.oneE λv D av=>let ⟨a,us,e,f,q⟩:=m9 Y av F;⟨_,_,iP D e,.inl ⟨bL.of f,λp N=>laidT Y k N q h⟩⟩)
def y9:↑W->Mm->K3->Prop
 | [.int i],M,R=>i.natAbs.log2<1920/\R (.str (toString i)) M
 | _,_,_=>False
theorem X2:cN X (.type "str") (eR X.K y9):=by
 rintro af s Z H xs us Q I rs ⟨ws,M,R,Y,E,h,k⟩
 match ws,h with
 | [.int i],h=>
  let⟨v,rfl,av⟩:=E.one;cases av;exact RM af s Z H _ us Q I rs ⟨i,rfl,h.1,k.at Y (.str _) h.2⟩
def bools(bs:↑Bool):↑W:=bs.map W.bl
theorem aK.bools{K:Ac}{H:Hp}{M:Mm}:∀{bs:↑Bool} {vs:↑V},aK K H M vs (L2.bools bs)->vs=bs.map V.bl
 | [],_,h=>by cases h;rfl
 | b::r,_,h=>by
  cases h with
  | cons x y=>cases x;rw[aK.bools y];rfl
theorem aK.ints{K:Ac}{H:Hp}{M:Mm}:∀{bs:↑Int} {vs:↑V},aK K H M vs (bs.map W.int)->vs=bs.map V.int
 | [],_,h=>by cases h;rfl
 | b::r,_,h=>by
  cases h with
  | cons x y=>cases x;rw[aK.ints y];rfl
abbrev uM:↑W->Mm->K3->Prop
 | [.ref a],M,R=>∃bs,M a=aa (.lst (bools bs))/\R (.bl (bs.all id)) M
 | [.rl ws],M,R=>∃bs,ws=bools bs/\R (.bl (bs.all id)) M
 | _,_,_=>False
theorem X3(hc:X.calm=ab):cN X (.builtin "all") (eR X.K uM):=by
 rintro af s Z H xs us Q I rs ⟨ws,M,R,Y,E,h,k⟩
 match ws,h with
 | [.ref a],h=>
  let⟨v,rfl,av⟩:=E.one;cases av;let⟨bs,e,r⟩:=h;let⟨vs,f,q⟩:=Y.lst e;rw[q.bools]at f;exact tY ac hc af s Z H _ us Q I rs ⟨a,bs,rfl,bL.of f,k.at Y (.bl _) r⟩
 | [.rl ws],h=>
  let⟨v,rfl,av⟩:=E.one;let⟨bs,rfl,r⟩:=h;cases av with
  | rl f _ q=>
   rw[q.bools]at f;exact tY ac hc af s Z H _ us Q I rs ⟨_,bs,rfl,bL.of f,k.at Y (.bl _) r⟩
def dU:W->↑W->Mm->K3->Prop
 | .ref l,[y],M,R=>∃ws,M l=aa (.lst ws)/\↥ws<Ax/\R .non (put M l (.lst (ws++[y])))
 | _,_,_,_=>False
theorem uN:fJ X "list.append" (kA X.K dU):=by
 rintro af s Z H x xs v us Q I d rs ⟨n,ws,M,R,Y,S,E,h,k⟩
 match n,ws,h with
 | .ref l,[y],h=>
  let⟨z,rfl,F⟩:=E.one;cases S;let⟨ws,e,hl,r⟩:=h;let⟨vs,f,q⟩:=Y.lst e;exact DN af s Z H _ _ v us Q I d rs ⟨l,vs,z,rfl,rfl,f,by rw[↥q];exact hl,yS Y k e (q.append (.cons F .nil)) .non r⟩
def uO:W->↑W->Mm->K3->Prop
 | .ref l,[],M,R=>∃ws w,M l=aa (.lst (ws++[w]))/\R w (put M l (.lst ws))
 | _,_,_,_=>False
theorem X4:fJ X "list.pop" (kA X.K uO):=by
 rintro af s Z H x xs v us Q I d rs ⟨n,ws,M,R,Y,S,E,h,k⟩
 match n,ws,h with
 | .ref l,[],h=>
  cases E;cases S;let⟨ws,w,e,r⟩:=h;let⟨vs,f,q⟩:=Y.lst e;have hl:=↥q;rw[Ak,Dl]at hl;let⟨z,hz,F⟩:=q.getW (i:=↥ws) (w:=w) (by simp);refine UH af s Z H _ _ v us Q I d rs ⟨l,vs,z,rfl,rfl,f,by rw[hl];exact hz,yS Y k e ?_ F r⟩;have:=q.dropLast;rw[List.dropLast_concat]at this;exact this
abbrev rM:aS:=λ_ M R=>iO [] M R
abbrev kZ:aS:=λ_ M R=>j9 [] M R
theorem X5:E3 X (.Dict [] [] pos) rM:=UX.weak λZ H Q ⟨U,M,R,J,Y,h,k⟩ p N=>by
 let⟨P,B⟩:=Y.laid (o:=.dK []) (u:=.dK []) N ⟨[],bY,.nil⟩;exact k _ _ _ _ B P (.ref p) (h p (Y.nonM N))
theorem X6:E3 X (.Dict [] [] pos) kZ:=UY.weak λZ H Q ⟨U,M,R,J,Y,h,k⟩ p N=>by
 let⟨P,B⟩:=Y.laid (o:=.dT []) (u:=.dT []) N ⟨[],bY,.nil⟩;exact k _ _ _ _ B P (.ref p) (h p (Y.nonM N))
end
abbrev P3(X:Cx)(st:Jl)(t:aD):Prop:=PS X st (qY X.K t)
abbrev jS(X:Cx)(st:↑Jl)(t:aD):Prop:=fT X st (qY X.K t)
abbrev eS:=W->S3->Mm->(S3->Mm->Prop)->Prop
abbrev nF:=↑W->S3->Mm->(S3->Mm->Prop)->Prop
def iT(K:Ac)(g:eS):TG:=λv C H Q=>∃w U M R,AV K H M v w/\AS K H M C U/\AM K H M/\g w U M R/\iN K H M R Q
def pV(K:Ac)(g:nF):j7:=λvs C H Q=>∃ws U M R,aK K H M vs ws/\AS K H M C U/\AM K H M/\g ws U M R/\iN K H M R Q
theorem iT.el{K:Ac}{H:Hp}{E:SV}{C:Prop}{t:eS}{v:V}{Q:SV->Hp->Prop}(h:iT K t v E H Q)(c:∀w U M R,AV K H M v w->AS K H M E U->AM K H M->t w U M R->iN K H M R Q->C):C:=by let⟨w,U,M,R,a,b,d,h,k⟩:=h;exact c w U M R a b d h k
theorem pV.el{K:Ac}{H:Hp}{E:SV}{C:Prop}{t:nF}{v:↑V}{Q:SV->Hp->Prop}(h:pV K t v E H Q)(c:∀w U M R,aK K H M v w->AS K H M E U->AM K H M->t w U M R->iN K H M R Q->C):C:=by let⟨w,U,M,R,a,b,d,h,k⟩:=h;exact c w U M R a b d h k
section
variable {X:Cx}{pos:Hu}
theorem _root_.L2.PG.weak(h:PG X e t)(k:∀v C H Q,t' v C H Q->t v C H Q):PG X e t':=λB s C H v u Q I r q=>h B s C H v u Q I r (k v C H Q q)
theorem _root_.L2.i5.weak(h:i5 X e t)(k:∀v C H Q,t' v C H Q->t v C H Q):i5 X e t':=λB s C H v u Q I r q=>h B s C H v u Q I r (k v C H Q q)
theorem iN.at{K:Ac}{H:Hp}{M:Mm}{R:S3->Mm->Prop}{Q:SV->Hp->Prop}(h:iN K H M R Q)(Y:AM K H M){C:SV}{U:S3}(J:AS K H M C U)(r:R U M):Q C H:=h C H U M (Kp.refl Y) Y J r
abbrev aV(i:Nat):eS:=λw U M R=>R (U.set i (aa w)) M
theorem rN{i:Nat}(t:X.N.Nodup)(hi:X.N[i]? = aa x:=by rfl)(J:Loc X.env.scope x:=by first|exact .inl rfl|exact .inr rfl)(hf:Fy X x:=by first|exact .inl rfl|exact .inr rfl|assumption):PG X (.Name x pos) (iT X.K (aV i)):=
 (P1 t hi J hf).weak λv C H Q Z=>Z.el λw U M R av n Y h k=>k.at Y (n.set av i) h
abbrev fU:nF:=λws U M R=>ws=[]/\R U M
abbrev cI(t:eS)(u:nF):nF:=λws U M R=>match ws with
 | w::r=>t w U M λv V=>u r v V R
 | []=>False
theorem jD:i5 X [] (pV X.K fU):=P5.weak λvs C H Q z=>z.el λws U M R av J Y h k=>⟨aK.nil_ (by rw[<-h.1];exact av),k.at Y J h.2⟩
theorem eG{e:Cg}{es:↑Cg}{t:eS}{u:nF}(O:PG X e (iT X.K t))(L:i5 X es (pV X.K u))(F:(Hq (e::es) X.env).map (·.2)=Nr e X.env::(Hq es X.env).map (·.2):=by rfl):i5 X (e::es) (pV X.K (cI t u)):=
 (P6 O L F).weak λvs C H Q Z=>Z.el λws U M R av J Y h k=>by
  cases av with
  | nil=>exact Bq h
  | cons x r=>exact⟨_,_,rfl,_,U,M,_,x,J,Y,h,λB l v V y c i h'=>⟨_,v,V,R,r.kp Y y,i,c,h',k.kp y⟩⟩
abbrev fV(n:Nat)(g:nF):eS:=λw U M R=>match w with
 | .tup ws=>↥ws=n/\g ws U M R
 | .rl ws=>↥ws=n/\g ws U M R
 | .ref a=>∃ws,M a=aa (.lst ws)/\↥ws=n/\g ws U M R
 | _=>False
theorem jE{k:Nat}{n:Nat}(hc:X.calm=ab)(h:i5 X es (pV X.K t))(hn:↥(Hq es X.env)=n:=by rfl)(j:(Hq es X.env).findIdx? (·.1)=ae:=by rfl):PG X (.Tuple es k pos) (iT X.K (fV n t)):=by
 rintro B s C H v u Q I r ⟨w,U,M,R,av,J,Y,hw,kk⟩;cases w<;>first|exact Bq hw|skip
 case tup ws=>exact av.tupE λa xs e f q=>P8 hc h hn j B s C H _ u Q I r ⟨a,xs,e,bU.of f,by rw[↥q];exact hw.1,_,U,M,R,q,J,Y,hw.2,kk⟩
 case rl ws=>exact av.rlE λa xs e f q=>EC hc h hn j B s C H _ u Q I r ⟨a,xs,e,bL.of f,by rw[↥q];exact hw.1,_,U,M,R,q,J,Y,hw.2,kk⟩
 case ref a=>exact hw.elim λws hw=>Y.lstE hw.1 λxs f q=>EC hc h hn j B s C H _ u Q I r ⟨a,xs,av.inv,bL.of f,by rw[↥q];exact hw.2.1,_,U,M,R,q,J,Y,hw.2.2,kk⟩
abbrev fP(te:aS)(g:eS):aD:=λD U M=>te U M λx I=>g x U I D.nx
theorem X7{K:Ac}{te:aS}{g:eS}{D:lS}{C:SV}{H:Hp}(h:qY K (fP te g) D C H):tG (up K te) (iT K g) D C H:=by
 let⟨U,M,Q,J,Y,h,k⟩:=h;exact⟨U,M,_,J,Y,h,λx z n I s j S O=>⟨n,U,I,Q.nx,S,J.kp Y s,j,O,k.nx.kp s⟩⟩
theorem zA(Y:E3 X e te)(L:PG X tg (iT X.K g))(F:swapsWithSole [tg] e pos.line X.env=pure ac:=by rfl)(hw:swappedStores [tg] e X.env=pure ae:=by rfl)(O:(Hq [tg] X.env).map (·.2)=[Nr tg X.env]:=by rfl):P3 X (.Assign [tg] e pos) (fP te g):=(QB Y L F hw O).weak λ_ _ _ h=>X7 h
abbrev aN(i:Nat)(te:aS):aD:=λD U M=>te U M λx I=>D.nx (U.set i (aa x)) I
theorem oO{i:Nat}(t:X.N.Nodup)(d:E3 X e te)(hi:X.N[i]? = aa x:=by rfl)(J:Loc X.env.scope x:=by first|exact .inl rfl|exact .inr rfl)(F:Ls e (aa (.Name x a)) pos.line X.env=pure ac:=by rfl)(hf:Fy X x:=by first|exact .inl rfl|exact .inr rfl|assumption):
  P3 X (.Assign [.Name x a] e pos) (aN i te):=(QC t hi J d F hf).weak λD C H Z=>Z.el λU M Q n Y h k=>⟨U,M,_,n,Y,h,λy z l I s j E O=>k.nx _ _ _ _ s j ((n.kp Y s).set E i) O⟩
def rO(o i v:W)(M:Mm)(Q:Mm->Prop):Prop:=match o with
 | .ref a=>(∃ws k j,i=.int k/\M a=aa (.lst ws)/\gX ↥ws k=aa j/\Q (put M a (.lst (ws.set j v))))\/
   (∃kvs k,i=wK k/\M a=aa (.dK kvs)/\↥kvs<Ax/\Q (put M a (.dK (bW kvs k v))))\/
   ∃kvs k,i=.tup (k.map wK)/\M a=aa (.dT kvs)/\↥kvs<Ax/\Q (put M a (.dT (bW kvs k v)))
 | _=>False
def X8(K:Ac):tE:=λo i v H Q=>∃b wi c M R,AV K H M o b/\AV K H M i wi/\AV K H M v c/\AM K H M/\rO b wi c M R/\∀l V,Kp H M l V->AM K l V->R V->Q l
theorem set_dict(U:X.A.units+1<Fd):tF X (λo i v H Q=>∃a l,o=.ref a/\mX H a i v l/\Q l):=by
 intro B s C H o i v N D u Q I x m R h;let⟨a,l,rfl,d,q⟩:=h;cases x;exact UR U I d m R λb k=>⟨l,k,q⟩
theorem GC{b:Type}[DecidableEq b]{K:Ac}{H:Hp}{M:Mm}{ks:↑(b×V)}{kvs:↑(b×W)}{n:b}{v:V}{c:W}{a:An}{o:MO}{u:HO}(Y:AM K H M)(e:M a=aa o)(q:bQ K H M b ks kvs)(av:AV K H M v c){P:MO}:bQ K (aL H a u) (put M a P) b (dY ks n v) (bW kvs n c):=Paired.mapP (rJ q n av) λp q z=>⟨z.1,z.2.wr Y e⟩
theorem X9(U:X.A.units+1<Fd):tF X (X8 X.K):=by
 rintro B s C H o i v N D u Q I x m S ⟨w,wi,c,M,R,p,g,av,Y,h,k⟩;cases w<;>first|exact Bq h|skip
 rename_i a;rcases h with⟨ws,n,j,d,e,hj,r⟩|⟨kvs,n,d,e,hl,r⟩|⟨kvs,n,d,e,hl,r⟩
 .rw[d]at g;let⟨vs,f,q⟩:=Y.lst e;let⟨P,F⟩:=Y.write (o:=.lst (ws.set j c)) (u:=.lst (vs.set j v)) e ⟨_,bY,(aK.set av j q).wr Y e⟩;exact TY B s C H _ _ v N D u Q I x m S ⟨a,vs,n,j,p.inv,g.inv,f,by rw[↥q];exact hj,k _ _ F P r⟩
 .rw[d]at g;let⟨ks,f,q⟩:=Y _ _ e;let⟨P,F⟩:=Y.write (o:=.dK (bW kvs n c)) (u:=.dK (dY ks n v)) e ⟨_,bY,GC Y e q av⟩;exact set_dict U B s C H _ _ v N D u Q I x m S ⟨a,_,p.inv,by rw[g.key];exact mX.k f (by rw[Cw q];exact hl),k _ _ F P r⟩
 .rw[d]at g;let⟨ks,f,q⟩:=Y _ _ e;let⟨P,F⟩:=Y.write (o:=.dT (bW kvs n c)) (u:=.dT (dY ks n v)) e ⟨_,bY,GC Y e q av⟩;exact g.tupE λb xs T O G=>set_dict U B s C H _ _ v N D u Q I x m S ⟨a,_,p.inv,by rw[T];exact mX.t f (by rw[<-G.keys];exact O) (by rw[Cw q];exact hl),k _ _ F P r⟩
abbrev gM(to a:aS):eS:=λw U M R=>to U M λo I=>a U I λi d=>rO o i w d λH=>R U H
theorem w_sub{o i:Cg}{to a:aS}(W:X.A.units+1<Fd)(S:E3 X o to)(hi:E3 X i a)(m:∀v,Nr (.Subscript o i pos) X.env v=(do
   let N <-Ji [v] (Eu o X.env)
   let D <-Ji [v,N] (Eu i X.env)
   Pr pos
   Ji [v,N,D] (Uw N D v)
   release [v,N,D] []):=by intro _;rfl):PG X (.Subscript o i pos) (iT X.K (gM to a)):=
 (QA S hi (X9 W) m).weak λv C H Q Z=>Z.el λw U M R av J Y h k=>⟨U,M,_,J,Y,h,λo z b I s j p O=>⟨U,I,_,J.kp Y s,j,O,λi E wi d B P g L=>
  ⟨b,wi,w,d,_,p.kp j B,g,(av.kp Y s).kp j B,P,L,λl V y c r=>k _ _ _ _ ((s.trans B).trans y) c (((J.kp Y s).kp j B).kp P y) r⟩⟩⟩
abbrev cX:aD:=λD U M=>D.nx U M
abbrev aF(t u:aD):aD:=λD U M=>t {D with nx:=u D} U M
variable {st:Jl}{rest:↑Jl}{t u:aD}{e:Cg}{te:aS}
theorem uP:jS X [] cX:=PH.weak λD C H Z=>Z.el λU M Q J Y h k=>k.nx.at Y J h
theorem jT(O:P3 X st t)(L:jS X rest u):jS X (st::rest) (aF t u):=(PJ O L).weak λD C H Z=>Z.el λU M Q J Y h k=>
 ⟨U,M,_,J,Y,h,⟨λB l v V y c i h'=>⟨v,V,Q,i,c,h',k.kp y⟩,k.rt,k.bk,k.ct⟩⟩
theorem kF(O:P3 X st t):jS X [st] t:=PK O
abbrev b7(te:aS):aD:=λD U M=>te U M λ_ I=>D.nx U I
theorem uQ(d:E3 X e te)(F:Ls e ae pos.line X.env=pure ac:=by rfl):P3 X (.Expr e pos) (b7 te):=(PM d F).weak λD C H Z=>Z.el λU M Q J Y h k=>
 ⟨U,M,_,J,Y,h,λv l w V y c av r=>k.nx _ _ _ _ y c (J.kp Y y) r⟩
abbrev bM(te:aS):aD:=λD U M=>te U M D.rt
theorem uR(d:E3 X e te):P3 X (.Return (aa e) pos) (bM te):=(PR d).weak λD C H Z=>Z.el λU M Q J Y h k=>⟨U,M,_,J,Y,h,k.rt⟩
abbrev zB:aD:=λD _ M=>D.rt .non M
theorem YA:P3 X (.Return ae pos) zB:=PV.weak λD C H Z=>Z.el λU M Q J Y h k=>k.rt.at Y .non h
abbrev cC(c:dE)(t u:aD):aD:=λD U M=>c U M λb I=>if b=ab then t D U I else u D U I
theorem rP(hc:T3 X c tc)(m:jS X a t)(G:jS X b u):P3 X (.If c a b pos) (cC tc t u):=(PY hc m G).weak λD C H Z=>Z.el λU M Q J Y h k=>
 ⟨U,M,_,J,Y,h,λb z I s j O=>by
  cases b with
  | true=>exact⟨U,I,Q,J.kp Y s,j,O,k.kp s⟩
  | false=>exact⟨U,I,Q,J.kp Y s,j,O,k.kp s⟩⟩
theorem YB:P3 X st (λ_ _ _=>False):=P0.weak λD C H Z=>Z.el λU M Q J Y h k=>h.elim
def l7(c:dE)(tb:aD):aD:=λD U M=>∃r:Nat->S3->Mm->Prop,(∃m,r m U M)/\∀m U M,r m U M->
 c U M λb I=>if b=ab then tb {D with nx:=λv V=>∃e u,e<m/\Sub u V/\r e v u,ct:=λv V=>∃e u,e<m/\Sub u V/\r e v u,bk:=D.nx} U I else D.nx U I
theorem YC(N:Tn X.m X.A X.env X.xe)(hc:T3 X c tc)(G:jS X a tb):P3 X (.While c a [] pos) (l7 tc tb):=
 (QE N hc G).weak λD C H Z=>by
  obtain⟨U,M,Q,J,Y,⟨r,⟨m,T⟩,h⟩,k⟩:=Z;refine⟨λm O l=>∃v V,Kp H M l V/\AM X.K l V/\AS X.K l V O v/\r m v V,⟨m,U,M,Kp.refl Y,Y,J,T⟩,?_⟩;rintro m x z ⟨t,I,s,j,F,g⟩;refine⟨t,I,_,F,j,h m t I g,λb E f B P L=>?_⟩;cases b with
  | false=>exact k.nx _ _ _ _ (s.trans B) P (F.kp j B) L
  | true=>
   have L:tb {Q with nx:=λv V=>∃e u,e<m/\Sub u V/\r e v u,ct:=λv V=>∃e u,e<m/\Sub u V/\r e v u,bk:=Q.nx} t f:=L;refine⟨λO l=>∃e v V,e<m/\Kp H M l V/\AM X.K l V/\AS X.K l V O v/\r e v V,λO l n=>by let⟨e,v,V,d,p,o,w,S⟩:=n;exact⟨e,d,v,V,p,o,w,S⟩,t,f,_,F.kp j B,P,L,?_⟩;have q:iN X.K E f (λv V=>∃e u,e<m/\Sub u V/\r e v u) (λO l=>∃e v V,e<m/\Kp H M l V/\AM X.K l V/\AS X.K l V O v/\r e v V):=
    λO l v V y W i R=>by let⟨e,u,d,p,o⟩:=R;exact⟨e,v,u,d,((s.trans B).trans y).sub p,W.sub p,i.sub p,o⟩
   exact⟨q,(k.rt.kp s).kp B,(k.nx.kp s).kp B,q⟩
abbrev gZ:=S3->Mm->(↑W->(Mm->Prop)->Mm->Prop)->Prop
structure iU(K:Ac)(H0:Hp)(M0:Mm)(J:It)(ws:↑W)(keep:Mm->Prop):Prop where
 go:∀i H M,Kp H0 M0 H M->AM K H M->keep M->i<↥ws->J.go i H
 stop:∀H M,Kp H0 M0 H M->AM K H M->keep M->J.stop ↥ws H
 yld:∀i H M x H',Kp H0 M0 H M->AM K H M->keep M->i<↥ws->J.yld i H x H'->∃w,ws[i]? = aa w/\Kp H M H' M/\AM K H' M/\AV K H' M x w
def gB(K:Ac)(wi:gZ):TI:=λC H g=>∃(U:S3) (M:Mm) (R:↑W->(Mm->Prop)->Mm->Prop),AS K H M C U/\AM K H M/\wi U M R/\∀J l ws keep V,Kp H M l V->AM K l V->iU K l V J ws keep->R ws keep V->g J l
theorem gB.el{K:Ac}{H:Hp}{E:SV}{C:Prop}{t:gZ}{Q:It->Hp->Prop}(h:gB K t E H Q)(c:∀U M R,AS K H M E U->AM K H M->t U M R->(∀J l ws keep V,Kp H M l V->AM K l V->iU K l V J ws keep->R ws keep V->Q J l)->C):C:=by let⟨U,M,R,a,b,h,k⟩:=h;exact c U M R a b h k
theorem _root_.L2.PI.weak{tg iter:Cg}{t t':TI}(h:PI X tg iter t)(k:∀C H R,t' C H R->t C H R):PI X tg iter t':=λB s C H R I q=>h B s C H R I (k C H R q)
@[irreducible] def oP(ws:↑W)(keep:Mm->Prop)(g:eS)(tb:aD)(D:D3)(U:S3)(M:Mm):Prop:=
 ∃r:Nat->S3->Mm->Prop,r 0 U M/\(∀i U M,i<=↥ws->r i U M->keep M)/\
  (∀i w U M,ws[i]? = aa w->r i U M->g w U M λR d=>tb {D with nx:=λv V=>∃u,Sub u V/\r (i+1) v u,ct:=λv V=>∃u,Sub u V/\r (i+1) v u,bk:=D.nx} R d)/\
  ∀U M,r ↥ws U M->D.nx U M
abbrev b9(wi:gZ)(g:eS)(tb:aD):aD:=λD U M=>wi U M λws keep I=>oP ws keep g tb D U I
theorem uS{tg iter:Cg}{t:↑Jl}{wi:gZ}{g:eS}{tb:aD}{pos:Hu}(N:Tn X.m X.A X.env X.xe)(hc:X.calm=ab)(hi:PI X tg iter (gB X.K wi))(L:PG X tg (iT X.K g))(G:jS X t tb)(F:∀x,Hz iter X.env x=pure x:=by intro _;rfl):P3 X (.For tg iter t [] pos) (b9 wi g tb):=
 (QO N hc hi L G F).weak λD C H K=>K.el λU M D' n Y h k=>by
  refine⟨U,M,_,n,Y,h,λJ z ws keep I s j it hw=>?_⟩;unfold oP at hw;let⟨r,T,hk,F,hd⟩:=hw;refine⟨λi m O l=>m=↥ws-i/\i<=↥ws/\∃v V,Kp z I l V/\AM X.K l V/\AS X.K l V O v/\r i v V,⟨_,rfl,Cn _,U,I,Kp.refl j,j,n.kp Y s,T⟩,?_⟩;rintro i m σ2 E ⟨rfl,hi,R,d,B,P,as2,p2⟩
  by_cases a:i<↥ws
  .refine .inr ⟨it.go i E d B P (hk i R d hi p2) a,λO l=>∃v V,Kp z I l V/\AM X.K l V/\AS X.K l V O v/\r (i+1) v V,λO l q=>⟨↥ws-(i+1),by lia,rfl,a,q⟩,λx W y=>?_⟩;let⟨w,hw,k3,am3,S⟩:=it.yld i E d x W B P (hk i R d hi p2) a y;refine⟨w,R,d,_,S,as2.kp P k3,am3,F i w R d hw p2,λσ4 H4 τ4 M4 k4 am4 as4 f=>⟨τ4,M4,_,as4,am4,f,?_⟩⟩;have kk:=((B.trans k3).trans k4);have Q:iN X.K H4 M4 (λv V=>∃u,Sub u V/\r (i+1) v u) (λO l=>∃v V,Kp z I l V/\AM X.K l V/\AS X.K l V O v/\r (i+1) v V):=
    λO l v V o c as' ⟨u,p,b⟩=>⟨v,u,(kk.trans o).sub p,c.sub p,as'.sub p,b⟩
   exact⟨Q,k.rt.kp (s.trans kk),k.nx.kp (s.trans kk),Q⟩
  .have e:i=↥ws:=by lia
   subst e;exact .inl ⟨it.stop E d B P (hk _ R d hi p2),k.nx _ _ _ _ (s.trans B) P as2 (hd R d p2)⟩
theorem uU{keep:Mm->Prop}(r:Nat->S3->Mm->Prop)(G:r 0 U M)(hk:∀i U M,i<=↥ws->r i U M->keep M)(F:∀i w U M,ws[i]? = aa w->r i U M->g w U M λR d=>tb {D with nx:=λv V=>∃u,Sub u V/\r (i+1) v u,ct:=λv V=>∃u,Sub u V/\r (i+1) v u,bk:=D.nx} R d)(hd:∀U M,r ↥ws U M->D.nx U M):oP ws keep g tb D U M:=by unfold oP;exact⟨r,G,hk,F,hd⟩
variable {tg l a b:Cg}{tl ta tb':aS}
theorem YD{K:Ac}{g:Hp}{j:Mm}{p:An}{ws:↑W}:iU K g j (pE K p) ws λM=>M p=aa (.lst ws) where
 go:=λi H M _ Y e hi=>by
  let⟨vs,f,q⟩:=Y.lst e;exact⟨vs,vs[i]'(by rw[↥q];exact hi),bL.of f,by simp⟩
 stop:=λH M _ Y e=>by
  let⟨vs,f,q⟩:=Y.lst e;exact⟨vs,bL.of f,by rw[↥q];exact Ai _⟩
 yld:=λi H M x l _ Y e hi y=>by
  let⟨rfl,y⟩:=y;let⟨vs,f,q⟩:=Y.lst e;let⟨w,hw,av⟩:=q.getV (y vs (bL.of f));exact⟨w,hw,Kp.refl Y,Y,av⟩
theorem GD{K:Ac}{g:Hp}{j:Mm}{p:An}{vs:↑V}{ws:↑W}(v:AM K g j)(st:∀H M,Kp g j H M->bL K H p vs)(J:aK K g j vs ws):iU K g j (pE K p) ws λ_=>True:=by
 refine⟨λi H M k Y _ hi=>⟨vs,vs[i]'(by rw[J.length];exact hi),st H M k,by simp⟩,λH M k Y _=>⟨vs,st H M k,by rw[J.length];exact Ai _⟩,λi H M x l k Y _ hi y=>?_⟩;let⟨rfl,y⟩:=y;let⟨w,hw,av⟩:=(J.kp v k).getV (y vs (st _ M k));exact⟨w,hw,Kp.refl Y,Y,av⟩
theorem YE{K:Ac}{g:Hp}{j:Mm}{p:An}{vs:↑V}{ws:↑W}(v:AM K g j)(e:lZ K g p vs)(J:aK K g j vs ws):iU K g j (pE K p) ws λ_=>True:=
 GD v (λH M k=>by
  refine lZ.sq ?_;rcases e with⟨o,e⟩|e
  .exact .inl ⟨o,(k.fr _ _ (v.noFrz e) e).1⟩
  .exact .inr e) J
theorem YF{K:Ac}{g:Hp}{j:Mm}{p:An}{vs:↑V}{ws:↑W}(v:AM K g j)(e:g p=aa (.lst vs))(n:j p=ae)(J:aK K g j vs ws):iU K g j (pE K p) ws λ_=>True:=
 GD v (λH M k=>bL.of (k.fr _ _ n e).1) J
theorem YG{K:Ac}{g:Hp}{j:Mm}{p:An}{vs:↑V}{ws:↑W}(v:AM K g j)(e:g p=aa (.tup vs))(J:aK K g j vs ws):iU K g j (xQ K p) ws λ_=>True:=by
 have st:∀H M,Kp g j H M->bU K H p vs:=λH M k=>bU.of (k.fr _ _ (v.noTup e) e).1;refine⟨λi H M k Y _ hi=>⟨vs,vs[i]'(by rw[J.length];exact hi),st H M k,by simp⟩,λH M k Y _=>⟨vs,st H M k,by rw[J.length];exact Ai _⟩,λi H M x l k Y _ hi y=>?_⟩;let⟨rfl,y⟩:=y;let⟨w,hw,av⟩:=(J.kp v k).getV (y vs (st _ M k));exact⟨w,hw,Kp.refl Y,Y,av⟩
theorem GF{K:Ac}{g:Hp}{j:Mm}{lo:Int}{n:Nat}:iU K g j (qM lo n) ((Ci n).map λi=>W.int (lo+(i:Nat))) λ_=>True where
 go:=λi H M _ Y _ hi=>by show i<n;simpa using hi
 stop:=λH M _ Y _=>by show n<=_;simp
 yld:=λi H M x l _ Y _ hi y=>by
  let⟨rfl,rfl⟩:=y;have hi:i<n:=by simpa using hi
  exact⟨.int (lo+i),by simp[hi],Kp.refl Y,Y,.int _⟩
theorem YH{K:Ac}{g:Hp}{j:Mm}{z:Ay}:iU K g j (yI z) (z.cps.toList.map λc=>W.str ⟨#[c]⟩) λ_=>True where
 go:=λi H M _ Y _ hi=>by show i<z.cps.size;simpa using hi
 stop:=λH M _ Y _=>by show z.cps.size<=_;simp
 yld:=λi H M x l _ Y _ hi y=>by
  let⟨rfl,c,hc,rfl⟩:=y;exact⟨.str ⟨#[c]⟩,by rw[Av,hc];rfl,Kp.refl Y,Y,.str _⟩
def l8(X:Cx)(tg:Cg)(r:V->Hp->(It->Hp->Prop)->Prop):Prop:=
 ∀(B:Pn) (s:Aj) (C:SV) (H:Hp) (x:V) (u:Ae) (R:It->Hp->Prop),Inv X B C H s->RelV x u->r x H R->X.a (Ro u) (xO X B C tg R) X.xe s
theorem zC:l8 X tg (λx H R=>∃a,x=.ref a/\(∃xs,bL X.K H a xs)/\R (pE X.K a) H):=by
 rintro B g C z x u R M N ⟨a,rfl,⟨xs,Z⟩,q⟩;cases N;let⟨its,S,p,hz⟩:=M.list Z;refine Jh p.isList ?_;refine⟨⇑g,[⇑g],_,_,z,rfl,M.kept (t':=g.toks) λb o e=>Ah _ e,QF a _,⟨_,Bb _ rfl,rfl,rfl⟩,λb G=>?_,q⟩;have e:b=⇑g:=by simpa using G
 subst e;exact M.fpOk (Ai _) (M.hok.fresh (Ai _))
theorem YI:l8 X tg (λx H R=>∃a,x=.ref a/\(∃xs,bU X.K H a xs)/\R (xQ X.K a) H):=by
 rintro B g C z x u R M N ⟨a,rfl,⟨xs,Z⟩,q⟩;cases N;let⟨its,S,p,hz⟩:=M.tuple Z;refine Nc (show g.heap.IsTuple a its.toArray from p) ?_;refine⟨⇑g,[⇑g],_,_,z,rfl,M.kept (t':=g.toks) λb o e=>Ah _ e,QG a _,⟨_,Bb _ rfl,rfl,rfl⟩,λb G=>?_,q⟩;have e:b=⇑g:=by simpa using G
 subst e;exact M.fpOk (Ai _) (M.hok.fresh (Ai _))
theorem YJ{x:Ay}{V:Hu}:l8 X (.Name x V) (λx H R=>∃z,x=.str z/\R (yI z) H):=by
 rintro B g C l x u R M N ⟨z,rfl,q⟩;let⟨t,rfl⟩:=N;have fp:∀b∈[⇑g],gW X B l b:=λb G=>by
  have e:b=⇑g:=by simpa using G
  subst e;exact M.fpOk (Ai _) (M.hok.fresh (Ai _))
 cases m:z.cps.all (· < 128)
 .refine wpAny_pyIter_wide m ?_;exact⟨⇑g,[⇑g],_,_,l,rfl,M.kept (t':=g.toks) λb o e=>Ah _ e,
   EA z _ "str_iterator" t (λA s i c Q E a b d=>wpAny_pyNext_wide_item a b d) (λA s i Q E a b c d=>wpAny_pyNext_wide_end a b c d) (λA i s Q E a b=>wpAny_pyIter_striter_wide a b),⟨_,Bb _ rfl,rfl,rfl⟩,fp,q⟩
 .refine wpAny_pyIter_ascii m ?_;exact⟨⇑g,[⇑g],_,_,l,rfl,M.kept (t':=g.toks) λb o e=>Ah _ e,
   EA z _ "str_ascii_iterator" t (λA s i c Q E a b d=>wpAny_pyNext_ascii_item a b d) (λA s i Q E a b c d=>wpAny_pyNext_ascii_end a b c d) (λA i s Q E a b=>wpAny_pyIter_striter_ascii a b),⟨_,Bb _ rfl,rfl,rfl⟩,fp,q⟩
theorem _root_.L2.PI.of{r:V->Hp->(It->Hp->Prop)->Prop}{tl:TE}(hl:PE X l tl)(T:l8 X tg r):PI X tg l (λC H R=>tl C H λx z=>r x z R):=λB s C H R I h=>
 thn (hl B s C H _ I h) λu g ⟨x,z,M,N,d⟩=>T B g C z x u R M N d
def rQ(K:Ac)(r:W->Mm->(↑W->(Mm->Prop)->Mm->Prop)->Prop):V->Hp->(It->Hp->Prop)->Prop:=λx H g=>∃(n:W) (M:Mm) (R:↑W->(Mm->Prop)->Mm->Prop),AV K H M x n/\AM K H M/\r n M R/\
 ∀J l ws keep F,Kp H M l F->AM K l F->iU K l F J ws keep->R ws keep F->g J l
abbrev jU:W->Mm->(↑W->(Mm->Prop)->Mm->Prop)->Prop
 | .tup ws,I,R=>R ws (λ_=>True) I
 | .rl ws,I,R=>R ws (λ_=>True) I
 | .sc ws,I,R=>R ws (λ_=>True) I
 | .ref a,I,R=>∃ws,I a=aa (.lst ws)/\R ws (λM=>M a=aa (.lst ws)) I
 | _,_,_=>False
abbrev cA:W->Mm->(↑W->(Mm->Prop)->Mm->Prop)->Prop
 | .tup ws,I,R=>R ws (λ_=>True) I
 | .rl ws,I,R=>R ws (λ_=>True) I
 | .sc ws,I,R=>R ws (λ_=>True) I
 | .str z,I,R=>R (z.cps.toList.map λc=>W.str ⟨#[c]⟩) (λ_=>True) I
 | .ref a,I,R=>∃ws,I a=aa (.lst ws)/\R ws (λM=>M a=aa (.lst ws)) I
 | _,_,_=>False
theorem GG:l8 X tg (rQ X.K jU):=by
 rintro B s C H x u g I N ⟨t,M,R,S,Y,h,k⟩;have k:=λJ ws keep=>k J H ws keep M (Kp.refl Y) Y;cases t<;>first|exact Bq h|skip
 case tup ws=>exact S.tupE λa xs e f q=>YI B s C H _ u g I N ⟨a,e,⟨xs,bU.of f⟩,k _ _ _ (YG Y f q) h⟩
 case rl ws=>let⟨a,xs,e,f,n,q⟩:=S.inv;exact zC B s C H _ u g I N ⟨a,e,⟨xs,bL.of f⟩,k _ _ _ (YF Y f n q) h⟩
 case sc ws=>exact S.scE λa xs e f q=>zC B s C H _ u g I N ⟨a,e,⟨xs,f.sq⟩,k _ _ _ (YE Y f q) h⟩
 case ref a=>exact h.elim λws h=>Y.lstE h.1 λvs f q=>zC B s C H _ u g I N ⟨a,S.inv,⟨vs,bL.of f⟩,k _ _ _ YD h.2⟩
theorem YK:l8 X (.Name y d) (rQ X.K cA):=by
 rintro B s C H x u g I N ⟨n,M,R,S,Y,h,k⟩;cases n<;>first|exact Bq h|skip
 case str z=>exact YJ B s C H _ u g I N ⟨z,S.inv,k _ _ _ _ _ (Kp.refl Y) Y YH h⟩
 all_goals exact GG B s C H x u g I N ⟨_,M,R,S,Y,h,k⟩
abbrev bK(r:W->Mm->(↑W->(Mm->Prop)->Mm->Prop)->Prop)(tl:aS):gZ:=λU M R=>tl U M λw I=>r w I R
theorem uV{r:W->Mm->(↑W->(Mm->Prop)->Mm->Prop)->Prop}(hl:E3 X l tl)(T:l8 X tg (rQ X.K r)):PI X tg l (gB X.K (bK r tl)):=(PI.of hl T).weak λC H g B=>B.el λU M R n Y h k=>
 ⟨U,M,_,n,Y,h,λx z t I s j S O=>⟨t,I,R,S,j,O,λJ Z ws keep V y c it r=>k J Z ws keep V (s.trans y) c it r⟩⟩
theorem YL(hl:E3 X l tl):PI X tg l (gB X.K (bK jU tl)):=uV hl GG
theorem zD(hl:E3 X l tl):PI X (.Name y d) l (gB X.K (bK cA tl)):=uV hl YK
def l9(lo:Int)(n:Nat):↑W:=(Ci n).map λi=>W.int (lo+(i:Nat))
abbrev nG(ta:dG):gZ:=λU M R=>ta U M λws I=>∃j:Int,ws=[.int j]/\-(2 ^ 62)<=j/\j<2 ^ 62/\R (l9 0 j.toNat) (λ_=>True) I
abbrev GH(ta:dG):gZ:=λU M R=>ta U M λws I=>∃i j:Int,ws=[.int i,.int j]/\(-(2 ^ 62)<=i/\i<2 ^ 62/\-(2 ^ 62)<=j/\j<2 ^ 62)/\R (l9 i (j-i).toNat) (λ_=>True) I
theorem GI{t:dG}{p pos:Hu}(T:Gl X "range")(P:X.mg "range" = ae)(m:A3 X [a] t)(F:Cp [a] X.env=[(ac,Eu a X.env)]:=by rfl):PI X tg (.Call (.Name "range" p) [a] [] pos) (gB X.K (nG t)):=
 (QK T P m F).weak λC H g B=>B.el λU M R J Y h k=>⟨U,M,_,J,Y,h,λvs z ws I s Z S ⟨j,e,O,L,r⟩=>by
  rw[e]at S;let⟨v,e,av⟩:=S.one;exact⟨j,iP e av.inv,O,L,k _ _ _ _ _ s Z GF r⟩⟩
theorem YM{t:dG}{p pos:Hu}(L:Gl X "range")(P:X.mg "range" = ae)(m:A3 X [a,b] t)(F:Cp [a,b] X.env=[(ac,Eu a X.env),(ac,Eu b X.env)]:=by rfl)(D:Cp [b] X.env=[(ac,Eu b X.env)]:=by rfl):
  PI X tg (.Call (.Name "range" p) [a,b] [] pos) (gB X.K (GH t)):=
 (QL L P m F D).weak λC H g B=>B.el λU M R J Y h k=>⟨U,M,_,J,Y,h,λvs z ws I s Z S ⟨i,j,e,O,r⟩=>by
  rw[e]at S;let⟨v,u,e,av,c⟩:=S.two;exact⟨i,j,by rw[e,show _=_ from av.inv,show _=_ from c.inv],O,k _ _ _ _ _ s Z GF r⟩⟩
@[irreducible] def gN(ws:↑W)(keep:Mm->Prop)(g:eS)(tt:dE)(te:aS)(c:S3)(I:Mm)(R:K3):Prop:=
 ∀p,I p=ae->∃r:Nat->S3->↑W->Mm->Prop,r 0 c [] I/\(∀vs i U acc M,i<=↥ws->M p=ae->r i U acc M->keep (put M p (.fix vs)))/\
  (∀vs i w U acc M,ws[i]? = aa w->M p=ae->r i U acc M->g w U (put M p (.fix vs)) λa d=>tt a d λb H=>
   if b=ab then te a H λy f=>f p=aa (.fix vs)/\↥acc<Ax/\∃e,Sub e (del f p)/\r (i+1) a (acc++[y]) e
   else H p=aa (.fix vs)/\∃e,Sub e (del H p)/\r (i+1) a acc e)/\
  ∀U acc M,M p=ae->r ↥ws U acc M->R (.ref p) (put M p (.lst acc))
def zE(js:↑(Option Nat))(U:S3):S3:=js.map λo=>o.bind λj=>(U[j]?).join
theorem AS.cmap{K:Ac}{H:Hp}{M:Mm}{C:SV}{U:S3}(h:AS K H M C U):∀js:↑(Option Nat),AS K H M (cmap js C) (zE js U)
 | []=>.nil
 | none::r=>.cons (λ_ e=>nomatch e) (AS.cmap h r)
 | some j::r=>.cons (λw e=>by
   have e:(U[j]?).join=aa w:=e;cases q:U[j]? with
   | none=>rw[q]at e;cases e
   | some z=>
    rw[q]at e;have e:z=aa w:=e;subst e;let⟨v,O,L⟩:=h.get q;exact⟨v,by show(C[j]?).join=aa v;rw[O];rfl,L⟩) (AS.cmap h r)
abbrev c7(wi:gZ)(g:eS)(tt:dE)(te:aS)(js:↑(Option Nat)):aS:=λU M R=>wi U M λws keep I=>gN ws keep g tt te (zE js U) I R
theorem zF(h:up X.K (c7 wi g tt te js) C H Q):yH (gB X.K wi) (λ_=>iT X.K g) (λ_=>kS X.K tt) (λ_=>up X.K te) js C H Q:=by
 let⟨U,M,R,P,Y,h,k⟩:=h;refine⟨U,M,_,P,Y,h,λJ z ws keep I s j it d p N B=>?_⟩;unfold gN at d;let⟨r,G,hk,F,hd⟩:=d p (j.nonM N);let⟨amp,kp⟩:=j.laid (o:=.fix []) (u:=.lst []) N bY;have hMp:=j.nonM N;refine VG ↥ws (λi O t l=>∃v acc V,V p=ae/\Kp z I l (put V p (.fix t))/\AM X.K l (put V p (.fix t))/\AS X.K l (put V p (.fix t)) O v/\aK X.K l (put V p (.fix t)) t acc/\r i v acc V) ?_ ?_ ?_
 .exact⟨zE js U,[],I,hMp,kp,amp,((P.kp Y s).kp j kp).cmap js,.nil,G⟩
 .rintro O t l ⟨v,acc,V,mp,L,c,as',av,pv⟩;refine⟨it.stop l _ L c (hk _ _ _ _ _ (Ai _) mp pv),?_⟩;have hp':l p=aa (.lst t):=c p _ aJ;refine k _ l _ (put V p (.lst acc)) (s.trans ⟨λa o n e=>?_,L.dom⟩) (λa o e=>?_) (.ref p) (hd v acc V mp pv)
  .let⟨x,y⟩:=L.fr a o n e;exact⟨x,by rw[aT (eO e N)]at y⊢;exact y⟩
  .by_cases m:a=p
   .subst m;rw[aJ]at e;cases e;exact⟨t,hp',av.go E5⟩
   .rw[aT m]at e;exact(c a o (by rw[aT m];exact e)).go E5 rfl
 .rintro i O t l hi ⟨v,acc,V,mp,L,c,as',av,pv⟩;have hkp:=hk t i v acc V (Hf hi) mp pv;refine⟨it.go i l _ L c hkp hi,λx W y=>?_⟩;let⟨w,hw,q,A,S⟩:=it.yld i l _ x W L c hkp hi y;refine⟨w,v,_,_,S,as'.kp c q,A,F t i w v acc V hw mp pv,λσ4 H4 τ4 M4 k4 am4 as4 D=>⟨τ4,M4,_,as4,am4,D,λb H5 M5 k5 am5 f=>?_⟩⟩;have kk:Kp l (put V p (.fix t)) H5 M5:=(q.trans k4).trans k5;cases b with
  | false=>
   obtain⟨m5,M6,sb,pv6⟩:M5 p=aa (.fix t)/\∃M6,Sub M6 (del M5 p)/\r (i+1) τ4 acc M6:=f;have sb':Sub (put M6 p (.fix t)) M5:=by
    have:=(sb.trans Sub.del).put (a:=p) (o:=.fix t);rwa [yO m5]at this
   exact U8 ⟨τ4,acc,M6,sb.non pN,(L.trans kk).sub sb',am5.sub sb',(as4.kp am4 k5).sub sb',(av.kp c kk).sub sb',pv6⟩
  | true=>
   have f:te τ4 M5 λy M4=>M4 p=aa (.fix t)/\↥acc<Ax/\∃M5,Sub M5 (del M4 p)/\r (i+1) τ4 (acc++[y]) M5:=f;refine U9 ⟨τ4,M5,_,as4.kp am4 k5,am5,f,λy H6 T M6 k6 am6 E K=>?_⟩;let⟨m6,hl,M7,sb,pv7⟩:=K;have kk6:=kk.trans k6;have hp6:H6 p=aa (.lst t):=am6 p _ m6;let⟨am8,k8⟩:=am6.write (o:=.fix (t++[y])) (u:=.lst (t++[y])) m6 bY;have sb':Sub (put M7 p (.fix (t++[y]))) (put M6 p (.fix (t++[y]))):=(sb.trans Sub.del).put;refine⟨hp6,by rw[↥av];exact hl,τ4,acc++[T],M7,sb.non pN,((L.trans kk6).trans k8).sub sb',am8.sub sb',(((as4.kp am4 k5).kp am5 k6).kp am6 k8).sub sb',?_,pv7⟩;exact(((av.kp c kk6).append (.cons E .nil)).kp am6 k8).sub sb'
variable {sc:Kl}{N':↑Ay}{js:↑(Option Nat)}{iter elt:Cg}{ifs:↑Cg}{wi:gZ}{g:eS}{tt:dE}
abbrev eU:dE:=λ_ M Q=>Q ab M
theorem YN:iM X [] (kS X.K eU):=VD.weak λC H Q Z=>Z.el λU M R J Y h k=>k ab H M (Kp.refl Y) Y h
theorem YO{c:Cg}{t:dE}(h:T3 X c t):iM X [c] (kS X.K t):=VE h
theorem fA(N':↑Ay)(js:↑(Option Nat))(hi:PI X tg iter (gB X.K wi))(L:∀B,PG (dR X sc N' B) tg (iT X.K g))(ht:∀B,iM (dR X sc N' B) ifs (kS X.K tt))(Y:∀B,PE (dR X sc N' B) elt (up X.K te))(w:oF N' sc X.env.scope=ab:=by kernel_rfl)(hj:fL N' X.N sc js N'=ab:=by kernel_rfl)(hc:X.calm=ab:=by rfl)(F:∀x,Hz iter X.env x=pure x:=by intro _;rfl):
  E3 X (.ListComp elt [⟨tg,iter,ifs,0⟩] sc pos) (c7 wi g tt te js):=(VF N' js hi L ht Y w hj hc F).weak λ_ _ _ h=>zF h
theorem YQ{i:Nat}{x:Ay}{V r:Hu}(t:X.N.Nodup)(N':↑Ay)(js:↑(Option Nat))(hi:PI X tg iter (gB X.K wi))(L:∀B,PG (dR X sc N' B) tg (iT X.K g))(ht:∀B,iM (dR X sc N' B) ifs (kS X.K tt))(d:∀B,PE (dR X sc N' B) elt (up X.K te))(a:X.N[i]? = aa x:=by rfl)(J:Loc X.env.scope x:=by first|exact .inl rfl|exact .inr rfl)(w:oF N' sc X.env.scope=ab:=by kernel_rfl)(hj:fL N' X.N sc js N'=ab:=by kernel_rfl)(hc:X.calm=ab:=by rfl)(b:Ls (.ListComp elt [⟨tg,iter,ifs,0⟩] sc pos) (aa (.Name x V)) r.line X.env=pure ab:=by rfl)(hf:Fy X x:=by first|exact .inl rfl|exact .inr rfl|assumption)(F:∀x,Hz iter X.env x=pure x:=by intro _;rfl):P3 X (.Assign [.Name x V] (.ListComp elt [⟨tg,iter,ifs,0⟩] sc pos) r) (aN i (c7 wi g tt te js)):=
 (D7 t a J N' js hi L ht d w hj hc b hf F).weak λD C H Z=>Z.el λU M Q n Y h k=>zF ⟨U,M,_,n,Y,h,λy z l I s j E O=>k.nx _ _ _ _ s j ((n.kp Y s).set E i) O⟩
end
def uW(N:↑Ay)(ws:↑W):S3:=ws.map aa++Bz (↥N-↥ws) ae
def k7(R:K3):D3:={nx:=λ_ V=>∃u,Sub u V/\R .non u,rt:=λw V=>∃u,Sub u V/\R w u}
abbrev bG(sp:aY)(c:aD)(N:↑Ay):Prop:=∀ws M R,sp ws M R->c (k7 R) (uW N ws) M
section
variable {P:Bc}{w:Bo}{K:Ac}{mg:Ay->Option Ae}{base:Ds}
theorem uX{x j:Ay}{st:Jl}{f:An}{fd:Fc}{N ps:↑Ay}{k:Nat}{sp:aY}(F:jO K x j st f fd)(S:mU N ps (dO st))(len:∀ws M R,sp ws M R->↥ws=↥ps)(m:∀(i:Ae) (A:Cs) (outer:↑Env) (s:Aj) (H:Hp) (E:XK) (ws:↑W) (M:Mm) (R:K3),cP k (A.deeper (Li j (dO st) ⇑s f i))->sp ws M R->
   ∃t,jS (kN eQ P w K mg base N j (dO st) f i A outer s H E).nox (gF st) t/\t (k7 R) (uW N ws) M):i6 P w K mg base eQ (k+1) f fd ps (fM K sp):=by
 refine F.ok S (λvs H Q E Z=>by let⟨ws,M,R,Y,av,h,_⟩:=Z;rw[↥av];exact len ws M R h) λi A outer s H vs Q E T U=>?_;let⟨ws,M,R,Y,av,h,kk⟩:=U;let⟨t,ht,h'⟩:=m i A outer s H E ws M R T h;refine⟨_,ht,uW N ws,M,k7 R,?_,Y,h',⟨λO l a V y c b n=>by let⟨u,sb,r⟩:=n;exact kk _ l _ u (y.sub sb) (c.sub sb) .non r,λv l w V y c d z3=>by let⟨u,sb,r⟩:=z3;exact kk v l w u (y.sub sb) (c.sub sb) (d.sub sb) r,λ_ _ _ _ _ _ _ z=>z.elim,λ_ _ _ _ _ _ _ z=>z.elim⟩⟩;unfold L2.start uW;rw[↥av];exact AS.start av _
def rR:aY:=λws M R=>∃ns:↑Int,ws=[.sc (ns.map W.int)]/\↥ns<=63/\(M=λ_=>ae)/\∀V,R (.bl ab) V
theorem YR{H:Hp}{a:An}{ns:↑Int}(hl:↥ns<=63)(S:tV H)(l:bL K H a (ns.map V.int)):fM K rR [.ref a] H (λv _=>v=.bl ab) λ_ _ _=>False:=by
 have T:lZ K H a (ns.map V.int):=by
  rcases l with(e|⟨o,e⟩)|e
  .rcases S a with z|⟨o,xs,z⟩
   .rw[z]at e;cases e
   .rw[z]at e;cases e
  .exact .inl ⟨o,e⟩
  .exact .inr e
 exact⟨[.sc (ns.map W.int)],λ_=>ae,λw _=>w=.bl ab,λa o e=>(nomatch e),.cons (.sc T (aK.int ns)) .nil,⟨ns,rfl,hl,rfl,λ_=>rfl⟩,λv Z w F _ _ av r=>by subst r;exact av.bl_inv⟩
end
section
variable {X:Cx}{a b c:Cg}{ta tb tc:aS}{pos:Hu}
abbrev uY:aD:=λ_ _ _=>False
def GJ(M:Mm):W->String->Prop
 | .non,T=>T = "NoneType"
 | .bl _,T=>T = "bool"
 | .int _,T=>T = "int"
 | .str _,T=>T = "str"
 | .tup _,T=>T = "tuple"
 | .rl _,T=>T = "list"
 | .dk _,T=>T = "dict"
 | .ref a,T=>(T = "list"/\∃ws,M a=aa (.lst ws))\/(T = "dict"/\((∃kvs,M a=aa (.dK kvs))\/∃kvs,M a=aa (.dT kvs)))
 | _,_=>False
def GK:↑(String×String×Bool):=[("int","int",ab),("int","bool",ac),("int","str",ac),("int","tuple",ac),("int","list",ac),("bool","bool",ab),("bool","int",ab),("bool","str",ac),("bool","list",ac),("bool","tuple",ac),("str","str",ab),("str","int",ac),("str","tuple",ac),("str","list",ac),("str","bool",ac),("tuple","tuple",ab),("tuple","list",ac),("tuple","str",ac),("tuple","int",ac),("tuple","bool",ac),("list","list",ab),("list","tuple",ac),("list","str",ac),("list","int",ac),("list","bool",ac),("NoneType","list",ac),("NoneType","tuple",ac),("NoneType","int",ac),("NoneType","str",ac),("NoneType","bool",ac),("dict","dict",ab),("dict","list",ac)]
def zG(n T:String):Option Bool:=(GK.find? λp=>p.1==n&&p.2.1==T).map λp=>p.2.2
def GN(K:Ac):↑(String×String×Bool)->Prop
 | []=>True
 | p::l=>Kf K (.type p.1) (.type p.2.1)=aa p.2.2/\GN K l
theorem GO{K:Ac}:∀{l:↑(String×String×Bool)},GN K l->∀p∈l,Kf K (.type p.1) (.type p.2.1)=aa p.2.2
 | _::_,h,_,m=>by
  cases m with
  | head=>exact h.1
  | tail _ m=>exact GO h.2 _ m
theorem YS(K:Ac):∀p∈GK,Kf K (.type p.1) (.type p.2.1)=aa p.2.2:=by
 refine GO ?_
 repeat refine⟨by kernel_rfl,?_⟩
 trivial
theorem YT(K:Ac){b:Bool}(h:zG n T=aa b):Kf K (.type n) (.type T)=aa b:=by
 let⟨p,N,e⟩:=Az.mp h;have O:=List.find?_some N;have L:=YS K p (List.mem_of_find?_eq_some N);rw[Dg,beq_iff_eq,beq_iff_eq]at O;rw[<-O.1,<-O.2,L,e]
def rT:↑W->Mm->K3->Prop
 | [w,.ty T],M,R=>∃n b,GJ M w n/\zG n T=aa b/\R (.bl b) M
 | _,_,_=>False
theorem GP:cN X (.builtin "isinstance") (eR X.K rT):=by
 rintro B s C H xs us Q I rs ⟨ws,M,R,Y,E,h,k⟩
 match ws,h with
 | [w,.ty T],h=>
  let⟨v,u,rfl,av,c⟩:=E.two;cases c;let⟨n,b,hn,F,r⟩:=h;have ty:iK X.K H v (.type n):=by
   cases w<;>first|exact Bq hn|skip
   case non=>rw[show n=_ from hn,show v=_ from av.inv];exact .non
   case bl b=>rw[show n=_ from hn,show v=_ from av.inv];exact .bl b
   case int i=>rw[show n=_ from hn,show v=_ from av.inv];exact .int i
   case str x=>rw[show n=_ from hn,show v=_ from av.inv];exact .str x
   case tup=>let⟨a,xs,t,e,q⟩:=av.inv;rw[show n=_ from hn,t];exact .tup e
   case rl=>let⟨a,xs,t,e,_,q⟩:=av.inv;rw[show n=_ from hn,t];exact .lst e
   case dk=>let⟨a,xs,t,e,_,q⟩:=av.inv;rw[show n=_ from hn,t];exact .dK e
   case ref a=>
    rw[show v=_ from av.inv];rcases hn with⟨e,ws,h⟩|⟨e,h⟩
    .subst e;let⟨vs,f,_⟩:=Y.lst h;exact .lst f
    .subst e;rcases h with⟨kvs,h⟩|⟨kvs,h⟩
     .let⟨ks,f,_⟩:=Y _ _ h;exact .dK f
     .let⟨ks,f,_⟩:=Y _ _ h;exact .dT f
  exact VN B s C H _ us Q I rs ⟨v,T,_,b,rfl,ty,YT X.K F,k.at Y (.bl b) r⟩
def GQ:W->↑W->Mm->K3->Prop
 | .str z,[],M,R=>↥z<=5592405/\R (.str (Qq z)) M
 | _,_,_,_=>False
theorem m_upper:fJ X "str.upper" (kA X.K GQ):=by
 rintro B s C H x xs v us Q I d rs ⟨n,ws,M,R,Y,S,E,h,k⟩
 match n,ws,h with
 | .str z,[],h=>
  cases S;cases E;exact VL B s C H _ _ v us Q I d rs ⟨z,rfl,rfl,h.1,k.at Y (.str _) h.2⟩
def GR:W->↑W->Mm->K3->Prop
 | .str z,[.str y],M,R=>(↥y==0)=ac/\↥z<=Ax/\R (.tup [.str (Cz z y).1,.str (Cz z y).2.1,.str (Cz z y).2.2]) M
 | _,_,_,_=>False
theorem m_partition:fJ X "str.partition" (kA X.K GR):=by
 rintro B s C H x xs v us Q I d rs ⟨n,ws,M,R,Y,S,E,h,k⟩
 match n,ws,h with
 | .str z,[.str y],h=>
  let⟨u,rfl,c⟩:=E.one;cases S;cases c;exact VM B s C H _ _ v us Q I d rs ⟨z,y,rfl,rfl,h.1,h.2.1,λp N=>laidT Y k N (.cons (.str _) (.cons (.str _) (.cons (.str _) .nil))) h.2.2⟩
end
section
variable {X:Cx}{a b:Cg}{ta tb:aS}{pos:Hu}{es:↑Cg}{t:dG}
theorem YU{K:Ac}{H:Hp}{M:Mm}{R:K3}{Q:VK}{p:An}{xs:↑V}{ws:↑W}(Y:AM K H M)(k:Up K H M R Q)(N:H p=ae)(S:aK K H M xs ws)(r:R (.rl ws) M):Q (.ref p) (aL H p (.lst xs)):=by
 let⟨P,B⟩:=Y.tup (u:=.lst xs) N;exact k _ _ _ _ B P (.rl bY (Y.nonM N) (S.newT N)) r
abbrev dN(t:dG):aS:=λU M R=>t U M λws I=>sz ws (R (.rl ws) I)
theorem zH(h:A3 X es t):E3 X (.List es pos) (dN t):=
 (C5 h).weak λC H Q Z=>Z.el λU M R J Y h k=>⟨U,M,_,J,Y,h,λxs z ws I s j E r=>⟨by rw[↥E];exact r.el.1,λp N=>YU j (k.kp s) N E r.el.2⟩⟩
theorem GS{f:Ae->Ae->Sg Ae}(h:bF X f (cV X.K r))(k:∀x y M R,U x y M R->r x y M λw V=>frz w V R):bF X f (cV X.K U):=λB s C H x y v u Q I d P ⟨n,l,M,R,Y,S,E,h',kk⟩=>
 h B s C H x y v u Q I d P ⟨n,l,M,_,Y,S,E,k _ _ _ _ h',kk.frz⟩
theorem GU{r U:↑W->Mm->K3->Prop}(h:cN X f (eR X.K r))(k:∀x M R,U x M R->r x M λw V=>frz w V R):cN X f (eR X.K U):=λB s C H xs us Q I rs ⟨ws,M,R,Y,S,h',kk⟩=>
 h B s C H xs us Q I rs ⟨ws,M,_,Y,S,k _ _ _ h',kk.frz⟩
abbrev cE:R3
 | .int i,.int j,M,R=>R (.int (i+j)) M
 | .tup xs,.tup G,M,R=>xs≠[]/\↥xs+↥G<=Ax/\R (.tup (xs++G)) M
 | .ref a,.ref b,M,R=>∃xs G,M a=aa (.lst xs)/\M b=aa (.lst G)/\↥xs+↥G<=Ax/\R (.rl (xs++G)) M
 | .rl xs,.ref b,M,R=>∃G,M b=aa (.lst G)/\↥xs+↥G<=Ax/\R (.rl (xs++G)) M
 | .ref a,.rl G,M,R=>∃xs,M a=aa (.lst xs)/\↥xs+↥G<=Ax/\R (.rl (xs++G)) M
 | .rl xs,.rl G,M,R=>↥xs+↥G<=Ax/\R (.rl (xs++G)) M
 | _,_,_,_=>False
theorem uZ:bF X (Eh .Add) (cV X.K cE):=GS FH λx y M R h=>by
 cases x<;>first|exact Bq h|(cases y<;>first|exact Bq h|skip)
 case int.int i j=>exact h
 case tup.tup i j=>exact h
 case ref.ref i j=>let⟨xs,G,O,L,h3,r⟩:=h;exact⟨xs,G,O,L,h3,aR.frz r⟩
 case rl.ref i j=>let⟨G,L,h3,r⟩:=h;exact⟨G,L,h3,aR.frz r⟩
 case ref.rl i j=>let⟨G,L,h3,r⟩:=h;exact⟨G,L,h3,aR.frz r⟩
 case rl.rl i j=>exact⟨h.1,aR.frz h.2⟩
abbrev jV:R3
 | .int i,.int j,M,R=>(pH i j\/tX i j)/\R (.int (i*j)) M
 | .ref a,.int n,M,R=>∃xs,M a=aa (.lst xs)/\-(2 ^ 63)<=n/\n<2 ^ 63/\↥xs*n.toNat<=Ax/\R (.rl (Bz n.toNat xs).flatten) M
 | .rl xs,.int n,M,R=>-(2 ^ 63)<=n/\n<2 ^ 63/\↥xs*n.toNat<=Ax/\R (.rl (Bz n.toNat xs).flatten) M
 | _,_,_,_=>False
theorem YV:bF X (Eh .Mult) (cV X.K jV):=GS XE λx y M R h=>by
 cases x<;>first|exact Bq h|(cases y<;>first|exact Bq h|skip)
 case int.int i j=>exact h
 case ref.int i j=>let⟨xs,O,L,h3,D,r⟩:=h;exact⟨xs,O,L,h3,D,aR.frz r⟩
 case rl.int i j=>let⟨L,h3,D,r⟩:=h;exact⟨L,h3,D,aR.frz r⟩
abbrev GV:↑W->Mm->K3->Prop
 | [.tup ws],M,R=>R (.rl ws) M
 | [.rl ws],M,R=>R (.rl ws) M
 | [.sc ws],M,R=>R (.rl ws) M
 | [.dk kvs],M,R=>R (.rl (kvs.map λg=>wK g.1)) M
 | [.ref a],M,R=>(∃ws,M a=aa (.lst ws)/\R (.rl ws) M)\/∃kvs,M a=aa (.dK kvs)/\R (.rl (kvs.map λg=>wK g.1)) M
 | _,_,_=>False
theorem YW(hc:X.calm=ab):cN X (.type "list") (eR X.K GV):=GU (GA hc) λx M R h=>by
 match x,h with
 | [.tup ws],h=>exact aR.frz h
 | [.rl ws],h=>exact aR.frz h
 | [.sc ws],h=>exact aR.frz h
 | [.dk kvs],h=>exact aR.frz h
 | [.ref a],h=>
  rcases h with⟨ws,e,r⟩|⟨kvs,e,r⟩
  .exact .inl ⟨ws,e,aR.frz r⟩
  .exact .inr ⟨kvs,e,aR.frz r⟩
abbrev GW:W->Option Int->Option Int->Mm->K3->Prop
 | .rl ws,lo,hi,M,R=>R (.rl (dH ws lo hi)) M
 | .sc ws,lo,hi,M,R=>R (.rl (dH ws lo hi)) M
 | .ref a,lo,hi,M,R=>∃ws,M a=aa (.lst ws)/\R (.rl (dH ws lo hi)) M
 | .tup ws,lo,hi,M,R=>¬(HT.sIx ↥ws 0 lo=0/\HT.sIx ↥ws ↥ws hi=↥ws)/\R (.tup (dH ws lo hi)) M
 | _,_,_,_,_=>False
theorem YX(h:GW x l u M R):FZ x l u M λw V=>frz w V R:=by
 cases x<;>first|exact Bq h|skip
 case tup ws=>exact h
 case rl ws=>exact aR.frz h
 case sc ws=>exact aR.frz h
 case ref a=>let⟨ws,e,r⟩:=h;exact⟨ws,e,aR.frz r⟩
abbrev k9(ta:aS)(tl c:pT):aS:=λU M R=>ta U M λx I=>tl U I λl d=>c U d λu H=>GW x l u H R
theorem YY{lo hi:Option Cg}{tl c:pT}{b:Hu}(d:E3 X a ta)(hl:PO X lo (pU X.K tl))(W:PO X hi (pU X.K c)):E3 X (.Subscript a (.Slice lo hi ae b) pos) (k9 ta tl c):=
 (S9 XS d hl W).weak λC H Q Z=>Z.el λU M R J Y h k=>⟨U,M,_,J,Y,h,λx z n I s j S O=>⟨U,I,_,J.kp Y s,j,O,λl E f B P L=>⟨U,f,_,(J.kp Y s).kp j B,P,L,λu w v N g h3=>
  ⟨n,v,_,g,(S.kp j B).kp P N,YX h3,(((k.kp s).kp B).kp N).frz⟩⟩⟩⟩
variable {sc:Kl}{N':↑Ay}{js:↑(Option Nat)}{tg iter elt:Cg}{ifs:↑Cg}{wi:gZ}{g:eS}{tt:dE}{te:aS}
theorem zJ{i:Nat}{x:Ay}{V r:Hu}(t:X.N.Nodup)(N':↑Ay)(js:↑(Option Nat))(hi:PI X tg iter (gB X.K wi))(L:∀B,PG (dR X sc N' B) tg (iT X.K g))(ht:∀B,iM (dR X sc N' B) ifs (kS X.K tt))(d:∀B,PE (dR X sc N' B) elt (up X.K te))(a:X.N[i]? = aa x:=by rfl)(J:Loc X.env.scope x:=by first|exact .inl rfl|exact .inr rfl)(w:oF N' sc X.env.scope=ab:=by kernel_rfl)(hj:fL N' X.N sc js N'=ab:=by kernel_rfl)(hc:X.calm=ab:=by rfl)(b:Ls (.ListComp elt [⟨tg,iter,ifs,0⟩] sc pos) (aa (.Name x V)) r.line X.env=pure ab:=by rfl)(hf:Fy X x:=by first|exact .inl rfl|exact .inr rfl|assumption)(F:∀x,Hz iter X.env x=pure x:=by intro _;rfl):P3 X (.Assign [.Name x V] (.ListComp elt [⟨tg,iter,ifs,0⟩] sc pos) r) (aN i (bE (c7 wi g tt te js))):=
 (D7 t a J N' js hi L ht d w hj hc b hf F).weak λD C H Z=>Z.el λU M Q n Y h k=>zF ⟨U,M,_,n,Y,h,Up.frz λy z l I s j E O=>k.nx _ _ _ _ s j ((n.kp Y s).set E i) O⟩
end
def Pl:Nat->W->Prop
 | _,.non=>True
 | _,.int _=>True
 | _,.str x=>Rx x=ab
 | n+1,.tup ws=>∀w∈ws,Pl n w
 | n+1,.rl ws=>∀w∈ws,Pl n w
 | _,_=>False
def cZ(M:Mm):W->W
 | .ref a=>match M a with
  | some (.lst ws)=>.rl ws
  | _=>.ref a
 | w=>w
section
variable {M:Mm}
theorem zK{n:Nat}(E:∀{w:W},Pl n w->∃d,Snap M w d/\d.canLay0=ab/\d.depth<=n):∀{ws:↑W},(∀w∈ws,Pl n w)->∃B,jC M ws B/\PyData.canLayAll0 B=ab/\Qh B<=n
 | [],_=>⟨[],.nil,rfl,by simp[Qh]⟩
 | w::ws,h=>by
  let⟨d,s,c,e⟩:=E (h w Bl);let⟨B,ss,a,b⟩:=zK E λz hz=>h z (Bj _ hz);exact⟨d::B,.cons s ss,by simp[PyData.canLayAll0,c,a],by simp only[Qh];lia⟩
theorem YZ:∀{n:Nat} {w:W},Pl n w->∃d,Snap M w d/\d.canLay0=ab/\d.depth<=n:=by
 intro n
 induction n with
 | zero=>
  intro w h;cases w<;>first|exact Bq h|skip
  case non=>exact⟨_,.non,rfl,by simp[Jd]⟩
  case int i=>exact⟨_,.int i,rfl,by simp[Jd]⟩
  case str x=>exact⟨_,.str x,h,by simp[Jd]⟩
 | succ n E=>
  intro w h;cases w<;>first|exact Bq h|skip
  case non=>exact⟨_,.non,rfl,by simp[Jd]⟩
  case int i=>exact⟨_,.int i,rfl,by simp[Jd]⟩
  case str x=>exact⟨_,.str x,h,by simp[Jd]⟩
  case tup ws=>
   let⟨B,s,c,e⟩:=zK E h;exact⟨_,.tup s,by simpa [PyData.canLay0] using c,by simp only[Jd];lia⟩
  case rl ws=>
   let⟨B,s,c,e⟩:=zK E h;exact⟨_,.rl s,by simpa [PyData.canLay0] using c,by simp only[Jd];lia⟩
theorem GX{n:Nat}(h:Pl n (cZ M w)):∃d,Snap M w d/\Snap M (cZ M w) d/\d.canLay0=ab/\d.depth<=n:=by
 let⟨d,s,c,e⟩:=YZ (M:=M) h;refine⟨d,?_,s,c,e⟩;cases w<;>first|exact s|skip
 case ref a=>
  cases q:M a with
  | none=>
   have e:cZ M (.ref a)=.ref a:=by simp[cZ,q]
   rw[e]at s;exact s
  | some o=>
   cases o with
   | lst ws=>
    have e:cZ M (.ref a)=.rl ws:=by simp[cZ,q]
    rw[e]at s;cases s with
    | rl r=>exact .ref q r
   | dK _=>
    have e:cZ M (.ref a)=.ref a:=by simp[cZ,q]
    rw[e]at s;exact s
   | dT _=>
    have e:cZ M (.ref a)=.ref a:=by simp[cZ,q]
    rw[e]at s;exact s
   | fix _=>
    have e:cZ M (.ref a)=.ref a:=by simp[cZ,q]
    rw[e]at s;exact s
   | ins _ _ _=>
    have e:cZ M (.ref a)=.ref a:=by simp[cZ,q]
    rw[e]at s;exact s
   | dn _ _ _ _=>
    have e:cZ M (.ref a)=.ref a:=by simp[cZ,q]
    rw[e]at s;exact s
   | vw _=>
    have e:cZ M (.ref a)=.ref a:=by simp[cZ,q]
    rw[e]at s;exact s
   | dh _ _ _ _ _=>
    have e:cZ M (.ref a)=.ref a:=by simp[cZ,q]
    rw[e]at s;exact s
theorem GY{n:Nat}(E:∀{x y:W} {dx a:Nh},Pl n x->Pl n y->Snap M x dx->Snap M y a->(Lz dx a=ab↔x=y)):∀{xs G:↑W} {dx a:↑Nh},(∀w∈xs,Pl n w)->(∀w∈G,Pl n w)->jC M xs dx->jC M G a->(Ot dx a=ab↔xs=G):=by
 intro xs
 induction xs with
 | nil=>
  intro G dx a J f g C;cases g;cases C<;>simp[Ot]
 | cons x xs b=>
  intro G dx a J f g C;cases g with
  | cons g N=>
   cases C with
   | nil=>simp[Ot]
   | cons C Y=>
    rw[Ot,Dg,E (J x Bl) (f _ Bl) g C,b (λz hz=>J z (Bj _ hz)) (λz hz=>f z (Bj _ hz)) N Y];simp
theorem Y0:∀{n:Nat} {x y:W} {dx a:Nh},Pl n x->Pl n y->Snap M x dx->Snap M y a->(Lz dx a=ab↔x=y):=by
 intro n
 induction n with
 | zero=>
  intro x y dx a J f c b;cases c<;>first|exact Bq J|skip
  all_goals cases b<;>first|exact Bq f|simp[Lz]
 | succ n E=>
  intro x y dx a J f c b;cases c<;>first|exact Bq J|skip
  all_goals cases b<;>first|exact Bq f|skip
  all_goals first|(simp[Lz];done)|skip
  case tup.tup r1 _ _ r2=>rw[Lz,GY E J f r1 r2];simp
  case rl.rl r1 _ _ r2=>rw[Lz,GY E J f r1 r2];simp
theorem Y1{neg:Bool}(n:Nat)(hn:n<=60)(J:Pl n (cZ M x))(f:Pl n (cZ M y))(h:∀b:Bool,(b=ab↔cZ M x=cZ M y)->R (.bl (if neg then !b else b)) M):nD neg x y M R:=by
 let⟨dx,g,d,m,D⟩:=GX J;let⟨a,C,c,S,A⟩:=GX f;unfold nD;exact⟨dx,a,g,C,⟨m,by lia⟩,⟨S,by lia⟩,h _ (Y0 J f d c)⟩
theorem nH{neg:Bool}(n:Nat)(hn:n<=60)(J:Pl n (cZ M x))(f:Pl n (cZ M y))(h:∀b:Bool,(b=ab↔cZ M x=cZ M y)->R (.bl (if neg then !b else b)) M):eD neg x y M R:=by
 have d:=Y1 n hn J f h;cases x<;>first|exact d|skip
 case int i=>
  cases y<;>first|exact d|skip
  case int j=>exact h (decide (i=j)) (by simp[cZ])
 case str i=>
  cases y<;>first|exact d|skip
  case str j=>exact h (decide (i=j)) (by simp[cZ])
 case bl i=>
  cases y<;>first|exact d|skip
  case bl j=>exact(show False by cases n<;>exact J).elim
end
theorem Y2{neg:Bool}(n:Nat)(hn:n<=60)(J:Pl n (cZ M x))(e:cZ M y=cZ M x)(h:R (.bl (!neg)) M):eD neg x y M R:=by
 refine nH n hn J (by rw[e];exact J) λb G=>?_;have:b=ab:=G.mpr e.symm;subst this;cases neg<;>exact h
theorem u3{keep:Mm->Prop}(St:S3->Prop)(h:W->S3)(e:W->Option W->Prop)(hl:↥ws<=Ax)(hk:∀M,Sub I M->keep M)(G:St c)(ht:∀w∈ws,St (h w))(T:∀w∈ws,∀U M (C:S3->Mm->Prop),St U->C (h w) M->g w U M C)(F:∀w∈ws,∀M (C:K3) (D:Mm->Prop),Sub I M->(∀y,e w (aa y)->C y M)->(e w ae->D M)->k (h w) M λb H=>if b=ab then m (h w) H C else D H)(r:∀os,Ey e ws os->aR (os.filterMap id) I R):gN ws keep g k m c I R:=by
 unfold gN;intro p N;refine⟨λi U acc M=>St U/\(∃os,Ey e (ws.take i) os/\acc=os.filterMap id)/\M=I,⟨G,⟨[],by simp;exact .nil,rfl⟩,rfl⟩,?_,?_,?_⟩
 .rintro vs i U acc M _ d ⟨_,_,rfl⟩;exact hk _ (Sub.new N)
 .rintro vs i w U acc M hw d ⟨st,⟨os,po,rfl⟩,rfl⟩;have P:w∈ws:=Ao hw;have hi:i<↥ws:=(Am.mp hw).1;have j:ws.take (i+1)=ws.take i++[w]:=by rw[Cb,hw];rfl
  have snoc:∀o,e w o->Ey e (ws.take (i+1)) (os++[o]):=λo x=>by
   rw[j];clear hw d st j
   revert os
   generalize ws.take i=l;intro os po
   induction po with
   | nil=>exact .cons x .nil
   | cons a b E=>exact .cons a E
  have Y:↥(os.filterMap id)<Ax:=by
   have O:=List.length_filterMap_le id os;have L:=Cw po;rw[Ck]at L;lia
  refine T w P U _ _ st (F w P _ _ _ (Sub.new N) (λy f=>⟨aJ,Y,M,?_,ht w P,⟨_,snoc _ f,?_⟩,rfl⟩) λhn=>⟨aJ,M,?_,ht w P,⟨_,snoc _ hn,?_⟩,rfl⟩)
  .rw[jQ N];exact aP
  .simp
  .rw[jQ N];exact aP
  .simp
 .rintro U acc M d ⟨_,⟨os,po,rfl⟩,rfl⟩;rw[Bp]at po;exact r os po p N
def zL(rest:S3):S3->Prop:=λU=>∃o,U=o::rest
theorem nJ{keep:Mm->Prop}(f:W->W)(hl:↥ws<=Ax)(hk:∀M,Sub I M->keep M)(F:∀w∈ws,∀M (C:K3),Sub I M->C (f w) M->m (aa w::rest) M C)(r:aR (ws.map f) I R):gN ws keep (aV 0) eU m (o::rest) I R:=by
 refine u3 (zL rest) (λw=>aa w::rest) (λw o=>o=aa (f w)) hl hk ⟨_,rfl⟩ (λw _=>⟨_,rfl⟩) ?_ ?_ ?_
 .rintro w _ U M C ⟨o,rfl⟩ h;exact h
 .intro w hw M C D sb O _;show(if ab=ab then m (aa w::rest) M C else D M);rw[Vg rfl];exact F w hw M C sb (O _ rfl)
 .intro os po;have:os.filterMap id=ws.map f:=by
   clear r F hl hk
   induction po with
   | nil=>rfl
   | cons a b E=>subst a;simp[E]
  rw[this];exact r
theorem rV{keep:Mm->Prop}(f:W->Option W)(hl:↥ws<=Ax)(hk:∀M,Sub I M->keep M)(F:∀w∈ws,∀M (C:K3) (D:Mm->Prop),Sub I M->(∀y,f w=aa y->C y M)->(f w=ae->D M)->k (aa w::rest) M λb H=>if b=ab then m (aa w::rest) H C else D H)(r:aR (ws.filterMap f) I R):gN ws keep (aV 0) k m (o::rest) I R:=by
 refine u3 (zL rest) (λw=>aa w::rest) (λw o=>o=f w) hl hk ⟨_,rfl⟩ (λw _=>⟨_,rfl⟩) ?_ ?_ ?_
 .rintro w _ U M C ⟨o,rfl⟩ h;exact h
 .intro w hw M C D sb O L;exact F w hw M C D sb (λy e=>O y e.symm) λe=>L e.symm
 .intro os po;have:os.filterMap id=ws.filterMap f:=by
   clear r F hl hk
   induction po with
   | nil=>rfl
   | @cons a b c d e _ E=>
    subst e;cases q:f a<;>simp[q,E]
  rw[this];exact r
theorem rW{keep:Mm->Prop}(P:W->W->Prop)(hl:↥ws<=Ax)(hk:∀M,Sub I M->keep M)(F:∀w∈ws,∀M (C:K3),Sub I M->(∀y,P w y->C y M)->m (aa w::rest) M C)(r:∀G,Ey P ws G->aR G I R):gN ws keep (aV 0) eU m (o::rest) I R:=by
 refine u3 (zL rest) (λw=>aa w::rest) (λw o=>∃y,o=aa y/\P w y) hl hk ⟨_,rfl⟩ (λw _=>⟨_,rfl⟩) ?_ ?_ ?_
 .rintro w _ U M C ⟨o,rfl⟩ h;exact h
 .intro w hw M C D sb O _;show(if ab=ab then m (aa w::rest) M C else D M);rw[Vg rfl];exact F w hw M C sb λy d=>O y ⟨y,rfl,d⟩
 .intro os po;have:∃G,os=G.map aa/\Ey P ws G:=by
   clear r F hl hk
   induction po with
   | nil=>exact⟨[],rfl,.nil⟩
   | cons a b E=>
    let⟨y,rfl,d⟩:=a;let⟨G,rfl,h⟩:=E;exact⟨y::G,rfl,.cons d h⟩
  let⟨G,rfl,d⟩:=this;rw[Ke];have:(G.filterMap (id ∘ aa))=G:=by simp
  rw[this];exact r G d
theorem Paired.all{P:W->W->Prop}{Q:W->Prop}(h:Ey P xs G)(k:∀x y,P x y->Q y):∀y∈G,Q y:=by
 induction h with
 | nil=>intro y f;cases f
 | cons a b E=>
  intro y f;rcases Au.mp f with rfl|f
  .exact k _ _ a
  .exact E y f
def Y3(rest:S3):S3->Prop:=λU=>∃c n,U=c::n::rest
def Y4(rest:S3):W->S3
 | .tup [a,b]=>aa a::aa b::rest
 | _=>ae::ae::rest
abbrev zM:eS:=fV 2 (cI (aV 0) (cI (aV 1) fU))
theorem zN{keep:Mm->Prop}(P:W->Option W->Prop)(hw:∀w∈ws,∃a b,w=.tup [a,b])(hl:↥ws<=Ax)(hk:∀M,Sub I M->keep M)(F:∀a b,.tup [a,b]∈ws->∀M (C:K3) (D:Mm->Prop),Sub I M->(∀y,P (.tup [a,b]) (aa y)->C y M)->(P (.tup [a,b]) ae->D M)->k (aa a::aa b::rest) M λd H=>if d=ab then m (aa a::aa b::rest) H C else D H)(r:∀os,Ey P ws os->aR (os.filterMap id) I R):gN ws keep zM k m (c::n::rest) I R:=by
 refine u3 (Y3 rest) (Y4 rest) P hl hk ⟨_,_,rfl⟩ (λw S=>?_) ?_ ?_ r
 .let⟨a,b,rfl⟩:=hw w S;exact⟨_,_,rfl⟩
 .rintro w S U M C ⟨G,J,rfl⟩ h;let⟨a,b,rfl⟩:=hw w S;exact⟨rfl,rfl,h⟩
 .intro w S M C D sb O L;let⟨a,b,rfl⟩:=hw w S;exact F a b S M C D sb O L
theorem Y5{keep:Mm->Prop}(P:W->W->Prop)(hw:∀w∈ws,∃a b,w=.tup [a,b])(hl:↥ws<=Ax)(hk:∀M,Sub I M->keep M)(F:∀a b,.tup [a,b]∈ws->∀M (C:K3),Sub I M->(∀y,P (.tup [a,b]) y->C y M)->m (aa a::aa b::rest) M C)(r:∀G,Ey P ws G->aR G I R):gN ws keep zM eU m (c::n::rest) I R:=by
 refine zN (λw o=>∃y,o=aa y/\P w y) hw hl hk (λa b S M C D sb O _=>?_) λos po=>?_
 .show(if ab=ab then m (aa a::aa b::rest) M C else D M);rw[Vg rfl];exact F a b S M C sb λy d=>O y ⟨y,rfl,d⟩
 .have:∃G,os=G.map aa/\Ey P ws G:=by
   clear r F hl hk hw
   induction po with
   | nil=>exact⟨[],rfl,.nil⟩
   | cons a b E=>
    let⟨y,rfl,d⟩:=a;let⟨G,rfl,h⟩:=E;exact⟨y::G,rfl,.cons d h⟩
  let⟨G,rfl,d⟩:=this;rw[Ke];have:(G.filterMap (id ∘ aa))=G:=by simp
  rw[this];exact r G d
structure Df(K:Ac)(mg:Ay->Option Ae)(x:Ay)(st:Jl)(ps:↑Ay)(f:An)(fd:Fc):Prop where
 fn:jO K x x st f fd
 at_:mg x=aa (.ref f)
 bi:Binds K fd ps []
theorem u5:Cr "len" = aa (.builtin "len"):=PySem.boot_len
theorem u6:Cr "list" = aa (.type "list"):=by decide +kernel
theorem GZ:Cr "tuple" = aa (.type "tuple"):=by decide +kernel
theorem G0:Cr "str" = aa (.type "str"):=by decide +kernel
theorem Y6:Cr "int" = aa (.type "int"):=by decide +kernel
theorem zP:Cr "dict" = aa (.type "dict"):=by decide +kernel
theorem G1:Cr "isinstance" = aa (.builtin "isinstance"):=by decide +kernel
theorem Y7:Cr "all" = aa (.builtin "all"):=by decide +kernel
theorem Y8:Cr "any" = aa (.builtin "any"):=by decide +kernel
theorem Y9:Cr "sum" = aa (.builtin "sum"):=by decide +kernel
theorem ZA:Cr "sorted" = aa (.builtin "sorted"):=by decide +kernel
theorem nK{q:Type}(x:q)(xs:↑q):bT (x::xs) 0=aa x:=by simp[bT,gX]
theorem u7{q:Type}{xs:↑q}{i:Int}(G:0<=i)(O:i<↥xs):∃x,bT xs i=aa x/\xs[i.toNat]? = aa x/\x∈xs:=by
 have a:i.toNat<↥xs:=by lia
 refine⟨xs[i.toNat],?_,Bn a,Qk a⟩;simp[bT,gX,G,O,a]
theorem G2{q:Type}{xs:↑q}{i n:Int}(hn:n=↥xs)(N:0<n):∃x,bT xs (i % n)=aa x/\x∈xs:=by
 have G:0<=i % n:=Fi _ (by lia);have O:i % n<n:=Ei _ N;let⟨x,e,_,m⟩:=u7 (xs:=xs) G (by lia);exact⟨x,e,m⟩
theorem zQ{ws:↑W}{lo hi:Option Int}{w:W}(h:w∈dH ws lo hi):w∈ws:=Ln (Ff h)
theorem u9{ws:↑W}{lo hi:Option Int}:↥(dH ws lo hi)<=↥ws:=by
 unfold dH;rw[Ck,Gf];exact Ar (Qs _ _) (Nat.sub_le _ _)
def oQ(ws:↑W):Prop:=∀w∈ws,∃i,w=W.int i
theorem ints_map(ns:↑Int):oQ (ns.map W.int):=λw h=>by
 let⟨i,_,e⟩:=Ap.mp h;exact⟨i,e.symm⟩
theorem oQ.cut(h:oQ ws)(lo hi:Option Int):oQ (dH ws lo hi):=λw m=>h w (zQ m)
theorem small{n:Nat}(h:n<=10000000):n<=Ax:=Ar h ∅
theorem cS{n:Nat}(h:n<10000000):n<Ax:=Bv h ∅
theorem zR{S:↑W}{i j:Int}(G:0<=i)(O:0<=j):↥(dH S (aa i) (aa j))<=(j-i).toNat:=by
 unfold dH HT.sIx;simp only[];rw[Vf (Ug.mpr G),Vf (Ug.mpr O),Ck];refine Ar (Lw _ _) (Nat.sub_le_of_le_add ?_);rw[<-Nat.add_min_add_left];refine Nat.le_min.mpr ⟨Ar (Lw _ _) ?_,Ar (Qs _ _) (Ri _ _)⟩;have:j<=(((j-i).toNat+i.toNat:Nat):Int):=by
  rw[Od,Int.toNat_of_nonneg G];have:=Int.self_le_toNat (j-i);have h:=Int.add_le_add_right this i;rwa [Int.sub_add_cancel]at h
 exact Int.toNat_le.mpr this
theorem G3{b:Bool}(hn:∀m,GJ M w m↔m=n)(F:zG n T=aa b):rT [w,.ty T] M R↔R (.bl b) M:=
 ⟨λZ=>by let⟨_,_,O,L,h3⟩:=Z;cases (hn _).mp O;cases F.symm.trans L;exact h3,λh=>⟨n,b,(hn n).mpr rfl,F,h⟩⟩
theorem ZC:rT [W.str x,.ty "str"] M R↔R (.bl ab) M:=G3 (λ_=>Rl) ∅
theorem ZD:rT [W.tup ws,.ty "str"] M R↔R (.bl ac) M:=G3 (λ_=>Rl) ∅
theorem rX{M:Mm}{a:An}{k:Ay}{v:W}{kvs:↑(aC×W)}{Q:Mm->Prop}(h:M a=aa (.dK kvs))(hl:↥kvs<Ax)(q:Q (put M a (.dK (bW kvs (Sum.inr k) v)))):rO (.ref a) (.str k) v M Q:=.inr (.inl ⟨kvs,.inr k,rfl,h,hl,q⟩)
theorem oR{M:Mm}{a:An}{k:↑aC}{v:W}{kvs:↑(↑aC×W)}{Q:Mm->Prop}(h:M a=aa (.dT kvs))(hl:↥kvs<Ax)(q:Q (put M a (.dT (bW kvs k v)))):rO (.ref a) (.tup (k.map wK)) v M Q:=.inr (.inr ⟨kvs,k,rfl,h,hl,q⟩)
theorem zS{M:Mm}{a:An}{k:Int}{v:W}{ws:↑W}{Q:Mm->Prop}(h:M a=aa (.lst ws))(G:0<=k)(O:k<↥ws)(q:Q (put M a (.lst (ws.set k.toNat v)))):rO (.ref a) (.int k) v M Q:=
 .inl ⟨ws,k,k.toNat,rfl,h,by unfold gX;rw[Vg G,Vg O],q⟩
section
variable {X:Cx}{a b c:Cg}{ta tb tc:aS}{pos:Hu}
abbrev vA:↑W->Mm->K3->Prop
 | [.ref a],M,R=>∃bs,M a=aa (.lst (bools bs))/\R (.bl (bs.any id)) M
 | [.rl ws],M,R=>∃bs,ws=bools bs/\R (.bl (bs.any id)) M
 | _,_,_=>False
theorem ZE(hc:X.calm=ab):cN X (.builtin "any") (eR X.K vA):=by
 rintro B s C H xs us Q I rs ⟨ws,M,R,Y,E,h,k⟩
 match ws,h with
 | [.ref a],h=>
  let⟨v,rfl,av⟩:=E.one;obtain rfl:=av.inv;let⟨bs,e,r⟩:=h;let⟨vs,f,q⟩:=Y.lst e;rw[q.bools]at f;exact tY ab hc B s C H _ us Q I rs ⟨a,bs,rfl,bL.of f,k.at Y (.bl _) r⟩
 | [.rl ws],h=>
  let⟨v,rfl,av⟩:=E.one;let⟨bs,rfl,r⟩:=h;cases av with
  | rl f _ q=>
   rw[q.bools]at f;exact tY ab hc B s C H _ us Q I rs ⟨_,bs,rfl,bL.of f,k.at Y (.bl _) r⟩
end
def gO:Nat->↑W->↑W
 | _,[]=>[]
 | n,w::r=>.tup [.int n,w]::gO (n+1) r
theorem mB:∀{ws:↑W} {n:Nat},↥(gO n ws)=↥ws
 | [],_=>rfl
 | _::r,n=>by simp[gO,mB (ws:=r)]
theorem rY:∀{ws:↑W} {n i:Nat},(gO n ws)[i]? = (ws[i]?).map λw=>W.tup [.int ((n+i:Nat):Int),w]
 | [],_,_=>by simp[gO]
 | w::r,n,0=>by simp[gO]
 | w::r,n,i+1=>by
  rw[gO,Ep,Ep,rY];congr 2;funext w;congr 4;lia
section
variable {X:Cx}{a b c:Cg}{ta tb tc:aS}{pos:Hu}
theorem G4{K:Ac}{g:Hp}{j:Mm}{p:An}{vs:↑V}{ws:↑W}{keep:Mm->Prop}(J:aK K g j vs ws)(v:AM K g j)(st:∀H M,Kp g j H M->AM K H M->keep M->bL K H p vs):iU K g j (yN K p vs) (gO 0 ws) keep:=by
 refine⟨λi H M k Y kp hi=>⟨st H M k Y kp,by rw[mB]at hi;rw[J.length];exact hi⟩,λH M k Y kp=>⟨st H M k Y kp,by rw[mB,J.length];exact Ai _⟩,λi H M x l k Y kp hi y=>?_⟩;let⟨n,u,U,hn,rfl,rfl⟩:=y;let⟨w,hw,av⟩:=(J.kp v k).getV U;let⟨P,B⟩:=Y.tup (u:=.tup [.int (i:Nat),u]) hn;refine⟨.tup [.int ((i:Nat):Int),w],by rw[rY,hw];simp,B,P,.tup bY (.cons (.int _) (.cons (av.go (go_same hn)) .nil))⟩
abbrev vB(ta:dG):gZ:=λU M R=>ta U M λws I=>match ws with
 | [.rl d]=>R (gO 0 d) (λ_=>True) I
 | [.sc d]=>R (gO 0 d) (λ_=>True) I
 | [.ref p]=>∃d,I p=aa (.lst d)/\False
 | _=>False
theorem ZF{t:dG}{p pos:Hu}{es:↑Cg}{kx:Nat}{V:Hu}(L:Gl X "enumerate")(P:X.mg "enumerate" = ae)(m:A3 X [a] t)(F:Cp [a] X.env=[(ac,Eu a X.env)]:=by rfl):PI X (.Tuple es kx V) (.Call (.Name "enumerate" p) [a] [] pos) (gB X.K (vB t)):=
 (V0 L P m F).weak λC H g Z=>Z.el λU M R J Y h k=>⟨U,M,_,J,Y,h,λvs z ws I s j S r=>by
  match ws,r with
  | [.rl d],r=>
   let⟨v,rfl,av⟩:=S.one;cases av with
   | rl e n q=>exact⟨_,_,rfl,bL.of e,k _ _ _ _ _ s j (G4 q j λH M k _ _=>bL.of (k.fr _ _ n e).1) r⟩
  | [.sc d],r=>
   let⟨v,rfl,av⟩:=S.one;cases av with
   | sc e q=>exact⟨_,_,rfl,e.sq,k _ _ _ _ _ s j (G4 q j λH M k _ _=>by
     refine lZ.sq ?_;rcases e with⟨o,e⟩|e
     .exact .inl ⟨o,(k.fr _ _ (j.noFrz e) e).1⟩
     .exact .inr e) r⟩
  | [.ref p],r=>let⟨_,_,f⟩:=r;exact f.elim⟩
end
section
variable {X:Cx}
theorem aK.intsL{K:Ac}{H:Hp}{M:Mm}{ns:↑Int}{vs:↑V}(h:aK K H M vs (ns.map W.int)):vs=ns.map V.int:=h.ints
def vD:↑W->Mm->K3->Prop
 | [.rl ws],M,R=>∃ns:↑Int,ws=ns.map W.int/\R (.int ns.sum) M
 | _,_,_=>False
theorem ZG(hc:X.calm=ab):cN X (.builtin "sum") (eR X.K vD):=by
 rintro B s C H xs us Q I rs ⟨ws,M,R,Y,E,h,k⟩
 match ws,h with
 | [.rl ws],h=>
  let⟨v,rfl,av⟩:=E.one;let⟨ns,rfl,r⟩:=h;cases av with
  | rl f _ q=>
   rw[q.intsL]at f;exact WK hc B s C H _ us Q I rs ⟨_,ns,rfl,bL.of f,k.at Y (.int _) r⟩
def ZH:↑W->Mm->K3->Prop
 | [.dk kvs],M,R=>∃ks:↑Ay,kvs.map Eb=ks.map Sum.inr/\↥ks<64/\∀ss:↑Ay,ss.Perm ks->aR (ss.map W.str) M R
 | _,_,_=>False
def G5:↑W->Mm->K3->Prop
 | [.dk kvs],M,R=>∃ks:↑Ay,kvs.map Eb=ks.map Sum.inr/\↥ks<64/\∀ss:↑Ay,ss.Perm ks->R (.rl (ss.map W.str)) M
 | _,_,_=>False
theorem ZI{K:Ac}{H:Hp}{M:Mm}(ss:↑Ay):aK K H M (ss.map V.str) (ss.map W.str):=by
 induction ss with
 | nil=>exact .nil
 | cons s r E=>exact .cons (.str s) E
theorem ZJ(hc:X.calm=ab):cN X (.builtin "sorted") (eR X.K ZH):=by
 rintro B s C H xs us Q I rs ⟨ws,M,R,Y,E,h,k⟩
 match ws,h with
 | [.dk kvs],h=>
  let⟨v,rfl,av⟩:=E.one;let⟨ks,hk,a,r⟩:=h;cases av with
  | dk e n j q=>exact WJ hc B s C H _ us Q I rs ⟨_,_,ks,rfl,e,j.trans hk,a,λss N p b=>gY Y k b (ZI ss) (r ss N)⟩
theorem ZK(hc:X.calm=ab):cN X (.builtin "sorted") (eR X.K G5):=GU (ZJ hc) λx M R h=>by
 match x,h with
 | [.dk kvs],⟨ks,O,L,r⟩=>exact⟨ks,O,L,λss N=>aR.frz (r ss N)⟩
end
end L2
namespace PySem
namespace Dp
open L2
section
variable {prog:Bc}{w:Bo}{A:Cs}{E:Ae->Aj->Prop}{s:Aj}
theorem ZL:Oo (.type "list") "keys" = pure ae:=by rw[Jb,Gy];kernel_rfl
theorem keys_miss{k:Nat}{Q:Option Ae->Aj->Prop}(hx:s.heap.get? a=aa {cls:=.type "list",data:=.seq xs k})(hA:A.handled=ae)(h:∀h' tk,(∀b o,s.heap.get? b=aa o->h'.get? b=aa o)->Q ae {s with heap:=h',toks:=tk}):Bk (Dj prog w) A (Uj (.ref a) (Bs "keys")) Q E s:=by
 let⟨hp,g,d,tk,os⟩:=s;have hT:∀tk',(⟨hp,g,d,tk',os⟩:Aj).TypeIs (.ref a) "list":=λ_=>⟨_,hx,rfl⟩
 have f1:=sub_AttributeError;have f3:=F.slot_list_getattribute.lookup;have f4:=F.slot_list_getattribute.bind (.ref a);have f5:=am_list_getattr_none;unfold Uj getAttrBy? getAttrBy
 repeat (any_goals (first|assumption|exact hT _|((with_reducible show Bk _ _ (call (Value.builtin "list.__getattribute__") _ _) _ _ _);refine Kx F.slot_list_getattribute (hT _) am_entry_list_getattribute (F.args_list_getattribute_2 _ _) (meets_getattribute_miss_list a xs k #[] (Bs "keys") _ ZL (by decide +kernel) (by decide +kernel)) ⟨hx,hA,λh' tk' e hx'=>?_⟩)|wp_step))
 let⟨t',u',he⟩:=hx'.there;have hx2:=hx'.of.keeps;show Bk _ _ (Nd _ _ _ _ _ _ _) _ _ _;unfold Nd
 repeat (any_goals (first|assumption|wp_step))
 exact h _ _ hx2
theorem entry_loop:Uk table "dict.update.loop" = aa Ha.«dict.update.loop»:=entryFor_of_tree (by kernel_rfl)
theorem plain_loop:plainId "dict.update.loop" = ab:=by decide +kernel
variable {K:Type}[DecidableEq K]{knd:KeyKind prog w K}
theorem ZM(kvs:↑(K×Ae))(k:K)(v:Ae):↥(Ts kvs k v)<=↥kvs+1:=by
 unfold Ts;split
 .rw[Ab];lia
 .rw[Ak,Dl];exact Ai _
def all(kvs:↑(K×Ae))(ps:↑(K×Ae)):↑(K×Ae):=ps.foldl (λkvs p=>Ts kvs p.1 p.2) kvs
theorem ZN{Dd:Nat->Ds->Prop}{R:Ua->Aj->Prop}(hh:A.handled=ae)(hdI:d≠I)(hdl:d≠l)(hlI:l≠I)(fr:∀{i h h'},Dd i h->(∀b o,b≠I->h.get? b=aa o->h'.get? b=aa o)->Dd i h')(st:∀{i:Nat} {t:Aj},i<items.size->Dd i t.heap->∃(a:An) (key v:Ae),items[i]? = aa (.ref a)/\t.heap.IsTuple a #[key,v]/\∀{E:Ae->Aj->Prop} {Q:Unit->Aj->Prop},(∀h2 tk,Dd (i+1) h2->Ek d t.heap h2->Q () {t with heap:=h2,toks:=tk})->Bk (Dj prog w) A.in1 (Uy d key v) Q E t):
  ∀(k i:Nat) (s:Aj),items.size-i=k->i<=items.size->s.heap.IsListIter I l i->s.heap.IsList l items->Dd i s.heap->
  (∀h' tk,(∀b o,b≠d->b≠I->s.heap.get? b=aa o->h'.get? b=aa o)->Dd items.size h'->R (.ok (.ret .none)) {s with heap:=h',toks:=tk})->
  Mr (Dj prog w) A (.builtin "dict.update.loop" ⟨[.ref d,.ref I,He (i:Int),.none],[]⟩) R s:=by
 intro k
 induction k with
 | zero=>
  intro i s hk hi hit mS hd hR;have hin:i=items.size:=by lia
  refine Ko entry_loop ?_;rw[Hn plain_loop _];show Bk _ A.in1 (Hi (.ref I)>>=_) _ _ s;have W:=Rh (prog:=prog) (w:=w) (A:=A.in1) hh I l hlI items;refine Aa (W.done s _ _ (by rw[<-hin];exact⟨hit,mS⟩) λh' tk hm=>?_);show Bk _ A.in1 (Builtin.Dict.addKeywords d []>>=_) _ _ _;rw[hin]at hd;exact Aa (Ag (Ag (hR h' tk (λb o _ hb e=>hm b o (by simp[hb]) e) (fr hd λb o hb e=>hm b o (by simp[hb]) e))))
 | succ k ih=>
  intro i s hk hi hit mS hd hR;have hlt:i<items.size:=by lia
  refine Ko entry_loop ?_;rw[Hn plain_loop _];show Bk _ A.in1 (Hi (.ref I)>>=_) _ _ s;have W:=Rh (prog:=prog) (w:=w) (A:=A.in1) hh I l hlI items;refine Aa (W.item i s _ _ hlt ⟨hit,mS⟩ λv h' tk hv hst hm=>?_);obtain⟨a,key,u,ha,⟨o,ho,hc,n,hd2⟩,go⟩:=st (t:={s with heap:=h',toks:=tk}) hlt (fr hd λb o hb e=>hm b o (by simp[hb]) e);rw[ha]at hv;cases hv;show Bk _ A.in1 (Ji [Value.ref a] _>>=_) _ _ _;refine Aa (Dn (Aa (wpAny_tryCatch ?_)));unfold Builtin.Dict.pairItems;refine Aa (Mo (T:="tuple") ⟨o,ho,hc⟩ ?_);rw[Vg ∅];refine Aa (Fb ho hd2 (Ag ?_));show Bk _ _ (Ji [key,u] (Uy d key u)) _ _ _;refine Dn (go λh2 tk2 hd3 hs2=>?_);refine Ag ⟨Nq plain_loop _,?_⟩;exact ih (i+1) _ (by lia) hlt (hst.1.at λo e=>(hs2.2 I (Bx hdI)).trans e) (hst.2.at λo e=>(hs2.2 l (Bx hdl)).trans e) hd3 λh3 tk3 hk3 hd4=>hR h3 tk3 (λb o h1 h2 e=>hk3 b o h1 h2 ((hs2.2 b h1).trans (hm b o (by simp[h2]) e))) hd4
theorem callG{l:An}{items:Array Ae}{c:Nat}{Dd:Nat->Ds->Prop}{Q:Ae->Aj->Prop}(hh:A.handled=ae)(hx:s.heap.get? l=aa {cls:=.type "list",data:=.seq items c})(d0:Dd 0 (s.heap.push {cls:=.type "dict",data:=.dict #[]}))(fr:∀{i h h'},Dd i h->(∀b o,@LE.le Nat _ b ⇑s->h.get? b=aa o->h'.get? b=aa o)->Dd i h')(st:∀{i:Nat} {t:Aj},i<items.size->Dd i t.heap->(∀b o,s.heap.get? b=aa o->t.heap.get? b=aa o)->∃(a:An) (key v:Ae),items[i]? = aa (.ref a)/\s.heap.IsTuple a #[key,v]/\∀{E:Ae->Aj->Prop} {Q:Unit->Aj->Prop},(∀h2 tk,Dd (i+1) h2->Ek ⇑s t.heap h2->Q () {t with heap:=h2,toks:=tk})->Bk (Dj prog w) A.in1.in1 (Uy ⇑s key v) Q E t)(h:∀h' tk,(∀b o,s.heap.get? b=aa o->h'.get? b=aa o)->Dd items.size h'->Q (.ref ⇑s) {s with heap:=h',toks:=tk}):
  Bk (Dj prog w) A (call (.type "dict") [.ref l]) Q E s:=by
 refine callType_codes (Q₁:=λobj s1=>obj=.ref ⇑s/\s1 = {s with heap:=s.heap.push {cls:=.type "dict",data:=.dict #[]}}) F.kt_called_dict (F.kt_typeCall_dict_1 _) F.entry_dict_init (kt_code_dict_new _ ⟨rfl,rfl⟩) ?_;rintro obj s1 ⟨rfl,rfl⟩;have lt:l<⇑s:=Bg hx;have hx':(s.heap.push {cls:=.type "dict",data:=.dict #[]}).get? l=aa {cls:=.type "list",data:=.seq items c}:=Ah _ hx;have hty:({s with heap:=s.heap.push {cls:=.type "dict",data:=.dict #[]}}:Aj).TypeIs (.ref ⇑s) "dict":=⟨_,Bb _ rfl,rfl⟩;refine⟨hty,F.args_dict_init_2 _ _,?_⟩;unfold Ha.«dict.__init__»;refine Aa ?_;unfold Builtin.Dict.selfAndRest;refine Aa (Gx hty ?_);show Bk _ _ (pure (⇑s,[Value.ref l])) _ _ _;refine Ag ?_;show Bk _ _ (Jf "dict.__init__" ⇑s (.ref l) [] .none) _ _ _;unfold Jf;refine Aa (Mo (T:="list") ⟨_,hx',rfl⟩ ?_);rw[Vg ∅];refine Aa (keys_miss hx' hh λh1 tk1 hk1=>?_);rw[Vg ∅];have hx1:=hk1 _ _ hx';have l1:⇑s<h1.objs.size:=Bg (hk1 _ _ (Bb _ rfl));refine Aa (Ie (Aa (Jh (items:=items) ⟨_,hx1,rfl,c,rfl⟩ ?_)));have gI:(h1.push {cls:=.type "list_iterator",data:=.fields #[.ref l,.int 0 0]}).IsListIter h1.objs.size l 0:=⟨_,Bb _ rfl,rfl,rfl⟩;have up:∀b o,s.heap.get? b=aa o->(h1.push {cls:=.type "list_iterator",data:=.fields #[.ref l,.int 0 0]}).get? b=aa o:=λb o e=>Ah _ (hk1 b o (Ah _ e));have nI:∀{b:An},@LE.le Nat _ b ⇑s->b≠h1.objs.size:=λhb=>Br (Gb hb l1);refine Ag ⟨Nq plain_loop _,?_⟩;refine ZN (A:=A.in1) (d:=⇑s) (I:=h1.objs.size) (l:=l) (items:=items) (Dd:=λi h=>Dd i h/\∀b o,s.heap.get? b=aa o->h.get? b=aa o) hh (Br l1) (Ct lt) (Br (Fp lt l1)) (λ⟨z1,z2⟩ hm=>⟨fr z1 λb o hb e=>hm b o (nI hb) e,λb o e=>hm b o (nI (Hf (Bg e))) (z2 b o e)⟩) (λhi ⟨z1,z2⟩=>?_) items.size 0 _ rfl (Cn _) gI ⟨_,Ah _ hx1,rfl,c,rfl⟩ ⟨fr d0 λb o _ e=>Ah _ (hk1 b o e),up⟩ λh2 tk2 _ hd2=>⟨rfl,h h2 tk2 hd2.2 hd2.1⟩
 obtain⟨a,key,v,g1,⟨o,g2,g3⟩,go⟩:=st hi z1 z2;exact⟨a,key,v,g1,⟨o,z2 a o g2,g3⟩,λk=>go λh2 tk z hs=>k h2 tk ⟨z,λb o e=>(hs.2 b (Br (Bg e))).trans (z2 b o e)⟩ hs⟩
theorem take_at{O:Type}{ps:↑O}{i:Nat}{p:O}(h:ps[i]? = aa p):ps.take (i+1)=ps.take i++[p]:=by rw[Cb,h];rfl
theorem ZO(ps:↑(K×Ae)):∀kvs,↥(all kvs ps)<=↥kvs+↥ps:=by
 induction ps with
 | nil=>exact λ_=>Ai _
 | cons p ps ih=>exact λkvs=>Ar (ih _) (by have:=ZM kvs p.1 p.2;rw[Bw];lia)
theorem call_pairs{l:An}{items:Array Ae}{c:Nat}{ps:↑(K×Ae)}{Q:Ae->Aj->Prop}(hh:A.handled=ae)(hx:s.heap.get? l=aa {cls:=.type "list",data:=.seq items c})(hn:↥ps=items.size)(hz:items.size<=Ax)(hp:∀(j:Nat) (p:K×Ae),ps[j]? = aa p->∃(a:An) (key:Ae),items[j]? = aa (.ref a)/\s.heap.IsTuple a #[key,p.2]/\knd.is p.1 key=ab)(h:∀h' tk,(∀b o,s.heap.get? b=aa o->h'.get? b=aa o)->h'.DictOf knd ⇑s (all [] ps)->Q (.ref ⇑s) {s with heap:=h',toks:=tk}):
  Bk (Dj prog w) A (call (.type "dict") [.ref l]) Q E s:=by
 refine callG (Dd:=λi h=>h.DictOf knd ⇑s (all [] (ps.take i))) hh hx (Heap.DictOf.new s.heap) (λ⟨o,es,ep,ho,rest⟩ hm=>⟨o,es,ep,hm _ o (Ai _) ho,rest⟩) (λ{i t} hi hd _=>?_) λh' tk e d=>h h' tk e (by rw[<-hn,Bp]at d;exact d);obtain⟨p,hpi⟩:∃p,ps[i]? = aa p:=⟨_,Bn (by lia)⟩;let⟨a,key,g1,g2,g3⟩:=hp i p hpi;have len:=ZO (ps.take i) [];rw[Ck,Jy]at len;refine⟨a,key,p.2,g1,g2,λk=>wpAny_dictSet_pairs g3 hd (λh2 d2 s2=>k h2 _ ?_ s2) (by lia)⟩;rw[take_at hpi,all,Kt];exact d2
end
end Dp
end PySem
namespace L2
section
variable {X:Cx}
def lA(kvs:↑(aC×W))(ps:↑(aC×W)):↑(aC×W):=ps.foldl (λkvs p=>bW kvs p.1 p.2) kvs
def oS(ps:↑(aC×W)):↑W:=ps.map λp=>.tup [wK p.1,p.2]
def zT:↑W->Mm->K3->Prop
 | [.rl ws],M,R=>∃ps:↑(aC×W),ws=oS ps/\↥ws<=Ax/\iO (lA [] ps) M R
 | _,_,_=>False
theorem zU(I:L2.Inv X af Z H s):∀{ps:↑(aC×W)} {vs:↑V} {its:↑Ae},aK X.K H M vs (oS ps)->aZ vs its->
  ∃(ks:↑(aC×V)) (rs:↑(aC×Ae)),bQ X.K H M aC ks ps/\KV ks rs/\↥rs=↥its/\
   ∀(j:Nat) (p:aC×Ae),rs[j]? = aa p->∃(a:An) (key:Ae),its[j]? = aa (.ref a)/\s.heap.IsTuple a #[key,p.2]/\(bR X.prog X.w).is p.1 key=ab
 | [],_,_,.nil,.nil=>⟨[],[],.nil,.nil,rfl,λj p h=>by simp at h⟩
 | (k,w)::ps,_,_,.cons av avs,.cons rv rvs=>by
  let⟨ks,rs,h1,h2,h3,h4⟩:=zU I avs rvs;let⟨a,xs,ev,e,q⟩:=av.inv;rw[ev]at rv;let⟨u1,u2,ex,a1,a2⟩:=q.two;let⟨its2,r2,pl,_⟩:=I.tuple (bU.of e);rw[ex,a1.key]at r2;let⟨y1,y2,ey,x1,x2⟩:=vals2 r2;rw[ey]at pl;refine⟨(k,u2)::ks,(k,y2)::rs,.cons ⟨rfl,a2⟩ h1,.cons ⟨rfl,x2⟩ h2,congrArg (· + 1) h3,λj p hj=>?_⟩;cases j with
  | zero=>rw[<-Co hj];exact⟨a,y1,congrArg aa rv,pl,j8 x1⟩
  | succ j=>exact h4 j p hj
theorem G6(h:bQ X.K H M aC ks ps):∀{rs:↑(aC×Ae)} {kvs:↑(aC×W)} {ls:↑(aC×V)} {us:↑(aC×Ae)},KV ks rs->bQ X.K H M aC ls kvs->KV ls us->
  ∃ls':↑(aC×V),bQ X.K H M aC ls' (lA kvs ps)/\KV ls' (Dp.all us rs)/\↥ls'<=↥ls+↥ps:=by
 induction h with
 | nil=>
  intro rs kvs ls us h0 h1 h2;cases h0;exact⟨ls,h1,h2,Ai _⟩
 | @cons a p ks ps x r ih=>
  intro rs kvs ls us h0 h1 h2;cases h0 with
  | @cons _ b _ rs y t=>
   let⟨k,w⟩:=p;let⟨k1,v⟩:=a;let⟨k2,u⟩:=b;let⟨x1,x2⟩:=x;let⟨y1,y2⟩:=y;cases x1;cases y1;let⟨ls',g1,g2,g3⟩:=ih (kvs:=bW _ k w) t (rJ h1 k x2) (h2.put k y2);have:=pJ ls k v;exact⟨ls',g1,g2,by simp at g3⊢;lia⟩
theorem ZP(hc:X.calm=ab):cN X (.type "dict") (eR X.K zT):=by
 rintro af s Z H xs us Q I rs ⟨ws,M,R,am,axs,h,k⟩
 match ws,h with
 | [.rl ws],h=>
  let⟨v,rfl,av⟩:=axs.one;let⟨ps,rfl,hz,r⟩:=h;let⟨u,rfl,ru⟩:=vals1 rs;cases av with
  | rl f n q=>
   cases ru;let⟨z,its,c,rv,hl,e⟩:=I.lstM f;let⟨ks,rs',h1,h2,h3,h4⟩:=zU I q rv;let⟨ls,g1,g2,g3⟩:=G6 h1 h2 .nil .nil;refine Dp.call_pairs (knd:=bR X.prog X.w) (items:=its.toArray) (ps:=rs') (I.ok.hd hc) e (by simpa using h3) (by rw[Bh];lia) (λj p hj=>by simpa using h4 j p hj) λh' tk hk hd=>?_;have hz2:↥ps<=Ax:=by simpa [oS] using hz
   have hfr:=I.hok.fresh (Ai _);refine⟨.ref ⇑s,aL H ⇑s (.dK ls),I.laid (o:=.dK ls) (t':=tk) hk (Ai _) ⟨by simp at g3;lia,beq_eq_false_iff_ne.mpr (Bx (Br I.big)),_,g2,hd⟩,rfl,?_⟩;let⟨am2,k2⟩:=am.laid (o:=.dK (lA [] ps)) (u:=.dK ls) hfr ⟨ls,bY,pkv_new hfr g1⟩;exact k _ _ _ _ k2 am2 (.ref _) (r _ (am.nonM hfr))
where
 pkv_new:∀{H:Hp} {M:Mm} {p:An} {ks ls:↑(aC×V)} {kvs kus:↑(aC×W)},H p=ae->bQ X.K H M aC ks kvs->bQ X.K (aL H p (.dK ls)) (put M p (.dK kus)) aC ks kvs:=λhp h=>oJ h.keys (h.vals.newL hp)
def G7:↑W->Mm->K3->Prop
 | [.rl ws],M,R=>∃ps:↑(aC×W),ws=oS ps/\↥ws<=Ax/\R (.dk (lA [] ps)) M
 | _,_,_=>False
theorem ZQ(hc:X.calm=ab):cN X (.type "dict") (eR X.K G7):=by
 rintro af s Z H xs us Q I rs ⟨ws,M,R,am,axs,h,k⟩
 match ws,h with
 | [.rl ws],h=>
  let⟨v,rfl,av⟩:=axs.one;let⟨ps,rfl,hz,r⟩:=h;let⟨u,rfl,ru⟩:=vals1 rs;cases av with
  | rl f n q=>
   cases ru;let⟨z,its,c,rv,hl,e⟩:=I.lstM f;let⟨ks,rs',h1,h2,h3,h4⟩:=zU I q rv;let⟨ls,g1,g2,g3⟩:=G6 h1 h2 .nil .nil;refine Dp.call_pairs (knd:=bR X.prog X.w) (items:=its.toArray) (ps:=rs') (I.ok.hd hc) e (by simpa using h3) (by rw[Bh];lia) (λj p hj=>by simpa using h4 j p hj) λh' tk hk hd=>?_;have hz2:↥ps<=Ax:=by simpa [oS] using hz
   have hfr:=I.hok.fresh (Ai _);refine⟨.ref ⇑s,aL H ⇑s (.dK ls),I.laid (o:=.dK ls) (t':=tk) hk (Ai _) ⟨by simp at g3;lia,beq_eq_false_iff_ne.mpr (Bx (Br I.big)),_,g2,hd⟩,rfl,?_⟩;let⟨am2,k2⟩:=am.tup (u:=.dK ls) hfr;exact k _ _ _ _ k2 am2 (.dk bY (am.nonM hfr) g1.keys (g1.vals.newT hfr)) r
end
def dZ(f:Ay)(w:W):↑(Ay×W)->↑(Ay×W)
 | []=>[(f,w)]
 | (k,x)::r=>if k=f then(k,w)::r else(k,x)::dZ f w r
section
variable {K:Ac}{H:Hp}{M:Mm}
theorem bQ.look(p:bQ K H M Ay gs fs)(h:fs.lookup f=aa w):∃v,gs.lookup f=aa v/\AV K H M v w:=by
 induction p with
 | nil=>cases h
 | @cons a b _ _ r t ih=>
  let⟨k,v⟩:=a;let⟨k',w'⟩:=b;let⟨rfl,av⟩:=r
  by_cases hk:(f==k)=ab
  .simp only[Cf,hk]at h⊢;cases h;exact⟨v,rfl,av⟩
  .have hk':(f==k)=ac:=by simpa using hk
   simp only[Cf,hk']at h⊢;exact ih h
theorem bQ.lookN(p:bQ K H M Ay gs fs)(h:fs.lookup f=ae):gs.lookup f=ae:=by
 induction p with
 | nil=>rfl
 | @cons a b _ _ r t ih=>
  let⟨k,v⟩:=a;let⟨k',w'⟩:=b;let⟨rfl,av⟩:=r
  by_cases hk:(f==k)=ab
  .simp only[Cf,hk]at h;cases h
  .have hk':(f==k)=ac:=by simpa using hk
   simp only[Cf,hk']at h⊢;exact ih h
theorem bQ.putF{f:Ay}{v:V}{w:W}(av:AV K H M v w){gs:↑(Ay×V)}{fs:↑(Ay×W)}(p:bQ K H M Ay gs fs):bQ K H M Ay (L2.putF f v gs) (dZ f w fs):=by
 induction p with
 | nil=>exact .cons ⟨rfl,av⟩ .nil
 | @cons a b _ _ r t ih=>
  let⟨k,v'⟩:=a;let⟨k',w'⟩:=b;let⟨rfl,av'⟩:=r;show bQ K H M Ay (if k=f then(k,v)::_ else(k,v')::L2.putF f v _) (if k=f then(k,w)::_ else(k,w')::dZ f w _)
  by_cases hk:k=f
  .rw[Vg hk,Vg hk];exact .cons ⟨rfl,av⟩ t
  .rw[Vf hk,Vf hk];exact .cons ⟨rfl,av'⟩ ih
theorem bQ.len{U:Type}{gs:↑(U×V)}{fs:↑(U×W)}(h:bQ K H M U gs fs):↥gs=↥fs:=by
 have:=congrArg Ii h.keys;simpa using this
end
section
variable {X:Cx}{C:An}{f m:Ay}{pos apos cpos:Hu}{ta tv:aS}{o e value:Cg}{es:↑Cg}{t:dG}{sp:aY}
abbrev c8(C:An)(ta:aS)(f:Ay):aS:=λτ M R=>ta τ M λx M1=>∃a dx fs w,x=.ref a/\M1 a=aa (.ins C dx fs)/\fs.lookup f=aa w/\R w M1
theorem ZR(c:gG X.K C)(n:fH X.K C f)(he:E3 X o ta)(hb:Gu o f X.env (Eu o X.env)=Eu o X.env:=by rfl):E3 X (.Attribute o f pos) (c8 C ta f):=
 (RZ he hb).weak λZ H Q z0=>z0.el λτ M R as am h k=>⟨τ,M,_,as,am,h,λx H1 wx M1 k1 am1 ax z0=>by
  let⟨a,dx,fs,w,e1,e2,e3,r⟩:=z0;subst e1;obtain rfl:=ax.inv;let⟨gs,e4,q⟩:=am1 a _ e2;let⟨v,e5,av⟩:=q.look e3;exact⟨a,C,dx,gs,v,rfl,e4,c,n,e5,k _ _ _ _ k1 am1 av r⟩⟩
abbrev jF(C:An)(ta:aS)(f:Ay)(tv:aS):aD:=λD τ M=>tv τ M λy M1=>ta τ M1 λx M2=>∃a dx fs,x=.ref a/\M2 a=aa (.ins C dx fs)/\↥fs<1000/\D.nx τ (put M2 a (.ins C dx (dZ f y fs)))
theorem ZS(c:gG X.K C)(n:fH X.K C f)(ha:E3 X o ta)(hv:E3 X value tv)(hs:Ls value (aa (.Attribute o f apos)) pos.line X.env=pure ac:=by rfl):P3 X (.Assign [.Attribute o f apos] value pos) (jF C ta f tv):=
 (R0 ha hv hs).weak λD Z H z0=>z0.el λτ M D' as am h k=>⟨τ,M,_,as,am,h,λy H1 wy M1 k1 am1 ay h1=>⟨τ,M1,_,as.kp am k1,am1,h1,λx H2 wx M2 k2 am2 ax z0=>by
  let⟨a,dx,fs,e1,e2,hl,r⟩:=z0;subst e1;obtain rfl:=ax.inv;let⟨gs,e4,q⟩:=am2 a _ e2;refine⟨a,C,dx,gs,rfl,e4,c,n,by rw[q.len];exact hl,?_⟩;let⟨am3,k3⟩:=am2.write (o:=.ins C dx (dZ f wy fs)) (u:=.ins C dx (L2.putF f y gs)) e2 ⟨_,bY,((q.putF (ay.kp am1 k2))).go (oK am2 e2)⟩;exact k.nx _ _ _ _ ((k1.trans k2).trans k3) am3 (((as.kp am k1).kp am1 k2).kp am2 k3) r⟩⟩
variable {k:Nat}{g:An}{fd:Fc}{ps:↑Ay}
abbrev d8(C:An)(m:Ay)(sp:aY)(ta:aS)(t:dG):aS:=λτ M R=>ta τ M λx M1=>∃a dx fs,x=.ref a/\M1 a=aa (.ins C dx fs)/\fs.lookup m=ae/\t τ M1 λws M2=>sp (.ref a::ws) M2 R
theorem ZT(h:up X.K (d8 C m sp ta t) Z H Q):xV C m (fM X.K sp) [] E0 (up X.K ta) (pO X.K t) Z H Q:=by
 let⟨τ,M,R,as,am,h,k⟩:=h;refine⟨τ,M,_,as,am,h,λx H1 wx M1 k1 am1 ax z0=>?_⟩;let⟨a,dx,fs,e1,e2,e3,h1⟩:=z0;subst e1;obtain rfl:=ax.inv;let⟨gs,e4,q⟩:=am1 a _ e2;refine⟨a,dx,gs,rfl,e4,q.lookN e3,τ,M1,_,as.kp am k1,am1,h1,λvs H2 ws M2 k2 am2 avs h2=>⟨.ref a::ws,M2,R,am2,?_,h2,k.kp (k1.trans k2)⟩⟩;rw[Ce];exact .cons (.ref a) avs
theorem oT(c:gG X.K C)(hm:pI X.K C m g)(F:X.f eQ k g fd ps (fM X.K sp))(hr:cP k X.A)(hb:Binds X.K fd ps [])(he:E3 X o ta)(ha:A3 X (e::es) t)(hst:Se X e es:=by rfl)(hpl:Sb X pos es:=by rfl)(ht:Eu (.Call (.Attribute o m apos) (e::es) [] pos) X.env=(do
   let ov <-Eu o X.env
   Pr apos.atName
   let (f,first) <-Ji [ov] (Pt ov m pl)
   Ul pos f first (Mg pos (Cp (e::es) X.env)) (Oe pos (La [] X.env))):=by rfl):
  E3 X (.Call (.Attribute o m apos) (e::es) [] pos) (d8 C m sp ta t):=(SF (pl:=pl) he c hm F hr hb .nil pK ha hst hpl ht).weak λ_ _ _ h=>ZT h
theorem vE(c:gG X.K C)(hm:pI X.K C m g)(F:X.f eQ k g fd ps (fM X.K sp))(hr:cP k X.A)(hb:Binds X.K fd ps [])(he:E3 X o ta)(ht:Eu (.Call (.Attribute o m apos) [] [] pos) X.env=(do
   let ov <-Eu o X.env
   Pr apos.atName
   let (f,first) <-Ji [ov] (Pt ov m pl)
   Ul pos f first (Mg pos (Cp [] X.env)) (Oe pos (La [] X.env))):=by rfl):
  E3 X (.Call (.Attribute o m apos) [] [] pos) (d8 C m sp ta aB):=(SG (pl:=pl) he c hm F hr hb .nil pK ht).weak λZ H Q h=>by
 let⟨τ,M,R,as,am,h,k⟩:=h;refine⟨τ,M,_,as,am,h,λx H1 wx M1 k1 am1 ax z0=>?_⟩;let⟨a,dx,fs,e1,e2,e3,h1⟩:=z0;subst e1;obtain rfl:=ax.inv;let⟨gs,e4,q⟩:=am1 a _ e2;exact⟨a,dx,gs,rfl,e4,q.lookN e3,[.ref a],M1,R,am1,.cons (.ref a) .nil,h1,k.kp k1⟩
abbrev mC(C:An)(sp:aY)(t:dG):aS:=λU M R=>t U M λws I=>∀a dx,I a=ae->I dx=ae->dx≠a->sp (.ref a::ws) (put I a (.ins C dx [])) λw d=>w=.non/\R (.ref a) d
theorem AM.made{K:Ac}{H:Hp}{M:Mm}{x dx:An}(am:AM K H M)(hx:H x=ae)(hd:H dx=ae)(ne:dx≠x):AM K (aL (aL H dx (.own x)) x (.ins C dx [])) (put M x (.ins C dx []))/\Kp H M (aL (aL H dx (.own x)) x (.ins C dx [])) (put M x (.ins C dx [])):=by
 let⟨am1,k1⟩:=am.tup (u:=.own x) hd;have hx1:aL H dx (.own x) x=ae:=by rw[a9 (Bx ne)];exact hx
 let⟨am2,k2⟩:=am1.laid (o:=.ins C dx []) (u:=.ins C dx []) hx1 ⟨[],bY,.nil⟩;exact⟨am2,k1.trans k2⟩
theorem G8(am:AM X.K H M)(avs:aK X.K H M vs ws)(h:∀a dx,M a=ae->M dx=ae->dx≠a->sp (.ref a::ws) (put M a (.ins C dx [])) λw M2=>w=.non/\R (.ref a) M2)(k:Up X.K H M R Q):
  ∀x dx,H x=ae->H dx=ae->dx≠x->fM X.K sp (.ref x::(vs++[])) (aL (aL H dx (.own x)) x (.ins C dx [])) (λv H2=>v=.non/\Q (.ref x) H2) E0:=by
 intro x dx hx hd ne;let⟨am1,k1⟩:=am.made (C:=C) hx hd ne;refine⟨.ref x::ws,_,_,am1,?_,h x dx (am.nonM hx) (am.nonM hd) ne,λv H2 w M2 k2 am2 av r=>?_⟩
 .rw[Ce];exact .cons (.ref x) (avs.kp am k1)
 .let⟨rfl,r⟩:=r;obtain rfl:=av.inv;exact⟨rfl,k _ _ _ _ (k1.trans k2) am2 (.ref x) r⟩
theorem ZU(M:Mk X.K C g)(F:X.f eQ k g fd ps (fM X.K sp))(hr:cP (k+1) X.A)(hg:Gl X x)(hm:X.mg x=aa (.ref C))(hb:Binds X.K fd ps [])(ha:A3 X (e::es) t)(hdb:Db x:=by decide)(he:Se X e es:=by rfl)(hpl:Sb X pos es:=by rfl):
  E3 X (.Call (.Name x p) (e::es) [] pos) (mC C sp t):=(SH M F hr hg hm hb .nil pK ha hdb he hpl).weak λZ H Q z0=>z0.el λτ M R as am h k=>⟨τ,M,_,as,am,h,λvs H1 ws M1 k1 am1 avs h1=>G8 am1 avs h1 (k.kp k1)⟩
theorem G9(M:Mk X.K C g)(F:X.f eQ k g fd ps (fM X.K sp))(hr:cP (k+1) X.A)(hg:Gl X x)(hm:X.mg x=aa (.ref C))(hb:Binds X.K fd ps [])(hdb:Db x:=by decide):E3 X (.Call (.Name x p) [] [] pos) (mC C sp aB):=(SI M F hr hg hm hb .nil pK hdb).weak λZ H Q z0=>z0.el λτ M R as am h k=>G8 am .nil h k
end
section
variable {prog:Bc}{w:Bo}{K:Type}[DecidableEq K]{knd:HeapKind prog w K}{A:Cs}{E:Ae->Aj->Prop}{s:Aj}{d a:An}{k:K}{xs:↑(K×An×Ae)}
theorem HA{Q:Ae->Aj->Prop}(U:knd.room A)(F:knd.is s.heap k a)(P:s.heap.DictOfH knd d xs)(hsz:↥xs<=Ax)(O:∀p,Lq xs k=aa p->Q p.2 {s with toks:=s.toks+knd.draws k})(L:Lq xs k=ae->∀h',h'.DictOfH knd d (Mq xs k a y)->Ek d s.heap h'->Q y {s with heap:=h',toks:=s.toks+knd.draws k}):
  Bk (Dj prog w) A (dictSetDefault d (.ref a) y) Q E s:=by
 let⟨o,es,ep,S,hc,hd,Y,i,hn⟩:=P;unfold dictSetDefault;refine Dn (Aa (knd.pyHash U F (Aa (wpAny_dictFind_heap (s:={s with toks:=s.toks+knd.draws k}) U F S hd Y i hn (λg=>?_) λj p hj=>?_))))
 .have hk:=atKey_none_of_get g;have b:k∉xs.map (·.1):=not_mem_keys_of_get g;refine Aa (Ie (Aa (wpAny_updateDictKeys (hz:=by have e:=Kn Y;lia) (s:={s with toks:=s.toks+knd.draws k}) S hd (Ag (L hk _ ⟨_,_,ep+1,Hk _ S (Obj.isFreed_of_dict (Lo hd _)),
   hc.mapDictKeys _,Lo hd _,?_,λx J=>?_,?_⟩ (Ge ..))))))
  .rw[Rw hk];simp[Y,Qp]
  .rw[Rw hk]at J;rcases Ba.mp J with q|q
   .exact knd.keeps (i x q) S hd (Ge ..)
   .obtain rfl:=Af.mp q;exact knd.keeps F S hd (Ge ..)
  .rw[Rw hk,Aw,Cd];refine⟨hn,by simp,λx J y f=>?_⟩;simp only[Bd,Nn,Af]at f;subst f;exact λe=>b (e▸J)
 .refine Aa (Hy (s:={s with toks:=s.toks+knd.draws k}) S hd ?_);rw[Su Y j,hj];exact Aa (Ie (Ag (O p (atKey_of_get hn hj))))
theorem HB:∀{xs:↑(K×An×Ae)} {j:Nat} {p:An×Ae},(xs.map (·.1)).Nodup->xs[j]? = aa (k,p)->xs.eraseIdx j=xs.filter λx=>decide (x.1≠k)
 | [],j,p,_,h=>by simp at h
 | x::r,0,p,hn,h=>by
  have e:x=(k,p):=by simpa using h
  subst e;rw[Bd,Ca]at hn;rw[List.eraseIdx_zero,List.tail_cons,List.filter_cons_of_neg (by simp)];refine(List.filter_eq_self.mpr λy f=>?_).symm;rw[decide_eq_true_eq];exact λe=>hn.1 (Ap.mpr ⟨y,f,e⟩)
 | x::r,j+1,p,hn,h=>by
  rw[Bd,Ca]at hn;have hj:r[j]? = aa (k,p):=by simpa using h
  have J:x.1≠k:=λe=>hn.1 (Ap.mpr ⟨(k,p),Ao hj,e.symm⟩);rw[List.eraseIdx_cons_succ,HB hn.2 hj,List.filter_cons_of_pos (by simpa using J)]
theorem ZV{v:Ae}{b:An}{Q:Option Eg->Aj->Prop}(U:knd.room A)(F:knd.is s.heap k a)(P:s.heap.DictOfH knd d xs)(hsz:↥xs<=Ax)(c:Lq xs k=aa (b,v))(h:∀h',h'.DictOfH knd d (xs.filter λx=>decide (x.1≠k))->Ek d s.heap h'->Q (aa ⟨knd.hash k,.ref b,v⟩) {s with heap:=h',toks:=s.toks+knd.draws k}):
  Bk (Dj prog w) A (Builtin.Dict.takeOut d (.ref a)) Q E s:=by
 let⟨o,es,ep,S,hc,hd,Y,i,hn⟩:=P;unfold Builtin.Dict.takeOut;refine Dn (Aa (knd.pyHash U F (Aa (wpAny_dictFind_heap (s:={s with toks:=s.toks+knd.draws k}) U F S hd Y i hn (λg=>?_) λj p hj=>?_))))
 .rw[atKey_none_of_get g]at c;cases c
 .rw[atKey_of_get hn hj]at c;cases c;have f:=HB hn hj;refine Aa (Hy (s:={s with toks:=s.toks+knd.draws k}) S hd ?_);rw[Su Y j,hj];refine Aa (wpAny_updateDictKeys (hz:=by have e:=Kn Y;lia) (s:={s with toks:=s.toks+knd.draws k}) S hd (Ag (h _ ⟨_,_,ep+1,Hk _ S (Obj.isFreed_of_dict (Lo hd _)),
   hc.mapDictKeys _,Lo hd _,?_,λx J=>knd.keeps (i x (Dq.mp J).1) S hd (Ge ..),?_⟩ (Ge ..))))
  .rw[<-f];have B:(xs.eraseIdx j).map (Qp knd)=(xs.map (Qp knd)).eraseIdx j:=by simp[List.eraseIdx_eq_take_drop_succ,Pf,Mz]
   rw[B,<-Y];let⟨l⟩:=es;simp
  .exact hn.sublist (Jo.map _)
end
section
variable {X:Cx}{af:Pn}{Z:St}{H:Hp}{s:Aj}{a b:An}{v:V}{r:Ae}{A:Cs}{E:Ae->Aj->Prop}{kvs:↑(↑aC×V)}{k:↑aC}
theorem KT.drop(J:KT H kvs xs)(k:↑aC):KT H (oA kvs k) (xs.filter λx=>decide (x.1≠k)):=by
 induction J with
 | nil=>exact .nil
 | @cons p q ps qs h t E=>
  unfold oA at E⊢;rw[Ed,Ed,<-h.1];split
  .exact .cons h E
  .exact E
theorem ZW{Q:Ae->Aj->Prop}(U:A.units+1<Fd)(I:Inv X af Z H s)(e:H a=aa (.dT kvs))(T:H b=aa (.tup (k.map kV)))(Y:RelV v r)(hl:↥kvs<Ax)(O:∀h D W,f9 kvs k=aa h->Inv X af Z H W->RelV h D->Q D W)(L:f9 kvs k=ae->∀W,Inv X af Z (aL H a (.dT (dY kvs k v))) W->Q r W):
  Bk X.m A (call (.builtin "dict.setdefault") [.ref a,.ref b,r]) Q E s:=by
 let⟨z,hd,xs,J,i⟩:=qR I.hok e;have hz:↥xs<=Ax:=by rw[<-Cw J];exact z
 have K:=J.val k;refine Iw Lj i.typeIs PySem.F.entry_dict_setdefault (PySem.F.args_dict_setdefault_3 _ _ _)
  (S:=λA R g=>(Hc (bR X.prog X.w)).room A.in1/\(Hc (bR X.prog X.w)).is g.heap k b/\g.heap.DictOfH (Hc (bR X.prog X.w)) a xs/\
   (∀p,Lq xs k=aa p->R (.ok (.ret p.2)) {g with toks:=g.toks+(↥k+1)})/\
   (Lq xs k=ae->∀h',h'.DictOfH (Hc (bR X.prog X.w)) a (Mq xs k b r)->Ek a g.heap h'->R (.ok (.ret r)) {g with heap:=h',toks:=g.toks+(↥k+1)}))
  (.of_wp λA R g ⟨f,d,y,o,x⟩=>?_) ⟨Fm U,i7 I.hok T,i,λp N=>?_,λhn h' j l=>?_⟩
 .unfold Ha.«dict.setdefault»;refine Aa ?_;unfold Lg;refine Aa (Gx y.typeIs ?_);refine Ag ?_;dsimp only;rw[Vf (by rw[hd];exact Bf)];exact Aa (HA f d y hz (λp N=>Ag ⟨_,rfl,o p N⟩) λhn h' C u=>Ag ⟨_,rfl,x hn h' C u⟩)
 .rw[N]at K;cases q:f9 kvs k with
  | none=>rw[q]at K;exact Bq K
  | some h=>rw[q]at K;exact O h _ _ q (I.tok _) K
 .rw[hn]at K;have q:f9 kvs k=ae:=by
   cases q:f9 kvs k with
   | none=>rfl
   | some h=>rw[q]at K;exact Bq K
  have M:↥(dY kvs k v)<=Ax:=by have:=pJ kvs k v;lia
  let⟨d,es,ep,F,B,P,V,_,n⟩:=j;refine L q _ (oC (t':=s.toks+(↥k+1)) I (by rw[e];exact True.intro) l ⟨d,F⟩ ⟨M,hd,_,(J.put k T Y).keeps λc G t=>?_,d,es,ep,F,B,P,V,n⟩);rw[a9 (sY t e (λz=>nomatch z))];exact t
theorem ZX{Q:Ae->Aj->Prop}(U:A.units+1<Fd)(I:Inv X af Z H s)(e:H a=aa (.dT kvs))(T:H b=aa (.tup (k.map kV)))(l:f9 kvs k=aa v)(h:∀D W,Inv X af Z (aL H a (.dT (oA kvs k))) W->RelV v D->Q D W):Bk X.m A (call (.builtin "dict.pop") [.ref a,.ref b]) Q E s:=by
 let⟨z,hd,xs,J,i⟩:=qR I.hok e;have hz:↥xs<=Ax:=by rw[<-Cw J];exact z
 let⟨D,hw,V⟩:=fS.some_of (v:=v) (o:=(Lq xs k).map (·.2)) (by rw[<-l];exact J.val k);obtain⟨⟨c,w2⟩,hc,rfl⟩:=Az.mp hw;refine Iw PySem.F.slot_dict_pop i.typeIs PySem.F.entry_dict_pop (PySem.F.args_dict_pop_2 _ _)
  (S:=λA R g=>(Hc (bR X.prog X.w)).room A.in1/\(Hc (bR X.prog X.w)).is g.heap k b/\g.heap.DictOfH (Hc (bR X.prog X.w)) a xs/\
   ∀h',h'.DictOfH (Hc (bR X.prog X.w)) a (xs.filter λx=>decide (x.1≠k))->Ek a g.heap h'->R (.ok (.ret w2)) {g with heap:=h',toks:=g.toks+(↥k+1)})
  (.of_wp λA R g ⟨L,d,p,y⟩=>?_) ⟨Fm U,i7 I.hok T,i,λh' K f=>?_⟩
 .unfold Ha.«dict.pop»;refine Aa ?_;unfold Lg;refine Aa (Gx p.typeIs ?_);refine Ag ?_;dsimp only;rw[Vf (show ¬((keyPart (Value.ref b)).isSome=ab) from Bf)];let⟨o,es,ep,C,hc',q,Y,his,hn⟩:=id p;have j:es.isEmpty=ac:=by
   have O:=Kn Y;cases xs with
   | nil=>cases hc
   | cons x r=>rw[Array.isEmpty_eq_false_iff];intro z;rw[z]at O;simp at O
  refine Aa (Hy C q ?_);refine Aa (Ag ?_);rw[j,Vf Bf];refine Aa (ZV L d p hz hc λh' M u=>?_);rw[Vf (by simp)];exact Aa (Ru (Ag ⟨_,rfl,y h' M u⟩))
 .let⟨d,es,ep,F,B,P,n,_,N⟩:=K;refine h w2 _ (oC (t':=s.toks+(↥k+1)) I (by rw[e];exact True.intro) f ⟨d,F⟩ ⟨Ar (UN kvs k) z,hd,_,(J.drop k).keeps λc G t=>?_,d,es,ep,F,B,P,n,N⟩) V;rw[a9 (sY t e (λz=>nomatch z))];exact t
end
section
variable {X:Cx}
def nL:W->↑W->Mm->K3->Prop
 | d,[y],M,R=>∃o,e9 M d y o/\R (o.getD .non) M
 | d,[y,v],M,R=>∃o,e9 M d y o/\R (o.getD v) M
 | _,_,_,_=>False
theorem ZY(U:X.A.units+1<Fd):fJ X "dict.get" (kA X.K nL):=by
 rintro af s Z H x xs v us Q I d rs ⟨n,ws,M,R,Y,S,E,h,k⟩
 match ws,h with
 | [y],h=>
  let⟨z,rfl,F⟩:=E.one;let⟨o,g,r⟩:=h;let⟨a,rfl,T⟩:=uI Y S F g;cases d;let⟨u,rfl,ru⟩:=rs.one;rcases T with⟨rfl,P⟩|⟨l,J,rfl,P,av⟩
  .exact DZ U I P ru λD W c V=>⟨_,H,c,V,k.at Y .non r⟩
  .exact DZ U I P ru λD W c V=>⟨_,H,c,V,k.at Y av r⟩
 | [y,w],h=>
  let⟨z,j,rfl,F,p⟩:=E.two;let⟨o,g,r⟩:=h;let⟨a,rfl,T⟩:=uI Y S F g;cases d;let⟨u,G,rfl,ru,f⟩:=vals2 rs;rcases T with⟨rfl,P⟩|⟨l,J,rfl,P,av⟩
  .exact D0 U I P ru f λD W c V=>⟨_,H,c,V,k.at Y p r⟩
  .exact D0 U I P ru f λD W c V=>⟨_,H,c,V,k.at Y av r⟩
def pW:W->↑W->Mm->K3->Prop
 | .ref a,[.tup ks,v],M,R=>∃kvs k,M a=aa (.dT kvs)/\ks=k.map wK/\↥kvs<Ax/\(∀w,aQ kvs k=aa w->R w M)/\(aQ kvs k=ae->R v (put M a (.dT (bW kvs k v))))
 | _,_,_,_=>False
theorem ZZ(U:X.A.units+1<Fd):fJ X "dict.setdefault" (kA X.K pW):=by
 rintro af s Z H x xs v us Q I d rs ⟨n,ws,M,R,Y,S,E,h,k⟩
 match n,ws,h with
 | .ref a,[.tup ks,w],h=>
  let⟨z,j,rfl,F,p⟩:=E.two;let⟨kvs,kk,e,rfl,hl,O,L⟩:=h;obtain rfl:=S.inv;cases d;let⟨u,P,rfl,ru,f⟩:=vals2 rs;let⟨i,D,q⟩:=Y _ _ e;cases F with
  | @tup b vs _ T G=>
   cases (show u=Value.ref b from ru);rw[G.keys]at T;have y:=uH q kk;refine ZW U I D T f (by rw[q.len];exact hl) (λl C W B c V=>?_) λB W c=>?_
   .rcases y with⟨_,m⟩|⟨K,t,J,m,av⟩
    .rw[m]at B;cases B
    .rw[m]at B;cases B;exact⟨_,H,c,V,k.at Y av (O t J)⟩
   .rcases y with⟨J,m⟩|⟨K,t,J,m,av⟩
    .let⟨g,N⟩:=Y.write (o:=.dT (bW kvs kk w)) (u:=.dT (dY i kk j)) e ⟨_,bY,(rJ q kk p).go (oK Y e)⟩;exact⟨_,_,c,f,k _ _ _ _ N g (p.wr Y e) (L J)⟩
    .rw[m]at B;cases B
def mD{b:Type}[DecidableEq b](kvs:↑(b×W))(k:b):↑(b×W):=kvs.filter λg=>decide (g.1≠k)
theorem Z0{b:Type}[DecidableEq b]{K:Ac}{H:Hp}{M:Mm}{i:↑(b×V)}{kvs:↑(b×W)}(h:bQ K H M b i kvs)(k:b):bQ K H M b (oA i k) (mD kvs k):=by
 induction h with
 | nil=>exact .nil
 | @cons p q ps qs r t E=>
  unfold oA mD at E⊢;rw[Ed,Ed,<-r.1];split
  .exact .cons r E
  .exact E
def HC:W->↑W->Mm->K3->Prop
 | .ref a,[.tup ks],M,R=>∃kvs k w,M a=aa (.dT kvs)/\ks=k.map wK/\aQ kvs k=aa w/\R w (put M a (.dT (mD kvs k)))
 | _,_,_,_=>False
theorem Z1(U:X.A.units+1<Fd):fJ X "dict.pop" (kA X.K HC):=by
 rintro af s Z H x xs v us Q I d rs ⟨n,ws,M,R,Y,S,E,h,k⟩
 match n,ws,h with
 | .ref a,[.tup ks],h=>
  let⟨z,rfl,F⟩:=E.one;let⟨kvs,kk,w,e,rfl,l,r⟩:=h;obtain rfl:=S.inv;cases d;let⟨u,rfl,ru⟩:=rs.one;let⟨i,D,q⟩:=Y _ _ e;cases F with
  | @tup b vs _ T G=>
   cases (show u=Value.ref b from ru);rw[G.keys]at T;rcases uH q kk with⟨J,m⟩|⟨P,t,J,m,av⟩
   .rw[J]at l;cases l
   .rw[J]at l;cases l;let⟨g,N⟩:=Y.write (o:=.dT (mD kvs kk)) (u:=.dT (oA i kk)) e ⟨_,bY,(Z0 q kk).go (oK Y e)⟩;exact ZX U I D T m λL W c V=>⟨_,_,c,V,k _ _ _ _ N g (av.wr Y e) r⟩
end
section
variable {X:Cx}{af:Pn}{Z:St}{H:Hp}{s:Aj}{a b:An}{v:V}{r:Ae}{A:Cs}{E:Ae->Aj->Prop}{es:↑(bP×An×V)}{tl:↑Int}{x:bP}
theorem Z2{o e:Cg}{args:↑Cg}{to:TE}{t:TA}{name:Ay}{b f:Hu}{T id:String}{l:V->↑V->Hp->VK->Prop}{tq:V->Hp->Prop}(G:Ou T)(slot:Slot T name id)(q:Tq (.builtin id)=pure (.type "method_descriptor"))(P:fJ X id l)(S:PE X o to)(m:PA X (e::args) t)(tp:∀af Z H s x v,Inv X af Z H s->RelV x v->tq x H->s.TypeIs v T/\∀a,v=.ref a->∃ob,s.heap.get? a=aa ob/\ob.dict=ae)(W:Gu o name X.env (Eu o X.env)=Eu o X.env)(u:((Mg f (Cp (e::args) X.env)).all (λx=>!x.1)&&(Oe f (La [] X.env)).all (λx=>x.1.isSome)&&decide (↥(e::args)+↥([]:↑Px)+(if ([]:↑Px).isEmpty then 0 else 1)<30))=ab)(y:(b.endLine==f.line)=ab)(F:Se X e args)(c:Sb X f args):
  PE X (.Call (.Attribute o name b) (e::args) [] f) (λZ H Q=>to Z H λx z=>tq x z/\t Z z λxs E=>l x xs E Q):=by
 intro af s Z H Q I h;refine wpAny_Call_method_late W u y rfl (thn (S af s Z H _ I h) λv g R=>?_);let⟨x,z,M,N,ty,d⟩:=R;let⟨O,L⟩:=tp _ _ _ _ _ _ M N ty;refine⟨T,id,G,slot,q,O,L,?_⟩;have D:=m f af g Z z _ M d;rw[F]at D⊢;refine Km (by show(ac||(Mg f (Cp args X.env)).any (·.1))=ac;rw[c]<;>rfl) (Calls.evalArgs_plain ?_);exact thn D λus C U=>by let⟨vs,E,i,Y,p⟩:=U;exact P af C Z E x vs v us Q i N Y p
theorem Z3{o:Cg}{to:TE}{name:Ay}{b f:Hu}{T id:String}{l:V->↑V->Hp->VK->Prop}{tq:V->Hp->Prop}(G:Ou T)(slot:Slot T name id)(q:Tq (.builtin id)=pure (.type "method_descriptor"))(P:fJ X id l)(S:PE X o to)(tp:∀af Z H s x v,Inv X af Z H s->RelV x v->tq x H->s.TypeIs v T/\∀a,v=.ref a->∃ob,s.heap.get? a=aa ob/\ob.dict=ae)(W:Gu o name X.env (Eu o X.env)=Eu o X.env)(y:(b.endLine==f.line)=ab):PE X (.Call (.Attribute o name b) [] [] f) (λZ H Q=>to Z H λx z=>tq x z/\l x [] z Q):=by
 intro af s Z H Q I h;refine wpAny_Call_method0_late W y (thn (S af s Z H _ I h) λv g Y=>?_);let⟨x,z,M,N,ty,d⟩:=Y;let⟨O,L⟩:=tp _ _ _ _ _ _ M N ty;exact⟨T,id,G,slot,q,O,L,Km rfl (PySem.evalArgs_none (P af g Z z x [] v [] Q M N .nil d))⟩
theorem HD{q j:Type}{F:q->j->Prop}{a c:↑q}{b d:↑j}(p:Ey F a b)(h:Ey F c d):Ey F (a++c) (b++d):=by
 induction p with
 | nil=>exact h
 | cons r t E=>exact .cons r E
theorem pX(I:Inv X af Z H s)(e:H a=aa (.ext (dJ X.prog X.w tl a es))):dJ X.prog X.w tl a es s.heap:=(show bZ X.prog X.w H s.heap a (.ext (dJ X.prog X.w tl a es)) from I.hok a _ e).1
theorem NX.val(q:NX es xs)(x:bP):(Lq xs x=ae/\∀e∈es,e.1≠x)\/∃b v u,Lq xs x=aa (b,u)/\(x,b,v)∈es/\RelV v u:=by
 induction q with
 | nil=>exact .inl ⟨rfl,λe Y=>nomatch Y⟩
 | @cons p z ps d h t E=>
  let⟨O,p2,f⟩:=p;let⟨U,R,z3⟩:=z;let⟨rfl,rfl,h3⟩:=h;unfold Lq at E⊢;rw[Cq]
  by_cases J:O=x
  .subst J;rw[Vi rfl];exact .inr ⟨p2,f,z3,rfl,Bl,h3⟩
  .rw[Vj J];rcases E with⟨a,i⟩|⟨b,v,u,a,i,c⟩
   .refine .inl ⟨a,λe Y=>?_⟩;rcases Au.mp Y with rfl|Y
    .exact J
    .exact i e Y
   .exact .inr ⟨b,v,u,a,Bj _ i,c⟩
theorem Z4{Q:Ae->Aj->Prop}(U:A.units+2<Fd)(I:Inv X af Z H s)(e:H a=aa (.ext (dJ X.prog X.w tl a es)))(ks:∀z∈es,iB H tl z.1 z.2.1)(J:iB H tl x b)(G:RelV v r)(hl:↥es<Ax)(O:∀c v0 k W,(x,c,v0)∈es->Inv X af Z H W->RelV v0 k->Q k W)(L:(∀z∈es,z.1≠x)->∀W,Inv X af Z (aL H a (.ext (dJ X.prog X.w tl a (es++[(x,b,v)])))) W->Q r W):
  Bk X.m A (call (.builtin "dict.setdefault") [.ref a,.ref b,r]) Q E s:=by
 let⟨o,C,ep,xs,f,hc,hd,Y,nx,hn,hz,hsys⟩:=pX I e;have isAll:∀z∈xs,(jP X.prog X.w tl).is s.heap z.1 z.2.1:=by
  have:∀{es:↑(bP×An×V)} {xs:↑(bP×An×Ae)},NX es xs->(∀z∈es,iB H tl z.1 z.2.1)->∀z∈xs,(jP X.prog X.w tl).is s.heap z.1 z.2.1:=by
   intro es xs q
   induction q with
   | nil=>intro _ z hz;cases hz
   | @cons p z ps D h t B=>
    intro hk u U;rcases Au.mp U with rfl|U
    .have:=(hk p Bl).is I.hok;rw[h.1,h.2.1]at this;exact this
    .exact B (λy K=>hk y (Bj _ K)) u U
  exact this nx ks
 have i:s.heap.DictOfH (jP X.prog X.w tl) a xs:=⟨o,C,ep,f,hc,hd,Y,isAll,hn⟩;have T:↥xs=↥es:=(Cw nx).symm;refine Iw Lj i.typeIs PySem.F.entry_dict_setdefault (PySem.F.args_dict_setdefault_3 _ _ _)
  (S:=λA R g=>(jP X.prog X.w tl).room A.in1/\(jP X.prog X.w tl).is g.heap x b/\g.heap.DictOfH (jP X.prog X.w tl) a xs/\
   (∀p,Lq xs x=aa p->R (.ok (.ret p.2)) {g with toks:=g.toks+(jP X.prog X.w tl).draws x})/\
   (Lq xs x=ae->∀h',h'.DictOfH (jP X.prog X.w tl) a (Mq xs x b r)->Ek a g.heap h'->R (.ok (.ret r)) {g with heap:=h',toks:=g.toks+(jP X.prog X.w tl).draws x}))
  (.of_wp λA R g ⟨n,d,j,q3,q4⟩=>?_) ⟨U,J.is I.hok,i,λp N=>?_,λhno h' dd' l=>?_⟩
 .unfold Ha.«dict.setdefault»;refine Aa ?_;unfold Lg;refine Aa (Gx j.typeIs (Ag ?_));dsimp only;rw[Vf (by rw[hsys];exact Bf)];exact Aa (HA n d j hz (λp N=>Ag ⟨_,rfl,q3 p N⟩) λhn h' hm' hs'=>Ag ⟨_,rfl,q4 hn h' hm' hs'⟩)
 .rcases nx.val x with⟨i1,_⟩|⟨c,v0,u,i1,i2,i3⟩
  .rw[i1]at N;cases N
  .rw[i1]at N;cases N;exact O c v0 u _ i2 (I.tok _) i3
 .rcases nx.val x with⟨_,i2⟩|⟨c,v0,u,i1,_,_⟩
  .rw[Rw hno]at dd';let⟨d,es',ep',F,P,M,g4,_,g5⟩:=dd';refine L i2 _ (oC (t':=s.toks+(jP X.prog X.w tl).draws x) I (by rw[e];exact True.intro) l ⟨d,F⟩ (dJ.ok ⟨d,es',ep',_,F,P,M,g4,HD nx (.cons ⟨rfl,rfl,G⟩ .nil),g5,?_,hsys⟩));rw[Ak,T];simp;lia
  .rw[i1]at hno;cases hno
end
def fQ(tl:↑Int)(x:bP):W:=.tup (wK x.1::.tup (x.2.map wK)::tl.map W.int)
section
variable {K:Ac}{H:Hp}{M:Mm}
theorem HE(k:aC):AV K H M (kV k) (wK k):=by cases k<;>first|exact .int _|exact .str _
theorem vF:∀ks:↑aC,aK K H M (ks.map kV) (ks.map wK)
 | []=>.nil
 | k::r=>.cons (HE k) (vF r)
theorem HF:∀tl:↑Int,aK K H M (tl.map V.int) (tl.map W.int)
 | []=>.nil
 | i::r=>.cons (.int i) (HF r)
theorem aK.intsN:∀{tl:↑Int} {vs:↑V},aK K H M vs (tl.map W.int)->vs=tl.map V.int
 | [],_,h=>by cases h;rfl
 | i::r,_,h=>by
  cases h with
  | cons a b=>cases a;rw[aK.intsN b];rfl
theorem iB.av(n:iB H tl x b):AV K H M (.ref b) (fQ tl x):=by
 let⟨G,D,A⟩:=n;exact .tup D (.cons (HE x.1) (.cons (.tup A (vF x.2)) (HF tl)))
theorem Z5{tl:↑Int}{x:bP}{v:V}(h:AV K H M v (fQ tl x)):∃b,v=.ref b/\iB H tl x b:=by
 unfold fQ at h;cases h with
 | @tup b xs _ e q=>
  cases q with
  | @cons m c _ _ i d=>
   cases d with
   | @cons Z a _ _ P p=>
    have D:=i.key;subst D;have l:=p.intsN;subst l;cases P with
    | @tup R G _ L w=>
     rw[w.keys]at L;exact⟨b,rfl,R,e,L⟩
end
section
variable {X:Cx}
abbrev HG(P:Bc)(w:Bo)(tl:↑Int):aS:=λU M R=>∀p,M p=ae->R (.ref p) (put M p (.dn P w tl []))
theorem Z6:E3 X (.Dict [] [] pos) (HG X.prog X.w tl):=by
 rintro af s Z H Q I ⟨U,M,R,J,Y,h,k⟩;have hf:=I.hok.fresh (Ai ⇑s);have G:=I.big;let⟨P,B⟩:=Y.laid (o:=.dn X.prog X.w tl []) (u:=.ext (dJ X.prog X.w tl ⇑s [])) hf ⟨[],bY,.nil⟩;refine Rn ⟨.ref ⇑s,_,I.laid (a:=⇑s) (o:=.ext (dJ X.prog X.w tl ⇑s [])) (t':=s.toks) (λ_ _ q=>Ah _ q) (Ai _) (dJ.ok ⟨_,#[],0,[],Bb _ rfl,⟨rfl,rfl,rfl⟩,rfl,rfl,.nil,Dx,Cn _,?_⟩),rfl,k _ _ _ _ B P (.ref _) (h _ (Y.nonM hf))⟩;rw[beq_eq_false_iff_ne];exact Ct G
abbrev Z7(P:Bc)(w:Bo)(tl:↑Int)(x:W)(M:Mm):Prop:=∃a kvs,x=.ref a/\M a=aa (.dn P w tl kvs)
theorem HH{P:Bc}{w:Bo}{tl:↑Int}{af:Pn}{Z:SV}{H:Hp}{s:Aj}{v:V}{u:Ae}(I:Inv X af Z H s)(r:RelV v u)(h:∃a es,v=.ref a/\H a=aa (.ext (dJ P w tl a es))):s.TypeIs u "dict"/\∀a,u=.ref a->∃ob,s.heap.get? a=aa ob/\ob.dict=ae:=by
 let⟨a,es,rfl,e⟩:=h;cases (show u=Value.ref a from r);let⟨o,m,ep,xs,S,hc,hd,_⟩:=(show bZ X.prog X.w H s.heap a (.ext (dJ P w tl a es)) from I.hok a _ e).1;refine⟨⟨o,S,hc.1⟩,λb g=>?_⟩;cases g;exact⟨o,S,hc.2.1⟩
abbrev HI(P:Bc)(w:Bo)(tl:↑Int)(to:aS)(tk O:aS):aS:=λU M R=>to U M λd I=>Z7 P w tl d I/\tk U I λb f=>O U f λv H=>∃a kvs x,d=.ref a/\H a=aa (.dn P w tl kvs)/\b=fQ tl x/\↥kvs<Ax/\
 (∀J,aQ kvs x=aa J->R J H)/\(aQ kvs x=ae->R v (put H a (.dn P w tl (kvs++[(x,v)]))))
abbrev PN(K:Ac)(H:Hp)(M:Mm)(tl:↑Int)(es:↑(bP×An×V))(kvs:↑(bP×W)):Prop:=Ey (λ(e:bP×An×V) (p:bP×W)=>e.1=p.1/\iB H tl e.1 e.2.1/\AV K H M e.2.2 p.2) es kvs
theorem PN.look{K:Ac}{H:Hp}{M:Mm}{tl:↑Int}{es:↑(bP×An×V)}{kvs:↑(bP×W)}(q:PN K H M tl es kvs)(hn:(es.map (·.1)).Nodup)(x:bP):(aQ kvs x=ae/\∀e∈es,e.1≠x)\/∃w,aQ kvs x=aa w/\∀c v,(x,c,v)∈es->AV K H M v w:=by
 induction q with
 | nil=>exact .inl ⟨rfl,λe Y=>nomatch Y⟩
 | @cons p z ps d h t E=>
  rw[Bd,Ca]at hn;let⟨O,p2,f⟩:=p;let⟨U,R⟩:=z;let⟨rfl,_,h3⟩:=h;unfold aQ at E⊢;rw[Cq]
  by_cases J:O=x
  .subst J;rw[Vi rfl];refine .inr ⟨R,rfl,λc v P=>?_⟩;rcases Au.mp P with e|P
   .cases e;exact h3
   .exact absurd (Ap.mpr ⟨_,P,rfl⟩) hn.1
  .rw[Vj J];rcases E hn.2 with⟨a,i⟩|⟨w,a,i⟩
   .refine .inl ⟨a,λe Y=>?_⟩;rcases Au.mp Y with rfl|Y
    .exact J
    .exact i e Y
   .refine .inr ⟨w,a,λc v P=>?_⟩;rcases Au.mp P with e|P
    .cases e;exact absurd rfl J
    .exact i c v P
theorem Z8(nx:NX es xs):es.map (·.1)=xs.map (·.1):=by
 induction nx with
 | nil=>rfl
 | cons h _ E=>rw[Bd,Bd,E,h.1]
theorem dJ.nodup(x:dJ P w tl a es h):(es.map (·.1)).Nodup:=by
 let⟨o,m,ep,xs,_,_,_,_,nx,hn,_⟩:=x;rw[Z8 nx];exact hn
theorem PN.keys{K:Ac}{H:Hp}{M:Mm}{tl:↑Int}{es:↑(bP×An×V)}{kvs:↑(bP×W)}(q:PN K H M tl es kvs):aK K H M (es.map λe=>V.ref e.2.1) (kvs.map λp=>fQ tl p.1):=by
 induction q with
 | nil=>exact .nil
 | @cons p z ps d h _ E=>
  refine .cons ?_ E;show AV K H M (.ref p.2.1) (fQ tl z.1);rw[<-h.1];exact iB.av h.2.1
theorem PN.vals{K:Ac}{H:Hp}{M:Mm}{tl:↑Int}{es:↑(bP×An×V)}{kvs:↑(bP×W)}(q:PN K H M tl es kvs):aK K H M (es.map λe=>e.2.2) (kvs.map λp=>p.2):=by
 induction q with
 | nil=>exact .nil
 | cons h _ E=>exact .cons h.2.2 E
theorem PN.ats{K:Ac}{H:Hp}{M:Mm}{tl:↑Int}{es:↑(bP×An×V)}{kvs:↑(bP×W)}(q:PN K H M tl es kvs):∀z∈es,iB H tl z.1 z.2.1:=by
 induction q with
 | nil=>intro z hz;cases hz
 | cons h _ E=>
  intro z hz;rcases Au.mp hz with rfl|hz
  .exact h.2.1
  .exact E z hz
theorem Z9(G:X.A.units+2<Fd)(S:E3 X o to)(hk:E3 X ek tk)(m:E3 X ev tv)(hbase:Gu o "setdefault" X.env (Eu o X.env)=Eu o X.env:=by rfl)(hfew:((Mg cpos (Cp [ek,ev] X.env)).all (λx=>!x.1)&&(Oe cpos (La [] X.env)).all (λx=>x.1.isSome)&&decide (↥([ek,ev]:↑Cg)+↥([]:↑Px)+(if ([]:↑Px).isEmpty then 0 else 1)<30))=ab:=by rfl)(hline:(apos.endLine==cpos.line)=ab:=by rfl)(l:Cp [ek,ev] X.env=(ac,Eu ek X.env)::Cp [ev] X.env:=by rfl)(hs2:Cp [ev] X.env=(ac,Eu ev X.env)::Cp [] X.env:=by rfl)(hplain:(Mg cpos (Cp [ev] X.env)).any (·.1)=ac:=by rfl):
  E3 X (.Call (.Attribute o "setdefault" apos) [ek,ev] [] cpos) (HI X.prog X.w tl to tk tv):=by
 have P:fJ X "dict.setdefault" (λd vs H Q=>∃M R w kw ww a kvs x y z,AM X.K H M/\d=.ref a/\vs=[y,z]/\AV X.K H M y kw/\AV X.K H M z ww/\M a=aa (.dn X.prog X.w tl kvs)/\kw=fQ tl x/\↥kvs<Ax/\(∀w0,aQ kvs x=aa w0->R w0 M)/\(aQ kvs x=ae->R ww (put M a (.dn X.prog X.w tl (kvs++[(x,ww)]))))/\w=()/\Up X.K H M R Q):=by
  rintro af s Z H d vs v us Q I rd rs ⟨M,R,_,kw,ww,a,kvs,x,y,z,Y,rfl,rfl,ay,az,e,rfl,hl,O,L,_,k⟩;cases (show v=Value.ref a from rd);let⟨u,u1,rfl,ru,ru1⟩:=vals2 rs;let⟨es,D,q⟩:=Y _ _ e;let⟨b,rfl,nb⟩:=Z5 ay;cases (show u=Value.ref b from ru);have nd:=dJ.nodup (pX I D);have lk:=PN.look q nd x;refine Z4 G I D (PN.ats q) nb ru1 (by rw[Cw q];exact hl) (λc v0 w' C P I' rw'=>?_) λhno C I'=>?_
  .rcases lk with⟨_,l2⟩|⟨w,l1,l2⟩
   .exact absurd rfl (l2 _ P)
   .exact⟨_,H,I',rw',k.at Y (l2 c v0 P) (O w l1)⟩
  .rcases lk with⟨l1,_⟩|⟨w,l1,l2⟩
   .have g:=oK (o:=.dn X.prog X.w tl (kvs++[(x,ww)])) (u:=.ext (dJ X.prog X.w tl a (es++[(x,b,z)]))) Y e;let⟨am3,k3⟩:=Y.write (o:=.dn X.prog X.w tl (kvs++[(x,ww)])) (u:=.ext (dJ X.prog X.w tl a (es++[(x,b,z)]))) e ⟨_,bY,HD (Paired.mapP q λp r t=>⟨t.1,let ⟨pa,n1,n2⟩:=t.2.1;⟨pa,g.ht _ _ n1,g.ht _ _ n2⟩,t.2.2.go g⟩) (.cons ⟨rfl,let ⟨pa,n1,n2⟩:=nb;⟨pa,g.ht _ _ n1,g.ht _ _ n2⟩,az.go g⟩ .nil)⟩;exact⟨_,_,I',ru1,k _ _ _ _ k3 am3 (az.wr Y e) (L l1)⟩
   .exfalso;have:∀{es:↑(bP×An×V)} {kvs:↑(bP×W)},PN X.K H M tl es kvs->(∀z∈es,z.1≠x)->aQ kvs x=ae:=by
     intro es kvs q
     induction q with
     | nil=>intro _;rfl
     | @cons p r ps rs h t E=>
      intro hz;unfold aQ at E⊢;rw[Cq,Vj (by rw[<-h.1];exact hz p Bl)];exact E λy f=>hz y (Bj _ f)
    rw[this q hno]at l1;cases l1
 refine(Z2 (tq:=λx H=>∃a es,x=.ref a/\H a=aa (.ext (dJ X.prog X.w tl a es))) Mu Lj PySem.F.type_dict_setdefault P S (eC hk (eC m e8 hs2) l) (λaf Z H s x v I r h=>HH I r h) hbase hfew hline l hplain).weak ?_;rintro Z H Q ⟨U,M,R,n,Y,h,k⟩;refine⟨U,M,_,n,Y,h,λd J wd B N j ad K=>?_⟩;obtain⟨⟨a,kvs,D,T⟩,O⟩:=K;subst D;cases ad;let⟨es,e3,q⟩:=j _ _ T;refine⟨⟨a,es,rfl,e3⟩,U,B,λws M3=>match ws with | [kw,v]=>∃a' kvs x,W.ref a=.ref a'/\M3 a'=aa (.dn X.prog X.w tl kvs)/\kw=fQ tl x/\↥kvs<Ax/\(∀w0,aQ kvs x=aa w0->R w0 M3)/\(aQ kvs x=ae->R v (put M3 a' (.dn X.prog X.w tl (kvs++[(x,v)]))))|_=>False,n.kp Y N,j,?_,λvs H2 ws M2 k2 i avs r=>?_⟩
 .exact O
 .match ws,r with
  | [kw,ww],⟨a',kvs,x,ea,e4,e5,hl,g1,g2⟩=>
   cases ea;let⟨y,z,rfl,ay,az⟩:=avs.two;exact⟨M2,R,(),kw,ww,a,kvs,x,y,z,i,rfl,rfl,ay,az,e4,e5,hl,g1,g2,rfl,k.kp (N.trans k2)⟩
end
section
variable {X:Cx}{af:Pn}{Z:St}{H:Hp}{s:Aj}{a d:An}{es:↑(bP×An×V)}{tl:↑Int}{A:Cs}{E:Ae->Aj->Prop}
theorem zaa{prog:Bc}{w:Bo}{m:Array Eg}{ep:Nat}{Q:Ae->Aj->Prop}(hd:(d==Fn)=ac)(P:gK s.heap d m ep)(K:Q (.ref ⇑s) {s with heap:=s.heap.push {cls:=.type "dict_values",data:=.fields #[.ref d]}}):Bk (Dj prog w) A (call (.builtin "dict.values") [.ref d]) Q E s:=
 Iw PySem.F.slot_dict_values P.typeIs PySem.F.entry_dict_values (PySem.F.args_dict_values_1 _) (S:=λ_ R g=>gK g.heap d m ep/\R (.ok (.ret (.ref ⇑g))) {g with heap:=g.heap.push {cls:=.type "dict_values",data:=.fields #[.ref d]}})
  (.of_wp λA R g ⟨J,p⟩=>by
   refine Aa ?_;unfold Builtin.Dict.noArgs;refine Aa (Gx J.typeIs (Ag ?_));show Bk _ _ (Ka d>>=_) _ _ _;unfold Ka;rw[Vf (by rw[hd];exact Bf)];exact Aa (Ag (Aa (Dh (Ag ⟨_,rfl,p⟩))))) ⟨P,K⟩
theorem rZ(x:dJ P w tl a es h):∃m ep,gK h a m ep/\m.size=↥es/\m.size<=Ax/\(a==Fn)=ac/\
  (∀(j:Nat) (e:Eg),m[j]? = aa e->∃z:bP×An×V,es[j]? = aa z/\e.key=.ref z.2.1/\RelV z.2.2 e.val):=by
 let⟨o,m,ep,xs,O,L,h3,F,nx,_,J,X⟩:=x;have D:=Kn F;have A:=Cw nx;refine⟨m,ep,⟨o,O,L,h3⟩,by lia,by lia,X,λj e Y=>?_⟩;rw[Su F j]at Y;let⟨q,Z,rfl⟩:=Az.mp Y;have key:∀{es:↑(bP×An×V)} {xs:↑(bP×An×Ae)} {j:Nat} {q:bP×An×Ae},NX es xs->xs[j]? = aa q->∃z,es[j]? = aa z/\z.2.1=q.2.1/\RelV z.2.2 q.2.2:=by
  intro es xs j q n
  induction n generalizing j with
  | nil=>intro h;simp at h
  | @cons p z ps d h t E=>
   intro hj;cases j with
   | zero=>simp at hj;subst hj;exact⟨p,rfl,h.2.1,h.2.2⟩
   | succ j=>rw[Ep]at hj⊢;exact E hj
 let⟨z,G,T,l⟩:=key nx Z;exact⟨z,G,by show Value.ref q.2.1=_;rw[T],l⟩
theorem zV{n:Nat}{P:Nat->Ae->Prop}{b:Ds->Prop}(hc:X.calm=ab)(I:Inv X af Z H s)(S:PySem.W.KdlSrc X.prog X.w T r d n P b)(ok:b s.heap)(hn:n<=Ax)(J:↥xs=n)(A:∀j v,P j v->∃x,xs[j]? = aa x/\RelV x v)(q:∀l,H l=ae->Q (.ref l) (aL H l (.lst xs))):X.a (call (.type "list") [.ref r]) (EP X af Z Q) X.xe s:=by
 refine PySem.W.kdl_call S (I.ok.hd hc) ok hn λh' tk t M hk Y U=>?_;refine⟨.ref ⇑s,_,I.laid (o:=.lst xs) (t':=tk) hk (Ai _) ⟨by rw[J];exact hn,t.toList,M,?_,by rw[Hr];exact Y⟩,rfl,q _ (I.hok.fresh (Ai _))⟩;refine qV (by have O:=U.1;have L:↥t.toList=t.size:=Fs;lia) λj v c=>?_;exact A j v (U.2 j v (by rw[<-Ft];exact c))
end
section
variable {X:Cx}
abbrev HJ(P:Bc)(w:Bo)(tl:↑Int)(to:aS):aS:=λU M R=>to U M λd I=>∃a kvs,d=.ref a/\I a=aa (.dn P w tl kvs)/\∀p,I p=ae->R (.ref p) (put I p (.vw a))
theorem zab(S:E3 X o to)(W:Gu o "values" X.env (Eu o X.env)=Eu o X.env:=by rfl)(y:(b.endLine==f.line)=ab:=by rfl):
  E3 X (.Call (.Attribute o "values" b) [] [] f) (HJ X.prog X.w tl to):=by
 have P:fJ X "dict.values" (λx vs H Q=>∃M R a kvs,AM X.K H M/\x=.ref a/\vs=[]/\M a=aa (.dn X.prog X.w tl kvs)/\(∀p,M p=ae->R (.ref p) (put M p (.vw a)))/\Up X.K H M R Q):=by
  rintro af s Z H x vs v us Q I N rs ⟨M,R,a,kvs,Y,rfl,rfl,e,h,k⟩;cases (show v=Value.ref a from N);cases rs;let⟨es,D,q⟩:=Y _ _ e;let⟨m,ep,T,_,_,g,_⟩:=rZ (pX I D);have hf:=I.hok.fresh (Ai ⇑s);let⟨E,t⟩:=Y.laid (o:=.vw a) (u:=.ext λh=>h.IsValuesView ⇑s a) hf bY;refine zaa g T ⟨.ref ⇑s,_,I.laid (a:=⇑s) (o:=.ext λh=>h.IsValuesView ⇑s a) (t':=s.toks) (λ_ _ z=>Ah _ z) (Ai _) ⟨⟨_,Bb _ rfl,rfl,rfl⟩,⟨_,Bb _ rfl⟩,λO L ⟨o,S,r⟩ kk=>⟨o,kk o S,r⟩⟩,rfl,k _ _ _ _ t E (.ref _) (h _ (Y.nonM hf))⟩
 refine(Z3 (tq:=λx H=>∃a es,x=.ref a/\H a=aa (.ext (dJ X.prog X.w tl a es))) Mu PySem.F.slot_dict_values PySem.F.type_dict_values P S (λaf Z H s x v I r h=>HH I r h) W y).weak ?_;rintro Z H Q ⟨U,M,R,J,Y,h,k⟩;refine⟨U,M,_,J,Y,h,λd l wd B V j c K=>?_⟩;let⟨a,kvs,D,A,O⟩:=K;subst D;cases c;let⟨es,C,q⟩:=j _ _ A;exact⟨⟨a,es,rfl,C⟩,B,R,a,kvs,j,rfl,rfl,A,O,k.kp V⟩
def zW(P:Bc)(w:Bo)(tl:↑Int):↑W->Mm->K3->Prop
 | [.ref a],M,R=>(∃kvs,M a=aa (.dn P w tl kvs)/\aR (kvs.map λp=>fQ tl p.1) M R)\/∃d kvs,M a=aa (.vw d)/\M d=aa (.dn P w tl kvs)/\aR (kvs.map λp=>p.2) M R
 | _,_,_=>False
theorem zac(hc:X.calm=ab):cN X (.type "list") (eR X.K (zW X.prog X.w tl)):=by
 rintro af s Z H xs us Q I rs ⟨ws,M,R,Y,E,h,k⟩
 match ws,h with
 | [.ref a],h=>
  let⟨v,rfl,av⟩:=E.one;cases av;let⟨u,rfl,ru⟩:=vals1 rs;cases (show u=Value.ref a from ru);rcases h with⟨kvs,e,r⟩|⟨d,kvs,F,e,r⟩
  .let⟨es,D,q⟩:=Y _ _ e;let⟨m,ep,T,O,L,b,f⟩:=rZ (pX I D);refine zV hc I (ES (es:=m) (ep:=ep) b) T L (xs:=es.map λe=>V.ref e.2.1) (by rw[Ab];exact O.symm) (λj v W=>?_) λl hl=>gY Y k hl (PN.keys q) r;let⟨en,C,c⟩:=W;let⟨z,G,J,_⟩:=f j en C;exact⟨.ref z.2.1,by rw[Av,G];rfl,by rw[c,J];rfl⟩
  .let⟨es,D,q⟩:=Y _ _ e;have A:H a=aa (.ext λh=>h.IsValuesView a d):=Y _ _ F;have c:s.heap.IsValuesView a d:=(show bZ X.prog X.w H s.heap a (.ext λh=>h.IsValuesView a d) from I.hok a _ A).1;let⟨m,ep,T,O,L,b,f⟩:=rZ (pX I D);refine zV hc I (V8 (r:=a) (d:=d) (es:=m) (ep:=ep)) ⟨c,T⟩ L (xs:=es.map λe=>e.2.2) (by rw[Ab];exact O.symm) (λj v U=>?_) λl hl=>gY Y k hl (PN.vals q) r;let⟨en,C,c⟩:=U;let⟨z,G,_,P⟩:=f j en C;exact⟨z.2.2,by rw[Av,G];rfl,by rw[c];exact P⟩
end
end L2
namespace PySem
namespace Tr
open PySem.AutoSeq1 (wpAny_loadPart')
section
variable {prog:Bc}{w:Bo}{A:Cs}{E:Ae->Aj->Prop}{s:Aj}
theorem zad{Q:↑Ae->Aj->Prop}{n:Nat}{b:Int}(hh:A.handled=ae)(hr:IsRange s.heap r 0 b 1 t u v)(hsm:Builtin.Range.small 0 b 1=ab)(hn:Hm 0 b 1=n)(hl:n<=2 ^ 24)(hQ:∀h' tk acc',(∀c o,s.heap.get? c=aa o->h'.get? c=aa o)->Uc (λi v=>∃t,v=.int (0+i*1) t) acc' n->Q acc'.toList {s with heap:=h',toks:=tk}):
  Bk (Dj prog w) A (collect (.ref r)) Q E s:=by
 unfold collect;refine Aa (wpAny_runValue (Ko F.entry_proto_collect ?_));rw[Hn F.plain_proto_collect _];show Bk _ A.in1 (newList []>>=λl=>again (.builtin "list.__iadd__" ⟨[l,.ref r],[]⟩)) _ _ s;refine Aa (Dh (Ag ⟨Nq F.plain_list_iadd _,Ko F.entry_list_iadd ?_⟩));rw[Hn F.plain_list_iadd _];show Bk _ A.in1 (Builtin.List.listExtendWith (.ref ⇑s) (.ref r) (.ref ⇑s)) _ _ _;have g0:(s.heap.push {cls:=.type "list",data:=.seq ([]:↑Ae).toArray}).get? ⇑s=aa {cls:=.type "list",data:=.seq #[] 0}:=Bb _ rfl;have last:∀(h':Ds) (tk:Nat) (acc:Array Ae) (c:Nat),(∀b o,b≠⇑s->(s.heap.push {cls:=.type "list",data:=.seq ([]:↑Ae).toArray}).get? b=aa o->h'.get? b=aa o)->h'.get? ⇑s=aa {cls:=.type "list",dict:=ae,data:=.seq acc c,slots:=#[]}->Uc (λi v=>∃t,v=.int (0+i*1) t) acc n->
   Bk (Dj prog w) A (match Value.ref ⇑s with
   | Value.ref a=>do
    match (<-load a).data with
     | Data.seq xs _=>pure xs.toList
     | _=>unsupported "internal:collect"
   | _=>unsupported "internal:collect") Q E {s with heap:=h',toks:=tk}:=by
  intro h' tk acc c hk hS hacc;show Bk _ A (load ⇑s>>=_) _ _ _;exact Aa (wpAny_load hS (Ag (hQ h' tk acc (λb o e=>hk b o (Br (Bg e)) (Ah _ e)) hacc)))
 refine Ig (wpAny_extend_range (A:=A) (R:=λq s'=>∃h' tk acc c,q=.ok (.ret (.ref ⇑s))/\s' = {s with heap:=h',toks:=tk}/\(∀b o,b≠⇑s->(s.heap.push {cls:=.type "list",data:=.seq ([]:↑Ae).toArray}).get? b=aa o->h'.get? b=aa o)/\h'.get? ⇑s=aa {cls:=.type "list",dict:=ae,data:=.seq acc c,slots:=#[]}/\Uc (λi v=>∃t,v=.int (0+i*1) t) acc n)
  (s:={s with heap:=s.heap.push {cls:=.type "list",data:=.seq ([]:↑Ae).toArray}}) hh (Ah _ hr) hsm hn hl _ (.ref ⇑s) 0 g0 λh' tk acc c hk hS hacc=>⟨h',tk,acc,c,rfl,rfl,hk,hS,hacc⟩) (λfin s' h=>?_) (λe s' h=>?_)
 .cases fin with
  | done f=>
   let⟨h',tk,acc,c,e,rfl,q1,q2,q3⟩:=h;cases e;exact last h' tk acc c q1 q2 q3
  | again c'=>exact⟨h.1,Oq h.2 λq s'' hr=>by let⟨h',tk,acc,c,rfl,rfl,q1,q2,q3⟩:=hr;exact last h' tk acc c q1 q2 q3⟩
 .let⟨h',tk,acc,c,e,_⟩:=h;cases e
theorem made{n:Nat}{b:Int}{Q:Ae->Aj->Prop}(hh:A.handled=ae)(T:IsRange s.heap r 0 b 1 t u v)(C:Builtin.Range.small 0 b 1=ab)(hn:Hm 0 b 1=n)(hl:n<=2 ^ 24)(h:∀(h':Ds) (tk:Nat) (acc:Array Ae),(∀c o,s.heap.get? c=aa o->h'.get? c=aa o)->Uc (λi v=>∃t,v=.int (0+i*1) t) acc n->Q (.ref h'.objs.size) {s with heap:=h'.push {cls:=.type "tuple",data:=.seq acc},toks:=tk}):
  Bk (Dj prog w) A (call (.type "tuple") [.ref r]) Q E s:=by
 refine callType_newIn F.called_tuple ∅ (F.typeCall_tuple_1 _) (F.newCall_tuple_1 _) (λobj=>F.args_object_init_2 obj _) F.entry_tuple_new
  (S:=λA R s=>A.handled=ae/\IsRange s.heap r 0 b 1 t u v/\∀(h':Ds) (tk:Nat) (acc:Array Ae),(∀c o,s.heap.get? c=aa o->h'.get? c=aa o)->Uc (λi v=>∃t,v=.int (0+i*1) t) acc n->R (.ok (.ret (.ref h'.objs.size))) {s with heap:=h'.push {cls:=.type "tuple",data:=.seq acc},toks:=tk})
  (.of_wp λA R s h=>?_) ⟨hh,T,λh' tk acc hk U=>⟨⟨_,Bb _ rfl,rfl⟩,h h' tk acc hk U⟩⟩
 let⟨N,g,d,tk,os⟩:=s;let⟨D,ht,h⟩:=h;have a:=sub_tuple_self;have e:=init_tuple_lookup;have f:=madeHere_tuple;have I:Shared.TypeIs ⟨N,g,d,tk,os⟩ (.ref r) "range":=⟨_,ht,rfl⟩
 wp_walk using wpAny_loadPart' ht,Mo I,zad (A:=A.in1) D ht C hn hl
 intro h' tk acc hk U;show Bk _ _ (Gr acc.toList.toArray>>=λv=>ret v) _ _ _;unfold Gr;refine Aa (Dh ?_ (by show acc.toList.toArray.size<=Ax;rw[Hr,U.1,Jq];exact hl));refine Ag ⟨_,rfl,?_⟩;rw[Hr];exact h h' tk acc hk U
end
end Tr
end PySem
namespace L2
section
variable {X:Cx}{a:Cg}{ta:TA}{p p2 pos pos2:Hu}
def zae(ta:TA):TE:=λZ H Q=>ta Z H λvs z=>∃n:Nat,vs=[.int n]/\n<=1000/\∀q,z q=ae->Q (.ref q) (aL z q (.tup ((Ci n).map λ(i:Nat)=>V.int i)))
theorem zaf(hc:X.calm=ab)(hg:Gl X "tuple")(hm:X.mg "tuple" = ae)(hg2:Gl X "range")(hm2:X.mg "range" = ae)(ha:PA X [a] ta)(hs1:Cp [.Call (.Name "range" p2) [a] [] pos2] X.env=[(ac,Eu (.Call (.Name "range" p2) [a] [] pos2) X.env)]:=by rfl)(hs2:Cp [a] X.env=[(ac,Eu a X.env)]:=by rfl):
  PE X (.Call (.Name "tuple" p) [.Call (.Name "range" p2) [a] [] pos2] [] pos) (zae ta):=by
 intro af s Z H Q I h;refine Ej (iJ I hg hm (by decide +kernel:Cr "tuple" = aa (.type "tuple")) (Cj ?_ hs1 rfl));rw[hs1];refine Me (Ej (iJ I hg2 hm2 (by decide +kernel:Cr "range" = aa (.type "range")) (Cj (thn (ha pos2 af s Z H _ I h) λus s1 z0=>?_) hs2 rfl)));let⟨vs,H1,I1,r1,q1⟩:=z0;let⟨n,rfl,hn,q⟩:=q1;let⟨u,rfl,ru⟩:=vals1 r1;let⟨t,rfl⟩:=ru;refine Tw (Ml ?_);have sz:Hm 0 (n:Int) 1=(n:Nat):=by rw[Tc];split<;>lia
 refine Tr.made (n:=n) (b:=(n:Int)) (I1.ok.hd hc) (Sm _ _ _ _ _ _ _) (PySem.small_one ∅ ∅ (by lia) (by lia)) sz (by lia) λh' tk acc hk hacc=>?_;have up:∀b o,s1.heap.get? b=aa o->h'.get? b=aa o:=λb o e=>hk b o (Ah _ e);have le:⇑s1<=h'.objs.size:=by
  exact Hf (Bg (hk ⇑s1 _ (Bb _ rfl)))
 refine⟨.ref h'.objs.size,_,I1.laid (a:=h'.objs.size) (o:=.tup ((Ci n).map λ(i:Nat)=>V.int i)) (t':=tk) (λb o e=>Ah _ (up b o e)) le ⟨by simp[Jq];lia,acc.toList,?_,⟨_,Bb _ rfl,rfl,0,by simp⟩⟩,rfl,q _ (I1.hok.fresh le)⟩;refine qV (by simp[hacc.1]) λj v hv=>?_;have hv':acc[j]? = aa v:=by simpa using hv
 let⟨t',rfl⟩:=hacc.2 j v hv';have hj:j<n:=by have:=(Jc.mp hv').1;rw[hacc.1]at this;exact this
 refine⟨.int j,?_,t',by simp⟩;simp[hj]
end
section
variable {X:Cx}{a:Cg}{ta:aS}
abbrev HK(ta:aS):aS:=λU M R=>ta U M λw I=>∃n:Nat,w=.int n/\n<=1000/\R (.tup ((Ci n).map λ(i:Nat)=>W.int i)) I
theorem zag(L:Gl X "tuple")(P:X.mg "tuple" = ae)(x:Gl X "range")(y:X.mg "range" = ae)(m:E3 X a ta)(hc:X.calm=ab:=by rfl)(G:Cp [.Call (.Name "range" p2) [a] [] pos2] X.env=[(ac,Eu (.Call (.Name "range" p2) [a] [] pos2) X.env)]:=by rfl)(D:Cp [a] X.env=[(ac,Eu a X.env)]:=by rfl):
  E3 X (.Call (.Name "tuple" p) [.Call (.Name "range" p2) [a] [] pos2] [] pos) (HK ta):=
 (zaf hc L P x y (eC m e8 (D.trans rfl)) G D).weak λC H Q B=>B.el λU M R J Y h k=>⟨U,M,λws I=>match ws with | [w]=>∃n:Nat,w=.int n/\n<=1000/\R (.tup ((Ci n).map λ(i:Nat)=>W.int i)) I|_=>False,J,Y,h,λvs z ws I s j S r=>by
  match ws,r with
  | [w],⟨n,e,hn,r⟩=>
   subst e;let⟨v,rfl,av⟩:=S.one;obtain rfl:=av.inv;refine⟨n,rfl,hn,λq Z=>?_⟩;let⟨T,t⟩:=j.tup (u:=.tup ((Ci n).map λ(i:Nat)=>V.int i)) Z;refine k _ _ _ _ (s.trans t) T (.tup bY ?_) r;have:∀l:↑Nat,aK X.K (aL z q (.tup ((Ci n).map λ(i:Nat)=>V.int i))) I (l.map λ(i:Nat)=>V.int i) (l.map λ(i:Nat)=>W.int i):=by
    intro l
    induction l with
    | nil=>exact .nil
    | cons i r E=>exact .cons (.int _) E
   exact this _⟩
def HL:↑W->Mm->K3->Prop
 | [.ref a],M,R=>∃kvs:↑(↑aC×W),M a=aa (.dT kvs)/\aR (kvs.map λp=>.tup (p.1.map wK)) M R
 | _,_,_=>False
theorem zah(hc:X.calm=ab):cN X (.type "list") (eR X.K HL):=by
 rintro B s C H xs us Q I rs ⟨ws,M,R,Y,G,h,k⟩
 match ws,h with
 | [.ref a],⟨kvs,e,r⟩=>
  let⟨v,rfl,av⟩:=G.one;obtain rfl:=av.inv;let⟨u,rfl,ru⟩:=vals1 rs;cases (show u=Value.ref a from ru);let⟨ks,D,q⟩:=Y _ _ e;let⟨z,b,ys,J,x⟩:=qR I.hok D;let⟨o,m,ep,S,L,hd,d,_,_⟩:=x;have i:=Kn d;have n:=Cw J;refine zV hc I (ES (es:=m) (ep:=ep) b) ⟨o,S,L,hd⟩ (by lia) (xs:=ys.map λy=>V.ref y.2.1) (by rw[Ab];lia) (λj v ⟨en,F,c⟩=>?_) λl hl=>gY Y k hl ?_ r
  .rw[Su d j]at F;let⟨y,f,rfl⟩:=Az.mp F;exact⟨.ref y.2.1,by rw[Av,f];rfl,by rw[c];rfl⟩
  .have:∀{ks:↑(↑aC×V)} {kvs:↑(↑aC×W)} {ys:↑(↑aC×An×Ae)},bQ X.K H M (↑aC) ks kvs->KT H ks ys->aK X.K H M (ys.map λy=>V.ref y.2.1) (kvs.map λp=>.tup (p.1.map wK)):=by
    intro ks kvs ys q
    induction q generalizing ys with
    | nil=>intro J;cases J;exact .nil
    | @cons p z ps A h t E=>
     intro J;cases J with
     | @cons _ y _ w g t'=>
      refine .cons ?_ (E t');have T:=g.2.1;rw[h.1]at T;exact .tup T (vF z.1)
   exact this q J
end
end L2
namespace PySem
namespace Zd
open L2 Zt
section
variable {prog:Bc}{w:Bo}{A:Cs}{E:Ae->Aj->Prop}{s:Aj}
variable {z TI TO i1 i2 l1 l2:An}{xs ys:Array Ae}{S1 S2:Nat->Ds->Prop}
abbrev pY(h:Ds)(z TI TO p:An)(b:Bool):Prop:=
 h.get? z=aa {cls:=.type "zip",dict:=ae,data:=.fields #[He p,.bool b,.bool ac,.ref TI,.ref TO],slots:=#[]}
theorem HM{b:Bool}{Q:Bool->Aj->Prop}(hz:pY s.heap z TI TO p b)(N:s.heap.get? p=aa o)(h:∀h',pY h' z TI TO p ab->Ek z s.heap h'->Q ac {s with heap:=h'}):
  Bk (Dj prog w) A (Cv (.ref z)) Q E s:=by
 unfold Cv;refine Aa (Dk hz rfl (x:=He p) rfl ?_);show Bk _ _ (loadIfAlive ((p:Int).toNat)>>=_) _ _ _;rw[De];refine Aa (PySem.W.kdx_alive N ?_);simp only[Option.isNone_some,Fg,if_false];refine Aa (Dk hz rfl (x:=.bool b) rfl ?_);cases b with
 | true=>
  rw[Vf (show ¬((Value.bool ab !=Value.bool ab)=ab) from Bf)];exact Ag (h _ hz (Heap.SameBut.refl _ _))
 | false=>
  rw[Vg (show(Value.bool ac !=Value.bool ab)=ab from rfl)];exact Aa (Fl hz (by simp) λh' G u=>Ag (h h' G u))
theorem zai{k:Nat}{b:Bool}{Q:Ae->Aj->Prop}(D:Zt.Apart z TI TO i1 i2 l1 l2)(r:eY prog w i1 l1 xs S1)(n:eY prog w i2 l2 ys S2)(hz:pY s.heap z TI TO p b)(N:s.heap.get? p=aa o)(u:Hv s.heap TI (.ref i1) (.ref i2))(O:S1 k s.heap)(L:S2 k s.heap)(J:xs[k]? = aa x)(f:ys[k]? = aa y)(K:∀h',pY h' z TI TO p ab->S1 (k+1) h'->S2 (k+1) h'->Hv h' ⇑s x y->(∀c o,c≠z->c≠i1->c≠i2->s.heap.get? c=aa o->h'.get? c=aa o)->Q (.ref ⇑s) {s with heap:=h'}):
  Bk (Dj prog w) A (Ha.«zip.__next__» ⟨[.ref z],[]⟩) (λfin W=>∃v,fin=.done (.ret v)/\Q v W) E s:=by
 have nd:=D.nd;simp only[Ca,Au,Em,or_false,not_or,not_false_eq_true,Dx,and_true]at nd;obtain⟨⟨zI,zO,U,R⟩,⟨IO,M,i⟩,⟨O1,O2⟩,h⟩:=nd;let⟨F,aI,aO,l,P⟩:=D.a;let⟨bz,bI,bO,H,I⟩:=D.b;have V:∀c,c=i1\/c=l1->c≠z/\c≠i2:=λc hc=>by
  rcases hc with rfl|rfl
  .exact⟨Bx U,h⟩
  .exact⟨F,P⟩
 have B:∀c,c=i2\/c=l2->c≠z/\c≠i1:=λc hc=>by
  rcases hc with rfl|rfl
  .exact⟨Bx R,Bx h⟩
  .exact⟨bz,H⟩
 show Bk _ _ (Qg (.ref z) 2>>=λq=>_) _ _ _;refine Aa (Dk hz rfl (x:=.bool ac) rfl ?_);show Bk _ _ (Qg (.ref z) 3>>=λq=>_) _ _ _;refine Aa (Dk hz rfl (x:=.ref TI) rfl (Aa (Fb u rfl ?_)));show Bk _ _ (Cv (.ref z)>>=λq=>_) _ _ _;refine Aa (HM hz N λG d g=>?_);simp only[Fg,if_false];refine Aa ?_;rw[<-Kb];simp only[Jz,Oi];refine Aa (Aa (Dn ?_));show Bk _ _ (Cy (.ref i1)>>=λq=>_) _ _ _;refine Aa (r.item _ _ {s with heap:=G} k x _ (r.keep k _ _ O λc hc o e=>g.extBut c o (V c hc).1 e) J λT X C=>Ag ?_);refine Ag ?_;refine Aa (Aa (Dn ?_));show Bk _ _ (Cy (.ref i2)>>=λq=>_) _ _ _;refine Aa (n.item _ _ {s with heap:=T} k y _ (n.keep k _ _ L λc hc o e=>C.extBut c o (B c hc).2 (g.extBut c o (B c hc).1 e)) f λZ Y j=>Ag ?_);refine Ag (Ag ?_);refine Aa (wpAny_newTuple (Ag ⟨_,rfl,?_⟩) (hsz:=by show 2<=Ax;decide));have size3:Z.objs.size=⇑s:=by rw[j.1,C.1,g.1]
 have up:∀c o,c≠z->c≠i1->c≠i2->s.heap.get? c=aa o->(Z.push {cls:=.type "tuple",data:=.seq #[x,y]}).get? c=aa o:=λc o m S t e=>Ah _ (j.extBut _ _ t (C.extBut _ _ S (g.extBut _ _ m e)));show Q (.ref Z.objs.size) _;rw[size3];refine K _ (Ah _ (j.extBut _ _ R (C.extBut _ _ U d))) (r.keep _ _ _ X λc hc o e=>Ah _ (j.extBut _ _ (V c hc).2 e)) (n.keep _ _ _ Y λc hc o e=>Ah _ e) ?_ up;rw[<-size3];exact Bb _ rfl
theorem zaj{k:Nat}{b:Bool}{Q:Fin->Aj->Prop}(hh:A.handled=ae)(D:Zt.Apart z TI TO i1 i2 l1 l2)(r:eY prog w i1 l1 xs S1)(n:eY prog w i2 l2 ys S2)(hz:pY s.heap z TI TO p b)(N:s.heap.get? p=aa o)(j:Hv s.heap TI (.ref i1) (.ref i2))(O:S1 k s.heap)(f:xs[k]? = ae)(H:∀h' e,(∀c o,c≠z->c≠i1->s.heap.get? c=aa o->h'.get? c=aa o)->(∃o,h'.get? e=aa o/\o.cls=.type "StopIteration")->E (.ref e) {s with heap:=h'}):
  Bk (Dj prog w) A (Ha.«zip.__next__» ⟨[.ref z],[]⟩) Q E s:=by
 have nd:=D.nd;simp only[Ca,Au,Em,or_false,not_or,not_false_eq_true,Dx,and_true]at nd;obtain⟨⟨y,I,U,R⟩,⟨B,M,i⟩,⟨l,v⟩,h⟩:=nd;let⟨F,K,J,W,P⟩:=D.a;have V:∀c,c=i1\/c=l1->c≠z/\c≠i2:=λc hc=>by
  rcases hc with rfl|rfl
  .exact⟨Bx U,h⟩
  .exact⟨F,P⟩
 show Bk _ _ (Qg (.ref z) 2>>=λq=>_) _ _ _;refine Aa (Dk hz rfl (x:=.bool ac) rfl ?_);show Bk _ _ (Qg (.ref z) 3>>=λq=>_) _ _ _;refine Aa (Dk hz rfl (x:=.ref TI) rfl (Aa (Fb j rfl ?_)));show Bk _ _ (Cv (.ref z)>>=λq=>_) _ _ _;refine Aa (HM hz N λG d g=>?_);simp only[Fg,if_false];refine Aa ?_;rw[<-Kb];simp only[Jz,Oi];refine Aa (Aa (Dn ?_));show Bk _ _ (Cy (.ref i1)>>=λq=>_) _ _ _;exact Aa (r.stop _ _ {s with heap:=G} k _ hh (r.keep k _ _ O λc hc o e=>g.extBut c o (V c hc).1 e) f λT e C Y=>H T e (λc o m t u=>C _ _ t (g.extBut _ _ m u)) Y)
def Zs(d z TI TO i1 i2:An)(S1 S2:Nat->Ds->Prop)(k:Nat)(h:Ds):Prop:=
 Hv h TI (.ref i1) (.ref i2)/\S1 k h/\S2 k h/\d<h.objs.size/\z<h.objs.size/\TO<h.objs.size/\i1<h.objs.size/\i2<h.objs.size/\
  ((Qn h z TI TO .none/\∃a b,Hv h TO a b)\/∃p b o,pY h z TI TO p b/\h.get? p=aa o/\p≠z/\p≠TO/\p≠i1/\p≠i2/\p≠d)
theorem next{k:Nat}{Q:Option Ae->Aj->Prop}(D:Zt.Apart z TI TO i1 i2 l1 l2)(r:eY prog w i1 l1 xs S1)(n:eY prog w i2 l2 ys S2)(st:Zs d z TI TO i1 i2 S1 S2 k s.heap)(J:xs[k]? = aa x)(f:ys[k]? = aa y)(K:∀h',Zs d z TI TO i1 i2 S1 S2 (k+1) h'->Hv h' ⇑s x y->(∀c o,c≠z->c≠TO->c≠i1->c≠i2->s.heap.get? c=aa o->h'.get? c=aa o)->Q (aa (.ref ⇑s)) {s with heap:=h'}):
  Bk (Dj prog w) A (Hi (.ref z)) Q E s:=by
 have nd:=D.nd;simp only[Ca,Au,Em,or_false,not_or,not_false_eq_true,Dx,and_true]at nd;obtain⟨⟨zI,I,U,R⟩,⟨IO,M,i⟩,⟨e,O2⟩,h⟩:=nd;let⟨j,g,C,W,V,lO,G,v,st⟩:=st;rcases st with⟨hz,a,b,X⟩|⟨p,b,o,hz,N,O,p2,Z,H,p5⟩
 .refine next_item D r n hz j X g C J f λh' m S t u q Y=>K h' ?_ q Y;have l:=Bg q;exact⟨Y _ _ (Bx zI) IO M i j,t,u,Fp W l,Fp V l,Fp lO l,Fp G l,Fp v l,.inr ⟨⇑s,ac,_,m,q,Ct V,Ct lO,Ct G,Ct v,Ct W⟩⟩
 .have ty:s.TypeIs (.ref z) "zip":=⟨_,hz,rfl⟩;unfold Hi;refine Aa (Gz (Cu (name:=Bs "__next__") ty F.slot_zip_next (Cm F.slot_zip_next ty F.entry_zip_next (zai D r n hz N j g C J f λh' m S t u q=>Ag (K h' ?_ u λc o B T P L=>q c o B P L)) (F.args_zip_next_1 _))));have l:=Bg u;exact⟨q _ _ (Bx zI) M i j,S,t,Fp W l,Fp V l,Fp lO l,Fp G l,Fp v l,.inr ⟨p,ab,o,m,q p o O Z H N,O,p2,Z,H,p5⟩⟩
theorem done{k:Nat}{Q:Option Ae->Aj->Prop}(hh:A.handled=ae)(D:Zt.Apart z TI TO i1 i2 l1 l2)(r:eY prog w i1 l1 xs S1)(n:eY prog w i2 l2 ys S2)(st:Zs d z TI TO i1 i2 S1 S2 k s.heap)(J:xs[k]? = ae)(K:∀h',(∀c o,c≠z->c≠TO->c≠i1->c≠i2->s.heap.get? c=aa o->h'.get? c=aa o)->Q ae {s with heap:=h'}):
  Bk (Dj prog w) A (Hi (.ref z)) Q E s:=by
 let⟨j,g,C,W,V,lO,G,v,st⟩:=st;rcases st with⟨hz,a,b,X⟩|⟨p,b,o,hz,N,O,p2,f,Z,i⟩
 .exact WH hh D r n hz j X g C (.inl J) K
 .have ty:s.TypeIs (.ref z) "zip":=⟨_,hz,rfl⟩;unfold Hi;refine Aa (Gz (Cu (name:=Bs "__next__") ty F.slot_zip_next (Cm F.slot_zip_next ty F.entry_zip_next (zaj (xs:=xs) hh D r n hz N j g J λh' e hk ⟨o,S,hc⟩=>?_) (F.args_zip_next_1 _))));exact Aa (Gj (T:="StopIteration") (b:=ab) ⟨o,S,hc⟩ Pm (Ag (K _ λc o B P l L=>hk c o B l)))
theorem Zs.at{k:Nat}(D:Zt.Apart z TI TO i1 i2 l1 l2)(r:eY prog w i1 l1 xs S1)(n:eY prog w i2 l2 ys S2)(hd:d≠z/\d≠TI/\d≠TO/\d≠i1/\d≠i2/\d≠l1/\d≠l2)(st:Zs d z TI TO i1 i2 S1 S2 k h)(F:Ek d h h'):Zs d z TI TO i1 i2 S1 S2 k h':=by
 let⟨j,g,C,W,V,lO,G,v,st⟩:=st;let⟨u,I,l,m,t,s,q⟩:=hd;refine⟨(F.2 _ (Bx I)).trans j,r.keep _ _ _ g λc hc o e=>(F.2 c ?_).trans e,n.keep _ _ _ C λc hc o e=>(F.2 c ?_).trans e,by rw[F.1];exact W,by rw[F.1];exact V,by rw[F.1];exact lO,by rw[F.1];exact G,by rw[F.1];exact v,?_⟩
 .rcases hc with rfl|rfl
  .exact Bx m
  .exact Bx s
 .rcases hc with rfl|rfl
  .exact Bx t
  .exact Bx q
 .rcases st with⟨hz,a,b,X⟩|⟨p,b,o,hz,N,O,p2,f,Z,i⟩
  .exact .inl ⟨(F.2 _ (Bx u)).trans hz,a,b,(F.2 _ (Bx l)).trans X⟩
  .exact .inr ⟨p,b,o,(F.2 _ (Bx u)).trans hz,(F.2 _ i).trans N,O,p2,f,Z,i⟩
abbrev TK(prog:Bc)(w:Bo):=Hc (bR prog w)
def allH(es:↑(↑aC×An×Ae))(ps:↑(↑aC×An×Ae)):↑(↑aC×An×Ae):=ps.foldl (λes p=>Mq es p.1 p.2.1 p.2.2) es
theorem zX(es:↑(↑aC×An×Ae))(k:↑aC)(a:An)(v:Ae):↥(Mq es k a v)<=↥es+1:=by
 unfold Mq;split
 .rw[Ab];lia
 .rw[Ak,Dl];exact Ai _
theorem oU(x:(TK prog w).is h k a)(e:∀o,h.get? a=aa o->h'.get? a=aa o):(TK prog w).is h' k a:=by
 let⟨o,items,n,S,r⟩:=x;exact⟨o,items,n,e o S,r⟩
theorem loop{d:An}{ps:↑(↑aC×An×Ae)}{R:Ua->Aj->Prop}(hh:A.handled=ae)(U:(TK prog w).room A.in1)(D:Zt.Apart z TI TO i1 i2 l1 l2)(X:eY prog w i1 l1 xs S1)(n:eY prog w i2 l2 ys S2)(hd:d≠z/\d≠TI/\d≠TO/\d≠i1/\d≠i2/\d≠l1/\d≠l2)(hz:↥ps<=Ax)(J:∀j:Nat,xs[j]? = (ps[j]?).map λp=>.ref p.2.1)(f:∀j:Nat,ys[j]? = (ps[j]?).map λp=>p.2.2)(hk:∀p∈ps,p.2.1≠z/\p.2.1≠TO/\p.2.1≠i1/\p.2.1≠i2/\p.2.1≠d):
  ∀(m k:Nat) (s:Aj) (es:↑(↑aC×An×Ae)),↥ps-k=m->k<=↥ps->↥es<=k->Zs d z TI TO i1 i2 S1 S2 k s.heap->s.heap.DictOfH (TK prog w) d es->(∀e∈es,e∈ps\/∃p∈ps,p.2.1=e.2.1)->
  (∀p∈ps,(TK prog w).is s.heap p.1 p.2.1)->
  (∀h' tk,(∀b o,b≠d->b≠z->b≠TO->b≠i1->b≠i2->s.heap.get? b=aa o->h'.get? b=aa o)->h'.DictOfH (TK prog w) d (allH es (ps.drop k))->R (.ok (.ret .none)) {s with heap:=h',toks:=tk})->
  Mr (Dj prog w) A (.builtin "dict.update.loop" ⟨[.ref d,.ref z,He (k:Int),.none],[]⟩) R s:=by
 intro m;have dictAt:∀{h h':Ds} {es:↑(↑aC×An×Ae)},h.DictOfH (TK prog w) d es->(∀e∈es,e∈ps\/∃p∈ps,p.2.1=e.2.1)->(∀c o,c≠z->c≠TO->c≠i1->c≠i2->h.get? c=aa o->h'.get? c=aa o)->h'.DictOfH (TK prog w) d es:=by
  rintro h h' es ⟨o,en,ep,S,hc,M,Y,i,hn⟩ V P;refine⟨o,en,ep,P d o hd.1 hd.2.2.1 hd.2.2.2.1 hd.2.2.2.2.1 S,hc,M,Y,λx K=>oU (i x K) λt e=>?_,hn⟩;have:x.2.1≠z/\x.2.1≠TO/\x.2.1≠i1/\x.2.1≠i2:=by
   rcases V x K with q|⟨p,q,g⟩
   .have:=hk x q;exact⟨this.1,this.2.1,this.2.2.1,this.2.2.2.1⟩
   .have:=hk p q;rw[g]at this;exact⟨this.1,this.2.1,this.2.2.1,this.2.2.2.1⟩
  exact P _ _ this.1 this.2.1 this.2.2.1 this.2.2.2 e
 induction m with
 | zero=>
  intro k s es P hle hl st M V r hR;have Q:k=↥ps:=by lia
  refine Ko Dp.entry_loop ?_;rw[Hn Dp.plain_loop _];show Bk _ A.in1 (Hi (.ref z)>>=_) _ _ s;refine Aa (done hh D X n st (by rw[J,Q];simp) λh' C=>?_);show Bk _ A.in1 (Builtin.Dict.addKeywords d []>>=_) _ _ _;refine Aa (Ag (Ag (hR h' _ (λb o _ H W G I e=>C b o H W G I e) ?_)));rw[List.drop_of_length_le (by lia)];exact dictAt M V C
 | succ m E=>
  intro k s es P hle hl st M V r hR;have a:k<↥ps:=by lia
  obtain⟨p,N⟩:∃p,ps[k]? = aa p:=⟨_,Bn a⟩;have v:p∈ps:=Ao N;refine Ko Dp.entry_loop ?_;rw[Hn Dp.plain_loop _];show Bk _ A.in1 (Hi (.ref z)>>=_) _ _ s;refine Aa (next D X n st (x:=.ref p.2.1) (y:=p.2.2) (by rw[J,N];rfl) (by rw[f,N];rfl) λh' l hpair C=>?_);have hdd':=dictAt M V C;have hkeys':∀q∈ps,(TK prog w).is h' q.1 q.2.1:=λq Z=>oU (r q Z) λo e=>C _ o (hk q Z).1 (hk q Z).2.1 (hk q Z).2.2.1 (hk q Z).2.2.2.1 e;show Bk _ A.in1 (Ji [Value.ref ⇑s] _>>=_) _ _ _;refine Aa (Dn (Aa (wpAny_tryCatch ?_)));unfold Builtin.Dict.pairItems;refine Aa (Mo (T:="tuple") ⟨_,hpair,rfl⟩ ?_);rw[Vg ∅];refine Aa (Fb hpair rfl (Ag ?_));show Bk _ _ (Ji [Value.ref p.2.1,p.2.2] (Uy d (.ref p.2.1) p.2.2)) _ _ _;refine Dn (Qo (knd:=TK prog w) U (hkeys' p v) hdd' (hsz:=by lia) λL hd3 u=>?_);have B:ps.drop k=p::ps.drop (k+1):=by rw[Fq a];congr 1;exact(Am.mp N).2
  refine Ag ⟨Nq Dp.plain_loop _,?_⟩;refine E (k+1) _ (Mq es p.1 p.2.1 p.2.2) (by lia) a (by have:=zX es p.1 p.2.1 p.2.2;lia) (l.at D X n hd u) hd3 (λe Y=>?_) (λq Z=>oU (hkeys' q Z) λo e=>(u.2 _ (hk q Z).2.2.2.2).trans e) λh3 tk3 hk3 hd4=>?_
  .unfold Mq at Y;split at Y
   .let⟨F,he0,rfl⟩:=Ap.mp Y;have:(Ux p.1 p.2.2 F).2.1=F.2.1:=by unfold Ux;split<;>rfl
    rw[this];rcases V F he0 with q|⟨p',q,g⟩
    .exact .inr ⟨F,q,rfl⟩
    .exact .inr ⟨p',q,g⟩
   .rcases Ba.mp Y with q|q
    .exact V e q
    .obtain rfl:=Af.mp q;exact .inl v
  .refine hR h3 tk3 (λb o O H W G I e=>hk3 b o O H W G I ((u.2 b O).trans (C b o H W G I e))) ?_;rw[B];exact hd4
end
end Zd
end PySem
namespace PySem
namespace Zd
open L2 Zt
open PySem.Sem (wp)
theorem zak:Oo (.type "zip") "__getattr__" = pure ae:=by rw[Jb,Gy];kernel_rfl
theorem zal:Oo (.type "zip") "keys" = pure ae:=by rw[Jb,Gy];kernel_rfl
theorem zam:Uk table "zip.__getattribute__" = aa Ha.«object.__getattribute__»:=
 entryFor_alias (id':="object.__getattribute__") (by kernel_rfl) (by decide +kernel) (by decide +kernel) (by kernel_rfl)
theorem zan(a:An)(vs:Array Ae)(name:Ay)(u:Tz)(c:Oo (.type "zip") name=pure ae)(b:(["__module__","__name__","__qualname__","__doc__","__annotations__"]:↑Ay).contains name=ac)(hsz:↥name+100<=Ax):
  Meets (Ha.«object.__getattribute__» ⟨[.ref a,.str name u],[]⟩) (λA R s=>s.heap.get? a=aa {cls:=.type "zip",dict:=ae,data:=.fields vs,slots:=#[]}/\raisesAttr (.ref a) name A R s):=
 Meets.of_wp λprog w A R s F=>by
  let⟨N,g,d,tk,os⟩:=s;let⟨J,F⟩:=F;have I:(⟨N,g,d,tk,os⟩:Aj).TypeIs (.ref a) "zip":=⟨_,J,rfl⟩;unfold Ha.«object.__getattribute__»
  repeat (any_goals (first|assumption|wp_step))
  simp only[b,Fg,if_false]
  repeat (any_goals (first|assumption|wp_step))
  exact wpAny_raiseAttrError F.1 F.2 (attrMsg_fits (by decide +kernel) hsz)
section
variable {prog:Bc}{w:Bo}{A:Cs}{E:Ae->Aj->Prop}{s:Aj}
theorem keys_miss{Q:Option Ae->Aj->Prop}(hx:s.heap.get? a=aa {cls:=.type "zip",data:=.fields vs})(hA:A.handled=ae)(h:∀h' tk,(∀b o,s.heap.get? b=aa o->h'.get? b=aa o)->Q ae {s with heap:=h',toks:=tk}):Bk (Dj prog w) A (Uj (.ref a) (Bs "keys")) Q E s:=by
 let⟨hp,g,d,tk,os⟩:=s;have hT:∀tk',(⟨hp,g,d,tk',os⟩:Aj).TypeIs (.ref a) "zip":=λ_=>⟨_,hx,rfl⟩
 have f1:=sub_AttributeError;have f3:=F.slot_zip_getattribute.lookup;have f4:=F.slot_zip_getattribute.bind (.ref a);have f5:=zak;unfold Uj getAttrBy? getAttrBy
 repeat (any_goals (first|assumption|exact hT _|((with_reducible show Bk _ _ (call (Value.builtin "zip.__getattribute__") _ _) _ _ _);refine Kx F.slot_zip_getattribute (hT _) zam (F.args_zip_getattribute_2 _ _) (zan a vs (Bs "keys") _ zal (by decide +kernel) (by decide +kernel)) ⟨hx,hA,λh' tk' e hx'=>?_⟩)|wp_step))
 let⟨t',u',he⟩:=hx'.there;have hx2:=hx'.of.keeps;show Bk _ _ (Nd _ _ _ _ _ _ _) _ _ _;unfold Nd
 repeat (any_goals (first|assumption|wp_step))
 exact h _ _ hx2
theorem call_zip{l1 l2:An}{xs ys:Array Ae}{ps:↑(↑aC×An×Ae)}{Q:Ae->Aj->Prop}(hh:A.handled=ae)(hu:A.units+2<Fd)(h1:s.heap.IsList l1 xs)(h2:s.heap.IsList l2 ys)(hz:↥ps<=Ax)(hx:∀j:Nat,xs[j]? = (ps[j]?).map λp=>.ref p.2.1)(hy:∀j:Nat,ys[j]? = (ps[j]?).map λp=>p.2.2)(hkeys:∀p∈ps,(TK prog w).is s.heap p.1 p.2.1)(h:∀h' tk d,⇑s<=d->(∀b o,s.heap.get? b=aa o->h'.get? b=aa o)->h'.DictOfH (TK prog w) d (allH [] ps)->Q (.ref d) {s with heap:=h',toks:=tk}):
  Bk (Dj prog w) A (call (.type "zip") [.ref l1,.ref l2]) (λv s1=>Bk (Dj prog w) A (call (.type "dict") [v]) Q E s1) E s:=by
 have la:@LT.lt Nat _ l1 ⇑s:=by let⟨_,e,_⟩:=h1;exact Bg e
 have lb:@LT.lt Nat _ l2 ⇑s:=by let⟨_,e,_⟩:=h2;exact Bg e
 refine call_zip_2 h1 h2 λg g1 g2 g3 g4 g5 g6 gk=>?_;refine callType_codes (Q₁:=λobj s₁=>obj=.ref g.objs.size/\s₁ = {s with heap:=g.push {cls:=.type "dict",data:=.dict #[]}}) F.kt_called_dict (F.kt_typeCall_dict_1 _) F.entry_dict_init (kt_code_dict_new _ ⟨rfl,rfl⟩) ?_;rintro obj s₁ ⟨rfl,rfl⟩;have hnew:(g.push {cls:=.type "dict",data:=.dict #[]}).DictOfH (TK prog w) g.objs.size []:=Heap.DictOfH.new g;have z1:=Ah {cls:=.type "dict",data:=.dict #[]} g1;have hty:({s with heap:=g.push {cls:=.type "dict",data:=.dict #[]}}:Aj).TypeIs (.ref g.objs.size) "dict":=hnew.typeIs;refine⟨hty,F.args_dict_init_2 _ _,?_⟩;unfold Ha.«dict.__init__»;refine Aa ?_;unfold Builtin.Dict.selfAndRest;refine Aa (Gx hty ?_);show Bk _ _ (pure (g.objs.size,[Value.ref (⇑s+4)])) _ _ _;refine Ag ?_;show Bk _ _ (Jf "dict.__init__" g.objs.size (.ref (⇑s+4)) [] .none) _ _ _;unfold Jf;refine Aa (Mo (T:="zip") ⟨_,z1,rfl⟩ ?_);rw[Vg ∅];refine Aa (keys_miss z1 hh λk1 tk1 hk1=>?_);rw[Vg ∅];have up:∀b o,g.get? b=aa o->k1.get? b=aa o:=λb o e=>hk1 b o (Ah _ e);refine Aa (Ie (Aa (wpAny_pyIter_zip (up _ _ g1) ?_)));refine Ag ⟨Nq Dp.plain_loop _,?_⟩;have hd1:k1.DictOfH (TK prog w) g.objs.size []:=by
  let⟨o,es,ep,ho,r1,r2,r3,r4,r5⟩:=hnew;exact⟨o,es,ep,hk1 _ o ho,r1,r2,r3,(λx hx=>nomatch hx),r5⟩
 have lg:g.objs.size<k1.objs.size:=by
  let⟨o,es,ep,ho,_⟩:=hd1;exact Bg ho
 have D:Zt.Apart (⇑s+4) (⇑s+2) (⇑s+3) ⇑s (⇑s+1) l1 l2:=⟨WI _,⟨lX 4 la,lX 2 la,lX 3 la,yM la,lX 1 la⟩,⟨lX 4 lb,lX 2 lb,lX 3 lb,yM lb,lX 1 lb⟩⟩;have eg:g.objs.size=⇑s+5:=g6;have i1:k1.IsListIter ⇑s l1 0:=g4.at (up _);have i2:k1.IsListIter (⇑s+1) l2 0:=g5.at (up _);have ll1:k1.IsList l1 xs:=h1.at λo e=>up _ _ (gk _ _ e);have ll2:k1.IsList l2 ys:=h2.at λo e=>up _ _ (gk _ _ e);have lk:∀p∈ps,@LT.lt Nat _ p.2.1 ⇑s:=λp hp=>by
  let⟨o,items,n,e,_⟩:=hkeys p hp;exact Bg e
 refine loop (A:=A.in1) (d:=g.objs.size) (ps:=ps) hh (Fm (A:=A.in1) (show(A.units+1)+1<Fd from hu)) D (EX _ _ (yM la) xs) (EX _ _ (lX 1 lb) ys) ⟨Ct (by lia),Ct (by lia),Ct (by lia),Ct (by lia),Ct (by lia),Ct (by lia),Ct (by lia)⟩ hz hx hy (λp hp=>by have:=lk p hp;exact⟨Br (by lia),Br (by lia),Br (by lia),Br (by lia),Br (by lia)⟩) ↥ps 0 _ [] rfl (Cn _) (Ai _)
  ⟨up _ _ g2,⟨i1,ll1⟩,⟨i2,ll2⟩,lg,(show @LT.lt Nat _ (⇑s+4) k1.objs.size by lia),(show @LT.lt Nat _ (⇑s+3) k1.objs.size by lia),(show @LT.lt Nat _ ⇑s k1.objs.size by lia),(show @LT.lt Nat _ (⇑s+1) k1.objs.size by lia),.inl ⟨up _ _ g1,_,_,up _ _ g3⟩⟩ hd1 (λe he=>nomatch he) (λp hp=>oU (hkeys p hp) λo e=>up _ _ (gk _ _ e)) λh2 tk2 hk2 hd2=>?_
 refine⟨rfl,h h2 tk2 g.objs.size (by lia) (λb o e=>?_) hd2⟩;have lb':@LT.lt Nat _ b ⇑s:=Bg e;exact hk2 b o (Br (by lia)) (Br (by lia)) (Br (by lia)) (Br (by lia)) (Br (by lia)) (up _ _ (gk _ _ e))
end
end Zd
end PySem
namespace L2
def kG(ks:↑(↑aC×V))(ps:↑(↑aC×V)):↑(↑aC×V):=ps.foldl (λk p=>dY k p.1 p.2) ks
theorem HN{H:Hp}:∀{qs:↑(↑aC×An×V)} {us ws:↑Ae},aZ (qs.map λq=>V.ref q.2.1) us->aZ (qs.map λq=>q.2.2) ws->
  ∃ps:↑(↑aC×An×Ae),us=ps.map (λp=>.ref p.2.1)/\ws=ps.map (λp=>p.2.2)/\Ey (λ(q:↑aC×An×V) (p:↑aC×An×Ae)=>q.1=p.1/\q.2.1=p.2.1/\RelV q.2.2 p.2.2) qs ps
 | [],_,_,h1,h2=>by cases h1;cases h2;exact⟨[],rfl,rfl,.nil⟩
 | q::qs,_,_,h1,h2=>by
  cases h1 with
  | @cons _ u _ us r1 t1=>
   cases h2 with
   | @cons _ w _ ws r2 t2=>
    let⟨ps,e1,e2,e3⟩:=HN (H:=H) t1 t2;cases (show u=Value.ref q.2.1 from r1);exact⟨(q.1,q.2.1,w)::ps,by rw[Bd,e1],by rw[Bd,e2],.cons ⟨rfl,rfl,r2⟩ e3⟩
theorem HP(h:Ey (λ(q:↑aC×An×V) (p:↑aC×An×Ae)=>q.1=p.1/\q.2.1=p.2.1/\RelV q.2.2 p.2.2) qs ps):
  ∀{kvs:↑(↑aC×V)} {es:↑(↑aC×An×Ae)},(∀q∈qs,H q.2.1=aa (.tup (q.1.map kV)))->KT H kvs es->KT H (kG kvs (qs.map λq=>(q.1,q.2.2))) (Zd.allH es ps):=by
 induction h with
 | nil=>intro kvs es _ k;exact k
 | @cons q p qs ps r t ih=>
  intro kvs es hq k;let⟨q1,q2,q3⟩:=q;let⟨p1,p2,p3⟩:=p;let⟨rfl,rfl,r3⟩:=r;exact ih (λz hz=>hq z (Bj _ hz)) (k.put q1 (hq _ Bl) r3)
theorem zY:∀(ps:↑(↑aC×V)) (ks:↑(↑aC×V)),↥(kG ks ps)<=↥ks+↥ps
 | [],ks=>Ai _
 | p::ps,ks=>by
  have h1:=zY ps (dY ks p.1 p.2);have h2:=pJ ks p.1 p.2;show(kG (dY ks p.1 p.2) ps).length<=↥ks+(↥ps+1);lia
section
variable {X:Cx}{a b:Cg}{ta:TA}{p p2 pos pos2:Hu}
def zao(K:Ac)(ta:TA):TE:=λZ H Q=>ta Z H λvs H1=>∃a b xs ys,∃qs:↑(↑aC×An×V),vs=[.ref a,.ref b]/\bL K H1 a xs/\bL K H1 b ys/\xs=(qs.map λq=>.ref q.2.1)/\ys=(qs.map λq=>q.2.2)/\(∀q∈qs,H1 q.2.1=aa (.tup (q.1.map kV)))/\
 ∀p,H1 p=ae->Q (.ref p) (aL H1 p (.dT (kG [] (qs.map λq=>(q.1,q.2.2)))))
theorem zap(hc:X.calm=ab)(hu:X.A.units+2<Fd)(hg:Gl X "dict")(hm:X.mg "dict" = ae)(hg2:Gl X "zip")(hm2:X.mg "zip" = ae)(ha:PA X [a,b] ta)(hs1:Cp [.Call (.Name "zip" p2) [a,b] [] pos2] X.env=[(ac,Eu (.Call (.Name "zip" p2) [a,b] [] pos2) X.env)]:=by rfl)(hs:Cp [a,b] X.env=[(ac,Eu a X.env),(ac,Eu b X.env)]:=by rfl)(hs2:Cp [b] X.env=[(ac,Eu b X.env)]:=by rfl):
  PE X (.Call (.Name "dict" p) [.Call (.Name "zip" p2) [a,b] [] pos2] [] pos) (zao X.K ta):=by
 intro af s Z H Q I h;refine Ej (iJ I hg hm (by decide +kernel:Cr "dict" = aa (.type "dict")) (Cj ?_ hs1 rfl));rw[hs1];refine Me (Ej (iJ I hg2 hm2 VX (Cj (thn (ha pos2 af s Z H _ I h) λus s1 z0=>?_) (by rw[hs,hs2]) (by rw[hs2];rfl))));let⟨vs,H1,I1,r1,q1⟩:=z0;let⟨l1,l2,xs,ys,qs,rfl,hqa,hqb,rfl,rfl,hq,q⟩:=q1;let⟨u,v,rfl,ru,rv⟩:=vals2 r1;cases ru;cases rv;let⟨its,rv1,pl,hz⟩:=I1.list hqa;let⟨its2,rv2,pl2,hz2⟩:=I1.list hqb;let⟨ps,e1,e2,e3⟩:=HN (H:=H1) rv1 rv2;have ln:=Cw e3;rw[Ab]at hz;refine Ig (Zd.call_zip (E:=X.xe) (ps:=ps) (I1.ok.hd hc) hu pl.isList pl2.isList (by lia) (λj=>?_) (λj=>?_) (λz hz'=>?_) (λh' tk d hd hk dd=>?_)) (λv s2 hv=>Ml hv) λ_ _ e=>e
 .rw[e1,<-Ft];simp
 .rw[e2,<-Ft];simp
 .have:∀{qs:↑(↑aC×An×V)} {ps:↑(↑aC×An×Ae)},Ey (λ(q:↑aC×An×V) (p:↑aC×An×Ae)=>q.1=p.1/\q.2.1=p.2.1/\RelV q.2.2 p.2.2) qs ps->(∀q∈qs,H1 q.2.1=aa (.tup (q.1.map kV)))->∀z∈ps,H1 z.2.1=aa (.tup (z.1.map kV)):=by
   intro qs ps h
   induction h with
   | nil=>intro _ z hz;cases hz
   | @cons q p qs ps r t ih=>
    intro hq z hz;rcases Au.mp hz with rfl|hz
    .have:=hq q Bl;rw[r.1,r.2.1]at this;exact this
    .exact ih (λy hy=>hq y (Bj _ hy)) z hz
  exact i7 I1.hok (this e3 hq z hz')
 .have hfr:=I1.hok.fresh hd;have hbig:=I1.big;have len:=zY (qs.map λq=>(q.1,q.2.2)) [];rw[Ab]at len;refine⟨.ref d,_,I1.laid (o:=.dT (kG [] (qs.map λq=>(q.1,q.2.2)))) (t':=tk) hk hd ⟨by simp at len;lia,beq_eq_false_iff_ne.mpr (Ct (Bv hbig hd)),_,(HP e3 hq .nil).keeps λc ys ec=>?_,?_⟩,rfl,q d hfr⟩
  .rw[a9 (eO ec hfr)];exact ec
  .let⟨o,en,ep,r1,r2,r3,r4,_,r5⟩:=dd;exact⟨o,en,ep,r1,r2,r3,r4,r5⟩
end
def iD(kvs:↑(↑aC×W))(ps:↑(↑aC×W)):↑(↑aC×W):=ps.foldl (λkvs p=>bW kvs p.1 p.2) kvs
section
variable {X:Cx}{a b:Cg}{ta:dG}
abbrev HQ(ta:dG):aS:=λτ M R=>ta τ M λws M1=>∃ps:↑(↑aC×W),ws=[.rl (ps.map λp=>.tup (p.1.map wK)),.rl (ps.map λp=>p.2)]/\R (.dt (iD [] ps)) M1
theorem zaq(hu:X.A.units+2<Fd)(hg:Gl X "dict")(hm:X.mg "dict" = ae)(hg2:Gl X "zip")(hm2:X.mg "zip" = ae)(ha:A3 X [a,b] ta)(hc:X.calm=ab:=by rfl)(hs1:Cp [.Call (.Name "zip" p2) [a,b] [] pos2] X.env=[(ac,Eu (.Call (.Name "zip" p2) [a,b] [] pos2) X.env)]:=by rfl)(hs:Cp [a,b] X.env=[(ac,Eu a X.env),(ac,Eu b X.env)]:=by rfl)(hs2:Cp [b] X.env=[(ac,Eu b X.env)]:=by rfl):
  E3 X (.Call (.Name "dict" p) [.Call (.Name "zip" p2) [a,b] [] pos2] [] pos) (HQ ta):=
 (zap hc hu hg hm hg2 hm2 ha hs1 hs hs2).weak λZ H Q z0=>z0.el λτ M R as am h k=>⟨τ,M,_,as,am,h,λvs H1 ws M1 k1 am1 ax r=>by
  let⟨ps,rfl,r⟩:=r;let⟨v,u,rfl,av,au⟩:=ax.two;cases av with
  | @rl l1 xs _ f1 n1 q1=>
   cases au with
   | @rl l2 ys _ f2 n2 q2=>
    have key:∀{ps:↑(↑aC×W)} {xs ys:↑V},aK X.K H1 M1 xs (ps.map λp=>.tup (p.1.map wK))->aK X.K H1 M1 ys (ps.map λp=>p.2)->∃qs:↑(↑aC×An×V),xs=(qs.map λq=>.ref q.2.1)/\ys=(qs.map λq=>q.2.2)/\(∀q∈qs,H1 q.2.1=aa (.tup (q.1.map kV)))/\bQ X.K H1 M1 (↑aC) (qs.map λq=>(q.1,q.2.2)) ps:=by
     intro ps
     induction ps with
     | nil=>intro xs ys h1 h2;cases h1;cases h2;exact⟨[],rfl,rfl,(λq hq=>nomatch hq),.nil⟩
     | cons p ps ih=>
      intro xs ys h1 h2;cases h1 with
      | @cons x xs' _ _ a1 t1=>
       cases h2 with
       | @cons y ys' _ _ a2 t2=>
        let⟨qs,e1,e2,e3,e4⟩:=ih t1 t2;cases a1 with
        | @tup c zs _ ec qc=>
         rw[qc.keys]at ec;refine⟨(p.1,c,y)::qs,by rw[e1];rfl,by rw[e2];rfl,λq hq=>?_,.cons ⟨rfl,a2⟩ e4⟩;rcases Au.mp hq with rfl|hq
         .exact ec
         .exact e3 q hq
    let⟨qs,e1,e2,e3,e4⟩:=key q1 q2;refine⟨l1,l2,xs,ys,qs,rfl,bL.of f1,bL.of f2,e1,e2,e3,λd hd=>?_⟩;have puts:∀{ps:↑(↑aC×W)} {qs:↑(↑aC×V)} {ks:↑(↑aC×V)} {kvs:↑(↑aC×W)},bQ X.K H1 M1 (↑aC) qs ps->bQ X.K H1 M1 (↑aC) ks kvs->bQ X.K H1 M1 (↑aC) (kG ks qs) (iD kvs ps):=by
     intro ps qs ks kvs h
     induction h generalizing ks kvs with
     | nil=>intro h;exact h
     | @cons q p qs ps r t ih=>
      intro h;let⟨q1,q2⟩:=q;let⟨p1,p2⟩:=p;let⟨rfl,r2⟩:=r;exact ih (rJ h q1 r2)
    have g:=puts (ks:=[]) (kvs:=[]) e4 .nil;let⟨am2,k2⟩:=am1.tup (u:=.dT (kG [] (qs.map λq=>(q.1,q.2.2)))) hd;exact k _ _ _ _ (k1.trans k2) am2 (.dt bY (am1.nonM hd) g.keys (g.vals.newT hd)) r⟩
end
structure Dm(K:Ac)(C:An)(x qual:Ay)(st:Jl)(ps:↑Ay)(f:An)(fd:Fc):Prop where
 fn:jO K x qual st f fd
 me:pI K C x f
 bi:Binds K fd ps []
structure Di(K:Ac)(C:An)(x qual:Ay)(st:Jl)(ps:↑Ay)(f:An)(fd:Fc):Prop where
 fn:jO K x qual st f fd
 mak:Mk K C f
 bi:Binds K fd ps []
theorem zZ{k:Nat}(hr:cP k A):A.units+2<Fd:=by have:=hr.un;lia
section
variable {prog:Bc}{w:Bo}{A:Cs}{E:Ae->Aj->Prop}{s:Aj}
theorem zar{na nb:Nat}{x1 x2 y1 y2:Int}{Q:Ae->Aj->Prop}(hu:A.units+1<Fd)(hoa:s.heap.get? a=aa oa)(hca:oa.cls=.type "tuple")(hda:oa.data=.seq xs na)(hob:s.heap.get? b=aa ob)(hcb:ob.cls=.type "tuple")(hdb:ob.data=.seq ys nb)(ex:xs.toList=[.int x1 t1,.int x2 t2])(ey:ys.toList=[.int y1 u1,.int y2 u2])(h:∀b,(x1=y1->x2=y2->b=ac)->Q (.bool b) s):Bk (Dj prog w) A (Du .Lt (.ref a) (.ref b)) Q E s:=by
 have hTb:s.TypeIs (.ref b) "tuple":=⟨ob,hob,hcb⟩;refine Mp (op:=.Lt) ⟨oa,hoa,hca⟩ hTb PySem.F.slot_tuple_lt (Cm PySem.F.slot_tuple_lt ⟨oa,hoa,hca⟩ PySem.F.entry_tuple_lt ?_ (PySem.F.args_tuple_lt_2 _ _)) (Ky hu);show Bk _ _ (Us (.ref b) (.type "tuple")>>=_) _ _ s;refine Aa (Gj hTb Je (Aa (Ho hoa hda (Aa (Ho hob hdb (Aa ?_))))));rw[ex,ey];have e1:=congrArg Ii ex;have e2:=congrArg Ii ey;refine Jw _ (λrest q s'=>q.1=ae/\s'=s/\∀p∈rest,∃i t j u,p=(Value.int i t,Value.int j u)/\(x1=y1->x2=y2->i=j)) _ ?_ ?_ _ _ ⟨rfl,rfl,λp hp=>?_⟩
 .rintro p rest q s' ⟨hq,rfl,hc⟩;let⟨i,t,j,u,rfl,e⟩:=hc p (Bl ..);refine Aa (Rm ?_);cases hi:i==j
  .exact Aa (Ie (Aa (PyProof.Rows.lt_int (Aa (Ag (Ag (Ag ⟨_,rfl,(λe=>nomatch e),h _ λa b=>absurd (e a b) (ne_of_beq_false hi)⟩)))))))
  .exact Ag ⟨rfl,rfl,λp hp=>hc p (Bj _ hp)⟩
 .rintro⟨q1,q2⟩ s' ⟨rfl,rfl,hc⟩;refine Ag ⟨_,rfl,(λe=>nomatch e),h _ λ_ _=>?_⟩;rw[Fs]at e1 e2;rw[e1,e2];rfl
 .rcases Au.mp hp with rfl|hp
  .exact⟨_,_,_,_,rfl,λa _=>a⟩
  .rw[Af.mp hp];exact⟨_,_,_,_,rfl,λ_ a=>a⟩
theorem zas{na nb:Nat}{x1 x2 y1 y2:Int}{Q:Ae->Aj->Prop}(hu:A.units+1<Fd)(hoa:s.heap.get? a=aa oa)(hca:oa.cls=.type "tuple")(hda:oa.data=.seq xs na)(hob:s.heap.get? b=aa ob)(hcb:ob.cls=.type "tuple")(hdb:ob.data=.seq ys nb)(ex:xs.toList=[.int x1 t1,.int x2 t2])(ey:ys.toList=[.int y1 u1,.int y2 u2])(h:∀b,(x1=y1->x2=y2->b=ac)->Q (.bool b) s):Bk (Dj prog w) A (Du .Gt (.ref a) (.ref b)) Q E s:=by
 have hTb:s.TypeIs (.ref b) "tuple":=⟨ob,hob,hcb⟩;refine Mp (op:=.Gt) ⟨oa,hoa,hca⟩ hTb PySem.F.slot_tuple_gt (Cm PySem.F.slot_tuple_gt ⟨oa,hoa,hca⟩ PySem.F.entry_tuple_gt ?_ (PySem.F.args_tuple_gt_2 _ _)) (Ky hu);show Bk _ _ (Us (.ref b) (.type "tuple")>>=_) _ _ s;refine Aa (Gj hTb Je (Aa (Ho hoa hda (Aa (Ho hob hdb (Aa ?_))))));rw[ex,ey];have e1:=congrArg Ii ex;have e2:=congrArg Ii ey;refine Jw _ (λrest q s'=>q.1=ae/\s'=s/\∀p∈rest,∃i t j u,p=(Value.int i t,Value.int j u)/\(x1=y1->x2=y2->i=j)) _ ?_ ?_ _ _ ⟨rfl,rfl,λp hp=>?_⟩
 .rintro p rest q s' ⟨hq,rfl,hc⟩;let⟨i,t,j,u,rfl,e⟩:=hc p (Bl ..);refine Aa (Rm ?_);cases hi:i==j
  .exact Aa (Ie (Aa (PyProof.Rows.gt_int (Aa (Ag (Ag (Ag ⟨_,rfl,(λe=>nomatch e),h _ λa b=>absurd (e a b) (ne_of_beq_false hi)⟩)))))))
  .exact Ag ⟨rfl,rfl,λp hp=>hc p (Bj _ hp)⟩
 .rintro⟨q1,q2⟩ s' ⟨rfl,rfl,hc⟩;refine Ag ⟨_,rfl,(λe=>nomatch e),h _ λ_ _=>?_⟩;rw[Fs]at e1 e2;rw[e1,e2];rfl
 .rcases Au.mp hp with rfl|hp
  .exact⟨_,_,_,_,rfl,λa _=>a⟩
  .rw[Af.mp hp];exact⟨_,_,_,_,rfl,λ_ a=>a⟩
end
section
variable {X:Cx}
def rInsert:V->↑V->Hp->VK->Prop:=λx vs H Q=>∃l xs y i,x=.ref l/\vs=[.int (i:Nat),y]/\H l=aa (.lst xs)/\↥xs<Ax/\i<=↥xs/\Q .non (aL H l (.lst (xs.take i++y::xs.drop i)))
theorem aZ.splitAt:∀{xs:↑V} {us:↑Ae} (i:Nat),aZ xs us->aZ (xs.take i) (us.take i)/\aZ (xs.drop i) (us.drop i)
 | _,_,0,h=>⟨.nil,h⟩
 | _,_,i+1,.nil=>⟨.nil,.nil⟩
 | _,_,i+1,.cons r t=>by
  let⟨h1,h2⟩:=aZ.splitAt i t;exact⟨.cons r h1,h2⟩
theorem zat:tQ X "list.insert" rInsert:=by
 intro af s Z H x vs v us Q I rx rv h;let⟨l,xs,y,i,rfl,rfl,hH,hz,hi,q⟩:=h;cases rx;let⟨u1,u2,rfl,r1,r2⟩:=vals2 rv;let⟨tk,rfl⟩:=r1;let⟨z,its,n,r,hl,e⟩:=I.lstM hH;have hlen:↥its=↥xs:=r.length.symm;have hs:Ax=16777216:=Jq;have hc0:¬(!Builtin.List.listFitsIndex ((i:Nat):Int))=ab:=by
  have h1:Builtin.List.listFitsIndex ((i:Nat):Int)=ab:=by
   unfold Builtin.List.listFitsIndex;rw[Dg,decide_eq_true_eq,decide_eq_true_eq];lia
  rw[h1];decide
 have hs1:its.toArray.size<=Ax:=by rw[Bh];lia
 generalize hj:((i:Nat):Int)=j at hc0 e⊢;have hm:=PySem.AutoSeq1.list_insert_list_int_val_1 l its.toArray n j tk u2 hc0 hs1;refine Kx F.slot_list_insert ⟨_,e,rfl⟩ F.entry_list_insert (F.args_list_insert_3 _ _ _) hm ⟨e,?_⟩;let⟨h1,h2⟩:=aZ.splitAt i r;refine⟨.non,_,I.lset (its':=its.take i++u2::its.drop i) hH e ?_ (h1.append (.cons r2 h2)) ?_,rfl,q⟩
 .have hk:(if j<0 then(j+(its.toArray.size:Int)).toNat else min j.toNat its.toArray.size)=i:=by
   rw[<-hj,Vf (by lia),De,Bh];lia
  show(its.toArray.extract 0 (if j<0 then(j+(its.toArray.size:Int)).toNat else min j.toNat its.toArray.size)).push u2++its.toArray.extract (if j<0 then(j+(its.toArray.size:Int)).toNat else min j.toNat its.toArray.size)=_;rw[hk];apply Array.toList_inj.mp;simp[Ov,Array.toList_push];rw[Ks (by rw[Gf];lia)]
 .rw[Ak,Bw,Ck,Gf];lia
end
section
variable {X:Cx}
abbrev r6:R3:=λx y M R=>∃a b c d:Int,x=.tup [.int a,.int b]/\y=.tup [.int c,.int d]/\∀z,(a=c->b=d->z=ac)->R (.bl z) M
theorem vG{af:Pn}{Z:SV}{H:Hp}{M:Mm}{s:Aj}{x:V}{v:Ae}{a b:Int}(I:Inv X af Z H s)(rx:RelV x v)(ax:AV X.K H M x (.tup [.int a,.int b])):∃p o its n t u,v=.ref p/\s.heap.get? p=aa o/\o.cls=.type "tuple"/\o.data=.seq its n/\its.toList=[.int a t,.int b u]:=by
 cases ax with
 | @tup p xs _ e q=>
  cases (show v=Value.ref p from rx);let⟨y,z,rfl,ay,az⟩:=q.two;obtain rfl:=ay.inv;obtain rfl:=az.inv;let⟨_,its,r,o,h1,h2,m,h3⟩:=(show bZ X.prog X.w H s.heap p (.tup [.int a,.int b]) from I.hok p _ e);let⟨u1,u2,rfl,r1,r2⟩:=vals2 r;let⟨t1,rfl⟩:=r1;let⟨t2,rfl⟩:=r2;exact⟨p,o,_,m,t1,t2,rfl,h1,h2,h3,by simp⟩
theorem HR(hu:X.A.units+1<Fd):bF X (Du .Lt) (cV X.K r6):=by
 rintro af s Z H x y v u Q I rx ry ⟨wx,wy,M,R,am,ax,ay,⟨a,b,c,d,rfl,rfl,r⟩,k⟩;let⟨p,o,its,n,t1,t2,rfl,h1,h2,h3,h4⟩:=vG I rx ax;let⟨p',o',its',n',t1',t2',rfl,g1,g2,g3,g4⟩:=vG I ry ay;exact zar hu h1 h2 h3 g1 g2 g3 h4 g4 λz hz=>⟨.bl z,H,I,rfl,k.at am (.bl _) (r z hz)⟩
theorem HS(hu:X.A.units+1<Fd):bF X (Du .Gt) (cV X.K r6):=by
 rintro af s Z H x y v u Q I rx ry ⟨wx,wy,M,R,am,ax,ay,⟨a,b,c,d,rfl,rfl,r⟩,k⟩;let⟨p,o,its,n,t1,t2,rfl,h1,h2,h3,h4⟩:=vG I rx ax;let⟨p',o',its',n',t1',t2',rfl,g1,g2,g3,g4⟩:=vG I ry ay;exact zas hu h1 h2 h3 g1 g2 g3 h4 g4 λz hz=>⟨.bl z,H,I,rfl,k.at am (.bl _) (r z hz)⟩
def HU:W->↑W->Mm->K3->Prop
 | .ref l,[.int i,y],M,R=>∃ws,M l=aa (.lst ws)/\↥ws<Ax/\0<=i/\i<=↥ws/\R .non (put M l (.lst (ws.take i.toNat++y::ws.drop i.toNat)))
 | _,_,_,_=>False
theorem HV{K:Ac}{H:Hp}{M:Mm}:∀{vs:↑V} {ws:↑W} (i:Nat),aK K H M vs ws->aK K H M (vs.take i) (ws.take i)/\aK K H M (vs.drop i) (ws.drop i)
 | _,_,0,h=>⟨.nil,h⟩
 | _,_,i+1,.nil=>⟨.nil,.nil⟩
 | _,_,i+1,.cons r t=>by
  let⟨h1,h2⟩:=HV i t;exact⟨.cons r h1,h2⟩
theorem zau:fJ X "list.insert" (kA X.K HU):=by
 rintro af s Z H x xs v us Q I rx rs ⟨wx,ws,M,R,am,ax,axs,h,k⟩
 match wx,ws,h with
 | .ref l,[.int i,y],h=>
  let⟨u,z,rfl,au,az⟩:=axs.two;obtain rfl:=ax.inv;obtain rfl:=au.inv;let⟨ws,e,hl,h0,h1,r⟩:=h;let⟨i,rfl⟩:=Nl h0;let⟨vs,f,q⟩:=am.lst e;let⟨q1,q2⟩:=HV i q;rw[De]at r;exact zat af s Z H _ _ v us Q I rx rs ⟨l,vs,z,i,rfl,rfl,f,by rw[↥q];exact hl,by rw[↥q];lia,yS am k e (q1.append (.cons az q2)) .non r⟩
end
structure aE where
 name:Ay
 parts:↑Ay
 cost:Int
def vH(t:Ay):Prop:=∀c∈cs t,c<128
structure c9(t:Ay):Prop where
 len:↥t<=20
 nm:isNameB t=ab
 hd:∃c r,cs t=c::r/\c∈cs gJ
 asc:vH t
structure dW(t:Ay):Prop where
 len:↥t<=20
 ne:cs t≠[]
 sm:∀c∈cs t,c∈cs kR
theorem zav:∀c∈cs kR,c<128:=by decide +kernel
theorem HW:∀c∈cs gJ,c<128:=by decide +kernel
theorem zaw:∀c∈cs mY,c<128:=by decide +kernel
theorem dW.asc(h:dW t):vH t:=λc hc=>zav c (h.sm c hc)
structure nM(hs ws:↑Ay)(r:aE):Prop where
 name:r.name∈hs
 parts:∀t∈r.parts,t∈ws\/t∈hs
 few:↥r.parts<=4
 lo:0<=r.cost
 hi:r.cost<10 ^ 60
structure zax(rs:↑aE):Prop where
 ne:rs≠[]
 few:↥rs<=60
 ex:∃hs ws:↑Ay,↥hs<=12/\(∀t∈hs,c9 t)/\(∀t∈ws,dW t)/\(∀r∈rs,nM hs ws r)/\∀t∈hs,∃r∈rs,r.name=t
theorem HX(c:Array Nat):∀(k:Nat) (acc:Array Nat) (d:Nat),d∈((Bz k c).foldl (·++·) acc).toList->d∈acc.toList\/d∈c.toList
 | 0,acc,d,h=>.inl h
 | k+1,acc,d,h=>by
  rw[Ez,Fz]at h;rcases HX c k _ d h with q|q
  .rw[Ov]at q;exact Ba.mp q
  .exact .inr q
theorem HY{n:Int}{d:Nat}(h:d∈cs (Ib x n)):d∈cs x:=by
 unfold Ib at h;split at h
 .exact absurd h (by rw[show cs Qr=[] from rfl];simp)
 .split at h
  .exact h
  .rcases HX x.cps _ #[] d h with q|q
   .simp at q
   .exact q
theorem HZ{n:Int}(J:↥x=1)(G:0<=n):(↥(Ib x n):Int)=n:=by
 rw[len_mul,J];have:¬n<0:=by lia
 simp[this]
def dA(acc:↑Ay)(t:Ay):↑Ay:=if t∈acc then acc else acc++[t]
def mE(acc:↑Ay)(rs:↑aE):↑Ay:=(rs.map aE.name).foldl dA acc
def namesOf(rs:↑aE):↑Ay:=mE [] rs
theorem lB:u∈dA acc t↔u∈acc\/u=t:=by
 unfold dA;split
 .rename_i h;constructor
  .exact .inl
  .rintro(q|q)
   .exact q
   .rw[q];exact h
 .rw[Ba,Af]
theorem zay:↥(dA acc t)<=↥acc+1:=by
 unfold dA;split
 .lia
 .rw[Ak];exact Ai _
theorem vJ:∀{ts acc:↑Ay} {u:Ay},u∈ts.foldl dA acc↔u∈acc\/u∈ts
 | [],acc,u=>by simp
 | t::r,acc,u=>by
  rw[Fz,vJ,lB,Au];constructor
  .rintro((h|h)|h)
   .exact .inl h
   .exact .inr (.inl h)
   .exact .inr (.inr h)
  .rintro(h|h|h)
   .exact .inl (.inl h)
   .exact .inl (.inr h)
   .exact .inr h
theorem jG:u∈namesOf rs↔∃r∈rs,r.name=u:=by
 unfold namesOf mE;rw[vJ];simp
theorem nN(h:vH t):Rx t=ab:=by
 unfold Rx;rw[Array.all_eq_true'];intro c hc;have:=h c (by unfold cs;exact Array.mem_toList_iff.mpr hc);exact Vi (by lia)
def r9(g:Bool)(t:Ay):Prop:=if g then c9 t else dW t
def kH:Bool->Ay
 | true=>Qq kR
 | false=>kR
theorem z9(g:Bool):↥(cs (kH g))=26:=by cases g<;>decide +kernel
theorem IA(L:↥(cs g)=26)(n:Int):∃c,bT g.cps.toList (n % 26)=aa c/\c∈cs g:=by
 have G:0<=n % 26:=Fi _ ∅;have O:n % 26<26:=Ei _ ∅;let⟨j,hj⟩:=Nl G;have a:j<↥(cs g):=by lia
 refine⟨(cs g)[j],?_,Qk a⟩;rw[hj];exact iL (Bn a)
theorem AA(c:Nat):cs (⟨#[c]⟩:Ay)=[c]:=rfl
theorem zaz{g:Bool}(hl:↥t<=8)(j:cs t≠[])(h:∀c∈cs t,c∈cs (kH g)):r9 g t:=by
 cases g with
 | false=>exact⟨by lia,j,h⟩
 | true=>
  have u:kH ab=gJ:=by show Qq kR=gJ;decide +kernel
  rw[u]at h;refine⟨by lia,VR j h,?_,λc hc=>HW c (h c hc)⟩;cases e:cs t with
  | nil=>exact absurd e j
  | cons c r=>exact⟨c,r,rfl,h c (by rw[e];simp)⟩
theorem IC(n:Int)(G:0<=n)(O:n<10000)(hl:↥t<=8)(j:cs t≠[])(h:∀c∈cs t,c∈cs (kH ab)):r9 ab (t++"_"++Bs (toString n)):=by
 have u:kH ab=gJ:=by show Qq kR=gJ;decide +kernel
 rw[u]at h;have a:↥(Bs (toString n))<=10:=Oa G (by lia);have E:↥("_" : Ay)=1:=by decide +kernel
 let⟨m,rfl⟩:=Nl G;have b:=EJ (m:=m);have C:cs (t++"_"++Bs (toString ((m:Nat):Int)))=cs t++95::cs (Bs (toString ((m:Nat):Int))):=by rw[pM,pM,EG];simp
 refine⟨by rw[Lx,Lx,E];lia,VS C j h b.2 b.1,?_,λc hc=>?_⟩
 .cases e:cs t with
  | nil=>exact absurd e j
  | cons c r=>exact⟨c,_,by rw[C,e];rfl,h c (by rw[e];simp)⟩
 .rw[C]at hc;rcases Ba.mp hc with q|q
  .exact HW c (h c q)
  .rcases Au.mp q with q|q
   .lia
   .exact zaw c (b.1 c q)
theorem ID{n:Int}(G:0<=n)(O:n<10000):n.natAbs.log2<1920:=by
 rcases Nat.eq_zero_or_pos n.natAbs with h|N
 .rw[h];decide
 .have:n.natAbs<2 ^ 14:=by
   have:(2:Nat) ^ 14=16384:=by decide
   lia
  have:=(Te (Ct N)).mpr this;lia
theorem zaA(h:Drawn B (a++b)):∃u I,B=u++I/\Drawn u a/\Drawn I b:=by
 induction a generalizing B with
 | nil=>exact⟨[],B,rfl,.nil,h⟩
 | cons x r E=>
  cases h with
  | cons O L=>
   let⟨u,I,rfl,D,A⟩:=E L;exact⟨_::u,I,rfl,.cons O D,A⟩
theorem zaB{a b c d:Int}(h:Drawn B [a,b,c,d]):∃x1 x2 x3 x4,B=[x1,x2,x3,x4]/\Below x1 a/\Below x2 b/\Below x3 c/\Below x4 d:=by
 cases h with|cons O h=>cases h with|cons L h=>cases h with|cons h3 h=>cases h with|cons D h=>cases h;exact⟨_,_,_,_,rfl,O,L,h3,D⟩
theorem IE{s:Int}(h:Drawn B ss)(F:∀z∈ss,z=s):∀d∈B,Below d s:=by
 induction h with
 | nil=>intro d hd;cases hd
 | cons r t E=>
  intro d hd;rcases Au.mp hd with e|hd
  .subst e;have:=F _ Bl;rw[<-this];exact r
  .exact E (λz hz=>F z (Bj _ hz)) d hd
theorem zaC{a b:Int}(h:Drawn B [a,b]):∃x1 x2,B=[x1,x2]/\Below x1 a/\Below x2 b:=by
 cases h with|cons O h=>cases h with|cons L h=>cases h;exact⟨_,_,rfl,O,L⟩
theorem sA:∀(ts acc:↑Ay),↥(ts.foldl dA acc)<=↥acc+↥ts
 | [],acc=>by simp
 | t::r,acc=>by
  rw[Fz,Bw];have:=sA r (dA acc t);have:=zay (acc:=acc) (t:=t);lia
def bD(r:aE):W:=.tup [.str r.name,.tup (r.parts.map W.str),.int r.cost]
def a6(rs:↑aE):W:=.rl (rs.map bD)
abbrev c0:=Int×Int
def IF(a b:c0):c0:=(a.1+b.1,a.2+b.2)
section
variable {U J:Type}[DecidableEq U]
def b8(t:↑(U×J))(k:U):Option J:=(t.find? λe=>decide (e.1=k)).map (·.2)
def jH(t:↑(U×J))(k:U)(v:J):↑(U×J):=if (t.any λe=>decide (e.1=k))=ab then t.map (λe=>if e.1=k then(e.1,v) else e) else t++[(k,v)]
theorem nO(e:U×J)(t:↑(U×J))(k:U):b8 (e::t) k=if e.1=k then aa e.2 else b8 t k:=by
 unfold b8;rw[Cq]
 by_cases h:e.1=k
 .rw[Vi h,Vg h];rfl
 .rw[Vj h,Vf h]
theorem jW(t:↑(U×J))(k:U):(t.any λe=>decide (e.1=k))=(b8 t k).isSome:=by
 induction t with
 | nil=>rfl
 | cons e t E=>
  rw[Fh,nO,E]
  by_cases h:e.1=k
  .rw[Vi h,Vg h];rfl
  .rw[Vj h,Vf h];rfl
theorem IG(a b:↑(U×J))(k:U):b8 (a++b) k=(b8 a k).or (b8 b k):=by
 unfold b8;rw[List.find?_append,Option.map_or]
theorem zaD(t:↑(U×J))(k j:U)(v:J):b8 (t.map (λe=>if e.1=k then(e.1,v) else e)) j=if k=j then(b8 t j).map λ_=>v else b8 t j:=by
 induction t with
 | nil=>show ae=_;split<;>rfl
 | cons e t E=>
  rw[Bd,nO,nO,E]
  by_cases hk:e.1=k
  .rw[Vg hk]
   by_cases hj:k=j
   .rw[Vg hj,Vg (hk.trans hj),Vg (hk.trans hj),Vg hj];rfl
   .rw[Vf hj,Vf (λz=>hj (hk.symm.trans z)),Vf (λz=>hj (hk.symm.trans z)),Vf hj]
  .rw[Vf hk]
   by_cases hj:e.1=j
   .rw[Vg hj,Vg hj,Vf (λz=>hk (hj.trans z.symm))]
   .rw[Vf hj,Vf hj]
theorem AB(t:↑(U×J))(k j:U)(v:J):b8 (jH t k v) j=if k=j then aa v else b8 t j:=by
 unfold jH;rw[jW];split
 .rename_i h;rw[zaD]
  by_cases hj:k=j
  .subst hj;let⟨_,e⟩:=Ef.mp h;rw[Vg rfl,Vg rfl,e];rfl
  .rw[Vf hj,Vf hj]
 .rename_i h;rw[IG,nO];show(b8 t j).or (if k=j then aa v else ae)=_
  by_cases hj:k=j
  .subst hj;rw[Vg rfl,Vg rfl];cases e:b8 t k with
   | none=>rfl
   | some z=>rw[e]at h;exact absurd rfl h
  .rw[Vf hj,Vf hj,Option.or_none]
theorem zaE(t:↑(U×J))(k:U)(v:J):↥(jH t k v)<=↥t+1:=by
 unfold jH;split
 .rw[Ab];lia
 .simp
end
theorem II{U J:Type}[DecidableEq U]{t:↑(U×J)}{k:U}(h:∀e∈t,e.1≠k):b8 t k=ae:=by
 unfold b8;rw[List.find?_eq_none.mpr λe Y z=>h e Y (Vh z)];rfl
theorem vK{U J:Type}[DecidableEq U]{t:↑(U×J)}{k:U}{v:J}(h:b8 t k=ae):jH t k v=t++[(k,v)]:=by
 unfold jH;rw[jW,h];rfl
theorem vM{U J:Type}[DecidableEq U]{t:↑(U×J)}{k:U}{v:J}(h:b8 t k=aa v):∃a b,t=a++(k,v)::b:=by
 induction t with
 | nil=>cases h
 | cons e t E=>
  rw[nO]at h
  by_cases hk:e.1=k
  .rw[Vg hk]at h;cases h;exact⟨[],t,by rw[<-hk];rfl⟩
  .rw[Vf hk]at h;let⟨a,b,rfl⟩:=E h;exact⟨e::a,b,rfl⟩
theorem len_sub{q:Type}[DecidableEq q]:∀{a b:↑q},a.Nodup->(∀x∈a,x∈b)->↥a<=↥b
 | [],b,_,_=>Cn _
 | x::a,b,hn,F=>by
  rw[Ca]at hn;have J:=F x Bl;have E:=len_sub (a:=a) (b:=b.erase x) hn.2 λy f=>by
   have j:y≠x:=λe=>hn.1 (by rw[<-e];exact f);exact(List.mem_erase_of_ne j).mpr (F y (Bj _ f))
  rw[List.length_erase_of_mem J]at E;have:=List.length_pos_of_mem J;rw[Bw];lia
theorem IJ{q J:Type}{f:q->↑J}{k:Nat}:∀{l:↑q},(∀x∈l,↥(f x)=k)->↥(l.flatMap f)=↥l*k
 | [],_=>by simp
 | x::l,h=>by
  rw[List.flatMap_cons,Ak,h x Bl,IJ λy K=>h y (Bj _ K),Bw,Qc];lia
structure Sr where
 rs:↑aE
 own:Ay->Bool
 places:↑Int
 steps:Ay->Int->↑(Int×Int)
 wt:Nat->Int
abbrev cF:=Ay×Int×Int
abbrev dB:=↑(cF×c0×Nat×↑Int)
theorem nP{U:Type}[DecidableEq U]{kvs:↑(U×W)}{k j:U}{w:W}:aQ (bW kvs k w) j=if k=j then aa w else aQ kvs j:=AB kvs k j w
theorem pZ{U:Type}[DecidableEq U](e:U×W)(t:↑(U×W))(k:U):aQ (e::t) k=if e.1=k then aa e.2 else aQ t k:=nO e t k
theorem vN{U:Type}[DecidableEq U]{k j:U}:∀{kvs:↑(U×W)},aQ (mD kvs k) j=if k=j then ae else aQ kvs j
 | []=>by unfold mD;rw[List.filter_nil];split<;>rfl
 | e::t=>by
  have E:=vN (k:=k) (j:=j) (kvs:=t);unfold mD at E⊢;rw[Ed]
  by_cases h:e.1=k
  .rw[Vf (by simp[h]),E,pZ]
   by_cases hj:k=j
   .rw[Vg hj,Vg hj]
   .rw[Vf hj,Vf hj,Vf (by rw[h];exact hj)]
  .rw[Vg (by simp[h]),pZ,E,pZ]
   by_cases hj:k=j
   .rw[Vg hj,Vg hj,Vf (by rw[<-hj];exact h)]
   .rw[Vf hj,Vf hj]
theorem AD{U:Type}[DecidableEq U](kvs:↑(U×W))(k:U)(w:W):↥(bW kvs k w)<=↥kvs+1:=zaE kvs k w
structure dC{U:Type}(kk:U->↑aC)(M0 M:Mm)(a:An)(kvs:↑(↑aC×W))(g:U->Option (↑W)):Prop where
 sub:L2.Sub M0 M
 new:M0 a=ae
 at_:M a=aa (.dT kvs)
 non:∀k,g k=ae->aQ kvs (kk k)=ae
 som:∀k ws,g k=aa ws->∃p,aQ kvs (kk k)=aa (.ref p)/\p≠a/\M0 p=ae/\M p=aa (.lst ws)
 inj:∀k j p,aQ kvs (kk k)=aa (.ref p)->aQ kvs (kk j)=aa (.ref p)->k=j
theorem gP(h:L2.Sub M0 M)(n:M0 p=ae):L2.Sub M0 (put M p o):=λa u e=>by
 rw[aT (λz=>by rw[z,n]at e;cases e)];exact h a u e
section
variable {n:Type}[DecidableEq n]{kk:n->↑aC}{M0 M:Mm}{a p:An}{kvs:↑(↑aC×W)}{g:n->Option (↑W)}{o:MO}{k:n}{ws:↑W}
theorem dC.lift(h:dC kk M0 M a kvs g)(N:M p=ae\/∃u,M0 p=aa u):dC kk (put M0 p o) (put M p o) a kvs g:=by
 have ne:∀{b:An},M0 b=ae->(∃u,M b=aa u)->b≠p:=λ{b} G ⟨u,O⟩ e=>by
  subst e;rcases N with z|⟨v,z⟩
  .rw[O]at z;cases z
  .rw[G]at z;cases z
 refine⟨Sub.put h.sub,?_,?_,h.non,λk ws e=>?_,h.inj⟩
 .rw[aT (ne h.new ⟨_,h.at_⟩)];exact h.new
 .rw[aT (ne h.new ⟨_,h.at_⟩)];exact h.at_
 .let⟨q,O,L,h3,D⟩:=h.som k ws e;have:=ne h3 ⟨_,D⟩;exact⟨q,O,L,by rw[aT this];exact h3,by rw[aT this];exact D⟩
theorem dC.more(h:dC kk M0 M a kvs g)(N:M p=ae):dC kk M0 (put M p o) a kvs g:=by
 have ne:∀{b:An},(∃u,M b=aa u)->b≠p:=λ{b} ⟨u,O⟩ e=>by subst e;rw[N]at O;cases O
 refine⟨gP h.sub (h.sub.non N),h.new,by rw[aT (ne ⟨_,h.at_⟩)];exact h.at_,h.non,λk ws e=>?_,h.inj⟩;let⟨q,O,L,h3,D⟩:=h.som k ws e;exact⟨q,O,L,h3,by rw[aT (ne ⟨_,D⟩)];exact D⟩
theorem dC.has(h:dC kk M0 M a kvs g)(e:g k=aa ws):∃p,aQ kvs (kk k)=aa (.ref p)/\M p=aa (.lst ws):=by
 let⟨q,O,_,_,D⟩:=h.som k ws e;exact⟨q,O,D⟩
theorem dC.look(h:dC kk M0 M a kvs g)(k:n):(aQ kvs (kk k)).isSome=(g k).isSome:=by
 cases e:g k with
 | none=>rw[h.non k e];rfl
 | some ws=>let⟨q,O,_⟩:=h.has e;rw[O];rfl
theorem dC.wr(h:dC kk M0 M a kvs g)(hk:aQ kvs (kk k)=aa (.ref p)):dC kk M0 (put M p (.lst ws)) a kvs (λj=>if k=j then aa ws else g j):=by
 obtain⟨b,F⟩:∃b,g k=aa b:=by
  cases e:g k with
  | none=>rw[h.non k e]at hk;cases hk
  | some ws=>exact⟨_,rfl⟩
 let⟨q,O,L,h3,D⟩:=h.som k b F;rw[hk]at O;cases O;refine⟨gP h.sub h3,h.new,by rw[aT (Bx L)];exact h.at_,λj e=>?_,λj us e=>?_,h.inj⟩
 .by_cases hj:k=j
  .rw[Vg hj]at e;cases e
  .rw[Vf hj]at e;exact h.non j e
 .by_cases hj:k=j
  .rw[Vg hj]at e;cases e;subst hj;exact⟨p,hk,L,h3,aJ⟩
  .rw[Vf hj]at e;let⟨q,G,T,Z,V⟩:=h.som j us e;refine⟨q,G,T,Z,?_⟩;rw[aT (λz=>hj (h.inj k j p hk (by rw[<-z];exact G)))];exact V
theorem dC.add(c:∀k j,kk k=kk j->k=j)(h:dC kk M0 M a kvs g)(T:g k=ae)(N:M p=ae):dC kk M0 (put (put M p (.lst ws)) a (.dT (bW kvs (kk k) (.ref p)))) a (bW kvs (kk k) (.ref p)) (λj=>if k=j then aa ws else g j):=by
 have ne:∀{b:An},(∃u,M b=aa u)->b≠p:=λ{b} ⟨u,O⟩ e=>by subst e;rw[N]at O;cases O
 have d:p≠a:=Bx (ne ⟨_,h.at_⟩);have f:∀j q,aQ kvs (kk j)=aa (.ref q)->∃u,M q=aa u:=λj q e=>by
  cases l:g j with
  | none=>rw[h.non j l]at e;cases e
  | some us=>
   let⟨C,G,_,_,V⟩:=h.som j us l;rw[e]at G;cases G;exact⟨_,V⟩
 refine⟨gP (gP h.sub (h.sub.non N)) h.new,h.new,aJ,λj e=>?_,λj us e=>?_,λi j q D A=>?_⟩
 .by_cases hj:k=j
  .rw[Vg hj]at e;cases e
  .rw[Vf hj]at e;rw[nP,Vf (λz=>hj (c _ _ z))];exact h.non j e
 .by_cases hj:k=j
  .rw[Vg hj]at e;cases e;subst hj;exact⟨p,by rw[nP,Vg rfl],d,h.sub.non N,by rw[aT d,aJ]⟩
  .rw[Vf hj]at e;let⟨q,G,J,Z,V⟩:=h.som j us e;exact⟨q,by rw[nP,Vf (λz=>hj (c _ _ z))];exact G,J,Z,by rw[aT J,aT (ne ⟨_,V⟩)];exact V⟩
 .rw[nP]at D A
  by_cases O:kk k=kk i
  .by_cases L:kk k=kk j
   .exact(c _ _ O).symm.trans (c _ _ L)
   .rw[Vg O]at D;rw[Vf L]at A;cases D;let⟨u,z⟩:=f j p A;rw[N]at z;cases z
  .by_cases L:kk k=kk j
   .rw[Vf O]at D;rw[Vg L]at A;cases A;let⟨u,z⟩:=f i p D;rw[N]at z;cases z
   .rw[Vf O]at D;rw[Vf L]at A;exact h.inj i j q D A
theorem dC.del(c:∀k j,kk k=kk j->k=j)(h:dC kk M0 M a kvs g):dC kk M0 (put M a (.dT (mD kvs (kk k)))) a (mD kvs (kk k)) (λj=>if k=j then ae else g j):=by
 refine⟨gP h.sub h.new,h.new,aJ,λj e=>?_,λj us e=>?_,λi j q D A=>?_⟩
 .rw[vN]
  by_cases hj:k=j
  .rw[Vg (by rw[hj])]
  .rw[Vf hj]at e;rw[Vf (λz=>hj (c _ _ z))];exact h.non j e
 .by_cases hj:k=j
  .rw[Vg hj]at e;cases e
  .rw[Vf hj]at e;let⟨q,G,T,Z,V⟩:=h.som j us e;exact⟨q,by rw[vN,Vf (λz=>hj (c _ _ z))];exact G,T,Z,by rw[aT T];exact V⟩
 .rw[vN]at D A;split at D
  .cases D
  .split at A
   .cases A
   .exact h.inj i j q D A
theorem dC.same{g':n->Option (↑W)}(h:dC kk M0 M a kvs g)(e:∀k,g' k=g k):dC kk M0 M a kvs g':=by
 have:g'=g:=funext e;rw[this];exact h
theorem fD(h:M a=aa (.lst ws)):kD "list" (.ref a) M:=.inl ⟨rfl,_,h⟩
theorem oV(h:M a=aa (.dT kvs)):kD "dict" (.ref a) M:=.inr ⟨rfl,.inr ⟨_,h⟩⟩
theorem dC.push{U:Mm->Mm->Prop}{d:Mm}{x:W}{R:K3}{T:W->Mm->Prop}(c:∀k j,kk k=kk j->k=j)(f:∀{N i:Mm} {p:An} {o:MO},U N i->(i p=ae\/∃u,N p=aa u)->U (put N p o) (put i p o))(sb:∀{N i:Mm},U N i->L2.Sub N i)(u:U M d)(t:dC kk M0 M a kvs g)(s:∀y N,dU y [x] N R->T y N)(hn:↥kvs<10000000)(hl:↥((g k).getD [])<10000000)(r:∀N i b,dC kk M0 N a b (λj=>if k=j then aa ((g k).getD []++[x]) else g j)->U N i->↥b<=↥kvs+1->R .non i):kD "dict" (.ref a) d/\∀p,d p=ae->pW (.ref a) [.tup ((kk k).map wK),.ref p] (put d p (.lst [])) λy N=>kD "list" y N/\T y N:=by
 have m:=sb u _ _ t.at_;refine⟨oV m,λp S=>?_⟩;have Q:=(sb u).non S;have ne:p≠a:=λz=>by rw[z,m]at S;cases S
 refine⟨kvs,kk k,by rw[aT (Bx ne)];exact m,rfl,cS hn,λw hw=>?_,λhw=>?_⟩
 .cases e:g k with
  | none=>rw[t.non k e]at hw;cases hw
  | some ws=>
   let⟨q,O,L⟩:=t.has e;rw[hw]at O;cases O;have z:put M p (.lst []) q=aa (.lst ((g k).getD [])):=by rw[aT (λz=>by rw[z,Q]at L;cases L),e];exact L
   have G:=f (o:=.lst []) u (.inl S);have y:=sb G _ _ z;exact⟨fD y,s _ _ ⟨_,y,cS hl,r _ _ kvs ((t.more Q).wr hw) (f G (.inr ⟨_,z⟩)) (Hg _)⟩⟩
 .have e:g k=ae:=by
   cases e:g k with
   | none=>rfl
   | some ws=>let⟨_,O,_⟩:=t.has e;rw[hw]at O;cases O
  have J:=f (p:=a) (o:=.dT (bW kvs (kk k) (.ref p))) (f (o:=.lst []) u (.inl S)) (.inr ⟨.dT kvs,by rw[aT (Bx ne)];exact t.at_⟩);have z:put (put M p (.lst [])) a (.dT (bW kvs (kk k) (.ref p))) p=aa (.lst []):=by rw[aT ne,aJ]
  have y:=sb J _ _ z;refine⟨fD y,s _ _ ⟨[],y,cS ∅,r _ _ _ (((t.add c (ws:=[]) e Q).wr (ws:=[x]) (by rw[nP,Vg rfl])).same λj=>?_) (f J (.inr ⟨_,z⟩)) (AD ..)⟩⟩;rw[e]
  by_cases hj:k=j
  .rw[Vg hj,Vg hj];rfl
  .rw[Vf hj,Vf hj,Vf hj]
end
def lo{q:Type}(f:q->W)(l:↑q):Option (↑W):=if l=[] then ae else aa (l.map f)
theorem vO{q:Type}(f:q->W)(l:↑q):(lo f l).getD []=l.map f:=by cases l<;>rfl
theorem AE{q:Type}(f:q->W)(l:↑q)(x:q):lo f (l++[x])=aa ((lo f l).getD []++[f x]):=by
 rw[vO];unfold lo;rw[Vf (by simp),Aw];rfl
structure Cc where
 q:An
 s:An
 f:An
 g:An
 p:An
 h:An
 i:An
 c:An
 t:An
def cW(c:c0):W:=.tup [.int c.1,.int c.2]
def cK(c:c0):↑aC:=[Sum.inl c.1,Sum.inl c.2]
theorem IK:∀a b:c0,cK a=cK b->a=b:=λa b h=>by
 unfold cK at h;simp only[Es,Mh,and_true]at h;exact Nj h.1 h.2
abbrev rep(k:Nat):↑Int:=Bz k 0
def gQ(cut:↑Int):W:=.tup (cut.map W.int)
def lC(x:Nat×Nat):W:=.tup [.int x.1,gQ (rep x.2)]
structure Aq where
 o:An
 d:An
 c:An
 w:An
def qf(A:Aq):↑(Ay×W):=[("costs",.ref A.c),("waiting",.ref A.w)]
theorem p6:Cf ("costs" : Ay) (qf A)=aa (W.ref A.c):=by kernel_rfl
theorem p7:Cf ("waiting" : Ay) (qf A)=aa (W.ref A.w):=by kernel_rfl
theorem zaF:Cf ("place_of" : Ay) (qf A)=ae:=by kernel_rfl
theorem zaG:Cf ("put" : Ay) (qf A)=ae:=by kernel_rfl
theorem zaH:Cf ("take" : Ay) (qf A)=ae:=by kernel_rfl
theorem zaI:Cf ("is_done" : Ay) (qf A)=ae:=by kernel_rfl
structure Qm(C:Cc)(M0 M:Mm)(A:Aq)(cs:↑c0):Prop where
 sub:L2.Sub M0 M
 no:M0 A.o=ae
 nc:M0 A.c=ae
 ne:A.o≠A.c
 ob:M A.o=aa (.ins C.q A.d (qf A))
 co:M A.c=aa (.lst (cs.map cW))
abbrev Qu:=↑(c0×Nat×Nat)
abbrev wG(q:Qu)(c:c0):Option (↑W):=lo (λe=>lC e.2) (q.filter λe=>decide (e.1=c))
structure QR(C:Cc)(M0 M:Mm)(A:Aq)(q:Qu)(m:Nat):Prop where
 le:↥q<=m
 ex:∃M1 kvs cs,Qm C M0 M1 A cs/\dC cK M1 M A.w kvs (wG q)/\cs.Nodup/\(∀c,c∈cs↔c∈q.map (·.1))/\↥kvs<=m
theorem vP:wG q c=ae↔c∉q.map (·.1):=by
 have:(q.filter λe=>decide (e.1=c))=[]↔c∉q.map (·.1):=by
  rw[List.filter_eq_nil_iff];exact⟨λh z=>let ⟨e,h1,h2⟩:=Ap.mp z;h e h1 (Vi h2),λh e Y z=>h (Ap.mpr ⟨e,Y,Vh z⟩)⟩
 rw[<-this];unfold wG lo;split
 .exact⟨λ_=>‹_›,λ_=>rfl⟩
 .exact⟨(λh=>nomatch h),λh=>absurd h ‹_›⟩
theorem IL:∀{q:Qu},c∈q.map (·.1)->∃q1 x q2,q=q1++(c,x)::q2/\c∉q2.map (·.1)
 | e::q,h=>by
  by_cases L:c∈q.map (·.1)
  .let⟨a,x,b,rfl,h3⟩:=IL L;exact⟨e::a,x,b,rfl,h3⟩
  .rcases Au.mp h with rfl|h
   .exact⟨[],e.2,q,rfl,L⟩
   .exact absurd h L
theorem Qm.lift{C:Cc}{M0 M:Mm}{A:Aq}{cs:↑c0}{p:An}{o:MO}(h:Qm C M0 M A cs)(N:M p=ae\/∃u,M0 p=aa u):Qm C (put M0 p o) (put M p o) A cs:=by
 have ne:∀{b:An},M0 b=ae->(∃u,M b=aa u)->b≠p:=λ{b} G ⟨u,O⟩ e=>by
  subst e;rcases N with z|⟨v,z⟩
  .rw[O]at z;cases z
  .rw[G]at z;cases z
 have d:=ne h.no ⟨_,h.ob⟩;have j:=ne h.nc ⟨_,h.co⟩;exact⟨Sub.put h.sub,by rw[aT d];exact h.no,by rw[aT j];exact h.nc,h.ne,by rw[aT d];exact h.ob,by rw[aT j];exact h.co⟩
theorem Qm.costs{C:Cc}{M0 M:Mm}{A:Aq}{cs cs':↑c0}(h:Qm C M0 M A cs):Qm C M0 (put M A.c (.lst (cs'.map cW))) A cs':=
 ⟨gP h.sub h.nc,h.no,h.nc,h.ne,by rw[aT h.ne];exact h.ob,aJ⟩
theorem QR.lift{m:Nat}(h:QR C M0 M A q m)(N:M p=ae\/∃u,M0 p=aa u):QR C (put M0 p o) (put M p o) A q m:=by
 let⟨I,kvs,cs,O,L,h3⟩:=h.ex;refine⟨h.le,put I p o,kvs,cs,O.lift ?_,L.lift ?_,h3⟩
 .rcases N with z|z
  .exact .inl (L.sub.non z)
  .exact .inr z
 .rcases N with z|⟨u,z⟩
  .exact .inl z
  .exact .inr ⟨u,O.sub _ _ z⟩
theorem QR.sub{m:Nat}(h:QR C M0 M A q m):L2.Sub M0 M:=by
 let⟨I,kvs,cs,O,L,h3⟩:=h.ex;exact O.sub.trans L.sub
theorem QR.ob{m:Nat}(h:QR C M0 M A q m):M A.o=aa (.ins C.q A.d (qf A)):=by
 let⟨I,kvs,cs,O,L,h3⟩:=h.ex;exact L.sub _ _ O.ob
section
variable {ws:↑W}{g:eS}{tb:aD}{D:D3}{τ:S3}{M:Mm}
theorem dX(r:Nat->S3->Mm->Prop)(G:r 0 τ M)(F:∀i w τ M,ws[i]? = aa w->r i τ M->g w τ M λR d=>tb {D with nx:=λv V=>∃u,Sub u V/\r (i+1) v u,ct:=λv V=>∃u,Sub u V/\r (i+1) v u,bk:=D.nx} R d)(hd:∀τ M,r ↥ws τ M->D.nx τ M):oP ws (λ_=>True) g tb D τ M:=uU r G (λ_ _ _ _ _=>trivial) F hd
theorem gC(r:Nat->S3->Mm->Prop)(G:r 0 τ M)(F:∀i w τ M,ws[i]? = aa w->r i τ M->∀Q:D3,(∀τ M,r (i+1) τ M->Q.nx τ M)->g w τ M λR d=>tb Q R d)(hd:∀τ M,r ↥ws τ M->D.nx τ M):oP ws (λ_=>True) g tb D τ M:=dX r G (λi w τ M e p=>F i w τ M e p _ λ_ M z=>⟨M,aP,z⟩) hd
theorem AF(r:Nat->S3->Mm->Prop)(G:∃m,r m τ M)(F:∀m τ M,r m τ M->∀Q:D3,(∀e τ M,e<m->r e τ M->Q.nx τ M)->c τ M λb I=>if b=ab then tb Q τ I else D.nx τ I):l7 c tb D τ M:=⟨r,G,λm τ M p=>F m τ M p _ λe _ M l z=>⟨e,M,l,aP,z⟩⟩
end
def IM(C:Cc):aY:=λws M R=>∃M0 a dx,ws=[.ref a]/\M=put M0 a (.ins C.q dx [])/\M0 a=ae/\∀V (A:Aq),A.o=a->QR C M0 V A [] 0->R .non V
def IP(C:Cc):aY:=λws M R=>∃M0 A q m,ws=[.ref A.o]/\QR C M0 M A q m/\R (.bl (decide (q=[]))) M
def IQ(C:Cc):aY:=λws M R=>∃(A:Aq) (cs:↑c0) (c:c0),ws=[.ref A.o,cW c]/\M A.o=aa (.ins C.q A.d (qf A))/\M A.c=aa (.lst (cs.map cW))/\∀i:Nat,i<=↥cs->R (.int i) M
def IS(C:Cc):aY:=λws M R=>∃M0 A q m c x,ws=[.ref A.o,cW c,lC x]/\QR C M0 M A q m/\m<1000000/\∀V,QR C M0 V A (q++[(c,x)]) (m+1)->R .non V
def IT(C:Cc):aY:=λws M R=>∃M0 A q m,ws=[.ref A.o]/\QR C M0 M A q m/\q≠[]/\∀V q1 c x q2,q=q1++(c,x)::q2->QR C M0 V A (q1++q2) m->R (.tup [cW c,lC x]) V
abbrev zaJ:↑Ay:=["self"]
abbrev zaK(C:Cc):aD:=
   (aF (jF C.q aH "costs" (gA aB))
   (jF C.q aH "waiting" kZ))
abbrev zaL:↑Ay:=["self"]
abbrev zaM(C:Cc):aD:=
   (bM (aG (eD ac) (bH cL (aA (c8 C.q aH "costs") aB)) bC))
abbrev zaN:↑Ay:=["self","cost","thing"]
abbrev zaO(C:Cc):aD:=
   (aF (cC (bN (aG (bX ab) aM (c8 C.q aH "waiting")))
    (aF (fP (gA aB) (gM (c8 C.q aH "waiting") aM))
   (b7 (cR "list" HU (c8 C.q aH "costs") (aA (d8 C.q "place_of" (IQ C) aH (aA aM aB)) (aA aM aB)))))
    cX)
   (b7 (cR "list" dU (vX (c8 C.q aH "waiting") aM) (aA aX aB))))
abbrev zaP:↑Ay:=["self","cost","low","high","middle"]
abbrev zaQ(C:Cc):aD:=
   (aF (aN 4 (aG jA (aG cE aX bB) l5))
   (cC (bN (aG r6 (vX (c8 C.q aH "costs") bA) aM))
    (aN 2 (aG cE bA a7))
    (aN 3 bA)))
abbrev zaR(C:Cc):aD:=
   (l7 (bN (aG nC aX bB)) (zaQ C))
abbrev zaS(C:Cc):aD:=(aF (aN 2 bC) (aF (aN 3 (bH cL (aA (c8 C.q aH "costs") aB))) (aF (zaR C) (bM aX))))
abbrev zaT:↑Ay:=["self","cost","things","thing"]
abbrev zaU(C:Cc):aD:=
   (aN 1 (vX (c8 C.q aH "costs") (kB kE a7)))
abbrev zaV(C:Cc):aD:=
   (cC (bN (aG (eD ac) (bH cL (aA aX aB)) bC))
    (aF (b7 (rF "list" uO (c8 C.q aH "costs")))
   (b7 (cR "dict" HC (c8 C.q aH "waiting") (aA aM aB))))
    cX)
abbrev zaW(C:Cc):aD:=(aF (zaU C) (aF (aN 2 (vX (c8 C.q aH "waiting") aM)) (aF (aN 3 (rF "list" uO aX)) (aF (zaV C) (bM (a8 (aA aM (aA bB aB))))))))
theorem z3:3<=Ax:=by decide
theorem bS{b:Bool}{P Q:Prop}(O:b=ab->P)(L:b=ac->Q):if b=ab then P else Q:=by cases b;exact L rfl;exact O rfl
theorem zaX{R:↑W->(Mm->Prop)->Mm->Prop}(e:w=.rl ws)(h:R ws (λ_=>True) M):L2.jU w M R:=by rw[e];exact h
theorem p9(h:M a=aa (.dT kvs))(hl:aQ kvs k=aa w)(r:R w M):nE a (.tup (k.map wK)) M R:=FY (.inr ⟨kvs,k,h,rfl,hl.symm⟩) r
theorem fI{C a dx:An}{fs:↑(Ay×W)}{f:Ay}{w:W}{M:Mm}{R:W->Prop}(h:M a=aa (.ins C dx fs))(l:fs.lookup f=aa w)(r:R w):∃c dx fs w,W.ref a=.ref c/\M c=aa (.ins C dx fs)/\fs.lookup f=aa w/\R w:=⟨a,dx,fs,w,rfl,h,l,r⟩
theorem mI{C a dx:An}{fs:↑(Ay×W)}{f:Ay}{M:Mm}{R:An->Prop}(h:M a=aa (.ins C dx fs))(l:fs.lookup f=ae)(r:R a):∃c dx fs,W.ref a=.ref c/\M c=aa (.ins C dx fs)/\fs.lookup f=ae/\R c:=⟨a,dx,fs,rfl,h,l,r⟩
theorem zaY{C:Cc}:bG (IP C) (zaM C) zaL:=by
 rintro _ M R ⟨M0,A,q,m,rfl,Z,r⟩;let⟨I,kvs,cs,m1,g,_,mem,_⟩:=Z.ex;refine fI Z.ob p6 (.inl ⟨_,g.sub _ _ m1.co,M,aP,?_⟩);have e:decide ((↥(cs.map cW):Int)=0)=decide (q=[]):=by
  cases cs with
  | nil=>
   cases q with
   | nil=>rfl
   | cons e q=>exact nomatch (mem e.1).mpr (Bl ..)
  | cons d cs=>
   cases q with
   | nil=>exact nomatch (mem d).mp (Bl ..)
   | cons e q=>exact(Vj (by rw[Bd,Bw];lia))
 show R (.bl (decide ((↥(cs.map cW):Int)=0))) M;rw[e];exact r
theorem zaZ:bG (IM C) (zaK C) zaJ:=by
 rintro _ M R ⟨M0,a,dx,rfl,rfl,m,r⟩;refine(λp N=>?_);have d:p≠a:=λe=>by rw[e,aJ]at N;cases N
 have i:M0 p=ae:=by rw[aT d]at N;exact N
 refine⟨a,dx,[],rfl,by rw[aT (Bx d),aJ],by decide,λw hw=>?_⟩;have f:w≠a:=λe=>by rw[e,aJ]at hw;cases hw
 have g:w≠p:=λe=>by rw[e,aT d,aJ]at hw;cases hw
 have l:M0 w=ae:=by rw[aT f,aT g,aT f]at hw;exact hw
 refine⟨a,dx,dZ "costs" (.ref p) [],rfl,by rw[aT (Bx f),aJ],(show(1:Nat)<1000 by decide),_,aP,r _ ⟨a,dx,p,w⟩ rfl ⟨Ai _,put (put M0 p (.lst [])) a (.ins C.q dx (qf ⟨a,dx,p,w⟩)),[],[],⟨gP (gP (aP) i) m,m,i,Bx d,aJ,by rw[aT d,aJ];rfl⟩,?_,.nil,(λc=>⟨(λh=>nomatch h),(λh=>nomatch h)⟩),Ai _⟩⟩;have e:put (put (put (put (put M0 a (.ins C.q dx [])) p (.lst [])) a (.ins C.q dx (dZ "costs" (.ref p) []))) w (.dT [])) a (.ins C.q dx (dZ "waiting" (.ref w) (dZ "costs" (.ref p) [])))=put (put (put M0 p (.lst [])) a (.ins C.q dx (qf ⟨a,dx,p,w⟩))) w (.dT []):=by
  have eq:dZ "waiting" (.ref w) (dZ "costs" (.ref p) [])=qf ⟨a,dx,p,w⟩:=by
   show(if (("costs" : Ay)=("waiting" : Ay)) then _ else _)=_;rw[Vf (by decide +kernel)];rfl
  rw[eq];funext b;unfold put
  by_cases O:b=a<;>by_cases L:b=w<;>by_cases h3:b=p<;>simp_all
 rw[e];exact⟨gP (aP) (by rw[aT f,aT g];exact l),by rw[aT f,aT g];exact l,aJ,(λ_ _=>rfl),(λk ws e=>nomatch e),(λk j p e=>nomatch e)⟩
theorem za0{C:Cc}:bG (IQ C) (zaS C) zaP:=by
 rintro _ M R ⟨A,cs,c,rfl,S,hc,r⟩;refine fI S p6 (.inl ⟨_,hc,?_⟩);refine AF (λm τ V=>∃lo hi:Nat,∃o,τ=[aa (.ref A.o),aa (cW c),aa (.int lo),aa (.int hi),o]/\V=M/\hi<=↥cs/\lo<=hi/\m=hi-lo) ⟨_,0,↥cs,ae,by rw[Ab];rfl,rfl,Ai _,Cn _,rfl⟩ ?_;rintro m τ V ⟨lo,hi,o,rfl,rfl,O,L,rfl⟩ D K;refine(bS (λG=>?_) λG=>⟨_,aP,r lo (by lia)⟩);have a:=Vh G;refine⟨⟨by decide,by decide⟩,?_⟩;obtain⟨b,P⟩:∃b,b=(lo+hi)/2:=⟨_,rfl⟩;have Q:((lo:Int)+(hi:Int))/2=(b:Nat):=by lia
 dsimp only;rw[Q];obtain⟨d,hd⟩:∃d,cs[b]? = aa d:=⟨_,Bn (by lia)⟩;refine fI S p6 (kY (w:=cW d) hc (iL (by rw[Av,hd];rfl)) ⟨d.1,d.2,c.1,c.2,rfl,rfl,λz _=>bS (λ_=>?_) λ_=>?_⟩)
 .exact K _ _ _ (by lia) ⟨b+1,hi,_,rfl,rfl,O,by lia,rfl⟩
 .exact K _ _ _ (by lia) ⟨lo,b,_,rfl,rfl,by lia,by lia,rfl⟩
theorem za1{C:Cc}:bG (IS C) (zaO C) zaN:=by
 rintro _ M R ⟨M0,A,q,m,c,x,rfl,Z,P,r⟩;let⟨I,kvs,cs,m1,g,nd,mem,J⟩:=Z.ex;have hl:=Z.le;refine fI Z.ob p7 (.inr ⟨_,.inr ⟨kvs,cK c,g.at_,rfl,rfl⟩,?_⟩);rw[g.look c];have f:∀j,wG (q++[(c,x)]) j=if c=j then aa ((wG q c).getD []++[lC x]) else wG q j:=λj=>by
  show lo _ (Qw _ _)=_;rw[Ik]
  by_cases hj:c=j
  .subst hj;rw[Vg rfl,Ed,Vg (Vi rfl)];exact AE ..
  .rw[Vf hj,Ed,Vf (λz=>hj (Vh z)),List.filter_nil,Ce]
 have le:↥(q++[(c,x)])<=m+1:=by rw[Ak];exact Ee hl
 have me:∀d,d∈(q++[(c,x)]).map (·.1)↔d=c\/d∈cs:=λd=>by rw[mem,Aw,Ba,or_comm];exact or_congr Af Rl
 cases L:wG q c with
 | some ws=>
  let⟨p,a,Q⟩:=g.has L;have hw:ws=(q.filter λe=>decide (e.1=c)).map λe=>lC e.2:=by rw[<-vO,show lo _ _=aa ws from L];rfl
  have hc:c∈cs:=(mem c).mpr (Gq λz=>by rw[vP.mpr z]at L;cases L);have hf:=Fw (λe=>decide (e.1=c)) q;refine fI Z.ob p7 (p9 g.at_ a ⟨fD Q,_,Q,cS (by rw[hw,Ab];lia),_,aP,r _ ⟨le,I,kvs,cs,m1,(g.wr a).same λj=>by rw[f,L];rfl,nd,λd=>?_,My J⟩⟩);rw[me];exact⟨.inr,λh=>h.elim (λz=>z▸hc) id⟩
 | none=>
  have hn:c∉cs:=λz=>vP.mp L ((mem c).mp z);have s:=len_sub nd λd hd=>(mem d).mp hd;rw[Ab]at s;refine λp N=>?_;have X:=g.add IK (ws:=[]) L N;have l:A.o≠p:=λe=>by rw[<-e,Z.ob]at N;cases N
  refine fI (by rw[aT l];exact Z.ob) p7 (oR (k:=cK c) (kvs:=kvs) (by rw[aT (λe=>by rw[<-e,g.at_]at N;cases N)];exact g.at_) (cS (by lia)) ?_);have n:=X.sub _ _ m1.ob;have S:=X.sub _ _ m1.co;refine fI n p6 ⟨fD S,mI n zaF ⟨A,cs,c,rfl,n,S,λi hi=>⟨_,S,cS (by rw[Ab];lia),by lia,by rw[Ab];lia,?_⟩⟩⟩;rw[show(cs.map cW).take (Int.toNat (i:Nat))++cW c::(cs.map cW).drop (Int.toNat (i:Nat))=(cs.take i++c::cs.drop i).map cW by rw[De,Aw,Bd,Pf,Mz]];have b:=X.lift (p:=A.c) (o:=.lst ((cs.take i++c::cs.drop i).map cW)) (.inr ⟨_,m1.co⟩);have m3:=m1.costs (cs':=cs.take i++c::cs.drop i);let⟨w,a,Q⟩:=b.has (k:=c) (ws:=[]) (by rw[Vg rfl]);refine fI (b.sub _ _ m3.ob) p7 (p9 b.at_ a ⟨fD Q,_,Q,cS ∅,_,aP,r _ ⟨le,_,_,_,m3,(b.wr a).same (λj=>?_),Lf.nodup_iff.mpr (by rw[Hj];exact Ca.mpr ⟨hn,nd⟩),λd=>by rw[me,Lf.mem_iff,Hj,Au],Ar (AD ..) (Ee J)⟩⟩);rw[f j,L]
  by_cases hj:c=j
  .rw[Vg hj,Vg hj];rfl
  .rw[Vf hj,Vf hj,Vf hj]
theorem za2{C:Cc}:bG (IT C) (zaW C) zaT:=by
 rintro _ M R ⟨M0,A,q,m,rfl,Z,F,r⟩;let⟨I,kvs,cs,m1,g,nd,mem,J⟩:=Z.ex;rcases Lc cs with rfl|⟨cs,c,rfl⟩
 .cases q with
  | nil=>exact absurd rfl F
  | cons e q=>exact nomatch (mem e.1).mpr (Bl ..)
 rw[Ld]at m1 nd mem;let⟨q1,x,q2,rfl,hn⟩:=IL ((mem c).mp (by simp));obtain⟨G,f⟩:∃G,G=q1.filter λe=>decide (e.1=c):=⟨_,rfl⟩;have L:(q2.filter λe=>decide (e.1=c))=[]:=List.filter_eq_nil_iff.mpr λe Y z=>hn (Ap.mpr ⟨e,Y,Vh z⟩);have hf:wG (q1++(c,x)::q2) c=aa (G.map (λe=>lC e.2)++[lC x]):=by
  show lo _ (Qw _ _)=_;rw[Ik,Ed,Vg (Vi rfl),L,<-f,AE,vO]
 have T:∀j,wG (q1++q2) j=if c=j then lo (λe=>lC e.2) G else wG (q1++(c,x)::q2) j:=λj=>by
  show lo _ (Qw _ _)=if c=j then _ else lo _ (Qw _ _);rw[Ik,Ik,Ed]
  by_cases hj:c=j
  .subst hj;rw[Vg rfl,L,Ce,<-f]
  .rw[Vf hj,Vf (λz=>hj (Vh z))]
 let⟨p,a,Q⟩:=g.has hf;have v:I A.c=aa (.lst (cs.map cW++[cW c])):=by rw[m1.co,Aw];rfl
 have le:↥(q1++q2)<=m:=Ar (by rw[Ak,Ak,Bw];lia) Z.le;have me:∀d,d∈cs++[c]↔d=c\/d∈(q1++q2).map (·.1):=λd=>by rw[mem,Aw,Bd,Lf.mem_iff,Au,Aw]
 have X:=g.wr (ws:=G.map λe=>lC e.2) a;refine fI Z.ob p6 (kY (g.sub _ _ v) (DH _ _) (fI Z.ob p7 (p9 g.at_ a ⟨fD Q,⟨_,_,Q,.inl ⟨_,aJ,?_⟩⟩⟩)));cases G with
 | nil=>
  have m2:=m1.costs (cs':=cs);have b:=X.lift (p:=A.c) (o:=.lst (cs.map cW)) (.inr ⟨_,v⟩);have hc:c∉(q1++q2).map (·.1):=vP.mp ((T c).trans (Vg rfl));refine fI (X.sub _ _ m1.ob) p6 ⟨fD (X.sub _ _ v),_,_,X.sub _ _ v,fI (b.sub _ _ m2.ob) p7 ⟨oV b.at_,_,cK c,_,b.at_,rfl,a,_,aP,r _ _ _ _ _ rfl ⟨le,_,_,cs,m2,(b.del (k:=c) IK).same (λj=>?_),(Cd.mp nd).1,λd=>⟨λh=>?_,λh=>?_⟩,Ar (Fw ..) J⟩⟩⟩
  .rw[T]
   by_cases hj:c=j
   .rw[Vg hj,Vg hj];rfl
   .rw[Vf hj,Vf hj,Vf hj]
  .refine((me d).mp (Be _ h)).resolve_left λz=>?_;exact(Cd.mp nd).2.2 d h c (Af.mpr rfl) z
  .exact(Ba.mp ((me d).mpr (.inr h))).resolve_right λz=>hc (Af.mp z▸h)
 | cons y G=>
  refine⟨_,aP,r _ _ _ _ _ rfl ⟨le,_,_,_,m1,X.same (λj=>T j),nd,λd=>(me d).trans ⟨λh=>h.elim (λz=>?_) id,.inr⟩,J⟩⟩;rw[z];exact Gq λz=>by have:=(T c).symm.trans (vP.mpr z);rw[Vg rfl]at this;cases this
def kx(x:Nat×Nat):↑aC:=[Sum.inl x.1,Sum.inl x.2,Sum.inl 0,Sum.inl 0]
theorem za3(h:kx x=kx y):x=y:=by
 unfold kx at h;simp only[Es,Mh,and_true,Int.natCast_inj]at h;exact Nj h.1 h.2
def told(B:dB)(t:Ay):Prop:=(t,0,0)∈B.map (·.1)
structure One(G:Sr):Prop where
 pl:G.places=[0]
 st:∀t,G.steps t 0=[]\/∃c,G.steps t 0=[(0,c)]
structure Gd(G:Sr):Prop where
 o:One G
 n:↥G.rs<=100
 p:∀r∈G.rs,↥r.parts<=900
def eE(G:Sr)(B:dB)(t:Ay):Prop:=if G.own t=ab then told B t else G.steps t 0≠[]
def At(G:Sr)(t:Ay)(x:Nat×Nat):Prop:=G.own t=ab/\∃r,G.rs[x.1]? = aa r/\r.parts[x.2-1]? = aa t
structure Sd(G:Sr)(B:dB)(P:↑(Nat×Nat))(x:Nat×Nat)(r:aE):Prop where
 ru:G.rs[x.1]? = aa r
 one:1<=x.2
 le:x.2<=↥r.parts+1
 ok:∀t∈r.parts.take (x.2-1),eE G B t
 pd:2<=x.2->(x.1,x.2-1)∈P
structure SS where
 q:Qu
 rk:↑(↑aC×W)
 best:dB
 en:Ay->↑c0
 bg:Ay->Qu
 bn:Nat
 n:Nat
abbrev al(P:↑(Nat×Nat))(q:Qu)(X:↑(Nat×Nat)):=P++q.map (·.2)++X
def Ord(G:Sr)(B:dB):Prop:=∀pre e post,B=pre++e::post->∃r,G.rs[e.2.2.1]? = aa r/\e.1=(r.name,0,0)/\e.2.2.2=rep (↥r.parts+1)/\(∀t∈r.parts,eE G pre t)/\¬told pre r.name
structure J(G:Sr)(st:SS)(P X:↑(Nat×Nat)):Prop where
 g:Gd G
 nd:(al P st.q X).Nodup
 it:∀e∈st.q,aQ st.rk (kx e.2)=aa (cW e.1)
 rch:∀x,(aQ st.rk (kx x)).isSome=ab->x∈P++st.q.map (·.2)
 rl:st.n<=↥(P++st.q.map (·.2))
 sd:∀x∈al P st.q X,∃r,Sd G st.best P x r
 fin:∀x∈P,∀r,G.rs[x.1]? = aa r->r.parts[x.2-1]? = ae->told st.best r.name
 nx:∀x∈P,∀r t,G.rs[x.1]? = aa r->r.parts[x.2-1]? = aa t->eE G st.best t->(x.1,x.2+1)∈al P st.q X
 bg:∀t x,x∈(st.bg t).map (·.2)↔x∈P/\At G t x
 bd:∀t,((st.bg t).map (·.2)).Nodup
 en:∀t,(st.en t=[]/\¬told st.best t)\/∃c,st.en t=[c]/\told st.best t
 ini:∀n r,G.rs[n]? = aa r->(n,1)∈al P st.q X
 ln:↥st.best<=↥P/\st.bn<=↥P
 bs:Ord G st.best
section
variable {G:Sr}{st:SS}{P X:↑(Nat×Nat)}{c:c0}{x:Nat×Nat}{q1 q2:Qu}{r:aE}{t:Ay}{B B':dB}
theorem J.free(j:J G st P (x::X)):aQ st.rk (kx x)=ae:=by
 cases e:aQ st.rk (kx x) with
 | none=>rfl
 | some w=>exact absurd rfl ((Cd.mp j.nd).2.2 x (j.rch x (by rw[e];rfl)) x (Bl ..))
theorem J.reach(j:J G st P (x::X)):J G {st with rk:=bW st.rk (kx x) (cW c),q:=st.q++[(c,x)],n:=st.n+1} P X:=by
 have F:P++(st.q++[(c,x)]).map (·.2)=P++st.q.map (·.2)++[x]:=by rw[Aw,<-Dc];rfl
 have e:al P (st.q++[(c,x)]) X=al P st.q (x::X):=by unfold al;rw[F,Dc];rfl
 have S:∀y,y∈al P (st.q++[(c,x)]) X↔y∈al P st.q (x::X):=λy=>by rw[e]
 refine⟨j.g,(congrArg Ve e).mpr j.nd,λy f=>?_,λy f=>?_,?_,λy h=>j.sd y ((S y).mp h),j.fin,λy h r t O L h3=>(S _).mpr (j.nx y h r t O L h3),j.bg,j.bd,j.en,λn r h=>(S _).mpr (j.ini n r h),j.ln,j.bs⟩
 .show aQ (bW _ _ _) _=_;rw[nP];rcases Ba.mp f with f|f
  .rw[Vf (λz=>by have:=j.it y f;rw[<-z,j.free]at this;cases this)];exact j.it y f
  .rw[Af.mp f,Vg rfl]
 .have f:(aQ (bW st.rk (kx x) (cW c)) (kx y)).isSome=ab:=f;show y∈P++(st.q++[(c,x)]).map (·.2);rw[F];rw[nP]at f;split at f
  .exact Bi _ (Af.mpr (za3 ‹_›).symm)
  .exact Be _ (j.rch y f)
 .show _<=↥(P++(st.q++[(c,x)]).map (·.2));rw[F,Ak];exact Ee j.rl
theorem IU:told (B++[e]) t↔told B t\/e.1=(t,0,0):=by
 unfold told;rw[Aw,Ba];exact or_congr Rl (by rw[List.map_singleton,Af];exact eq_comm)
theorem eE.mono(d:told B t->told B' t)(h:eE G B t):eE G B' t:=by
 unfold eE at h⊢;split
 .rw[Vg ‹_›]at h;exact d h
 .rw[Vf ‹_›]at h;exact h
theorem Sd.next(s:Sd G B P x r)(h:r.parts[x.2-1]? = aa t)(d:∀t,told B t->told B' t)(ok:eE G B' t)(hz:x∈a):Sd G B' a (x.1,x.2+1) r:=by
 have O:=(Am.mp h).1;have L:=s.one;refine⟨s.ru,Ri ..,by show x.2+1<=_;lia,λu U=>?_,λ_=>hz⟩;have U:u∈r.parts.take (x.2-1+1):=by rw[Pp L];exact U
 rw[Cb,h]at U;rcases Ba.mp U with U|U
 .exact(s.ok u U).mono (d u)
 .rw[Option.toList_some,Af]at U;rw[U];exact ok
theorem J.step{E:Ay->↑c0}{b:Ay->Qu}{n:Nat}(j:J G st P [])(Z:st.q=q1++(c,x)::q2)(hl:↥B<=↥st.best+1/\n<=st.bn+1)(u:X.Nodup)(k:∀y∈X,y∉P++st.q.map (·.2))(i:∀y∈X,∃r,Sd G B (P++[x]) y r)(d:∀t,told st.best t->told B t)(fin:∀r,G.rs[x.1]? = aa r->r.parts[x.2-1]? = ae->told B r.name)(nx:∀y r t,(y∈P/\¬eE G st.best t)\/y=x->G.rs[y.1]? = aa r->r.parts[y.2-1]? = aa t->eE G B t->(y.1,y.2+1)∈X)(bg:∀t,(b t=st.bg t/\¬At G t x)\/(b t=st.bg t++[(c,x)]/\At G t x))(en:∀t,(E t=[]/\¬told B t)\/∃c,E t=[c]/\told B t)(bs:Ord G B):J G ⟨q1++q2,st.rk,B,E,b,n,st.n⟩ (P++[x]) X:=by
 have N:(P++[x]++(q1++q2).map (·.2)).Perm (P++st.q.map (·.2)):=by
  rw[Z,Aw,Aw,Bd,Dc,List.singleton_append];exact List.Perm.append_left _ Lf.symm
 have nd:=j.nd;unfold al at nd;rw[Ce]at nd;have S:∀y,y∈P++[x]++(q1++q2).map (·.2)↔y∈P++st.q.map (·.2):=λy=>N.mem_iff;have up:∀{y},y∈al P st.q []->y∈al (P++[x]) (q1++q2) X:=λh=>Be _ ((S _).mpr (by unfold al at h;rwa [Ce]at h));have l:x∉P:=λz=>(Cd.mp nd).2.2 x z x (by rw[Z];simp) rfl;have lt:∀{y},y∈P++[x]->y∈P\/y=x:=λh=>(Ba.mp h).imp_right Af.mp;refine⟨j.g,Cd.mpr ⟨N.nodup_iff.mpr nd,u,λa m b T e=>k b T (e▸(S a).mp m)⟩,λe Y=>j.it e (by rw[Z];exact Lf.mem_iff.mpr (Bj _ Y)),λy h=>(S y).mpr (j.rch y h),by rw[N.length_eq];exact j.rl,λy f=>?_,λy f r O L=>?_,λy f r t O L h3=>?_,λt y=>?_,λt=>?_,en,λn r h=>up (j.ini n r h),?_,bs⟩
 .rcases Ba.mp f with f|f
  .let⟨r,s⟩:=j.sd y (Be _ ((S y).mp f));exact⟨r,s.ru,s.one,s.le,λt h=>(s.ok t h).mono (d t),λh=>Be _ (s.pd h)⟩
  .exact i y f
 .rcases lt f with f|rfl
  .exact d _ (j.fin y f r O L)
  .exact fin r O L
 .by_cases o:y∈P/\eE G st.best t
  .exact up (j.nx y o.1 r t O L o.2)
  .exact Bi _ (nx y r t ((lt f).imp_left λh=>⟨h,λz=>o ⟨h,z⟩⟩) O L h3)
 .show y∈(b t).map _↔_;rcases bg t with⟨h,n⟩|⟨h,a⟩
  .rw[h,j.bg];exact⟨λz=>⟨Be _ z.1,z.2⟩,λz=>⟨(lt z.1).resolve_right λe=>n (e▸z.2),z.2⟩⟩
  .rw[h,Aw,Ba,j.bg];exact⟨λz=>z.elim (λz=>⟨Be _ z.1,z.2⟩) λz=>(Af.mp z)▸⟨Bi _ (Af.mpr rfl),a⟩,λz=>(lt z.1).imp (λh=>⟨h,z.2⟩) λh=>Af.mpr h⟩
 .show((b t).map _).Nodup;rcases bg t with⟨h,n⟩|⟨h,a⟩
  .rw[h];exact j.bd t
  .rw[h,Aw,Cd];exact⟨j.bd t,by simp,λy f z hz e=>l (((j.bg t x).mp ((show y=x from e.trans (Af.mp hz))▸f)).1)⟩
 .have h:=j.ln;rw[Ak];exact⟨Ar hl.1 (Ee h.1),Ar hl.2 (Ee h.2)⟩
theorem J.at_(j:J G st P [])(Z:st.q=q1++(c,x)::q2):∃r,Sd G st.best P x r:=j.sd x (Be _ (Bi _ (by rw[Z];simp)))
theorem J.part{b:Ay->Qu}{n:Nat}(j:J G st P [])(Z:st.q=q1++(c,x)::q2)(V:G.rs[x.1]? = aa r)(N:r.parts[x.2-1]? = aa t)(hn:n<=st.bn+1)(u:(X=[]/\¬eE G st.best t)\/(X=[(x.1,x.2+1)]/\eE G st.best t))(T:∀t',b t'=if G.own t=ab/\t=t' then st.bg t'++[(c,x)] else st.bg t'):J G ⟨q1++q2,st.rk,st.best,st.en,b,n,st.n⟩ (P++[x]) X:=by
 let⟨U,s⟩:=j.at_ Z;cases V.symm.trans s.ru;have S:∀y∈X,y=(x.1,x.2+1)/\eE G st.best t:=λy f=>by
  rcases u with⟨rfl,_⟩|⟨rfl,h⟩
  .cases f
  .exact⟨Af.mp f,h⟩
 have m:∀t',At G t' x↔G.own t=ab/\t=t':=λt'=>by
  refine⟨λ⟨O,Y,L,h3⟩=>?_,λ⟨O,L⟩=>L▸⟨O,r,V,N⟩⟩;rw[V]at L;cases L;rw[N]at h3;cases h3;exact⟨O,rfl⟩
 refine j.step Z ⟨Hg _,hn⟩ ?_ (λy f z=>?_) (λy f=>?_) (λ_ h=>h) (λU O L=>?_) (λy U t' h O L h3=>?_) (λt'=>?_) j.en j.bs
 .rcases u with⟨rfl,_⟩|⟨rfl,_⟩
  .exact .nil
  .simp
 .rw[(S y f).1]at z;let⟨_,W⟩:=j.sd _ (Be _ z);refine(Cd.mp (Cd.mp j.nd).1).2.2 x (W.pd ?_) x (by rw[Z];simp) rfl;have:=s.one;show 2<=x.2+1;lia
 .let⟨rfl,h⟩:=S y f;exact⟨r,s.next N (λ_ h=>h) h (Bi _ (Af.mpr rfl))⟩
 .rw[V]at O;cases O;rw[N]at L;cases L
 .rcases h with h|rfl
  .exact absurd h3 h.2
  .rw[V]at O;cases O;rw[N]at L;cases L;rcases u with⟨_,h⟩|⟨rfl,_⟩
   .exact absurd h3 h
   .exact Af.mpr rfl
 .rw[T,m]
  by_cases h:G.own t=ab/\t=t'
  .rw[Vg h];exact .inr ⟨rfl,h⟩
  .rw[Vf h];exact .inl ⟨rfl,h⟩
theorem J.old(j:J G st P [])(Z:st.q=q1++(c,x)::q2)(T:G.rs[x.1]? = aa r)(N:r.parts[x.2-1]? = ae)(tb:told st.best r.name):J G {st with q:=q1++q2} (P++[x]) []:=by
 refine j.step Z ⟨Hg _,Hg _⟩ .nil (λ_ h=>nomatch h) (λ_ h=>nomatch h) (λ_ h=>h) (λU O _=>?_) (λy U t h O L h3=>?_) (λt=>.inl ⟨rfl,λ⟨_,U,O,L⟩=>?_⟩) j.en j.bs
 .rw[T]at O;cases O;exact tb
 .rcases h with h|rfl
  .exact absurd h3 h.2
  .rw[T]at O;cases O;rw[N]at L;cases L
 .rw[T]at O;cases O;rw[N]at L;cases L
theorem J.set(j:J G st P [])(Z:st.q=q1++(c,x)::q2)(T:G.rs[x.1]? = aa r)(N:r.parts[x.2-1]? = ae)(a:¬told st.best r.name):J G ⟨q1++q2,st.rk,st.best++[((r.name,0,0),c,x.1,rep x.2)],λt=>if r.name=t then [c] else st.en t,st.bg,st.bn,st.n⟩ (P++[x]) ((st.bg r.name).map λe=>(e.2.1,e.2.2+1)):=by
 let⟨U,s⟩:=j.at_ Z;cases T.symm.trans s.ru;have hk:x.2=↥r.parts+1:=by
  have:=List.getElem?_eq_none_iff.mp N;have:=s.le;have:=s.one;lia
 have tl:∀t,told (st.best++[((r.name,0,0),c,x.1,rep x.2)]) t↔told st.best t\/r.name=t:=λt=>by
  rw[IU];exact or_congr Rl ⟨λh=>(Mf h).1,λh=>by rw[h]⟩
 have S:∀y∈(st.bg r.name).map (λe=>(e.2.1,e.2.2+1)),∃z,y=(z.1,z.2+1)/\z∈P/\G.own r.name=ab/\∃U,Sd G st.best P z U/\U.parts[z.2-1]? = aa r.name:=λy f=>by
  let⟨e,Y,rfl⟩:=Ap.mp f;let⟨O,L,U,h3,D⟩:=(j.bg r.name e.2).mp (Ap.mpr ⟨e,Y,rfl⟩);let⟨k,C⟩:=j.sd e.2 (Be _ (Be _ O));cases h3.symm.trans C.ru;exact⟨e.2,rfl,O,L,_,C,D⟩
 have ok:∀{B},G.own r.name=ab->(eE G B r.name↔told B r.name):=λo=>by unfold eE;rw[Vg o]
 refine j.step Z ⟨by rw[Ak];exact Ai _,Hg _⟩ ?_ (λy f w=>?_) (λy f=>?_) (λt h=>(tl t).mpr (.inl h)) (λU O _=>?_) (λy U t h O L h3=>?_) (λt=>.inl ⟨rfl,λ⟨_,U,O,L⟩=>?_⟩) (λt=>?_) λpre e post h=>?_
 .have:=j.bd r.name;unfold Ve at this⊢;rw[Iy]at this⊢;exact this.imp λh e=>h (Nj (Mf e).1 (Rj (Mf e).2))
 .let⟨z,rfl,O,L,U,g,h3⟩:=S y f;let⟨k,C⟩:=j.sd _ (Be _ w);cases g.ru.symm.trans C.ru;have O:=g.one;exact a ((ok L).mp (C.ok _ (Ao (i:=z.2-1) (by show(U.parts.take z.2)[_]? = _;rw[List.getElem?_take,Vg (by lia)];exact h3))))
 .let⟨z,rfl,O,L,U,g,h3⟩:=S y f;exact⟨U,g.next h3 (λt h=>(tl t).mpr (.inl h)) ((ok L).mpr ((tl _).mpr (.inr rfl))) (Be _ O)⟩
 .rw[T]at O;cases O;exact(tl _).mpr (.inr rfl)
 .rcases h with⟨h,D⟩|rfl
  .have b:G.own t=ab:=Gq λo=>by
    unfold eE at D h3;rw[Vf o]at D h3;exact D h3
   unfold eE at D h3;rw[Vg b]at D h3;have:=((tl t).mp h3).resolve_left D;let⟨e,Y,rfl⟩:=Ap.mp ((j.bg t y).mpr ⟨h,b,U,O,L⟩);exact Ap.mpr ⟨e,this▸Y,rfl⟩
  .rw[T]at O;cases O;rw[N]at L;cases L
 .rw[T]at O;cases O;rw[N]at L;cases L
 .show((if r.name=t then [c] else st.en t)=[]/\_)\/∃d,(if r.name=t then [c] else st.en t)=[d]/\_;rw[tl]
  by_cases e:r.name=t
  .rw[Vg e];exact .inr ⟨c,rfl,.inr e⟩
  .rw[Vf e];rcases j.en t with⟨O,L⟩|⟨d,O,L⟩
   .exact .inl ⟨O,λz=>z.elim L e⟩
   .exact .inr ⟨d,O,.inl L⟩
 .rcases Lc post with rfl|⟨post,y,rfl⟩
  .let⟨O,L⟩:=List.append_inj' h rfl;cases L;rw[<-O];refine⟨r,T,rfl,by rw[hk],λt ht=>s.ok t ?_,a⟩;rw[hk,Nat.add_sub_cancel,Bp];exact ht
  .rw[Ld,<-List.cons_append,<-Dc]at h;exact j.bs pre e post (List.append_inj' h rfl).1
def AG:SS:=⟨[],[],[],λ_=>[],λ_=>[],0,0⟩
theorem J.start(g:Gd G):J G AG [] ((Ci ↥G.rs).map λn=>(n,1)):=by
 refine⟨g,List.Pairwise.map _ (λa b h z=>h (Mf z).1) Qi,(λ_ h=>nomatch h),(λx h=>nomatch (show ac=ab from h)),Ai _,λx f=>?_,(λ_ h=>nomatch h),(λ_ h=>nomatch h),λt x=>⟨(λh=>nomatch h),λh=>(nomatch h.1)⟩,λ_=>.nil,λt=>.inl ⟨rfl,(λh=>nomatch h)⟩,λn r h=>?_,⟨Ai _,Ai _⟩,λpre e post h=>by cases pre<;>cases h⟩
 .let⟨n,hn,rfl⟩:=Ap.mp f;exact⟨_,Bn (Ew.mp hn),Ai _,Ri _ _,λt h=>(by simp at h),λh=>absurd (show 2<=1 from h) ∅⟩
 .exact Ap.mpr ⟨n,Ew.mpr (Am.mp h).1,rfl⟩
theorem J.few(j:J G st P X):↥(al P st.q X)<=90100:=by
 have:=len_sub (b:=(Ci ↥G.rs).flatMap λn=>(Ci 901).map λk=>(n,k+1)) j.nd λx f=>by
  let⟨r,s⟩:=j.sd x f;have L:=j.g.p r (Ao s.ru);have h3:=s.le;exact Qj.mpr ⟨x.1,Ew.mpr (Am.mp s.ru).1,Ap.mpr ⟨x.2-1,Ew.mpr (by lia),by rw[Pp s.one]⟩⟩
 rw[IJ (k:=901) λn _=>by rw[Ab,Gm],Gm]at this;have:=j.g.n;lia
theorem J.small(j:J G st P X):st.n<100000/\st.bn<100000/\↥st.best<100000:=by
 have h:=j.few;have:=j.rl;have:=j.ln;unfold al at h;rw[Ak,Ak]at *;exact⟨by lia,by lia,by lia⟩
theorem J.bl(j:J G st P X):↥(st.bg t)<100000:=by
 have:=len_sub (j.bd t) λx f=>((j.bg t x).mp f).1;have h:=j.few;unfold al at h;rw[Ak,Ak]at h;rw[Ab]at this;lia
structure mF(G:Sr)(B:dB):Prop where
 cl:∀r∈G.rs,(∀t∈r.parts,eE G B t)->told B r.name
 bs:Ord G B
theorem J.done(j:J G st P [])(Z:st.q=[]):mF G st.best:=by
 refine⟨λr T ok=>?_,j.bs⟩;let⟨n,hn⟩:=Hs T;have a:∀{x},x∈al P st.q []->x∈P:=λh=>by unfold al at h;rw[Z]at h;simpa using h
 have go:∀k,k<=↥r.parts->(n,k+1)∈P:=λk=>by
  induction k with
  | zero=>exact λ_=>a (j.ini n r hn)
  | succ k E=>
   intro hk;have N:r.parts[k+1-1]? = aa r.parts[k]:=Bn hk;exact a (j.nx _ (E (by lia)) r _ hn N (ok _ (Qk hk)))
 exact j.fin _ (go _ (Ai _)) r hn (Oc (Ai _))
end
def ownB(rs:↑aE)(t:Ay):Bool:=decide (t∈namesOf rs)
theorem lE(h:r∈rs):ownB rs r.name=ab:=Vi (jG.mpr ⟨r,h,rfl⟩)
def lG(rs:↑aE)(ss:↑Ay):Sr:=⟨rs,ownB rs,[0],λt p=>if p=0/\t∈ss then [(0,1)] else [],λ_=>0⟩
theorem IV:(lG rs ss).steps t 0=if t∈ss then [(0,1)] else []:=by
 show(if (0:Int)=0/\t∈ss then _ else _)=_
 by_cases h:t∈ss
 .rw[Vg ⟨rfl,h⟩,Vg h]
 .rw[Vf (λz=>h z.2),Vf h]
theorem IW(rs:↑aE)(ss:↑Ay):One (lG rs ss):=⟨rfl,λt=>by
 rw[IV];split
 .exact .inr ⟨_,rfl⟩
 .exact .inl rfl⟩
inductive d9(rs:↑aE)(w:Bool):Ay->Prop
 | mk {r:aE}:r∈rs->(∀t∈r.parts,ownB rs t=ab->d9 rs w t)->(∀t∈r.parts,ownB rs t=ac->w=ab)->d9 rs w r.name
theorem AH:eE (lG rs ss) B t↔(ownB rs t=ab->told B t)/\(ownB rs t=ac->t∈ss):=by
 unfold eE;show(if ownB rs t=ab then _ else _)↔_;cases h:ownB rs t with
 | true=>rw[Vg rfl];simp
 | false=>
  rw[Vf ∅,IV];split<;>simp_all
theorem za4{w:Bool}(hw:∀r∈rs,∀t∈r.parts,ownB rs t=ac->(t∈ss↔w=ab))(F:mF (lG rs ss) B)(X:Ay):told B X↔d9 rs w X:=by
 constructor
 .have:∀k pre post,↥pre=k->B=pre++post->∀X,told pre X->d9 rs w X:=by
   intro k
   induction k with
   | zero=>intro pre post h _ X u;rw[Eo.mp h]at u;cases u
   | succ k E=>
    intro pre post h G X u;rcases Lc pre with rfl|⟨pre,e,rfl⟩
    .cases h
    rw[Ld]at u G h;rw[Ak]at h;have go:=E pre (e::post) (Rj h) (by rw[G,Dc];rfl);rcases IU.mp u with O|O
    .exact go X O
    .let⟨r,L,h3,_,D,_⟩:=F.bs pre e post (by rw[G,Dc];rfl);rw[h3]at O;rw[<-(Mf O).1];have P:=Ao L;exact .mk P (λt ht S=>go t ((AH.mp (D t ht)).1 S)) λt ht S=>(hw r P t ht S).mp ((AH.mp (D t ht)).2 S)
  exact this ↥B B [] rfl (Ce B).symm X
 .intro h
  induction h with
  | mk T _ L E=>exact F.cl _ T λt ht=>AH.mpr ⟨E t ht,λS=>(hw _ T t ht S).mpr (L t ht S)⟩
theorem za5(F:mF G B):(B.map (·.1)).Nodup:=by
 rw[Gk,Iy];refine List.pairwise_iff_getElem.mpr λi j hi hj l e=>?_;let⟨r,_,L,_,_,h3⟩:=F.bs _ _ _ (show B=B.take j++B[j]::B.drop (j+1) by rw[<-Fq hj,Hj]);rw[L]at e;refine h3 (Ap.mpr ⟨B[i],?_,e⟩);rw[List.mem_iff_getElem];exact⟨i,by rw[Ck];lia,by rw[List.getElem_take]⟩
theorem IX(F:mF G B)(h:f∈B.map (·.1)):∃r∈G.rs,f=(r.name,0,0):=by
 let⟨e,Y,rfl⟩:=Ap.mp h;let⟨pre,post,j⟩:=List.append_of_mem Y;let⟨r,O,L,_⟩:=F.bs pre e post j;exact⟨r,Ao O,L⟩
theorem IY(F:mF G B):↥B<=↥G.rs:=by
 have:=len_sub (b:=G.rs.map λr=>(r.name,(0:Int),(0:Int))) (za5 F) λf hf=>by
  let⟨r,O,L⟩:=IX F hf;exact Ap.mpr ⟨r,O,L.symm⟩
 rwa [Ab,Ab]at this
open Classical in
def mG(rs:↑aE)(w:Bool)(t:Ay):Bool:=decide (d9 rs w t)
theorem lH{w:Bool}:mG rs w t=ab↔d9 rs w t:=by unfold mG;exact @decide_eq_true_iff _ (Classical.propDecidable _)
section
variable {X:Cx}
abbrev oW:R3:=λx y M R=>∃i j,x=.str i/\y=.str j/\↥i+↥j<=Ax/\R (.str (i++j)) M
abbrev vQ:R3:=λx y M R=>∃z n,x=.str z/\y=.int n/\↥z<=16/\-(2 ^ 63)<=n/\n<=1048576/\R (.str (Ib z n)) M
theorem za6:bF X (Eh .Add) (cV X.K oW):=by
 rintro B s C H x y v u Q I d P ⟨n,l,M,R,Y,S,E,⟨i,j,rfl,rfl,O,L⟩,k⟩;exact RL B s C H _ _ v u Q I d P ⟨i,j,S.inv,E.inv,O,k.at Y (.str _) L⟩
theorem za7:bF X (Eh .Mult) (cV X.K vQ):=by
 rintro B s C H x y v u Q I d P ⟨t,l,M,R,Y,S,E,⟨z,n,rfl,rfl,O,L,h3,D⟩,k⟩;exact VJ B s C H _ _ v u Q I d P ⟨z,n,S.inv,E.inv,O,L,h3,k.at Y (.str _) D⟩
end
def AI:aY:=λws M R=>∃z g:Ay,ws=[.str z,.str g]/\↥z<=1000/\R (.bl (lV z g)) M
def IZ:aY:=λws M R=>∃z:Ay,ws=[.str z]/\↥z<=1000/\R (.bl (isNameB z)) M
def jI:aY:=λws M R=>∃rs:↑aE,ws=[.rl (rs.map bD)]/\↥rs<=400/\aR ((namesOf rs).map W.str) M R
def sC:aY:=λws M R=>∃(r:aE) (rs:↑aE),ws=[.rl ((r::rs).map bD)]/\R (.str r.name) M
def JA:aY:=λws M R=>∃(r:aE) (ns:↑Ay),ws=[bD r,.rl (ns.map W.str)]/\0<=r.cost/\(∀t∈r.parts,↥t<=1000/\(isNameB t=ab->t∈ns))/\R .non M
def sD:aY:=λws M R=>∃(d:↑W) (k:Int),(ws=[.sc d,.int k]\/ws=[.rl d,.int k])/\oQ d/\0<=k/\∀i,R (.int i) M
def vR:aY:=λws M R=>∃c k:Int,ws=[.int c,.int k]/\0<=k/\k<=1000/\∀z:Int,0<=z->z<10 ^ 61->R (.int z) M
def qA:aY:=λws M R=>∃(c:Int) (ss:↑Int),ws=[.int c,.rl (ss.map W.int)]/\↥ss<=100/\(∀s∈ss,0<s/\s<=10 ^ 59)/\∀B,Drawn B ss->aR (B.map W.int) M R
def AJ:aY:=λws M R=>∃(n m:Int) (g:Bool),ws=[.int n,.int m,.bl g]/\0<=m/\m<=12/\∀ts:↑Ay,↥ts=m.toNat->(∀t∈ts,r9 g t)->aR (ts.map W.str) M R
def JB:aY:=λws M R=>∃(c:Int) (F wds:↑Ay) (f:Int),ws=[.int c,.rl (F.map W.str),.rl (wds.map W.str),.int f]/\0<↥F/\↥F<=12/\↥wds=3/\0<=f/\f<=4/\∀r:aE,nM F wds r->(↥r.parts:Int)<=f->R (bD r) M
def JC:aY:=λws M R=>∃(d:↑W) (v f:Int),ws=[.rl d,.int v,.int f]/\oQ d/\↥d<=40/\1<=v/\v<=12/\1<=f/\f<=4/\∀rs:↑aE,zax rs->(∀r∈rs,(↥r.parts:Int)<=f)->(∃F wds:↑Ay,(↥F:Int)<=v/\↥wds=3/\(∀t∈F,c9 t)/\(∀t∈wds,dW t)/\(∀r∈rs,nM F wds r)/\(∀t∈F,∃r∈rs,r.name=t)/\(↥rs:Int)<=↥d+v/\∃k,k<=↥d/\∀r∈rs.drop k,↥r.parts<=1)->aR (rs.map bD) M R
abbrev za8:↑Ay:=["text","signs"]
abbrev za9:aD:=
   (bM (uE (aG (eD ab) aH (vC (.str ""))) (bH uM (aA (bE (c7 (bK cA aH) (aV 0) eU (aG (bX ac) aH aM) [ae,aa 1])) aB))))
abbrev zba:↑Ay:=["part","pieces","right_end"]
abbrev zbb:aD:=
   (aN 1 (cR "str" GR aH (aA (vC (.str "_")) aB)))
abbrev zbc:aD:=
   (aN 2 (oM (aG (eD ac) (vX aM a7) (vC (.str ""))) (aW AI (aA (vX aM l5) (aA (vC (.str "0123456789")) aB)))))
abbrev JD:aD:=
   (bM (uE aX (aW AI (aA (vX aM bC) (aA (vC (.str "ABCDEFGHIJKLMNOPQRSTUVWXYZ")) aB)))))
abbrev zbd:aD:=(aF zbb (aF zbc JD))
abbrev zbe:↑Ay:=["grammar","found","rule"]
abbrev zbf:aD:=
   (aN 1 rM)
abbrev zbg:aD:=
   (fP (vC (.bl ab)) (gM aM (vX aX bC)))
abbrev zbh:aD:=
   (b9 (bK cA aH) (aV 2) zbg)
abbrev zbi:aD:=
   (bM (bH uL (aA aM aB)))
abbrev zbj:aD:=(aF zbf (aF zbh zbi))
abbrev zbk:↑Ay:=["grammar"]
abbrev zbl:aD:=
   (bM (vX (vX aH bC) bC))
abbrev zbm:↑Ay:=["rule","known","part"]
abbrev zbn:aD:=
   (aF (cC (bN (aG nC (vX aH l5) bC))
    uY
    cX)
   (b9 (bK cA (vX aH a7)) (aV 2)
    (cC (iR (fB (aW IZ (aA aX aB))) (bN (aG (bX ab) aX aM)))
    uY
    cX)))
abbrev zbo:↑Ay:=["script","k"]
abbrev zbp:aD:=
   (aF (cC (bN (aG nC aM (bH cL (aA aH aB))))
    (bM (vX aH aM))
    cX)
   (bM bC))
abbrev zbq:↑Ay:=["cell","k","number"]
abbrev zbr:aD:=
   (aN 2 (aG cE (aG cE (aG jV (aG gL aH (aG jB (vI 10) (vI 40))) (vI 48271)) (aG jV (aG jV (aG jB kT (vI 60)) (aG cE aM a7)) (aG cE aM a7))) aM))
abbrev zbs:aD:=
   (aN 2 (aG cE (aG jV aX aX) (aG jV (vI 69621) aX)))
abbrev zbt:aD:=
   (bM (aG jA (aG gL (aG jV aX aX) (aG cE (aG jB (vI 10) (vI 61)) (vI 7))) (vI 8)))
abbrev zbu:aD:=(aF zbr (aF zbs zbt))
abbrev zbv:↑Ay:=["cell","sizes","found","rest","k"]
abbrev zbw:aD:=
   (aN 2 (gA aB))
abbrev zbx:aD:=
   (aN 3 (aG kX aH (aG jB (vI 10) (vI 18))))
abbrev zby:aD:=
   (cC (bN (aG yW aH (aG jB (vI 10) (vI 18))))
    (aF (b7 (cR "list" dU aX (aA (aG gL bB (vX aM bA)) aB)))
   (aN 3 (aG jA bB (vX aM bA))))
    (b7 (cR "list" dU aX (aA (aG gL (aW vR (aA aH (aA bA aB))) (vX aM bA)) aB))))
abbrev zbz:aD:=
   (b9 (nG (aA (bH cL (aA aM aB)) aB)) (aV 4) zby)
abbrev zbA:aD:=
   (bM aX)
abbrev zbB:aD:=(aF zbw (aF zbx (aF zbz zbA)))
abbrev zbC:↑Ay:=["number","many","great","letters","pad","size","at","first","found","k","sign"]
abbrev zbD:aD:=
   (aN 3 (vC (.str "abcdefghijklmnopqrstuvwxyz")))
abbrev zbE:aD:=
   (cC (fB aX)
    (aN 3 (rF "str" GQ bB))
    cX)
abbrev JE:aD:=
   (aN 4 (vX bB (aG gL aH (vI 26))))
abbrev JF:aD:=
   (aN 5 (aG cE a7 (aG gL (aG jA aH (vI 26)) (vI 8))))
abbrev JG:aD:=
   (aN 6 (aG gL (aG jA aH (vI 208)) cB))
abbrev JH:aD:=
   (aN 7 (aG gL (aG jA aH (vI 1664)) (vI 26)))
abbrev JI:aD:=
   (aN 8 (gA aB))
abbrev zbF:aD:=
   (aF (aN 10 (vX bB (aG gL (aG cE cD (aG jV kT iQ)) (vI 26))))
   (aF (b7 (cR "list" dU eZ (aA (aG oW (aG oW (aG vQ bA cQ) pP) (aG vQ bA (aG kX (aG kX cB cQ) a7))) aB)))
   (cC (iR (fB aX) (iR (bN (aG (eD ac) (aG gL (aG jA aH (vI 43264)) kT) a7)) (bN (aG (eD ac) (aG FL (aG FK (aG jA aH (vI 129792)) iQ) a7) a7))))
    (fP (aG oW (aG oW (vX eZ iQ) (vC (.str "_"))) (bH y9 (aA (aG gL (aG jA aH (vI 129792)) (vI 10000)) aB))) (gM eZ iQ))
    cX)))
abbrev JJ:aD:=
   (b9 (nG (aA aM aB)) (aV 9) zbF)
abbrev JK:aD:=
   (bM eZ)
abbrev zbG:aD:=(aF zbD (aF zbE (aF JE (aF JF (aF JG (aF JH (aF JI (aF JJ JK))))))))
abbrev zbH:↑Ay:=["cell","heads","words","most","drawn","parts","place"]
abbrev zbI:aD:=
   (aN 4 (bE (aW qA (aA aH (aA (aG cE (dN (aA (bH cL (aA aM aB)) (aA (aG cE bB a7) (aA kT (aA (aG jB (vI 10) (vI 59)) aB))))) (aG jV (dN (aA (vI 6) aB)) bB)) aB)))))
abbrev zbJ:aD:=
   (aN 5 (gA aB))
abbrev zbK:aD:=
   (cC (bN (aG nC cQ kT))
    (b7 (cR "list" dU cB (aA (vX aX cQ) aB)))
    (b7 (cR "list" dU cB (aA (vX aM (aG gL (aG cE (aG kX cQ kT) (vX bA bC)) (bH cL (aA aM aB)))) aB))))
abbrev zbL:aD:=
   (b9 (bK cA (k9 bA (iC (vI 4)) (iC (aG cE (vI 4) (vX bA a7))))) (aV 6) zbK)
abbrev zbM:aD:=
   (bM (a8 (aA (vX aM (vX bA bC)) (aA (bH rL (aA cB aB)) (aA (aG gL (vX bA kT) (vX (dN (aA a7 (aA (vI 10) (aA (aG jB (vI 10) (vI 59)) aB)))) (vX bA l5))) aB)))))
abbrev zbN:aD:=(aF zbI (aF zbJ (aF zbL zbM)))
abbrev zbO:↑Ay:=["cells","many","most","one","other","heads","words","rules","name"]
abbrev zbP:aD:=
   (fP (bE (aW qA (aA (aW sD (aA aH (aA bC aB))) (aA (dN (aA (aG jB (vI 10) (vI 9)) (aA (aG jB (vI 10) (vI 9)) aB))) aB)))) (fV 2 (cI (aV 3) (cI (aV 4) fU))))
abbrev zbQ:aD:=
   (aN 5 (bE (aW AJ (aA bB (aA aM (aA (vC (.bl ab)) aB))))))
abbrev zbR:aD:=
   (aN 6 (bE (aW AJ (aA bA (aA kT (aA (vC (.bl ac)) aB))))))
abbrev zbS:aD:=
   (aN 7 (c7 (bK cA (k9 aH (iC a7) rK)) (aV 0) eU (aW JB (aA aH (aA aM (aA aX (aA bB aB))))) [ae,aa 5,aa 6,aa 2]))
abbrev zbT:aD:=
   (cC (bN (aG (bX ab) eZ (bE (c7 (bK cA cD) (aV 0) eU (vX aH bC) [ae]))))
    (b7 (cR "list" dU cD (aA (a8 (aA eZ (aA (a8 (aA (vX cQ bC) aB)) (aA bC aB)))) aB)))
    cX)
abbrev zbU:aD:=
   (b9 (bK cA cB) (aV 8) zbT)
abbrev zbV:aD:=
   (bM cD)
abbrev zbW:aD:=(aF zbP (aF zbQ (aF zbR (aF zbS (aF zbU zbV)))))
theorem zbX:∀ws M R,sD ws M R->↥ws=2:=by rintro ws M R ⟨_,_,rfl|rfl,_⟩<;>rfl
theorem JL(c:Nat)(g:Ay):occ ⟨#[c]⟩ g=decide (c∈cs g):=StrLaws.found_one g c
theorem fW{b:Bool}{P Q:Prop}(O:b=ab->P)(L:b=ac->Q):if b=ab then P else Q:=by cases b;exact L rfl;exact O rfl
theorem zbY:bG AI za9 za8:=by
 rintro _ M R ⟨z,g,rfl,hz,r⟩;have Q:lV z g=(!decide (z = "")&&(cs z).all λc=>decide (c∈cs g)):=by rw[<-uG];rfl
 refine(fW (λG=>(nJ (rest:=[aa (.str g)]) (λw=>match w with|.str x=>.bl (occ x g)|_=>.non) (small (by rw[Ab];exact Ar (Qd (qT z)) (Ar hz ∅))) (λ_ _=>trivial) (λw hw V C sb O=>?_) (aR.frz ⟨(cs z).map λc=>decide (c∈cs g),?_,_,aP,?_⟩))) λG=>⟨_,aP,?_⟩)
 .let⟨c,_,rfl⟩:=Ap.mp hw;exact O
 .unfold bools;rw[Bm,Bm];exact Dy λc _=>congrArg W.bl (JL c g)
 .rw[Q,show(!decide (z = ""))=ab from G,Ry]at r;rw[Mb];exact r
 .rw[Q,show(!decide (z = ""))=ac from G,Om]at r;exact r
theorem zbZ(z:Ay):(Cz z "_").1.length<=↥z/\(Cz z "_").2.2.length<=↥z:=by
 have:=fact_partition z "_";exact⟨this.1,this.2.2⟩
theorem zb0(z:Ay):isNameB z=((decide ((Cz z "_").2.1 = "")||lV (Cz z "_").2.2 mY)&&lV (Cz z "_").1 gJ):=by
 unfold isNameB;rw[uG]
theorem zb1:bG IZ zbd zba:=by
 rintro _ M R ⟨z,rfl,hz,r⟩;let⟨O,h3⟩:=zbZ z;rw[zb0 z]at r;have go:∀{b:Bool} {M:Mm},R (.bl (b&&lV (Cz z "_").1 gJ)) M->JD (k7 R) [aa (.str z),aa (.tup [.str (Cz z "_").1,.str (Cz z "_").2.1,.str (Cz z "_").2.2]),aa (.bl b)] M:=λ{b M} r=>(fW (λG=>⟨_,_,rfl,Ar O hz,_,aP,by rw[G]at r;exact r⟩) λG=>⟨_,aP,by rw[G]at r;exact r⟩)
 exact⟨rfl,by decide +kernel,Ar hz ∅,fW (λG=>go (b:=ab) (by rw[show decide ((Cz z "_").2.1 = "")=ab from G]at r;exact r)) λG=>⟨_,_,rfl,Ar h3 hz,go (by rw[show decide ((Cz z "_").2.1 = "")=ac from G]at r;exact r)⟩⟩
def cM(t:Ay):aC×W:=(Sum.inr t,.bl ab)
theorem vS(acc:↑Ay)(t:Ay):bW (acc.map cM) (Sum.inr t:aC) (.bl ab)=(dA acc t).map cM:=by
 unfold bW dA;have e:((acc.map cM).any λkv=>decide (kv.1=Sum.inr t))=decide (t∈acc):=by
  rw[Ku,Dw];simp[cM,Kz]
 rw[e]
 by_cases h:t∈acc
 .rw[Vg (Vi h),Vg h,Bm];refine Dy λu hu=>?_;simp[cM,Kz]
 .rw[Vf (by simpa using h),Vf h,Aw];rfl
theorem zb2:bG jI zbj zbe:=by
 rintro _ M R ⟨rs,rfl,hl,r⟩;refine λp N=>((dX (λi U V=>∃o,U=[aa (.rl (rs.map bD)),aa (.ref p),o]/\V=put M p (.dK ((namesOf (rs.take i)).map cM))) ⟨_,rfl,rfl⟩ ?_ ?_))
 .rintro i w U V hw ⟨o,rfl,rfl⟩;rw[Av]at hw;let⟨q,Z,rfl⟩:=Az.mp hw;have hi:i<↥rs:=(Am.mp Z).1;have e:namesOf (rs.take (i+1))=dA (namesOf (rs.take i)) q.name:=by
   rw[Cb,Z];unfold namesOf mE;simp
  have Y:↥(namesOf (rs.take i))<=i:=by
   have:=sA ((rs.take i).map aE.name) [];unfold namesOf mE;simp at this;simp;lia
  refine(rX aJ (by rw[Ab];exact cS (by lia)) ⟨_,aP,_,rfl,?_⟩);rw[cJ,vS,e]
 .rintro U V ⟨o,rfl,rfl⟩;rw[Ab,Bp];refine(.inr ⟨_,aJ,λq Z=>?_⟩);have b:q≠p:=λe=>by subst e;rw[aJ]at Z;cases Z
  rw[aT b]at Z;refine⟨_,?_,r q Z⟩;rw[Bm];exact Sub.put (Sub.new N)
theorem zb3:bG sC zbl zbk:=by
 rintro _ M R ⟨q,rs,rfl,r⟩;exact(so.of (iL (j:=0) rfl) ⟨_,aP,r⟩)
theorem sE{t:Ay}{ts:↑Ay}:inW (.str t) (ts.map W.str)=decide (t∈ts):=by
 unfold inW;rw[Ku,Dw,Gg,decide_eq_true_eq];exact⟨λ⟨x,h,e⟩=>eq_of_beq (show(x==t)=ab from e)▸h,λh=>⟨t,h,beq_self_eq_true t⟩⟩
theorem qB(ts:↑Ay):(ts.map W.str).all fN=ab:=by
 rw[Mb,Fj];intro t _;rfl
theorem zb4:bG JA zbn zbm:=by
 rintro _ M R ⟨q,ns,rfl,hc,N,r⟩;refine(fW (λG=>absurd (Vh G) (Ug.mpr hc)) λ_=>?_);refine dX (ws:=q.parts.map W.str) (λi U V=>∃o,U=[aa (bD q),aa (.rl (ns.map W.str)),o]/\V=M) ⟨_,rfl,rfl⟩ ?_ ?_
 .rintro i w U V hw ⟨o,rfl,rfl⟩;let⟨t,ht,rfl⟩:=Ap.mp (Ao hw);let⟨O,L⟩:=N t ht;refine⟨t,rfl,O,fW (λG=>⟨rfl,qB ns,fW (λp=>?_) λ_=>⟨_,aP,_,rfl,rfl⟩⟩) λ_=>⟨_,aP,_,rfl,rfl⟩⟩;rw[show(!inW (.str t) (ns.map W.str))=ac by rw[sE,Vi (L G)];rfl]at p;cases p
 .rintro U V ⟨o,rfl,rfl⟩;exact⟨_,aP,r⟩
theorem zb5:bG sD zbp zbo:=by
 rintro _ M R ⟨d,k,e,hi,hk,r⟩;have go:decide (k<↥d)=ab->so (bT d k) λw=>∃V,L2.Sub V M/\R w V:=λhd=>by
  let⟨x,e,_,m⟩:=u7 hk (Vh hd);let⟨i,rfl⟩:=hi x m;exact so.of e ⟨_,aP,r i⟩
 rcases e with rfl|rfl
 .exact fW go λ_=>⟨_,aP,r 0⟩
 .exact fW go λ_=>⟨_,aP,r 0⟩
abbrev gR(c k:Int):Int:=c % 10 ^ 40*48271+3 ^ 60*(k+1)*(k+1)+k
theorem zb6:bG vR zbu zbq:=by
 rintro _ M R ⟨c,k,rfl,G,O,r⟩;have H:(gR c k).natAbs<2 ^ 200:=VT (a:=c % 10 ^ 40) (k:=k) (Fi _ ∅) (Ei _ ∅) G O;have W:(gR c k*gR c k).natAbs<2 ^ 400:=EK H H;have o:(69621*gR c k:Int).natAbs<2 ^ 400:=tZ (EK (m:=17) (i:=69621) ∅ H) ∅;have d:(gR c k*gR c k+69621*gR c k).natAbs<2 ^ 401:=VU W o;have e:(gR c k).natAbs<2 ^ 4096:=tZ H ∅;have f:(gR c k*gR c k+69621*gR c k).natAbs<2 ^ 4096:=tZ d ∅;have b:(0:Int)<10 ^ (61:Int).toNat+7:=by decide
 refine⟨⟨by decide,by decide,by decide⟩,(by decide:(0:Int)<10 ^ (40:Int).toNat),.inl (.inr ⟨by decide,by decide⟩),⟨by decide,by decide,by decide⟩,.inl (.inr ⟨by lia,by lia⟩),.inl (.inr ⟨by lia,by lia⟩),.inr ⟨e,e⟩,.inl (.inl ⟨by decide,by decide⟩),.inr ⟨f,f⟩,⟨by decide,by decide,by decide⟩,b,⟨by decide,by decide⟩,_,aP,r _ ?_ ?_⟩
 .exact Int.ediv_nonneg (Fi _ (Int.ne_of_gt b)) ∅
 .have L:=Ei ((gR c k*gR c k+69621*gR c k)*(gR c k*gR c k+69621*gR c k)) b;have h3:(10:Int) ^ (61:Int).toNat+7=10 ^ 61+7:=rfl;rw[h3]at L;refine Int.ediv_lt_of_lt_mul ∅ ?_;refine Sy L ∅
def eK(k:Ay×Int):↑aC:=[Sum.inr k.1,Sum.inl k.2]
abbrev eT(t:Ay):↑aC:=eK (t,0)
theorem JM:∀a b:Ay,eT a=eT b->a=b:=λa b h=>Pu (Qx h).1
def vT(c:c0):W:=.tup [.int 0,cW c]
def sF(y:c0×Nat×Nat):W:=.tup [.int y.2.1,gQ (rep y.2.2),cW y.1]
def fK(f:cF):↑aC:=[Sum.inr f.1,Sum.inl f.2.1,Sum.inl f.2.2]
def eJ(e:c0×Nat×↑Int):W:=.tup [cW e.1,.int e.2.1,gQ e.2.2]
theorem nQ:∀a b:cF,fK a=fK b->a=b:=λa b h=>by
 unfold fK at h;simp only[Es,Mh,Oh,and_true]at h;let⟨i,P,N⟩:=a;let⟨H,W,G⟩:=b;simp only at h;let⟨O,L,h3⟩:=h;rw[O,L,h3]
section
variable {U J:Type}[DecidableEq U]{kk:U->↑aC}{f:J->W}
abbrev eA(kk:U->↑aC)(f:J->W)(t:↑(U×J)):↑(↑aC×W):=t.map λe=>(kk e.1,f e.2)
theorem nR(c:∀a b,kk a=kk b->a=b)(t:↑(U×J))(k:U):aQ (eA kk f t) (kk k)=(b8 t k).map f:=by
 induction t with
 | nil=>rfl
 | cons e t E=>
  show aQ ((kk e.1,f e.2)::eA kk f t) (kk k)=_;rw[pZ,nO,E]
  by_cases h:e.1=k
  .rw[Vg (by rw[h]),Vg h];rfl
  .rw[Vf (λz=>h (c _ _ z)),Vf h]
theorem AK(c:∀a b,kk a=kk b->a=b)(t:↑(U×J))(k:U)(v:J):bW (eA kk f t) (kk k) (f v)=eA kk f (jH t k v):=by
 unfold bW jH;rw[show((eA kk f t).any λg=>decide (g.1=kk k))=(aQ (eA kk f t) (kk k)).isSome from jW _ _,nR c,jW];cases b8 t k with
 | none=>simp
 | some w=>
  simp only[Option.map_some,Option.isSome_some,if_true,Bm];apply Dy;intro e _;simp only[Kz]
  by_cases h:e.1=k
  .rw[Vg (by rw[h]),Vg h]
  .rw[Vf (λz=>h (c _ _ z)),Vf h]
end
structure Env where
 rs:↑aE
 own:↑(aC×W)
 stp:↑(↑aC×W)
structure Ad where
 s:An
 d:An
 Q:Aq
 r:An
 b:An
 e:An
 g:An
def sf(E:Env)(A:Ad):↑(Ay×W):=[("grammar",(a6 E.rs)),("own",(.dk E.own)),("steps",(.dt E.stp)),("queue",(.ref A.Q.o)),("reached",(.ref A.r)),("best",(.ref A.b)),("ends",(.ref A.e)),("begun",(.ref A.g))]
theorem JN:Cf ("grammar" : Ay) (sf E A)=aa (a6 E.rs):=by kernel_rfl
theorem zb7:Cf ("own" : Ay) (sf E A)=aa (W.dk E.own):=by kernel_rfl
theorem zb8:Cf ("steps" : Ay) (sf E A)=aa (W.dt E.stp):=by kernel_rfl
theorem AL:Cf ("queue" : Ay) (sf E A)=aa (W.ref A.Q.o):=by kernel_rfl
theorem AN:Cf ("reached" : Ay) (sf E A)=aa (W.ref A.r):=by kernel_rfl
theorem AQ:Cf ("best" : Ay) (sf E A)=aa (W.ref A.b):=by kernel_rfl
theorem JO:Cf ("ends" : Ay) (sf E A)=aa (W.ref A.e):=by kernel_rfl
theorem JP:Cf ("begun" : Ay) (sf E A)=aa (W.ref A.g):=by kernel_rfl
theorem vU:Cf ("reach" : Ay) (sf E A)=ae:=by kernel_rfl
theorem zb9:Cf ("take_next" : Ay) (sf E A)=ae:=by kernel_rfl
theorem zca:Cf ("step_by_name" : Ay) (sf E A)=ae:=by kernel_rfl
theorem zcb:Cf ("settle" : Ay) (sf E A)=ae:=by kernel_rfl
structure Mn(C:Cc)(E:Env)(M0 M:Mm)(A:Ad)(rk:↑(↑aC×W))(bs:dB):Prop where
 sub:L2.Sub M0 M
 ns:M0 A.s=ae
 nr:M0 A.r=ae
 nb:M0 A.b=ae
 sr:A.s≠A.r
 sb:A.s≠A.b
 rb:A.r≠A.b
 os:M A.s=aa (.ins C.s A.d (sf E A))
 or:M A.r=aa (.dT rk)
 ob:M A.b=aa (.dT (eA fK eJ bs))
def Kept(M:Mm):Option (An×↑W)->Prop
 | none=>True
 | some x=>M x.1=aa (.lst x.2)
structure SK(C:Cc)(E:Env)(M0 M:Mm)(A:Ad)(st:SS)(kp:Option (An×↑W)):Prop where
 ex:∃M1 M2 M3 e g,Mn C E M0 M1 A st.rk st.best/\dC eT M1 M2 A.e e (λt=>lo vT (st.en t))/\dC eT M2 M3 A.g g (λt=>lo sF (st.bg t))/\QR C M3 M A.Q st.q st.n/\↥st.rk<=st.n/\↥e<=↥st.best/\↥g<=st.bn/\Kept M3 kp
abbrev SR(C:Cc)(E:Env)(M0 M:Mm)(A:Ad)(st:SS):Prop:=SK C E M0 M A st ae
theorem dC.get{U q:Type}[DecidableEq U]{kk:U->↑aC}{M0 M:Mm}{a:An}{kvs:↑(↑aC×W)}{f:q->W}{h:U->↑q}(t:dC kk M0 M a kvs λk=>lo f (h k))(k:U):(aQ kvs (kk k)=ae/\h k=[])\/∃p,aQ kvs (kk k)=aa (.ref p)/\M p=aa (.lst ((h k).map f)):=by
 cases e:h k with
 | nil=>exact .inl ⟨t.non k (by show lo f (h k)=_;rw[e];rfl),rfl⟩
 | cons y G=>exact .inr (t.has (by show lo f (h k)=_;rw[e];rfl))
section
variable {C:Cc}{E:Env}{M0 M:Mm}{A:Ad}{st:SS}{kp:Option (An×↑W)}
theorem SK.up(h:SK C E M0 M A st kp):∃I,Mn C E M0 I A st.rk st.best/\L2.Sub I M/\↥st.rk<=st.n:=by
 let⟨I,d,H,e,g,O,L,h3,D,f,_⟩:=h.ex;exact⟨I,O,(L.sub.trans h3.sub).trans D.sub,f⟩
theorem SK.os(h:SK C E M0 M A st kp):M A.s=aa (.ins C.s A.d (sf E A)):=let ⟨_,m,s,_⟩:=h.up;s _ _ m.os
theorem SK.or(h:SK C E M0 M A st kp):M A.r=aa (.dT st.rk):=let ⟨_,m,s,_⟩:=h.up;s _ _ m.or
theorem SK.ob(h:SK C E M0 M A st kp):M A.b=aa (.dT (eA fK eJ st.best)):=let ⟨_,m,s,_⟩:=h.up;s _ _ m.ob
theorem SK.free(h:SK C E M0 M A st kp):SR C E M0 M A st:=by
 let⟨I,d,H,e,g,O,L,h3,D,f,G,X,_⟩:=h.ex;exact⟨I,d,H,e,g,O,L,h3,D,f,G,X,trivial⟩
theorem SK.kept(h:SK C E M0 M A st (aa (p,ws))):M p=aa (.lst ws):=by
 let⟨I,d,H,e,g,O,L,h3,D,f,G,_,X⟩:=h.ex;exact D.sub _ _ X
theorem SK.rpush(h:SK C E M0 M A st kp)(k:↑aC)(w:W):∃H,QR C H (put M A.r (.dT (bW st.rk k w))) A.Q st.q st.n/\put M A.r (.dT (bW st.rk k w)) A.s=aa (.ins C.s A.d (sf E A))/\∀V q,QR C H V A.Q q (st.n+1)->SK C E M0 V A {st with rk:=bW st.rk k w,q:=q,n:=st.n+1} kp:=by
 let⟨I,f,H,e,g,m,L,h3,D,T,G,X,a⟩:=h.ex;have B:=L.sub _ _ m.or;have N:=h3.sub _ _ B;refine⟨_,D.lift (.inr ⟨_,N⟩),by rw[aT m.sr];exact h.os,λV q Z=>⟨_,_,_,e,g,⟨gP m.sub m.nr,m.ns,m.nr,m.nb,m.sr,m.sb,m.rb,by rw[aT m.sr];exact m.os,aJ,by rw[aT (Bx m.rb)];exact m.ob⟩,L.lift (.inr ⟨_,m.or⟩),h3.lift (.inr ⟨_,B⟩),Z,Ar (AD ..) (Ee T),G,X,?_⟩⟩;cases kp with
 | none=>trivial
 | some x=>
  have a:H x.1=aa (.lst x.2):=a;show put H A.r _ x.1=aa (.lst x.2);rw[aT (λz=>by rw[z,N]at a;cases a)];exact a
theorem SK.que(h:SK C E M0 M A st kp):∃H,QR C H M A.Q st.q st.n/\∀V q,QR C H V A.Q q st.n->SK C E M0 V A {st with q:=q} kp:=by
 let⟨I,d,H,e,g,O,L,h3,D,f⟩:=h.ex;exact⟨H,D,λV q Z=>⟨I,d,H,e,g,O,L,h3,Z,f⟩⟩
theorem SK.bo(h:SR C E M0 M A st):put M A.b o A.s=aa (.ins C.s A.d (sf E A)):=by
 let⟨_,m,_⟩:=h.up;rw[aT m.sb];exact h.os
theorem SK.epush(h:SR C E M0 M A st){v:cF×c0×Nat×↑Int}{t:Ay}{c:c0}{R:K3}{T:W->Mm->Prop}(s:∀y d,dU y [vT c] d R->T y d)(hn:↥st.best<100000)(hl:st.en t=[])(r:∀V,SR C E M0 V A {st with best:=st.best++[v],en:=λj=>if t=j then [c] else st.en j}->R .non V):
  kD "dict" (.ref A.e) (put M A.b (.dT (eA fK eJ (st.best++[v]))))/\∀p,put M A.b (.dT (eA fK eJ (st.best++[v]))) p=ae->pW (.ref A.e) [.tup [.str t,.int 0],.ref p] (put (put M A.b (.dT (eA fK eJ (st.best++[v])))) p (.lst [])) λy d=>kD "list" y d/\T y d:=by
 let⟨I,d,H,e,g,m,L,h3,D,f,G,X,_⟩:=h.ex;have B:=L.sub _ _ m.ob;refine dC.push (U:=λN i=>∃H g,dC eT N H A.g g (λt=>lo sF (st.bg t))/\QR C H i A.Q st.q st.n/\↥g<=st.bn) (k:=t) JM (λ⟨_,g,a,b,l⟩ S=>⟨_,g,a.lift (S.imp_left b.sub.non),b.lift (S.imp_right λZ=>by let⟨u,z⟩:=Z;exact⟨u,a.sub _ _ z⟩),l⟩) (λK=>by let⟨_,_,a,b,_⟩:=K;exact a.sub.trans b.sub) ⟨_,g,h3.lift (.inr ⟨_,B⟩),D.lift (.inr ⟨_,h3.sub _ _ B⟩),X⟩ (L.lift (p:=A.b) (o:=.dT (eA fK eJ (st.best++[v]))) (.inr ⟨_,m.ob⟩)) s (by lia) (by rw[hl];decide) λN i kvs t' ⟨H,g,a,b,l⟩ hk=>r _ ⟨_,_,_,_,g,⟨gP m.sub m.nb,m.ns,m.nr,m.nb,m.sr,m.sb,m.rb,by rw[aT m.sb];exact m.os,by rw[aT m.rb];exact m.or,aJ⟩,t'.same λj=>?_,a,b,f,?_,l,trivial⟩
 .show lo _ (if t=j then _ else _)=_;rw[hl]
  by_cases hj:t=j
  .rw[Vg hj,Vg hj];rfl
  .rw[Vf hj,Vf hj]
 .show _<=↥(_++[v]);rw[Ak];exact Ar hk (Ee G)
theorem SK.gpush(h:SR C E M0 M A st)(hn:st.bn<100000)(hl:↥(st.bg t)<100000)(r:∀V,SR C E M0 V A {st with bg:=λj=>if t=j then st.bg j++[y] else st.bg j,bn:=st.bn+1}->R .non V):
  kD "dict" (.ref A.g) M/\∀p,M p=ae->pW (.ref A.g) [.tup [.str t,.int 0],.ref p] (put M p (.lst [])) λz d=>kD "list" z d/\dU z [sF y] d R:=by
 let⟨I,d,H,e,g,m,L,h3,D,f,G,X,_⟩:=h.ex;refine dC.push (U:=λN i=>QR C N i A.Q st.q st.n) (k:=t) JM QR.lift QR.sub D h3 (λ_ _ h=>h) (by lia) (by rw[vO,Ab];lia) λN i kvs t' u hk=>r _ ⟨_,_,_,e,_,m,L,t'.same λj=>?_,u,f,G,Ar hk (Ee X),trivial⟩;show lo _ (if t=j then _ else _)=_
 by_cases hj:t=j
 .subst hj;rw[Vg rfl,Vg rfl];exact AE ..
 .rw[Vf hj,Vf hj]
theorem SK.ends_at(h:SR C E M0 M A st)(t:Ay):∃kvs,M A.e=aa (.dT kvs)/\((aQ kvs (eT t)=ae/\st.en t=[])\/∃p,aQ kvs (eT t)=aa (.ref p)/\SK C E M0 M A st (aa (p,(st.en t).map vT))):=by
 let⟨I,d,H,e,g,O,L,h3,D,f,G,X,_⟩:=h.ex;exact⟨e,D.sub _ _ (h3.sub _ _ L.at_),(L.get t).imp_right λ⟨p,a,b⟩=>⟨p,a,I,d,H,e,g,O,L,h3,D,f,G,X,h3.sub _ _ b⟩⟩
theorem SK.begun_at(h:SR C E M0 M A st)(t:Ay):∃kvs,M A.g=aa (.dT kvs)/\((aQ kvs (eT t)=ae/\st.bg t=[])\/∃p,aQ kvs (eT t)=aa (.ref p)/\SK C E M0 M A st (aa (p,(st.bg t).map sF))):=by
 let⟨I,d,H,e,g,O,L,h3,D,f,G,X,_⟩:=h.ex;exact⟨g,D.sub _ _ h3.at_,(h3.get t).imp_right λ⟨p,a,b⟩=>⟨p,a,I,d,H,e,g,O,L,h3,D,f,G,X,b⟩⟩
end
def mH:aY:=λws M R=>∃ts:↑Ay,ws=[.rl (ts.map W.str)]/\↥ts<=400/\R (.dk ((ts.foldl dA []).map cM)) M
def ownOf(rs:↑aE):↑(aC×W):=((namesOf rs).foldl dA []).map cM
def vV:aY:=λws M R=>∃a b:c0,ws=[cW a,cW b]/\R (cW (IF a b)) M
def qC(C:Cc):aY:=λws M R=>∃(G:Sr) (E:Env) (M0:Mm) (A:Ad) (st:SS) (P X:↑(Nat×Nat)) (x:Nat×Nat) (c:c0) (kp:Option (An×↑W)),ws=[.ref A.s,.int x.1,gQ (rep x.2),cW c]/\SK C E M0 M A st kp/\J G st P (x::X)/\∀V m,SK C E M0 V A m kp->J G m P X->R .non V
structure Tk(C:Cc)(G:Sr)(E:Env)(M0 M:Mm)(A:Ad)(st:SS)(P:↑(Nat×Nat))(c:c0)(x:Nat×Nat)(r:aE)(R:K3):Prop where
 j:J G st P []
 q:∃q1 q2,st.q=q1++(c,x)::q2/\SR C E M0 M A {st with q:=q1++q2}
 r:G.rs[x.1]? = aa r
 k:∀M' st',SR C E M0 M' A st'->J G st' (P++[x]) []->R .non M'
def JQ(C:Cc):aY:=λws M R=>∃(G:Sr) (E:Env) (M0:Mm) (A:Ad) (st:SS) (P:↑(Nat×Nat)) (c:c0) (x:Nat×Nat) (r:aE) (t:Ay),ws=[.ref A.s,.int x.1,gQ (rep x.2),cW c,.tup [.str t,.int 0]]/\Tk C G E M0 M A st P c x r R/\r.parts[x.2-1]? = aa t/\G.own t=ab
def JR(C:Cc):aY:=λws M R=>∃(G:Sr) (E:Env) (M0:Mm) (A:Ad) (st:SS) (P:↑(Nat×Nat)) (c:c0) (x:Nat×Nat) (r:aE),ws=[.ref A.s,.int x.1,gQ (rep x.2),cW c]/\Tk C G E M0 M A st P c x r R/\r.parts[x.2-1]? = ae/\G.rs=E.rs
structure JS(G:Sr)(E:Env):Prop where
 rs:G.rs=E.rs
 own:∀t,(aQ E.own (Sum.inr t:aC)).isSome=G.own t
 stp:∀t p,(aQ E.stp (eK (t,p))=ae/\G.steps t p=[])\/aQ E.stp (eK (t,p))=aa (.rl ((G.steps t p).map λz=>.tup [.int z.1,.int z.2]))
def JT(C:Cc):aY:=λws M R=>∃(G:Sr) (E:Env) (M0:Mm) (A:Ad) (st:SS) (P:↑(Nat×Nat)),ws=[.ref A.s]/\SR C E M0 M A st/\JS G E/\J G st P []/\st.q≠[]/\∀V m x,SR C E M0 V A m->J G m (P++[x]) []->R .non V
def JU(C:Cc):aY:=λws M R=>∃(M0:Mm) (s dx:An) (rs:↑aE) (stp:↑(↑aC×W)),ws=[.ref s,a6 rs,.dt stp]/\↥rs<=100/\M=put M0 s (.ins C.s dx [])/\M0 s=ae/\∀V (A:Ad),A.s=s->SR C ⟨rs,ownOf rs,stp⟩ M0 V A AG->R .non V
def AR(C:Cc):aY:=λws M R=>∃(G:Sr) (E:Env),ws=[a6 E.rs,.rl [.int 0],.dt E.stp,.rl ((Ci ↥G.rs).map λn=>.int (G.wt n))]/\↥E.rs<=100/\E.own=ownOf E.rs/\JS G E/\One G/\(∀r∈G.rs,↥r.parts<=900)/\∀B,mF G B->j9 (eA fK eJ B) M R
abbrev zcc:↑Ay:=["things"]
abbrev zcd:aD:=
   (bM (bH G7 (aA (bE (c7 (bK cA aH) (aV 0) eU (a8 (aA aH (aA (vC (.bl ab)) aB))) [ae])) aB)))
abbrev zce:↑Ay:=["cost","other"]
abbrev zcf:aD:=
   (bM (a8 (aA (aG cE (vX aH bC) (vX aM bC)) (aA (aG cE (vX aH a7) (vX aM a7)) aB))))
abbrev zcg:↑Ay:=["self","grammar","steps"]
abbrev zch(C:Cc):aD:=
   (jF C.s aH "own" (aW mH (aA (bE (aW jI (aA aM aB))) aB)))
abbrev JV(C:Cc):aD:=
   (jF C.s aH "queue" (mC C.q (IM C) aB))
abbrev zci(C:Cc):aD:=(aF (jF C.s aH "grammar" aM) (aF (zch C) (aF (jF C.s aH "steps" aX) (aF (JV C) (aF (jF C.s aH "reached" kZ) (aF (jF C.s aH "best" kZ) (aF (jF C.s aH "ends" kZ) (jF C.s aH "begun" kZ))))))))
abbrev zcj:↑Ay:=["self","number","cut","cost","key"]
abbrev zck(C:Cc):aD:=
   (aF (aN 4 (a8 (aA aM (aA (bH cL (aA aX aB)) (aA (vX aX bC) (aA (vX aX (kB kE a7)) aB))))))
   (cC (uD (bN (aG (bX ab) bA (c8 C.s aH "reached"))) (bN (aG r6 bB (vX (c8 C.s aH "reached") bA))))
    (aF (fP bB (gM (c8 C.s aH "reached") bA))
   (b7 (d8 C.q "put" (IS C) (c8 C.s aH "queue") (aA bB (aA (a8 (aA aM (aA aX aB))) aB)))))
    cX))
abbrev zcl:↑Ay:=["self","taken","cost","number","cut","parts","end","price"]
abbrev zcm(C:Cc):aD:=
   (aN 1 (d8 C.q "take" (IT C) (c8 C.s aH "queue") aB))
abbrev zcn(C:Cc):aD:=
   (aN 3 (vX (vX aM a7) bC))
abbrev zco(C:Cc):aD:=
   (aN 4 (vX (vX aM a7) a7))
abbrev zcp(C:Cc):aD:=
   (cC (bN (aG r6 (vX (c8 C.s aH "reached") (a8 (aA bB (aA (bH cL (aA bA aB)) (aA (vX bA bC) (aA (vX bA (kB kE a7)) aB)))))) aX))
    zB
    cX)
abbrev zcq(C:Cc):aD:=
   (aN 5 (vX (vX (c8 C.s aH "grammar") bB) a7))
abbrev zcr(C:Cc):aD:=
   (cC (bN (aG rH (bH cL (aA bA aB)) (bH cL (aA cB aB))))
    (b7 (d8 C.s "settle" (JR C) aH (aA bB (aA bA (aA aX aB)))))
    (cC (bN (aG (bX ac) (vX cB (aG kX (bH cL (aA bA aB)) a7)) (c8 C.s aH "own")))
    (b7 (d8 C.s "step_by_name" (JQ C) aH (aA bB (aA bA (aA aX (aA (a8 (aA (vX cB (aG kX (bH cL (aA bA aB)) a7)) (aA (vX bA (kB kE a7)) aB))) aB))))))
    (b9 (bK jU (cR "dict" nL (c8 C.s aH "steps") (aA (a8 (aA (vX cB (aG kX (bH cL (aA bA aB)) a7)) (aA (vX bA (kB kE a7)) aB))) (aA (dN aB) aB)))) (fV 2 (cI (aV 6) (cI (aV 7) fU)))
    (b7 (d8 C.s "reach" (qC C) aH (aA bB (aA (aG cE bA (a8 (aA cQ aB))) (aA (a8 (aA (aG cE (vX aX bC) cD) (aA (vX aX a7) aB))) aB))))))))
abbrev zcs(C:Cc):aD:=(aF (zcm C) (aF (aN 2 (vX aM bC)) (aF (zcn C) (aF (zco C) (aF (zcp C) (aF (zcq C) (zcr C)))))))
abbrev zct:↑Ay:=["self","number","cut","cost","key","end","more"]
abbrev zcu(C:Cc):aD:=
   (aF (b7 (cR "list" dU (cR "dict" pW (c8 C.s aH "begun") (aA bA (aA (gA aB) aB))) (aA (a8 (aA aM (aA aX (aA bB aB)))) aB)))
   (b9 (bK jU (cR "dict" nL (c8 C.s aH "ends") (aA bA (aA (dN aB) aB)))) (fV 2 (cI (aV 5) (cI (aV 6) fU)))
    (b7 (d8 C.s "reach" (qC C) aH (aA aM (aA (aG cE aX (a8 (aA cB aB))) (aA (aW vV (aA bB (aA cQ aB))) aB)))))))
abbrev zcv:↑Ay:=["self","number","cut","cost","key","fact","other","before","paid"]
abbrev zcw(C:Cc):aD:=
   (aN 4 (a8 (aA (vX (vX (c8 C.s aH "grammar") aM) bC) (aA (vX aX bC) aB))))
abbrev zcx(C:Cc):aD:=
   (aN 5 (aG cE bA (a8 (aA (vX aX (kB kE a7)) aB))))
abbrev zcy(C:Cc):aD:=
   (cC (bN (aG (bX ac) cB (c8 C.s aH "best")))
    zB
    cX)
abbrev zcz(C:Cc):aD:=
   (fP (a8 (aA bB (aA aM (aA aX aB)))) (gM (c8 C.s aH "best") cB))
abbrev zcA(C:Cc):aD:=
   (b7 (cR "list" dU (cR "dict" pW (c8 C.s aH "ends") (aA bA (aA (gA aB) aB))) (aA (a8 (aA (vX aX (kB kE a7)) (aA bB aB))) aB)))
abbrev zcB(C:Cc):aD:=
   (b7 (d8 C.s "reach" (qC C) aH (aA cQ (aA (aG cE cD (a8 (aA (vX aX (kB kE a7)) aB))) (aA (aW vV (aA eZ (aA bB aB))) aB)))))
abbrev zcC(C:Cc):aD:=
   (b9 (bK jU (cR "dict" nL (c8 C.s aH "begun") (aA bA (aA (dN aB) aB)))) (fV 3 (cI (aV 6) (cI (aV 7) (cI (aV 8) fU)))) (zcB C))
abbrev zcD(C:Cc):aD:=(aF (zcw C) (aF (zcx C) (aF (zcy C) (aF (zcz C) (aF (zcA C) (zcC C))))))
abbrev zcE:↑Ay:=["grammar","places","steps","weights","search","number","place"]
abbrev zcF(C:Cc):aD:=
   (aN 4 (mC C.s (JU C) (aA aH (aA aX aB))))
abbrev zcG(C:Cc):aD:=
   (b9 (bK cA aM) (aV 6)
    (b7 (d8 C.s "reach" (qC C) bA (aA cB (aA (a8 (aA cQ aB)) (aA (a8 (aA (vX bB cB) (aA a7 aB))) aB))))))
abbrev zcH(C:Cc):aD:=
   (b9 (nG (aA (bH cL (aA aH aB)) aB)) (aV 5) (zcG C))
abbrev zcI(C:Cc):aD:=
   (b7 (d8 C.s "take_next" (JT C) bA aB))
abbrev zcJ(C:Cc):aD:=
   (l7 (rD (fB (d8 C.q "is_done" (IP C) (c8 C.s bA "queue") aB))) (zcI C))
abbrev zcK(C:Cc):aD:=(aF (zcF C) (aF (zcH C) (aF (zcJ C) (bM (c8 C.s bA "best")))))
theorem JW:∀(ts acc:↑Ay),lA (acc.map cM) (ts.map cM)=(ts.foldl dA acc).map cM
 | [],acc=>rfl
 | t::r,acc=>by
  show lA (bW (acc.map cM) (Sum.inr t) (.bl ab)) (r.map cM)=_;rw[vS,JW,Fz]
theorem zcL:bG mH zcd zcc:=by
 rintro _ M R ⟨ts,rfl,hl,r⟩;have l:↥(ts.map W.str)<=Ax:=small (by rw[Ab];exact Ar hl ∅);refine(nJ (rest:=[]) (λw=>.tup [w,.bl ab]) l (λ_ _=>trivial) (λw hw V C sb O=>O) (aR.frz ⟨ts.map cM,?_,by rw[Ab];exact l,_,aP,?_⟩))
 .unfold oS;rw[Bm,Bm];rfl
 .rw[show([]:↑(aC×W))=([]:↑Ay).map cM from rfl,JW];exact r
theorem zcM:bG vV zcf zce:=by
 rintro _ M R ⟨a,b,rfl,r⟩;exact⟨_,aP,r⟩
theorem vW(k:Nat):(rep k).map W.int++[W.int 0]=(rep (k+1)).map W.int:=by
 rw[show rep (k+1)=rep k++[0] from List.replicate_succ' ..,Aw];rfl
theorem AU{k:Nat}{Q:W->Prop}(h:1<=k)(r:Q (.int 0)):so (bT ((rep k).map W.int) 0) Q:=by
 cases k with
 | zero=>cases h
 | succ k=>exact so.of (nK _ _) r
theorem oX{k:Nat}{Q:W->Prop}(h:1<=k)(r:Q (.int 0)):so (bT ((rep k).map W.int) (-1)) Q:=by
 cases k with
 | zero=>cases h
 | succ k=>rw[<-vW];exact so.of (DH _ _) r
theorem AW{k:Nat}(h:1<=k):(rep k).map W.int≠[]:=by
 cases k with
 | zero=>cases h
 | succ k=>exact Ic _ _
theorem nS(k:Nat):↥((rep k).map W.int)=k:=by rw[Ab,Iv]
theorem zcN:bG (qC C) (zck C) zcj:=by
 rintro _ M R ⟨G,E,M0,A,st,P,X,x,c,kp,rfl,F,j,r⟩;let⟨_,s⟩:=j.sd x (Bi _ (Bl ..));let⟨_,_,_,hl⟩:=F.up;have hn:=j.small.1;let⟨H,Z,S,a⟩:=F.rpush (kx x) (cW c);refine AU s.one (oX s.one ?_);rw[nS];refine fI F.os AN (.inr ⟨_,.inr ⟨_,kx x,F.or,rfl,rfl⟩,?_⟩);rw[j.free];exact fI F.os AN (oR (k:=kx x) F.or (cS (by lia)) (fI S AL (mI Z.ob zaG ⟨H,A.Q,_,_,c,x,rfl,Z,(by lia),λV h'=>⟨V,aP,r V _ (a V _ h') j.reach⟩⟩)))
theorem AX{C:Cc}{G:Sr}{E:Env}{M0 M:Mm}{A:Ad}{st:SS}{P X:↑(Nat×Nat)}{x:Nat×Nat}{c:c0}{kp:Option (An×↑W)}{ws:↑W}{R:K3}(e:ws=[.ref A.s,.int x.1,gQ (rep x.2),cW c])(F:SK C E M0 M A st kp)(j:J G st P (x::X))(r:∀V m,SK C E M0 V A m kp->J G m P X->R .non V):qC C ws M R:=⟨G,E,M0,A,st,P,X,x,c,kp,e,F,j,r⟩
theorem JX(r:R (cW (IF a b)) M):vV [cW a,cW b] M R:=⟨a,b,rfl,r⟩
theorem vY{q J:Type}{f:q->J}{l:↑q}{i:Nat}{a:q}(h:l[i]? = aa a):(l.map f).drop i=f a::(l.map f).drop (i+1):=by
 let⟨O,rfl⟩:=Am.mp h;rw[Fq (by rw[Ab];exact O),List.getElem_map]
theorem vZ{q J:Type}{f:q->J}{l:↑q}{n:Nat}(h:n=↥l):(l.map f).drop n=[]:=List.drop_eq_nil_of_le (by rw[Ab,h];exact Ai _)
theorem zcO{C:Cc}:bG (JQ C) (zcu C) zct:=by
 rintro _ M R ⟨G,E,M0,A,st,P,c,x,D,t,rfl,⟨j,⟨f,W,Z,F⟩,T,r⟩,N,S⟩;let⟨l,s⟩:=j.at_ Z;have hk:=j.g.p l (Ao s.ru);have hle:=s.le;have ok:eE G st.best t↔told st.best t:=by unfold eE;rw[Vg S]
 have jp:=j.part (X:=(st.en t).map λ_=>(x.1,x.2+1)) (b:=λj=>if t=j then st.bg j++[(c,x)] else st.bg j) Z T N (Ai _) (by
  rw[ok];rcases j.en t with⟨h,n⟩|⟨d,h,n⟩
  .rw[h];exact .inl ⟨rfl,n⟩
  .rw[h];exact .inr ⟨rfl,n⟩) λt'=>by
  by_cases h:t=t'
  .rw[Vg h,Vg ⟨S,h⟩]
  .rw[Vf h,Vf λz=>h z.2]
 refine fI F.os JP (F.gpush (t:=t) (y:=(c,x)) j.small.2.1 j.bl λI u=>?_);let⟨kvs,Y,hc⟩:=u.ends_at t;refine fI u.os JO ⟨oV Y,_,.inr ⟨kvs,eT t,Y,rfl,rfl⟩,?_⟩;rcases hc with⟨O,L⟩|⟨p,O,hk⟩
 .rw[O];rw[show st.en t=[] from L]at jp;exact dX (λi U V=>V=I) rfl (λi w U V hw=>nomatch hw) λU V e=>⟨_,aP,r _ _ (e▸u) jp⟩
 .rw[O];refine⟨_,hk.kept,uU (λi U V=>∃m v Q,U=[aa (.ref A.s),aa (.int x.1),aa (gQ (rep x.2)),aa (cW c),aa (.tup [.str t,.int 0]),v,Q]/\SK C E M0 V A m (aa (p,(st.en t).map vT))/\J G m (P++[x]) (((st.en t).map λ_=>(x.1,x.2+1)).drop i)) ⟨_,_,_,rfl,hk,jp⟩ (λi U V _ B=>by let⟨_,_,_,_,h,_⟩:=B;exact h.kept) ?_ ?_⟩
  .rintro i w U V hw ⟨m,v,Q,rfl,q,a⟩;rw[Av]at hw;let⟨z,hz,rfl⟩:=Az.mp hw;rw[vY hz]at a;exact⟨rfl,rfl,mI q.os vU ⟨AW s.one,by rw[nS];exact small (show x.2+1<=_ by lia),JX (AX (x:=(x.1,x.2+1)) (by rw[gQ,<-vW]) q a λK k H o=>⟨K,aP,k,_,_,rfl,H,o⟩)⟩⟩
  .rintro U V ⟨m,v,Q,rfl,q,a⟩;rw[vZ (Ab _)]at a;exact⟨_,aP,r _ _ q.free a⟩
theorem lI{rs:↑aE}{n:Nat}(h:n<↥rs):∃r,rs[n]? = aa r/\bT (rs.map bD) (n:Int)=aa (bD r):=by
 refine⟨rs[n],Bn h,iL ?_⟩;rw[Av,Bn h];rfl
theorem zcP:(b8 B (t,0,0)).isSome=ab↔told B t:=by
 rw[<-jW,Gg];exact⟨λ⟨e,O,L⟩=>Ap.mpr ⟨e,O,Vh L⟩,λz=>let ⟨e,O,L⟩:=Ap.mp z;⟨e,O,Vi L⟩⟩
theorem zcQ{bs:dB}{k:cF}{v:c0×Nat×↑Int}(h:b8 bs k=ae):bW (eA fK eJ bs) (fK k) (eJ v)=eA fK eJ (bs++[(k,v)]):=by
 rw[AK nQ,vK h]
theorem zcR{C:Cc}:bG (JR C) (zcD C) zcv:=by
 rintro _ M R ⟨G,E,M0,A,st,P,c,x,ru,rfl,⟨j,⟨d,u,Z,l⟩,V,r⟩,N,hG⟩;let⟨_,s⟩:=j.at_ Z;have O:=s.one;let⟨b,hr1,hr2⟩:=lI (Am.mp V).1;rw[V]at hr1;cases hr1;rw[hG]at hr2;refine fI l.os JN (so.of hr2 (AU O (oX O ⟨(λh=>nomatch h),z3,fI l.os AQ (.inr ⟨_,.inr ⟨_,fK (ru.name,0,0),l.ob,rfl,rfl⟩,?_⟩)⟩)));rw[nR nQ];show if ((b8 st.best (ru.name,0,0)).map eJ).isSome=ab then _ else _;have ti:=zcP (B:=st.best) (t:=ru.name);cases T:b8 st.best (ru.name,0,0) with
 | some v=>
  rw[T]at ti;exact⟨M,aP,r M _ l (j.old Z V N (ti.mp rfl))⟩
 | none=>
  rw[T]at ti;have nt:¬told st.best ru.name:=λz=>nomatch ti.mpr z;have js:=j.set Z V N nt;have a:st.en ru.name=[]:=(j.en ru.name).elim (λh=>h.1) λn=>by let⟨_,_,h⟩:=n;exact absurd h nt
  refine fI l.os AQ (oR (k:=fK (ru.name,0,0)) l.ob (cS (by rw[Ab];exact Bv j.small.2.2 ∅)) ?_);rw[show bW (eA fK eJ st.best) _ (W.tup [cW c,W.int x.1,gQ (rep x.2)])=_ from zcQ (v:=(c,x.1,rep x.2)) T];refine fI l.bo JO (l.epush (v:=((ru.name,0,0),c,x.1,rep x.2)) (t:=ru.name) (c:=c) (λ_ _ h=>oX O h) j.small.2.2 a λI Y=>?_);let⟨kvs,D,hc⟩:=Y.begun_at ru.name;refine fI Y.os JP ⟨oV D,_,.inr ⟨kvs,eT ru.name,D,rfl,rfl⟩,?_⟩;rcases hc with⟨O,L⟩|⟨p,L,hk⟩
  .rw[O];rw[show st.bg ru.name=[] from L]at js;exact dX (λi U F=>F=I) rfl (λi w U F hw=>nomatch hw) λU F e=>⟨_,aP,r _ _ (e▸Y) js⟩
  .rw[L];refine⟨_,hk.kept,uU (λi U F=>∃m Q H X,U=[aa (.ref A.s),aa (.int x.1),aa (gQ (rep x.2)),aa (cW c),aa (.tup [.str ru.name,.int 0]),aa (.tup ([.str ru.name,.int 0]++[.int 0])),Q,H,X]/\SK C E M0 F A m (aa (p,(st.bg ru.name).map sF))/\J G m (P++[x]) (((st.bg ru.name).map λe:c0×Nat×Nat=>(e.2.1,e.2.2+1)).drop i)) ⟨_,_,_,_,rfl,hk,js⟩ (λi U F _ S=>by let⟨_,_,_,_,_,h,_⟩:=S;exact h.kept) ?_ ?_⟩
   .rintro i w U F hw ⟨m,Q,H,X,rfl,q,j'⟩;rw[Av]at hw;let⟨y,f,rfl⟩:=Az.mp hw;rw[vY f]at j';let⟨o,sy⟩:=j.sd y.2 (Be _ (Be _ ((j.bg _ _).mp (Ap.mpr ⟨y,Ao f,rfl⟩)).1));have hly:=sy.le;have hlp:=j.g.p o (Ao sy.ru);exact⟨rfl,rfl,mI q.os vU (oX O ⟨AW sy.one,by rw[nS];exact small (show y.2.2+1<=_ by lia),JX (AX (x:=(y.2.1,y.2.2+1)) (by rw[gQ,<-vW]) q j' λK st2 hk2 j2=>⟨K,aP,st2,_,_,_,rfl,hk2,j2⟩)⟩)⟩
   .rintro U F ⟨m,Q,H,X,rfl,q,j'⟩;rw[vZ (Ab _)]at j';exact⟨_,aP,r _ _ q.free j'⟩
theorem zcS{C:Cc}:bG (JT C) (zcs C) zcl:=by
 rintro _ M R ⟨G,E,M0,A,st,P,rfl,F,ev,j,Z,r⟩;let⟨v,K,back⟩:=F.que;refine fI F.os AL (mI K.ob zaH ⟨v,A.Q,_,_,rfl,K,Z,λI n c x y e hQ1=>?_⟩);have l:=back I _ hQ1;let⟨ru,s⟩:=j.at_ e;have O:=s.one;have hk:=j.it (c,x) (by rw[e];simp);have ht:∀{V:Mm} {R':K3},SR C E M0 V A {st with q:=n++y}->(∀M,R .non M->R' .non M)->Tk C G E M0 V A st P c x ru R':=λF k=>⟨j,⟨n,y,e,F⟩,s.ru,λV m a b=>k _ (r V m x a b)⟩
 refine fI l.os AN (AU O (oX O ?_));rw[nS];refine p9 (k:=kx x) l.or hk ⟨c.1,c.2,c.1,c.2,rfl,rfl,λz hz=>?_⟩;cases hz rfl rfl;let⟨T,hr1,hr2⟩:=lI (Am.mp s.ru).1;rw[s.ru]at hr1;cases hr1;rw[ev.rs]at hr2;have hlp:↥(Sz W.str ru.parts)=↥ru.parts:=Ab _;refine fI l.os JN (so.of hr2 (bS (λY=>?_) λY=>?_))
 .have Y:=Vh Y;rw[nS,hlp]at Y;exact mI l.os zcb ⟨G,E,M0,A,st,P,c,x,ru,rfl,ht l λM h=>⟨M,aP,h⟩,Oc (by lia),ev.rs⟩
 have Y:=of_decide_eq_false Y;rw[nS,hlp]at Y;obtain⟨t,N⟩:∃t,ru.parts[x.2-1]? = aa t:=⟨_,Bn (by lia)⟩;have hat:bT (ru.parts.map W.str) (↥((rep x.2).map W.int)-1)=aa (.str t):=by
  rw[nS,show((x.2:Int)-1)=((x.2-1:Nat):Int) by lia];exact iL (by rw[Av,N];rfl)
 refine(so.of hat (fI l.os zb7 ⟨_,⟨Sum.inr t,rfl,rfl⟩,(bS (λS=>?_) λS=>?_)⟩))
 .exact mI l.os zca (so.of hat (oX O ⟨G,E,M0,A,st,P,c,x,ru,t,rfl,ht l λM h=>⟨M,aP,h⟩,N,(ev.own t).symm.trans S⟩))
 have S:G.own t=ac:=(ev.own t).symm.trans S;have hval:(aQ E.stp (eK (t,0))).getD (.rl [])=.rl ((G.steps t 0).map λz=>.tup [.int z.1,.int z.2]):=by
  rcases ev.stp t 0 with⟨O,L⟩|O
  .rw[O,L];rfl
  .rw[O];rfl
 have ok:eE G st.best t↔G.steps t 0≠[]:=by unfold eE;rw[Vf (by rw[S];decide)]
 have jp:=j.part (X:=(G.steps t 0).map λ_=>(x.1,x.2+1)) (b:=st.bg) e s.ru N (Hg _) (by
  rw[ok];rcases j.g.o.st t with h|⟨d,h⟩
  .rw[h];exact .inl ⟨rfl,λz=>z rfl⟩
  .rw[h];exact .inr ⟨rfl,Ic _ _⟩) λt'=>by rw[Vf λz=>by rw[S]at z;cases z.1]
 have hz:∀z∈G.steps t 0,z.1=0:=λz hz=>by
  rcases j.g.o.st t with h|⟨d,h⟩
  .rw[h]at hz;cases hz
  .rw[h]at hz;rw[Af.mp hz]
 have hle:=j.g.p ru (Ao s.ru);refine fI l.os zb8 ⟨rfl,(so.of hat (oX O ⟨_,⟨eK (t,0),rfl,rfl⟩,zaX hval (gC (λi U V=>∃m u H,U=[aa (.ref A.s),aa (.tup [cW c,lC x]),aa (cW c),aa (.int x.1),aa (gQ (rep x.2)),aa (.tup (ru.parts.map W.str)),u,H]/\SR C E M0 V A m/\J G m (P++[x]) (((G.steps t 0).map λ_=>(x.1,x.2+1)).drop i)) ⟨_,_,_,rfl,l,jp⟩ ?_ ?_)⟩))⟩
 .rintro i w U V hw ⟨m,u,H,rfl,hk,j'⟩ D hD;rw[Av]at hw;let⟨z,hi,rfl⟩:=Az.mp hw;rw[vY hi]at j';have B:=hz z (Ao hi);exact⟨rfl,rfl,mI hk.os vU ⟨AW O,by rw[nS];exact small (show x.2+1<=_ by lia),G,E,M0,A,m,_,_,(x.1,x.2+1),(c.1+z.2,c.2),_,by rw[gQ,<-vW,B];rfl,hk,j',λf st2 hk2 j2=>hD _ _ ⟨_,_,_,rfl,hk2,j2⟩⟩⟩
 .rintro U V ⟨m,u,H,rfl,hk,j'⟩;rw[vZ (Ab _)]at j';exact⟨_,aP,r _ _ _ hk j'⟩
theorem zcT:dZ "begun" (.ref A.g) (dZ "ends" (.ref A.e) (dZ "best" (.ref A.b) (dZ "reached" (.ref A.r) (dZ "queue" (.ref A.Q.o) ([("grammar",(a6 E.rs)),("own",(W.dk E.own)),("steps",(W.dt E.stp))]:↑(Ay×W))))))=sf E A:=by kernel_rfl
theorem AY(f:Ay)(w:W):∀fs:↑(Ay×W),↥(dZ f w fs)<=↥fs+1
 | []=>Ai _
 | (k,x)::r=>by
  rw[dZ];split
  .simp
  .have:=AY f w r;simp only[Bw];lia
structure Bu(C:Cc)(M0 B Mt:Mm)(A:Aq)(s dx:An)(fs:↑(Ay×W))(ps:↑An):Prop where
 sub:L2.Sub M0 B
 at_:B s=aa (.ins C.s dx fs)
 nd:(s::ps).Nodup
 at':∀p∈ps,M0 p=ae/\B p=aa (.dT [])
 q:QR C B Mt A [] 0
 len:↥fs<=4+↥ps
section
variable {C:Cc}{M0 B Mt:Mm}{A:Aq}{s dx p:An}{fs:↑(Ay×W)}{ps:↑An}
theorem Bu.set(h:Bu C M0 B Mt A s dx fs ps)(J:M0 s=ae)(hl:↥ps<=4)(k:∀p B M,Bu C M0 B M A s dx (dZ f (.ref p) fs) (ps++[p])->D.nx (aa (.ref s)::U) M):jF C.s (cH 0) f kZ D (aa (.ref s)::U) Mt:=λp N=>by
 have F:=h.q.sub _ _ h.at_;have ne:s≠p:=λe=>by rw[<-e,F]at N;cases N
 have G:=h.q.sub.non N;have nd:=Ca.mp h.nd;have o:put B p (.dT []) s=aa (.ins C.s dx fs):=by rw[aT ne];exact h.at_
 have up:p∉ps:=λz=>by have:=(h.at' p z).2;rw[G]at this;cases this
 have l:=h.len;refine⟨s,dx,fs,rfl,by rw[aT ne];exact F,by lia,k p (put (put B p (.dT [])) s (.ins C.s dx (dZ f (.ref p) fs))) _ ⟨gP (gP h.sub (h.sub.non G)) J,aJ,Ca.mpr ⟨λz=>(Ba.mp z).elim nd.1 λz=>ne (Af.mp z),Cd.mpr ⟨nd.2,by simp,λa m b G e=>up (by rw[<-Af.mp G,<-e];exact m)⟩⟩,λa m=>?_,(h.q.lift (.inl N)).lift (.inr ⟨_,o⟩),?_⟩⟩
 .rcases Ba.mp m with m|m
  .rw[aT (λz:a=s=>nd.1 (z▸m)),aT (λz:a=p=>up (z▸m))];exact h.at' a m
  .rw[Af.mp m,aT (Bx ne),aJ];exact⟨h.sub.non G,rfl⟩
 .rw[Ak];exact Ar (AY ..) (Ee h.len)
end
theorem JY(h:L2.Sub M0 M)(n:M0 p=ae):L2.Sub M0 (del M p):=λa u e=>by rw[jR (λz=>by rw[z,n]at e;cases e)];exact h a u e
theorem JZ{g:Ay->Option (↑W)}(h:B p=aa (.dT []))(L:∀k,g k=ae):dC eT (del B p) B p [] g:=⟨λa u e=>by unfold del at e;split at e;cases e;exact e,Vg rfl,h,(λ_ _=>rfl),(λk ws e=>by rw[L]at e;cases e),(λk j p e=>nomatch e)⟩
theorem zcU:bG (JU C) (zci C) zcg:=by
 rintro _ M R ⟨M0,s,dx,rs,stp,rfl,hl,rfl,G,r⟩;refine⟨s,dx,⟨_,rfl,aJ,by decide,?_⟩⟩;rw[cJ];have T:∀w:W,dZ "own" w (dZ "grammar" (a6 rs) [])=([("grammar",a6 rs),("own",w)]:↑(Ay×W)):=λw=>by kernel_rfl
 have l:∀w:W,dZ "steps" w ([("grammar",a6 rs),("own",.dk (ownOf rs))]:↑(Ay×W))=([("grammar",a6 rs),("own",.dk (ownOf rs)),("steps",w)]:↑(Ay×W)):=λw=>by kernel_rfl
 refine⟨rs,rfl,Ar hl ∅,aR.frz ⟨namesOf rs,rfl,?_,⟨s,dx,⟨_,rfl,aJ,(show(1:Nat)<1000 by decide),⟨s,dx,⟨_,rfl,aJ,?_,?_⟩⟩⟩⟩⟩⟩
 .have:=sA (rs.map aE.name) [];rw[Ab]at this;unfold namesOf mE;simp at this;simp;lia
 .rw[T];exact(show(2:Nat)<1000 by decide)
 rw[cJ,cJ,T];show JV C _ _ (put M0 s (.ins C.s dx (dZ "steps" (.dt stp) [("grammar",a6 rs),("own",.dk (ownOf rs))])));rw[l];refine λa z m V j=>?_;have hsa:s≠a:=λe=>by rw[<-e,aJ]at m;cases m
 obtain⟨D,g⟩:∃F:↑(Ay×W),F=([("grammar",a6 rs),("own",.dk (ownOf rs)),("steps",.dt stp)]:↑(Ay×W)):=⟨_,rfl⟩;rw[<-g]at m V⊢;refine⟨_,a,z,rfl,rfl,m,λI Aq hAq K=>⟨rfl,⟨s,dx,D,rfl,K.sub _ _ aJ,by rw[g];exact(show(3:Nat)<1000 by decide),?_⟩⟩⟩;have c:Bu C M0 _ (put I s (.ins C.s dx (dZ "queue" (.ref a) D))) Aq s dx (dZ "queue" (.ref a) D) []:=⟨gP (gP (aP) G) G,aJ,by simp,(λ_ h=>nomatch h),K.lift (p:=s) (o:=.ins C.s dx (dZ "queue" (.ref a) D)) (.inr ⟨_,aJ⟩),by have:=AY "queue" (.ref a) D;rw[g]at this⊢;exact this⟩;refine c.set G (Cn _) λO _ _ H=>H.set G (show 1<=4 by decide) λb _ _ x=>x.set G (show 2<=4 by decide) λf _ _ y=>y.set G (show 3<=4 by decide) λZ B _ d=>⟨_,aP,r _ ⟨s,dx,Aq,O,b,f,Z⟩ rfl ?_⟩
 have J:=zcT (E:=⟨rs,ownOf rs,stp⟩) (A:=⟨s,dx,Aq,O,b,f,Z⟩);rw[hAq,<-g]at J;dsimp only at J;rw[J]at d;have nd : [s,O,b,f,Z].Nodup:=d.nd;simp only[Ca,Au,not_or,Em,not_false_eq_true,and_true]at nd;obtain⟨⟨i,P,N,Q⟩,⟨S,t,u⟩,⟨d3,d4⟩,L,_⟩:=nd;let⟨U,v⟩:=d.at' O (by simp);let⟨n,Y⟩:=d.at' b (by simp);let⟨z3,k⟩:=d.at' f (by simp);let⟨X,y4⟩:=d.at' Z (by simp);exact⟨del (del B Z) f,del B Z,B,[],[],⟨JY (JY d.sub X) z3,G,U,n,i,P,S,by rw[jR N,jR Q];exact d.at_,by rw[jR t,jR u];exact v,by rw[jR d3,jR d4];exact Y⟩,JZ (by rw[jR L];exact k) λ_=>rfl,JZ y4 λ_=>rfl,d.q,Ai _,Ai _,Ai _,trivial⟩
theorem SK.told{C:Cc}{E:Env}{M0 M:Mm}{A:Ad}{st:SS}{kp:Option (An×↑W)}(h:SK C E M0 M A st kp):M0 A.b=ae/\L2.Sub (put M0 A.b (.dT (eA fK eJ st.best))) M:=by
 let⟨I,m,s,_⟩:=h.up;refine⟨m.nb,λb u e=>?_⟩
 by_cases G:b=A.b
 .subst G;rw[aJ]at e;cases e;exact h.ob
 .rw[aT G]at e;exact s _ _ (m.sub _ _ e)
theorem qD{lo:Int}{n i:Nat}(h:(l9 lo n)[i]? = aa w):i<n/\w=.int (lo+i):=by
 unfold l9 at h;rw[Av]at h;let⟨j,hj,rfl⟩:=Az.mp h;let⟨O,L⟩:=Am.mp hj;simp at O L;subst L;exact⟨O,rfl⟩
theorem sG{lo:Int}{n:Nat}:↥(l9 lo n)=n:=by unfold l9;simp
theorem zcV:bG (AR C) (zcK C) zcE:=by
 rintro _ M R ⟨G,E,rfl,hrs,O,z,o,N,r⟩;refine(λa dx g hdx y=>⟨M,a,dx,E.rs,E.stp,rfl,hrs,rfl,g,λI A D F=>⟨rfl,?_⟩⟩);rw[<-O]at F;have F:SR C E M I A AG:=F;subst D;have t:↥G.rs<=100:=by rw[z.rs];exact hrs
 refine⟨(↥G.rs:Int),by rw[Ab,z.rs],by lia,by lia,?_⟩;rw[De];refine gC (λi U V=>∃st X u,U=[aa (a6 E.rs),aa (.rl [.int 0]),aa (.dt E.stp),aa (.rl ((Ci ↥G.rs).map λn=>.int (G.wt n))),aa (.ref A.s),X,u]/\SR C E M V A st/\J G st [] (((Ci ↥G.rs).map λn=>(n,1)).drop i)) ⟨_,_,_,rfl,F,J.start ⟨o,t,N⟩⟩ ?_ ?_
 .rintro i w U d hw ⟨st,X,u,rfl,Y,j2⟩ D1 hD1;let⟨hi,e⟩:=qD hw;rw[Md]at e;subst e;have T:=Pa hi;refine gC (λk U V=>∃st u,U=[aa (a6 E.rs),aa (.rl [.int 0]),aa (.dt E.stp),aa (.rl ((Ci ↥G.rs).map λn=>.int (G.wt n))),aa (.ref A.s),aa (.int i),u]/\SR C E M V A st/\J G st [] (((Ci ↥G.rs).map λn=>(n,1)).drop (i+k))) ⟨_,_,rfl,Y,j2⟩ ?_ λU H B=>by let⟨st,u,e,p,j3⟩:=B;exact hD1 _ _ ⟨st,_,_,e,p,j3⟩
  rintro k w U H hw ⟨st,u,rfl,p,j3⟩ D2 hD2;cases k with
  | succ k=>cases hw
  | zero=>
   cases hw;rw[Nat.add_zero,vY T]at j3;exact mI p.os vU (so.of (a:=W.int (G.wt i)) (iL (by rw[Av,T];rfl)) (AX (x:=(i,1)) (c:=(G.wt i,1)) rfl p j3 λM4 st4 hs4 j4=>hD2 _ _ ⟨_,_,rfl,hs4,j4⟩))
 .rintro U d ⟨st,X,u,rfl,Y,j2⟩;rw[sG,vZ Gm.symm]at j2;refine AF (λm U V=>∃st P X u,U=[aa (a6 E.rs),aa (.rl [.int 0]),aa (.dt E.stp),aa (.rl ((Ci ↥G.rs).map λn=>.int (G.wt n))),aa (.ref A.s),X,u]/\SR C E M V A st/\J G st P []/\m=90100-↥P) ⟨_,_,_,_,_,rfl,Y,j2,rfl⟩ ?_;rintro m U H ⟨st,P,X,u,rfl,p,j,rfl⟩ D3 hD3;let⟨M4,K,back⟩:=p.que;refine fI p.os AL (mI K.ob zaI ⟨M4,A.Q,st.q,_,rfl,K,bS (b:=!decide (st.q=[])) (λh=>?_) λh=>?_⟩)
  .have Z:¬st.q=[]:=of_decide_eq_false (by rw[<-Ga (decide _),h];rfl);have f:=j.few;have l:=Ia.mpr Z;unfold al at f;rw[Ce,Ak,Ab]at f;exact mI p.os zb9 ⟨G,E,M,A,st,P,rfl,p,z,j,Z,λM5 L x hs5 j5=>hD3 _ _ _ (by rw[Ak];show 90100-(↥P+1)<90100-↥P;lia) ⟨_,_,_,_,rfl,hs5,j5,rfl⟩⟩
  .have Z:st.q=[]:=Vh (by rw[<-Ga (decide _),h];rfl);let⟨v,S⟩:=p.told;exact fI p.os AQ ⟨_,S,r st.best (j.done Z) A.b v⟩
section
variable {X:Cx}{af:Pn}{Z:St}{H:Hp}{s:Aj}{a:An}{u:HO}
def IsDict(u:HO):Prop:=(∃ks,u=.dK ks)\/∃ks,u=.dT ks
theorem Inv.frzD(I:Inv X af Z H s)(e:H a=aa u)(hd:IsDict u):∃o,Inv X af Z (aL H a (.frz o u)) s:=by
 obtain⟨o,S⟩:∃o,s.heap.get? a=aa o:=by
  have:=I.hok a u e;rcases hd with⟨ks,rfl⟩|⟨ks,rfl⟩
  .let⟨_,_,_,_,o,_,_,e,_⟩:=this;exact⟨o,e⟩
  .let⟨_,_,_,_,o,_,_,e,_⟩:=this;exact⟨o,e⟩
 refine⟨o,?_⟩;have ne:∀{b:An} {v:HO},H b=aa v->v≠u->b≠a:=λ{b v} D h z=>by subst z;rw[e]at D;exact h (Co D).symm
 have d:∀{b:An},H b=ae->b≠a:=λ{b} D z=>by subst z;rw[e]at D;cases D
 have f:∀b xs,H b=aa (.tup xs)->aL H a (.frz o u) b=aa (.tup xs):=λb xs T=>by
  rw[a9 (ne T (λz=>by rcases hd with⟨ks,rfl⟩|⟨ks,rfl⟩<;>cases z))];exact T
 have g:∀b y,H b=aa (.own y)->aL H a (.frz o u) b=aa (.own y):=λb y T=>by
  rw[a9 (ne T (λz=>by rcases hd with⟨ks,rfl⟩|⟨ks,rfl⟩<;>cases z))];exact T
 refine I.step (h':=s.heap) (g':=s.gens) (d':=s.drawn) (t':=s.toks) (ch:=[]) (λ_ z=>nomatch z) (λb o _ _ _ D _=>D) (λb o _ _ _ D _=>⟨o.slots,D⟩) (λb o _ _ n=>by rw[a9 (d n)];exact n) (λb o _ D=>⟨o,D⟩) f
  (λb ob v T=>?_) (λb ps T=>⟨#[],?_⟩) (λm P=>P) (λb v T=>?_) I.bare
 .rw[a9 (ne T (λz=>by rcases hd with⟨ks,rfl⟩|⟨ks,rfl⟩<;>cases z))];exact T
 .rw[a9 (ne T (λz=>by rcases hd with⟨ks,rfl⟩|⟨ks,rfl⟩<;>cases z)),T];simp
 .by_cases G:b=a
  .subst G;rw[bY]at T;cases T;exact⟨S,(I.hok b u e).stay (λ_ _ _ q=>q) (λc q=>g c b q) f⟩
  .rw[a9 G]at T;exact(I.hok b v T).stay (λ_ _ _ q=>q) (λc q=>g c b q) f
def zcW(Q:VK):VK:=λv H=>∃a u,v=.ref a/\H a=aa u/\IsDict u/\∀o,Q v (aL H a (.frz o u))
theorem zcX(h:PE X e t):PE X e (λZ H Q=>t Z H (zcW Q)):=λaf s Z H Q I q=>
 thn (h af s Z H _ I q) λv g Y=>by
  let⟨x,z,M,N,a,u,D,A,l,d⟩:=Y;let⟨o,i⟩:=M.frzD A l;exact⟨x,_,i,N,d o⟩
def v3(a:An)(o:Lv)(u:HO)(xs:↑V):It:=
 ⟨λi H=>H a=aa (.frz o u)/\i<↥xs,λi H x l=>l=H/\xs[i]? = aa x,λi H=>H a=aa (.frz o u)/\↥xs<=i⟩
theorem J0{P:Bc}{w:Bo}{K:Ac}{f:Cg}(a it:An)(o:Lv)(u:HO)(xs:↑V)(es:Array Eg)(ep:Nat)(hd:o.data=.dict es ep)(hn:es.size=↥xs)(J:∀(i:Nat) (e:Eg),es[i]? = aa e->∃x,xs[i]? = aa x/\RelV x e.key):
  jM P w K f (v3 a o u xs) [it] it (λi h=>h.IsKeyIter it a i es.size ep) where
 mem:=by simp
 obj:=λi h st b G=>by
  have e:b=it:=by simpa using G
  subst e;let⟨o,e,c,d⟩:=st;exact⟨o,e,λv z=>by rw[d]at z;cases z⟩
 keep:=λi h h' st k=>st.at λo e=>k it (by simp) o e
 item:=by
  intro X r hw Y hc i af s Z H E I hf st L;subst r hw Y;let⟨D,hi⟩:=L;have S:s.heap.get? a=aa o:=(show bZ X.prog X.w H s.heap a (.frz o u) from I.hok a _ D).1;have l:i<es.size:=by lia
  let⟨x,g,N⟩:=J i es[i] (by simp[l]);let⟨f0,C,O,B,j,y⟩:=hf it (by simp);refine t7 ac st S hd l λh' m sb=>?_;have M:Inv X af Z H {s with heap:=h'}:=I.turned (t':=s.toks) (λb o G e=>(sb.2 b G).trans e) f0 C B j y;let⟨R,e,c,d⟩:=id m;exact⟨_,rfl,pD (s:={s with heap:=h'}) e c d ∅ ⟨x,H,M,N,⟨rfl,g⟩,m,λb G=>(hf b G).1⟩⟩
 done:=by
  intro X r hw Y hc i af s Z H E I hf st L;subst r hw Y;let⟨D,hi⟩:=L;have S:s.heap.get? a=aa o:=(show bZ X.prog X.w H s.heap a (.frz o u) from I.hok a _ D).1;refine t9 ac (I.ok.hd hc) st S hd (by lia) λh' hk=>⟨rfl,?_⟩
  exact I.turnedT (tk:=s.toks) hf λq o W eq=>hk q o (λz=>W (by simp[z])) eq
 self:=λ_ _ _ _ _ st h=>Pj st h
end
section
variable {X:Cx}{e:Cg}{te:aS}
abbrev sH(t:aS):aS:=λU M R=>t U M λw V=>∃p,w=.ref p/\((∃kvs,V p=aa (.dK kvs)/\R (.fk kvs) (del V p))\/∃kvs,V p=aa (.dT kvs)/\R (.ft kvs) (del V p))
theorem J1{K:Ac}{H:Hp}{M:Mm}{p:An}{o:Lv}{u:HO}{x:MO}(Y:AM K H M)(e:M p=aa x)(hd:IsDict u)(U:H p=aa u):Go H M (aL H p (.frz o u)) (del M p)/\AM K (aL H p (.frz o u)) (del M p)/\Kp H M (aL H p (.frz o u)) (del M p):=by
 have d:∀{b:An},M b=ae->b≠p:=λ{b} h z=>by subst z;rw[e]at h;cases h
 have go:Go H M (aL H p (.frz o u)) (del M p):=by
  refine⟨λb xs T=>?_,λb ob v T=>?_,λb v n T=>?_⟩
  .rw[a9 (d (Y.noTup T))];exact T
  .rw[a9 (d (Y.noFrz T))];exact T
  .rw[a9 (d n),jR (d n)];exact⟨T,n⟩
 refine⟨go,λa t S=>?_,λa v n S=>?_,λa v S=>?_⟩
 .have ne:a≠p:=λz=>by rw[z,pN]at S;cases S
  rw[jR ne]at S;exact(Y a t S).go go (a9 ne)
 .rw[a9 (d n),jR (d n)];exact⟨S,n⟩
 .by_cases m:a=p
  .subst m;exact⟨_,bY⟩
  .let⟨y,q⟩:=(Y a v S).has;exact⟨y,by rw[a9 m];exact q⟩
theorem zcY(h:E3 X e te):E3 X e (sH te):=
 (zcX h).weak λZ H Q W=>W.el λU M R J Y h k=>⟨U,M,_,J,Y,h,λv l w V y c av ⟨p,hw,r⟩=>by
  subst hw;obtain rfl:=av.inv;rcases r with⟨kvs,e,r⟩|⟨kvs,e,r⟩
  .let⟨ks,f,q⟩:=c _ _ e;refine⟨p,.dK ks,rfl,f,.inl ⟨_,rfl⟩,λo=>?_⟩;let⟨g,P,B⟩:=J1 (o:=o) c e (.inl ⟨_,rfl⟩) f;exact k _ _ _ _ (y.trans B) P (.fk bY q.keys (q.vals.go g)) r
  .let⟨ks,f,q⟩:=c _ _ e;refine⟨p,.dT ks,rfl,f,.inr ⟨_,rfl⟩,λo=>?_⟩;let⟨g,P,B⟩:=J1 (o:=o) c e (.inr ⟨_,rfl⟩) f;exact k _ _ _ _ (y.trans B) P (.ft bY q.keys (q.vals.go g)) r⟩
abbrev nT:W->Mm->(↑W->(Mm->Prop)->Mm->Prop)->Prop
 | .fk kvs,I,R=>R (kvs.map λp=>wK p.1) (λ_=>True) I
 | .ft kvs,I,R=>R (kvs.map λp=>.tup (p.1.map wK)) (λ_=>True) I
 | _,_,_=>False
theorem J2{K:Ac}{g:Hp}{M0:Mm}{a:An}{o:Lv}{u:HO}{xs:↑V}{ws:↑W}(v:AM K g M0)(e:g a=aa (.frz o u))(J:aK K g M0 xs ws):iU K g M0 (v3 a o u xs) ws λ_=>True:=by
 have st:∀H M,Kp g M0 H M->H a=aa (.frz o u):=λH M k=>(k.fr _ _ (v.noFrz e) e).1;refine⟨λi H M k Y _ hi=>⟨st H M k,by rw[J.length];exact hi⟩,λH M k Y _=>⟨st H M k,by rw[J.length];exact Ai _⟩,λi H M x l k Y _ hi y=>?_⟩;let⟨rfl,y⟩:=y;let⟨w,hw,av⟩:=(J.kp v k).getV y;exact⟨w,hw,Kp.refl Y,Y,av⟩
theorem J3{K:Ac}{H:Hp}{M:Mm}:∀k:aC,AV K H M (kV k) (wK k)
 | .inl i=>.int i
 | .inr x=>.str x
theorem zcZ(ok:cU P w H h)(e:H a=aa (.frz o (.dK ks))):
  ∃es ep,gK h a es ep/\o.data=.dict es ep/\(a==Fn)=ac/\es.size=↥ks/\∀(i:Nat) (en:Eg),es[i]? = aa en->∃p,ks[i]? = aa p/\RelV (kV p.1) en.key/\RelV p.2 en.val:=by
 let⟨S,hz,j,vs,T,n,es,ep,O,L,h3,D,f,G⟩:=(show bZ P w H h a (.frz o (.dK ks)) from ok a _ e);rw[S]at O;cases O;have J:=↥T;have m:=↥f;rw[Fs]at m;refine⟨es,ep,⟨o,S,L,h3⟩,h3,j,by lia,λi en F=>?_⟩;have hi:=(Jc.mp F).1;obtain⟨⟨k,x⟩,c⟩:∃v,vs[i]? = aa v:=⟨_,Bn (by lia)⟩;let⟨U,R⟩:=f.get? (by rw[Ft];exact F) c;have:∀{ks:↑(aC×V)} {vs:↑(aC×Ae)} {i:Nat},KV ks vs->vs[i]? = aa (k,x)->∃v,ks[i]? = aa (k,v)/\RelV v x:=by
  intro ks vs i r
  induction r generalizing i with
  | nil=>intro h;simp at h
  | @cons p q ps qs Z t E=>
   intro h;cases i with
   | zero=>simp at h;subst h;let⟨X,b⟩:=p;cases Z.1;exact⟨b,rfl,Z.2⟩
   | succ i=>rw[Ep]at h⊢;exact E h
 let⟨v,d,y⟩:=this T c;exact⟨(k,v),d,t5 U,by rw[R];exact y⟩
theorem zc0(ok:cU P w H h)(e:H a=aa (.frz o (.dT ks))):
  ∃es ep,gK h a es ep/\o.data=.dict es ep/\(a==Fn)=ac/\es.size=↥ks/\∃n:↑An,↥n=↥ks/\(∀(i:Nat) (p:↑aC×V) (b:An),ks[i]? = aa p->n[i]? = aa b->H b=aa (.tup (p.1.map kV)))/\
   ∀(i:Nat) (en:Eg),es[i]? = aa en->∃p b,ks[i]? = aa p/\n[i]? = aa b/\en.key=.ref b/\RelV p.2 en.val:=by
 let⟨S,hz,j,xs,f,s,es,ep,O,L,h3,D,T⟩:=(show bZ P w H h a (.frz o (.dT ks)) from ok a _ e);rw[S]at O;cases O;have B:=Kn D;have m:=Cw f;refine⟨es,ep,⟨o,S,L,h3⟩,h3,j,by lia,xs.map λx=>x.2.1,by rw[Ab];lia,λi p b N G=>?_,λi en F=>?_⟩
 .rw[Av]at G;let⟨x,J,rfl⟩:=Az.mp G;have:∀{ks:↑(↑aC×V)} {xs:↑(↑aC×An×Ae)} {i:Nat},Ey (λ(p:↑aC×V) (q:↑aC×An×Ae)=>p.1=q.1/\H q.2.1=aa (.tup (p.1.map kV))/\RelV p.2 q.2.2) ks xs->ks[i]? = aa p->xs[i]? = aa x->H x.2.1=aa (.tup (p.1.map kV)):=by
   intro ks xs i r
   induction r generalizing i with
   | nil=>intro h;simp at h
   | @cons p q ps qs Z t E=>
    intro h g;cases i with
    | zero=>simp at h g;subst h;subst g;exact Z.2.1
    | succ i=>rw[Ep]at h g;exact E h g
  exact this f N J
 .rw[Su D i]at F;let⟨x,J,rfl⟩:=Az.mp F;have:∀{ks:↑(↑aC×V)} {xs:↑(↑aC×An×Ae)} {i:Nat},Ey (λ(p:↑aC×V) (q:↑aC×An×Ae)=>p.1=q.1/\H q.2.1=aa (.tup (p.1.map kV))/\RelV p.2 q.2.2) ks xs->xs[i]? = aa x->∃p,ks[i]? = aa p/\RelV p.2 x.2.2:=by
   intro ks xs i r
   induction r generalizing i with
   | nil=>intro h;simp at h
   | @cons p q ps qs Z t E=>
    intro h;cases i with
    | zero=>simp at h;subst h;exact⟨p,rfl,Z.2.2⟩
    | succ i=>rw[Ep]at h⊢;exact E h
  let⟨p,d,y⟩:=this f J;exact⟨p,x.2.1,d,by rw[Av,J];rfl,rfl,y⟩
theorem zc1{f:Cg}:l8 X f (rQ X.K nT):=by
 rintro af s Z H x u g I N ⟨n,M,R,S,Y,h,k⟩;cases S<;>first|exact Bq h|skip
 case fk a o ks kvs e ke q=>
  cases (show u=Value.ref a from N);let⟨es,ep,T,hd,j,hsz,F⟩:=zcZ I.hok e;have fp:∀b∈[⇑s],gW X af H b:=λb G=>by
   have e:b=⇑s:=by simpa using G
   subst e;exact I.fpOk (Ai _) (I.hok.fresh (Ai _))
  refine uA j T ⟨⇑s,[⇑s],_,v3 a o (.dK ks) (ks.map λp=>kV p.1),H,rfl,I.kept (t':=s.toks) λb o e=>Ah _ e,J0 a _ o _ _ es ep hd (by rw[Ab];exact hsz) (λi en d=>?_),⟨_,Bb _ rfl,rfl,rfl⟩,fp,k _ _ _ _ _ (Kp.refl Y) Y (J2 Y e ?_) h⟩
  .let⟨p,O,L,_⟩:=F i en d;exact⟨kV p.1,by rw[Av,O];rfl,L⟩
  .have hk:(ks.map λp=>kV p.1)=(ks.map Eb).map kV:=by rw[Bm];rfl
   have hw:(kvs.map λp=>wK p.1)=(kvs.map Eb).map wK:=by rw[Bm];rfl
   rw[hk,hw,ke];generalize kvs.map Eb=l
   induction l with
   | nil=>exact .nil
   | cons z l E=>exact .cons (J3 z) E
 case ft a o ks kvs e ke q=>
  cases (show u=Value.ref a from N);let⟨es,ep,T,hd,j,hsz,J,hl,m,F⟩:=zc0 I.hok e;have fp:∀b∈[⇑s],gW X af H b:=λb G=>by
   have e:b=⇑s:=by simpa using G
   subst e;exact I.fpOk (Ai _) (I.hok.fresh (Ai _))
  refine uA j T ⟨⇑s,[⇑s],_,v3 a o (.dT ks) (J.map V.ref),H,rfl,I.kept (t':=s.toks) λb o e=>Ah _ e,J0 a _ o _ _ es ep hd (by rw[Ab];lia) (λi en d=>?_),⟨_,Bb _ rfl,rfl,rfl⟩,fp,k _ _ _ _ _ (Kp.refl Y) Y (J2 Y e ?_) h⟩
  .let⟨p,b,O,L,h3,_⟩:=F i en d;exact⟨.ref b,by rw[Av,L];rfl,by rw[h3];rfl⟩
  .have hw:(kvs.map λp=>W.tup (p.1.map wK))=(ks.map Eb).map λz=>W.tup (z.map wK):=by rw[ke,Bm];rfl
   rw[hw];have:∀(ks:↑(↑aC×V)) (J:↑An),J.length=↥ks->(∀(i:Nat) (p:↑aC×V) (b:An),ks[i]? = aa p->J[i]? = aa b->H b=aa (.tup (p.1.map kV)))->aK X.K H M (J.map V.ref) ((ks.map Eb).map λz=>W.tup (z.map wK)):=by
    intro ks
    induction ks with
    | nil=>intro J hl _;cases J with
     | nil=>exact .nil
     | cons b r=>simp at hl
    | cons p ks E=>
     intro J hl m;cases J with
     | nil=>simp at hl
     | cons b r=>
      refine .cons (.tup (m 0 p b rfl rfl) (vF p.1)) (E r (by simpa using hl) λi p b O L=>m (i+1) p b (by simpa using O) (by simpa using L))
   exact this ks J hl m
theorem zc2(hl:E3 X l tl):PI X f l (gB X.K (bK nT tl)):=uV hl zc1
end
end L2
namespace PySem
namespace Dt
open L2
open PySem.Zd (TK allH zX oU)
section
variable {prog:Bc}{w:Bo}{A:Cs}{E:Ae->Aj->Prop}{s:Aj}
theorem call_pairs{c:Nat}{Q:Ae->Aj->Prop}(hh:A.handled=ae)(U:A.units+2<Fd)(J:s.heap.get? l=aa {cls:=.type "list",data:=.seq items c})(hn:↥ps=items.size)(hz:items.size<=Ax)(r:∀p∈ps,(TK prog w).is s.heap p.1 p.2.1)(N:∀(j:Nat) (p:↑aC×An×Ae),ps[j]? = aa p->∃(a:An),items[j]? = aa (.ref a)/\s.heap.IsTuple a #[.ref p.2.1,p.2.2])(h:∀h' tk,(∀b o,s.heap.get? b=aa o->h'.get? b=aa o)->h'.DictOfH (TK prog w) ⇑s (allH [] ps)->Q (.ref ⇑s) {s with heap:=h',toks:=tk}):
  Bk (Dj prog w) A (call (.type "dict") [.ref l]) Q E s:=by
 have X:∀p∈ps,@LT.lt Nat _ p.2.1 ⇑s:=λp N=>by
  let⟨o,items,n,e,_⟩:=r p N;exact Bg e
 refine Dp.callG (Dd:=λi h=>∃es,es=allH [] (ps.take i)/\h.DictOfH (TK prog w) ⇑s es/\↥es<=i/\∀e∈es,@LT.lt Nat _ e.2.1 ⇑s) hh J ⟨[],rfl,Heap.DictOfH.new s.heap,Ai _,λ_ h=>nomatch h⟩ ?_ (λ{i t} hi hd ext=>?_) λh' tk e Z=>by let⟨es,u,I,_⟩:=Z;exact h h' tk e (by rw[<-hn,Bp]at u;rw[<-u];exact I)
 .rintro i h h' ⟨es,Y,⟨o,en,ep,S,hc,M,g,m,y⟩,hl,V⟩ P;exact⟨es,Y,⟨o,en,ep,P _ o (Ai _) S,hc,M,g,λx K=>oU (m x K) λR e=>P _ R (Hf (V x K)) e,y⟩,hl,V⟩
 let⟨es,Y,hd,hl,V⟩:=hd;obtain⟨p,f⟩:∃p,ps[i]? = aa p:=⟨_,Bn (by lia)⟩;have v:p∈ps:=Ao f;let⟨a,G,T⟩:=N i p f;refine⟨a,_,p.2.2,G,T,λk=>Qo (knd:=TK prog w) (Fm (A:=A.in1) (show(A.units+1)+1<Fd from U)) (oU (r p v) (ext _)) hd (λL I C=>k L _ ⟨_,?_,I,?_,λe Y=>?_⟩ C) (by lia)⟩
 .rw[Y,Dp.take_at f];unfold allH;rw[Kt];rfl
 .have:=zX es p.1 p.2.1 p.2.2;lia
 unfold Mq at Y;split at Y
 .let⟨F,d,rfl⟩:=Ap.mp Y;rw[show(Ux p.1 p.2.2 F).2.1=F.2.1 by unfold Ux;split<;>rfl];exact V F d
 .rcases Ba.mp Y with q|q
  .exact V e q
  .rw[Af.mp q];exact X p v
end
end Dt
end PySem
namespace L2
section
variable {X:Cx}
def oY(ps:↑(↑aC×W)):↑W:=ps.map λp=>.tup [.tup (p.1.map wK),p.2]
theorem J4(I:L2.Inv X af Z H s):∀{ps:↑(↑aC×W)} {vs:↑V} {its:↑Ae},aK X.K H M vs (oY ps)->aZ vs its->
  ∃(qs:↑(↑aC×An×V)) (rs:↑(↑aC×An×Ae)),bQ X.K H M (↑aC) (qs.map λq=>(q.1,q.2.2)) ps/\(∀q∈qs,H q.2.1=aa (.tup (q.1.map kV)))/\Ey (λ(q:↑aC×An×V) (p:↑aC×An×Ae)=>q.1=p.1/\q.2.1=p.2.1/\RelV q.2.2 p.2.2) qs rs/\↥rs=↥its/\
   (∀z∈rs,H z.2.1=aa (.tup (z.1.map kV)))/\∀(j:Nat) (p:↑aC×An×Ae),rs[j]? = aa p->∃(a:An),its[j]? = aa (.ref a)/\s.heap.IsTuple a #[.ref p.2.1,p.2.2]
 | [],_,_,.nil,.nil=>⟨[],[],.nil,(λq U=>nomatch U),.nil,rfl,(λq U=>nomatch U),λj p h=>by simp at h⟩
 | (k,w)::ps,_,_,.cons av o,.cons R g=>by
  let⟨qs,rs,O,L,h3,D,f,G⟩:=J4 I o g;let⟨a,xs,t,e,q⟩:=av.inv;rw[t]at R;let⟨l,J,ex,i,P⟩:=q.two;let⟨b,d,u,T,A⟩:=i.inv;rw[A.keys]at T;let⟨c,Y,pl,_⟩:=I.tuple (bU.of e);rw[ex,u]at Y;let⟨v,S,n,x1,x2⟩:=vals2 Y;rw[n,show v=.ref b from x1]at pl;refine⟨(k,b,J)::qs,(k,b,S)::rs,.cons ⟨rfl,P⟩ O,List.forall_mem_cons.mpr ⟨T,L⟩,.cons ⟨rfl,rfl,x2⟩ h3,congrArg (· + 1) D,List.forall_mem_cons.mpr ⟨T,f⟩,λj p hj=>?_⟩;cases j with
  | zero=>rw[<-Co hj];exact⟨a,congrArg aa R,pl⟩
  | succ j=>exact G j p hj
def AZ:↑W->Mm->K3->Prop
 | [.rl ws],M,R=>∃ps:↑(↑aC×W),ws=oY ps/\↥ws<=Ax/\j9 (iD [] ps) M R
 | _,_,_=>False
theorem zc3(hc:X.calm=ab)(U:X.A.units+2<Fd):cN X (.type "dict") (eR X.K AZ):=by
 rintro af s Z H xs us Q I rs ⟨ws,M,R,Y,F,h,k⟩
 match ws,h with
 | [.rl ws],h=>
  let⟨v,rfl,av⟩:=F.one;let⟨ps,rfl,hz,r⟩:=h;let⟨u,rfl,ru⟩:=vals1 rs;cases av with
  | rl f n q=>
   cases ru;let⟨z,its,c,S,hl,e⟩:=I.lstM f;let⟨qs,rs',O,L,h3,D,T,x⟩:=J4 I q S;have hz2:↥ps<=Ax:=by simpa [oY] using hz
   have hql:↥qs=↥ps:=by have:=Cw O;rwa [Ab]at this
   refine Dt.call_pairs (items:=its.toArray) (ps:=rs') (I.ok.hd hc) U e (by simpa using D) (by rw[Bh];lia) (λp N=>i7 I.hok (T p N)) (λj p hj=>by simpa using x j p hj) λh' tk hk i=>?_;have a:=I.hok.fresh (Ai _);have len:=zY (qs.map λq=>(q.1,q.2.2)) [];rw[Ab]at len;have w:∀{ps:↑(↑aC×W)} {qs:↑(↑aC×V)} {ks:↑(↑aC×V)} {kvs:↑(↑aC×W)},bQ X.K H M (↑aC) qs ps->bQ X.K H M (↑aC) ks kvs->bQ X.K H M (↑aC) (kG ks qs) (iD kvs ps):=by
    intro ps qs ks kvs h
    induction h generalizing ks kvs with
    | nil=>intro h;exact h
    | @cons q p qs ps r t E=>
     intro h;let⟨d,y⟩:=q;let⟨b,m⟩:=p;let⟨rfl,K⟩:=r;exact E (rJ h d K)
   have g:=w (ks:=[]) (kvs:=[]) O .nil;refine⟨.ref ⇑s,aL H ⇑s (.dT (kG [] (qs.map λq=>(q.1,q.2.2)))),I.laid (o:=.dT (kG [] (qs.map λq=>(q.1,q.2.2)))) (t':=tk) hk (Ai _) ⟨by simp at len;lia,beq_eq_false_iff_ne.mpr (Bx (Br I.big)),_,(HP h3 L .nil).keeps λc G C=>?_,?_⟩,rfl,?_⟩
   .rw[a9 (eO C a)];exact C
   .let⟨o,en,ep,l,K,J,r4,_,r5⟩:=i;exact⟨o,en,ep,l,K,J,r4,r5⟩
   .let⟨P,B⟩:=Y.laid (o:=.dT (iD [] ps)) (u:=.dT (kG [] (qs.map λq=>(q.1,q.2.2)))) a ⟨_,bY,oJ g.keys (g.vals.newL a)⟩;exact k _ _ _ _ B P (.ref _) (r _ (Y.nonM a))
end
def v5(rs:↑aE)(ws:↑Ay):Prop:=∀r∈rs,∀t∈r.parts,ownB rs t=ac->t∈ws
structure GL(rs:↑aE):Prop where
 few:↥rs<=61
 prt:∀r∈rs,↥r.parts<=4
 wds:∃U:↑Ay,↥U<64/\v5 rs U
theorem A1(h:acc.Nodup):(dA acc t).Nodup:=by
 unfold dA;split
 .exact h
 .rename_i hn;rw[Cd];refine⟨h,by simp,λa m b G e=>hn ?_⟩;have:b=t:=by simpa using G
  rw[<-this,<-e];exact m
theorem zc4(rs:↑aE):↥(namesOf rs)<=↥rs:=by
 have:∀(qs:↑aE) (acc:↑Ay),↥(mE acc qs)<=↥acc+↥qs:=by
  intro qs
  induction qs with
  | nil=>intro acc;exact Ai _
  | cons r qs E=>
   intro acc;have O:=E (dA acc r.name);have L:↥(dA acc r.name)<=↥acc+1:=by unfold dA;split<;>simp
   show(mE (dA acc r.name) qs).length<=_;rw[Bw];lia
 have:=this rs [];rw[Jy,Nv]at this;exact this
theorem A2{q:Type}{l:↑q}{k:Nat}{x:q}(h:l[k]? = aa x):l.take (k+1)=l.take k++[x]:=by
 rw[List.take_succ,h];rfl
theorem gS{b j:Type}[DecidableEq b]{t:↑(b×j)}{k:b}:(b8 t k).isSome=ab↔k∈t.map (·.1):=by
 rw[<-jW,Gg,Ap];exact⟨λ⟨x,h,e⟩=>⟨x,h,Vh e⟩,λ⟨x,h,e⟩=>⟨x,h,Vi e⟩⟩
theorem A4:∀{fs:↑cF} {ys:↑W},Ey (λw y=>∃f v,w=W.tup ((fK f).map wK)/\y=W.tup [.str f.1,v]) (fs.map λf=>W.tup ((fK f).map wK)) ys->∃kvs:↑(aC×W),ys=oS kvs/\kvs.map (·.1)=fs.map λf=>(Sum.inr f.1:aC)
 | [],_,h=>by cases h;exact⟨[],rfl,rfl⟩
 | f::fs,_,h=>by
  cases h with
  | cons a b=>
   obtain⟨⟨n,i,j⟩,v,e,rfl⟩:=a;let⟨kvs,rfl,h2⟩:=A4 b;cases e;exact⟨(Sum.inr f.1,v)::kvs,rfl,by rw[Bd,Bd,h2]⟩
theorem J5:∀{ps acc:↑(aC×W)},(aQ (lA acc ps) k).isSome=((aQ acc k).isSome||ps.any λp=>decide (p.1=k))
 | [],acc=>by simp[lA]
 | p::ps,acc=>by
  show(aQ (lA (bW acc p.1 p.2) ps) k).isSome=_;rw[J5,nP]
  by_cases e:p.1=k
  .rw[Vg e,Fh,Vi e];simp
  .rw[Vf e,Fh,Vj e,Na]
theorem J6{w:Bool}(hw:∀r∈rs,∀t∈r.parts,ownB rs t=ac->(t∈ss↔w=ab))(F:mF (lG rs ss) B)(h:kvs.map (·.1)=(B.map (·.1)).map λf=>(Sum.inr f.1:aC))(X:Ay):(aQ (lA [] kvs) (Sum.inr X:aC)).isSome=mG rs w X:=by
 rw[J5,show(aQ ([]:↑(aC×W)) (Sum.inr X:aC)).isSome=ac from rfl,Na,Dw,Gg,lH,<-za4 hw F X];have hm:(∃x∈kvs,decide (x.1=(Sum.inr X:aC))=ab)↔(Sum.inr X:aC)∈kvs.map (·.1):=by simp
 rw[hm,h,Ap];constructor
 .rintro⟨f,h1,h2⟩;let⟨r,_,e⟩:=IX F h1;cases h2;rw[e]at h1⊢;exact h1
 .exact λz=>⟨_,z,rfl⟩
def dP(rs:↑aE)(t:Ay):Bool:=mG rs ab t||!ownB rs t
def fX(rs:↑aE):↑aE:=rs.filter λr=>r.parts.all (dP rs)
def cY(rs:↑aE)(D:↑Ay)(t:Ay):Bool:=decide (t∈D)||!ownB rs t
def fR(rs:↑aE)(D:↑Ay)(r:aE):↑Ay:=if r.parts.any (cY rs D)=ab then dA D r.name else D
def gD(rs:↑aE)(D:↑Ay):↑Ay:=(fX rs).foldl (fR rs) D
def eL(rs:↑aE):Nat->↑Ay
 | 0=>[]
 | n+1=>gD rs (eL rs n)
theorem J7(rs:↑aE)(D:↑Ay)(r:aE):∃q,fR rs D r=D++q:=by
 unfold fR dA;split
 .split
  .exact⟨[],by simp⟩
  .exact⟨_,rfl⟩
 .exact⟨[],by simp⟩
theorem v7(rs:↑aE):∀(qs:↑aE) (D:↑Ay),∃q,qs.foldl (fR rs) D=D++q
 | [],D=>⟨[],by simp⟩
 | r::qs,D=>by
  let⟨a,m⟩:=J7 rs D r;let⟨b,G⟩:=v7 rs qs (fR rs D r);rw[Fz,G,m,Dc];exact⟨_,rfl⟩
theorem zc5(h:↥(gD rs D)<=↥D):gD rs D=D:=by
 let⟨q,Z⟩:=v7 rs (fX rs) D;have e:gD rs D=D++q:=Z;rw[e,Ak]at h;have:q=[]:=Eo.mp (by lia);rw[e,this,Ce]
structure Wd(rs:↑aE)(D:↑Ay):Prop where
 nd:D.Nodup
 own:∀X∈D,ownB rs X=ab
 why:∀X∈D,∃r∈rs,r.name=X/\(∀t∈r.parts,dP rs t=ab)/\∃p∈r.parts,p≠X/\(p∈D\/ownB rs p=ac)
theorem Wd.nil(rs:↑aE):Wd rs []:=⟨Dx,(λ_ h=>nomatch h),(λ_ h=>nomatch h)⟩
theorem v8:r∈fX rs↔r∈rs/\∀t∈r.parts,dP rs t=ab:=by
 unfold fX;rw[Dq,Fj]
theorem Wd.step(d:Wd rs D)(T:r∈fX rs):Wd rs (fR rs D r):=by
 unfold fR;split
 .rename_i h
  by_cases P:r.name∈D
  .unfold dA;rw[Vg P];exact d
  .let⟨O,L⟩:=v8.mp T;let⟨p,N,a⟩:=Gg.mp h;have e:dA D r.name=D++[r.name]:=by unfold dA;rw[Vf P]
   refine⟨A1 d.nd,λX u=>?_,λX u=>?_⟩
   .rcases lB.mp u with z|z
    .exact d.own X z
    .rw[z];exact lE O
   .rcases lB.mp u with z|z
    .let⟨q,G,J,Z,t,V,k,b⟩:=d.why X z;refine⟨q,G,J,Z,t,V,k,?_⟩;rcases b with y|y
     .exact .inl (lB.mpr (.inl y))
     .exact .inr y
    .unfold cY at a;rw[Ra]at a;refine⟨r,O,z.symm,L,p,N,?_,?_⟩
     .rintro rfl;rcases a with y|y
      .rw[z]at y;exact P (Vh y)
      .rw[z,lE O]at y;cases y
     .rcases a with y|y
      .exact .inl (lB.mpr (.inl (Vh y)))
      .right;cases e:ownB rs p with
       | false=>rfl
       | true=>rw[e]at y;cases y
 .exact d
theorem Wd.fold:∀{qs:↑aE} {D:↑Ay},Wd rs D->(∀r∈qs,r∈fX rs)->Wd rs (qs.foldl (fR rs) D)
 | [],D,d,_=>d
 | r::qs,D,d,h=>Wd.fold (qs:=qs) (d.step (h r Bl)) λq Z=>h q (Bj _ Z)
theorem Wd.rounds(rs:↑aE):∀n,Wd rs (eL rs n)
 | 0=>Wd.nil rs
 | n+1=>Wd.fold (Wd.rounds rs n) λ_ h=>h
theorem Wd.len(d:Wd rs D):↥D<=↥(namesOf rs):=len_sub d.nd λx J=>Vh (d.own x J)
theorem J8(h:gD rs D=D)(T:r∈fX rs)(N:∃p∈r.parts,cY rs D p=ab):r.name∈D:=by
 have mono:∀(qs:↑aE) (E:↑Ay),(∀x∈D,x∈E)->r∈qs->r.name∈qs.foldl (fR rs) E:=by
  intro qs
  induction qs with
  | nil=>intro E _ h;cases h
  | cons q qs m=>
   intro E H P;rw[Fz];have a:∀x∈D,x∈fR rs E q:=λx J=>by
    let⟨z,e⟩:=J7 rs E q;rw[e];exact Be _ (H x J)
   rcases Au.mp P with rfl|z
   .let⟨z,e⟩:=v7 rs qs (fR rs E r);rw[e];refine Be _ ?_;unfold fR;rw[Vg]
    .exact lB.mpr (.inr rfl)
    .let⟨p,O,L⟩:=N;refine Gg.mpr ⟨p,O,?_⟩;unfold cY at L⊢;rw[Ra]at L⊢;rcases L with y|y
     .exact .inl (Vi (H p (Vh y)))
     .exact .inr y
   .exact m _ a z
 have:=mono (fX rs) D (λ_ h=>h) T;have e:(fX rs).foldl (fR rs) D=D:=h;rwa [e]at this
abbrev jJ:=↑Ay×↑W
def iV(keep drop:Ay->Bool)(E:Ay->W)(told:↑jJ)(t:Ay):↑jJ:=
 (if keep t=ab then told.map λx=>(x.1++[t],x.2++[W.int ↥x.1]) else [])++(if drop t=ab then told.map λx=>(x.1,x.2++[W.tup [.str "whole",E t]]) else [])
def lJ(keep drop:Ay->Bool)(E:Ay->W)(ps:↑Ay):↑jJ:=ps.foldl (iV keep drop E) [([],[])]
section
variable {keep drop:Ay->Bool}{E:Ay->W}
theorem zc6(told:↑jJ)(t:Ay):↥(iV keep drop E told t)<=2*↥told:=by
 unfold iV;rw[Ak];split<;>split<;>simp<;>lia
theorem J9:∀(ps:↑Ay) (told:↑jJ),↥(ps.foldl (iV keep drop E) told)<=2 ^ ↥ps*↥told
 | [],told=>by simp
 | t::ps,told=>by
  have O:=J9 ps (iV keep drop E told t);have L:=zc6 (keep:=keep) (drop:=drop) (E:=E) told t;rw[Fz,Bw,Nat.pow_succ]
  calc _<=2 ^ ↥ps*↥(iV keep drop E told t):=O
   _<=2 ^ ↥ps*(2*↥told):=Nat.mul_le_mul_left _ L
   _=2 ^ ↥ps*2*↥told:=by rw[Nat.mul_assoc]
end
theorem zc7(K:gD rs D=D)(h:d9 rs ab X):X∈D\/d9 rs ac X:=by
 induction h with
 | @mk r T N _ E=>
  by_cases hw:∃p∈r.parts,cY rs D p=ab
  .refine .inl (J8 K (v8.mpr ⟨T,λt ht=>?_⟩) hw);unfold dP;cases S:ownB rs t with
   | true=>rw[lH.mpr (N t ht S)];rfl
   | false=>exact Kw _
  .have no:∀t∈r.parts,ownB rs t=ac->False:=λt ht S=>hw ⟨t,ht,by unfold cY;rw[S];exact Kw _⟩;exact .inr (.mk T (λt ht S=>(E t ht S).resolve_left λz=>hw ⟨t,ht,by unfold cY;rw[Vi z];rfl⟩) λt ht S=>(no t ht S).elim)
theorem zc8(K:gD rs D=D)(h:dP rs t=ab):cY rs D t=ab\/d9 rs ac t:=by
 unfold dP at h;rw[Ra]at h;rcases h with z|z
 .rcases zc7 K (lH.mp z) with y|y
  .left;unfold cY;rw[Vi y];rfl
  .exact .inr y
 .left;unfold cY;rw[z];simp
inductive Dv(nm:Ay->Bool)(rs:↑aE):↑Ay->↑Ay->Prop
 | nil:Dv nm rs [] []
 | wd {t:Ay} {ps row:↑Ay}:nm t=ac->Dv nm rs ps row->Dv nm rs (t::ps) (t::row)
 | nd {r:aE} {ps a b:↑Ay}:r∈rs->nm r.name=ab->Dv nm rs r.parts a->Dv nm rs ps b->Dv nm rs (r.name::ps) (a++b)
section
variable {nm:Ay->Bool}{rs rs':↑aE}{ps qs a b row:↑Ay}{t:Ay}
theorem Dv.app(h:Dv nm rs ps a)(k:Dv nm rs qs b):Dv nm rs (ps++qs) (a++b):=by
 induction h with
 | nil=>exact k
 | wd n _ E=>exact .wd n E
 | nd r n p _ _ E=>rw[Dc];exact .nd r n p E
theorem Dv.one(h:r∈rs)(n:nm r.name=ab)(k:Dv nm rs r.parts a):Dv nm rs [r.name] a:=by
 have:=Dv.nd h n k .nil;rwa [Ce]at this
theorem Dv.cut(h:Dv nm rs (t::ps) row):∃a b,row=a++b/\Dv nm rs [t] a/\Dv nm rs ps b:=by
 cases h with
 | wd n h=>exact⟨[t],_,rfl,.wd n .nil,h⟩
 | nd r n p h=>exact⟨_,_,rfl,.one r n p,h⟩
theorem Dv.none(h:Dv nm rs [] row):row=[]:=by cases h;rfl
theorem Dv.inv(h:Dv nm rs [t] row)(n:nm t=ab):∃r∈rs,r.name=t/\Dv nm rs r.parts row:=by
 generalize e : [t]=l at h;cases h with
 | nil=>cases e
 | wd m _=>cases e;rw[n]at m;cases m
 | nd r _ p q=>cases e;rw[q.none,Ce];exact⟨_,r,rfl,p⟩
theorem Dv.sim(k:∀r∈rs,nm r.name=ab->∀a,Dv nm rs' r.parts a->Dv nm rs' [r.name] a)(h:Dv nm rs ps row):Dv nm rs' ps row:=by
 induction h with
 | nil=>exact .nil
 | wd n _ E=>exact .wd n E
 | nd r n _ _ m Q=>exact(k _ r n _ m).app Q
theorem Dv.mono(k:∀r∈rs,r∈rs')(h:Dv nm rs ps row):Dv nm rs' ps row:=h.sim λr m n _ q=>.one (k r m) n q
theorem Dv.less{F:Ay->Prop}(k:∀r∈rs,F r.name\/(r∈rs'/\∀t∈r.parts,¬F t))(h:Dv nm rs ps row)(N:∀t∈ps,¬F t):Dv nm rs' ps row:=by
 induction h with
 | nil=>exact .nil
 | wd n _ E=>exact .wd n (E λt ht=>N t (.tail _ ht))
 | nd r n _ _ m Q=>
  let⟨s,B⟩:=(k _ r).resolve_left (N _ (.head _));exact .nd s n (m B) (Q λt ht=>N t (.tail _ ht))
end
inductive Th(keep drop:Ay->Bool):↑Ay->↑Ay->Prop
 | nil:Th keep drop [] []
 | kp {t:Ay} {ps l:↑Ay}:keep t=ab->Th keep drop ps l->Th keep drop (t::ps) (t::l)
 | dr {t:Ay} {ps l:↑Ay}:drop t=ab->Th keep drop ps l->Th keep drop (t::ps) l
section
variable {keep drop:Ay->Bool}{E:Ay->W}{ps l:↑Ay}
theorem KA:∀{ps l:↑Ay} {told:↑jJ},(∃x∈ps.foldl (iV keep drop E) told,x.1=l)↔∃y∈told,∃q,l=y.1++q/\Th keep drop ps q
 | [],l,told=>⟨λZ=>by let⟨x,h,e⟩:=Z;exact⟨x,h,[],by rw[Ce,e],.nil⟩,λU=>by let⟨y,h,q,e,k⟩:=U;exact⟨y,h,by cases k;rw[e,Ce]⟩⟩
 | t::ps,l,told=>by
  rw[Fz,KA];unfold iV;constructor
  .rintro⟨y,f,q,rfl,k⟩;rcases Ba.mp f with f|f<;>split at f
   .rename_i h;let⟨z,hz,rfl⟩:=Ap.mp f;exact⟨z,hz,t::q,Dc ..,.kp h k⟩
   .cases f
   .rename_i h;let⟨z,hz,rfl⟩:=Ap.mp f;exact⟨z,hz,q,rfl,.dr h k⟩
   .cases f
  .rintro⟨y,f,q,rfl,k⟩;cases k with
   | kp h k=>exact⟨_,Be _ (by rw[Vg h];exact Ap.mpr ⟨y,f,rfl⟩),_,by simp,k⟩
   | dr h k=>exact⟨(y.1,y.2++[W.tup [.str "whole",E t]]),Bi _ (by rw[Vg h];exact Ap.mpr ⟨y,f,rfl⟩),_,rfl,k⟩
theorem v9:(∃x∈lJ keep drop E ps,x.1=l)↔Th keep drop ps l:=by
 unfold lJ;rw[KA];exact⟨λ⟨y,h,q,e,k⟩=>by rw[Af.mp h]at e;rw[e];exact k,λk=>⟨_,Af.mpr rfl,_,rfl,k⟩⟩
theorem Th.len(h:Th keep drop ps l):↥l<=↥ps:=by
 induction h with
 | nil=>exact Ai _
 | kp _ _ E=>exact Ee E
 | dr _ _ E=>exact My E
theorem Th.sub(h:Th keep drop ps l):∀t∈l,t∈ps/\keep t=ab:=by
 induction h with
 | nil=>exact λ_ h=>nomatch h
 | kp k _ E=>
  intro t ht;rcases Au.mp ht with rfl|ht
  .exact⟨.head _,k⟩
  .exact⟨.tail _ (E t ht).1,(E t ht).2⟩
 | dr _ _ E=>exact λt ht=>⟨.tail _ (E t ht).1,(E t ht).2⟩
theorem Th.all:∀{ps:↑Ay},(∀t∈ps,keep t=ab\/drop t=ab)->∃l,Th keep drop ps l/\∀t∈ps,keep t=ab->t∈l
 | [],_=>⟨[],.nil,λ_ h=>nomatch h⟩
 | t::ps,h=>by
  let⟨l,k,m⟩:=Th.all λt ht=>h t (.tail _ ht);cases e:keep t with
  | true=>exact⟨_,.kp e k,λp N hk=>(Au.mp N).elim (λz=>z▸.head _) λz=>.tail _ (m p z hk)⟩
  | false=>exact⟨_,.dr ((h t (.head _)).resolve_left λz=>by rw[e]at z;cases z) k,λp N hk=>(Au.mp N).elim (λz=>by rw[z,e]at hk;cases hk) λz=>m p z hk⟩
end
structure iE(nm:Ay->Bool)(rs:↑aE):Prop where
 nam:∀r∈rs,nm r.name=ab
 prt:∀r∈rs,∀t∈r.parts,nm t=ownB rs t
section
variable {nm:Ay->Bool}{rs pl:↑aE}{D:↑Ay}{drop:Ay->Bool}
theorem iE.fr(g:iE nm rs)(h:d9 rs ac t):Dv nm rs [t] []:=by
 induction h with
 | @mk r T _ hw E=>
  refine .one T (g.nam r T) ?_;have:∀ps:↑Ay,(∀t∈ps,t∈r.parts)->Dv nm rs ps []:=by
   intro ps
   induction ps with
   | nil=>exact λ_=>.nil
   | cons t ps Q=>
    intro h;cases S:ownB rs t with
    | true=>exact(E t (h t (.head _)) S).app (Q λu U=>h u (.tail _ U))
    | false=>exact absurd (hw t (h t (.head _)) S) ∅
  exact this _ λ_ h=>h
theorem iE.thn(g:iE nm rs)(hd:∀t,drop t=ab↔d9 rs ac t){keep:Ay->Bool}(h:Th keep drop ps l):Dv nm rs l a->Dv nm rs ps a:=by
 induction h generalizing a with
 | nil=>exact λh=>h
 | kp _ _ E=>
  intro h;let⟨x,y,rfl,O,L⟩:=h.cut;exact O.app (E L)
 | dr h _ E=>exact λk=>(g.fr ((hd _).mp h)).app (E k)
def lK(rs:↑aE)(D:↑Ay)(drop:Ay->Bool)(X:Ay)(l:↑Ay):Prop:=∃r∈rs,r.name=X/\Th (cY rs D) drop r.parts l/\l≠[]/\l≠[X]
theorem iE.all(g:iE nm rs)(K:gD rs D=D)(hd:∀t,drop t=ab↔d9 rs ac t)(N:∀X l,lK rs D drop X l->∃q∈pl,q.name=X/\q.parts=l)(h:Dv nm rs ps row):
  (∀t∈ps,nm t=ownB rs t)->(∀t∈ps,dP rs t=ab)/\(row=[]->∀t∈ps,d9 rs ac t)/\(row≠[]->∃p∈ps,cY rs D p=ab)/\∃l,Th (cY rs D) drop ps l/\Dv nm pl l row:=by
 induction h with
 | nil=>exact λ_=>⟨(λ_ h=>nomatch h),(λ_ _ h=>nomatch h),λh=>absurd rfl h,[],.nil,.nil⟩
 | @wd t ps row n _ E=>
  intro hn;let⟨O,_,_,l,F,f⟩:=E λt ht=>hn t (.tail _ ht);have S:ownB rs t=ac:=(hn t (.head _))▸n;have hw:cY rs D t=ab:=by unfold cY;rw[S];exact Kw _
  refine⟨λu U=>(Au.mp U).elim (λz=>?_) (O u),(λz=>nomatch z),λ_=>⟨t,.head _,hw⟩,_,.kp hw F,.wd n f⟩;rw[z];unfold dP;rw[S];exact Kw _
 | @nd r ps a b T n _ _ v Q=>
  intro hn;let⟨i,P,c,l1,j,o⟩:=v (g.prt r T);let⟨H,W,G,l2,d,s⟩:=Q λt ht=>hn t (.tail _ ht);have own:∀t∈r.parts,ownB rs t=ab->d9 rs ab t:=λt ht S=>by
   have:=i t ht;unfold dP at this;rw[S,Pg,Rz]at this;exact lH.mp this
  have k:∀t∈r.name::ps,dP rs t=ab:=λu U=>(Au.mp U).elim (λz=>by
   rw[z];unfold dP;rw[lH.mpr (.mk T own λ_ _ _=>rfl)];rfl) (H u)
  by_cases m:a=[]
  .have fr:d9 rs ac r.name:=.mk T (λt ht _=>P m t ht) λt ht S=>by
    cases P m t ht with
    | mk h _ _=>rw[lE h]at S;cases S
   subst m;exact⟨k,λe u U=>(Au.mp U).elim (λz=>z▸fr) (W e u),λe=>(G e).elim λp h=>⟨p,.tail _ h.1,h.2⟩,l2,.dr ((hd _).mpr fr) d,s⟩
  .have hw:cY rs D r.name=ab:=by
    unfold cY;rw[Vi (J8 K (v8.mpr ⟨T,i⟩) (c m))];rfl
   refine⟨k,λe=>absurd (Np.mp e).1 m,λ_=>⟨_,.head _,hw⟩,_,.kp hw d,Dv.app (ps:=[r.name]) ?_ s⟩
   by_cases hl:l1=[r.name]
   .rw[<-hl];exact o
   .let⟨q,Z,B,A⟩:=N r.name l1 ⟨r,T,rfl,j,(λz=>m (by rw[z]at o;exact o.none)),hl⟩;rw[<-B];exact .one Z (by rw[B];exact n) (by rw[A];exact o)
theorem zc9(d:Wd rs D)(K:gD rs D=D)(hd:∀t,drop t=ab↔d9 rs ac t)(u:X∈D):∃l,lK rs D drop X l:=by
 let⟨r,T,en,hf,p,N,j,hw⟩:=d.why X u;let⟨l,O,L⟩:=Th.all (keep:=cY rs D) (drop:=drop) λt ht=>(zc8 K (hf t ht)).imp_right (hd t).mpr;have a:=L p N (by unfold cY;rcases hw with z|z;rw[Vi z];rfl;rw[z];exact Kw _);exact⟨l,r,T,en,O,(λe=>by rw[e]at a;cases a),λe=>by rw[e]at a;exact j (Af.mp a)⟩
end
theorem KC{B ss:↑Int}{i:Nat}{s d:Int}(h:Drawn B (ss.take i))(F:ss[i]? = aa s)(hd:Below d s):Drawn (B++[d]) (ss.take (i+1)):=by
 rw[Cb,F];exact So h hd
theorem zda{f:Int->W}{ss:↑Int}{i:Nat}{s:Int}(h:ss[i]? = aa s):bT (ss.map f) (i:Int)=aa (f s):=iL (by rw[Av,h];rfl)
theorem sI{ts:↑Ay}{k:Int}(G:0<=k)(O:k<↥ts):∃t,bT (ts.map W.str) k=aa (.str t)/\t∈ts:=by
 let⟨x,e,A,_⟩:=u7 (xs:=ts.map W.str) G (by rw[Ab];exact O);rw[Av]at A;let⟨t,ht,rfl⟩:=Az.mp A;exact⟨t,e,Ao ht⟩
theorem zdb:bG qA zbB zbv:=by
 rintro _ M R ⟨c,ss,rfl,hl,F,r⟩;have Y:pG 10 18:=⟨by decide,by decide,by decide⟩;refine(λp N=>⟨Y,_,rfl,by rw[Ab];lia,by rw[Ab];lia,?_⟩);rw[Ab,De];refine dX (λi U V=>∃B rest o,U=[aa (.int c),aa (.rl (ss.map W.int)),aa (.ref p),aa (.int rest),o]/\V=put M p (.lst (B.map W.int))/\Drawn B (ss.take i)) ⟨[],_,_,rfl,rfl,by rw[List.take_zero];exact .nil⟩ ?_ ?_
 .rintro i w U V hw ⟨B,rest,o,rfl,rfl,hd⟩;let⟨hi,rfl⟩:=qD hw;rw[Md];obtain⟨s,u⟩:∃s,ss[i]? = aa s:=⟨_,Bn hi⟩;let⟨h,g⟩:=F s (Ao u);have S:bT (ss.map W.int) (i:Int)=aa (.int s):=zda u;have H:=Cw hd;rw[Ck]at H;have C:↥(B.map W.int)<Ax:=by rw[Ab];exact cS (by lia)
  refine⟨Y,fW (λ_=>?_) λ_=>?_⟩
  .refine⟨.inl ⟨rfl,_,aJ⟩,so.of S ⟨h,_,aJ,C,so.of S ⟨⟨h,Int.lt_of_le_of_lt g ∅⟩,_,aP,B++[rest % s],_,_,rfl,by rw[cJ,Aw];rfl,KC hd u ⟨Fi _ (by lia),Ei _ h⟩⟩⟩⟩
  .refine⟨.inl ⟨rfl,_,aJ⟩,c,_,rfl,by lia,by lia,λz G O=>(so.of S ⟨h,_,aJ,C,_,aP,B++[z % s],_,_,rfl,by rw[cJ,Aw];rfl,KC hd u ⟨Fi _ (by lia),Ei _ h⟩⟩)⟩
 .rintro U V ⟨B,rest,o,rfl,rfl,hd⟩;rw[sG,Bp]at hd;exact⟨_,aP,r B hd p N⟩
theorem zdc:bG AJ zbG zbC:=by
 rintro _ M R ⟨n,m,g,rfl,G,O,r⟩;have key:∀L,L=kH g->(aF JE (aF JF (aF JG (aF JH (aF JI (aF JJ JK)))))) (k7 R) [aa (.int n),aa (.int m),aa (.bl g),aa (.str L),ae,ae,ae,ae,ae,ae,ae] M:=by
  rintro L rfl;let⟨e,ecp,mcp⟩:=IA (z9 g) n;have f:↥(kH g)<=16777216:=by rw[<-qT,z9];decide
  have Y:0<=n/26 % 8:=Fi _ ∅;have Z:n/26 % 8<8:=Ei _ ∅;have k:0<=n/208 % (1+n/26 % 8):=Fi _ (by lia);have s:n/208 % (1+n/26 % 8)<1+n/26 % 8:=Ei _ (by lia);have I:(0:Int)<26:=by decide
  have p8:(0:Int)<8:=by decide
  refine⟨I,f,so.of ecp ⟨⟨by decide,by decide⟩,p8,⟨by decide,by decide⟩,show 0<1+n/26 % 8 by lia,⟨by decide,by decide⟩,I,λp N=>⟨m,rfl,by lia,by lia,?_⟩⟩⟩;have a:↥(⟨#[e]⟩:Ay)=1:=rfl;obtain⟨P,hfi⟩:∃P,P=n/1664 % 26:=⟨_,rfl⟩;obtain⟨j,S⟩:∃j,j=n/26 % 8:=⟨_,rfl⟩;rw[<-S]at Y Z k s;obtain⟨av,X⟩:∃av,av=n/208 % (1+j):=⟨_,rfl⟩;rw[<-X]at k s;refine dX (λi U V=>∃(ts:↑Ay) (Q b:Option W),U=[aa (.int n),aa (.int m),aa (.bl g),aa (.str (kH g)),aa (.str ⟨#[e]⟩),aa (.int (1+j)),aa (.int av),aa (.int P),aa (.ref p),Q,b]/\
   V=put M p (.lst (ts.map W.str))/\↥ts=i/\∀t∈ts,r9 g t) ⟨[],ae,ae,by rw[hfi,X,S];rfl,rfl,rfl,λt ht=>nomatch ht⟩ ?_ ?_
  .rintro i w U V hw ⟨ts,Q,b,rfl,rfl,l,ht⟩;let⟨hi,rfl⟩:=qD hw;rw[Md];let⟨d,hd,hdm⟩:=IA (z9 g) (P+3*(i:Int));have v:(↥(Ib (⟨#[e]⟩:Ay) av):Int)=av:=HZ a k;have y:(↥(Ib (⟨#[e]⟩:Ay) (1+j-av-1)):Int)=1+j-av-1:=HZ a (by lia);have H:↥(⟨#[d]⟩:Ay)=1:=rfl;have l12:↥(Ib (⟨#[e]⟩:Ay) av++(⟨#[d]⟩:Ay))=↥(Ib (⟨#[e]⟩:Ay) av)+1:=by rw[Lx,H]
   have l123:↥(Ib (⟨#[e]⟩:Ay) av++(⟨#[d]⟩:Ay)++Ib (⟨#[e]⟩:Ay) (1+j-av-1))=↥(Ib (⟨#[e]⟩:Ay) av)+1+↥(Ib (⟨#[e]⟩:Ay) (1+j-av-1)):=by rw[Lx,l12]
   refine⟨.inl (.inl ⟨by decide,by decide⟩),I,f,so.of hd ?_⟩;refine⟨.inl ⟨rfl,_,aJ⟩,_,_,rfl,rfl,by rw[a];decide,by lia,by lia,_,_,rfl,rfl,small (by lia),_,_,rfl,rfl,by rw[a];decide,by lia,by lia,_,_,rfl,rfl,small (by lia),_,aJ,cS (by rw[Ab];lia),?_⟩;generalize J:Ib (⟨#[e]⟩:Ay) av++(⟨#[d]⟩:Ay)++Ib (⟨#[e]⟩:Ay) (1+j-av-1)=x at l123⊢;have B:↥x<=8:=by lia
   have o:∀z∈cs x,z∈cs (kH g):=λz hz=>by
    rw[<-J,pM,pM]at hz;rcases Ba.mp hz with q|q
    .rcases Ba.mp q with q|q
     .have:=HY q;rw[AA,Af]at this;rw[this];exact mcp
     .rw[AA,Af]at q;rw[q];exact hdm
    .have:=HY q;rw[AA,Af]at this;rw[this];exact mcp
   have A:cs x≠[]:=λz=>by
    have:↥x=0:=by rw[<-qT,z];rfl
    lia
   have D:ts.map W.str++[W.str x]=(ts++[x]).map W.str:=by rw[Aw];rfl
   rw[cJ,D];have c:∀o9' C,∃u,L2.Sub u (put M p (.lst ((ts++[x]).map W.str)))/\∃(K:↑Ay) (Q b:Option W),[aa (.int n),aa (.int m),aa (.bl g),aa (.str (kH g)),aa (.str ⟨#[e]⟩),aa (.int (1+j)),aa (.int av),aa (.int P),aa (.ref p),o9',C]=[aa (.int n),aa (.int m),aa (.bl g),aa (.str (kH g)),aa (.str ⟨#[e]⟩),aa (.int (1+j)),aa (.int av),aa (.int P),aa (.ref p),Q,b]/\
     u=put M p (.lst (K.map W.str))/\↥K=i+1/\∀t∈K,r9 g t:=λo9' C=>by
    refine⟨_,aP,ts++[x],_,_,rfl,rfl,by rw[Ak,l];rfl,λt h=>?_⟩;rcases Ba.mp h with q|q
    .exact ht t q
    .rw[Af.mp q];exact zaz B A o
   refine(fW (λT=>⟨⟨by decide,by decide⟩,(by decide:(0:Int)<3),fW (λ_=>⟨⟨by decide,by decide⟩,Pq i,fW (λ_=>?_) λ_=>c _ _⟩) λ_=>c _ _⟩) λ_=>c _ _);have hk:bT ((ts++[x]).map W.str) (i:Int)=aa (.str x):=by
    refine iL ?_;rw[Av,Hh (by lia),l];simp
   have E:↥("_" : Ay)=1:=by decide +kernel
   have F:0<=n/129792 % 10000:=Fi _ ∅;have hf1:n/129792 % 10000<10000:=Ei _ ∅;have hfl:↥(Bs (toString (n/129792 % 10000)))<=10:=Oa F (by lia);have hxu:↥(x++("_" : Ay))=↥x+1:=by rw[Lx,E]
   subst T;refine kY aJ hk (⟨_,_,rfl,rfl,small (by lia),⟨by decide,by decide⟩,(by decide:(0:Int)<10000),ID F hf1,_,_,rfl,rfl,small (by lia),zS aJ (by lia) (by rw[Ab,Ak,Dl];lia) ⟨_,aP,ts++[x++("_" : Ay)++Bs (toString (n/129792 % 10000))],_,_,rfl,?_,by rw[Ak,l];rfl,λt h=>?_⟩⟩)
   .rw[cJ,Aw,Aw];congr 2;rw[List.set_append_right _ _ (by rw[Ab,l];lia),Ab,l,De,Nw];rfl
   .rcases Ba.mp h with q|q
    .exact ht t q
    .rw[Af.mp q];exact IC _ F hf1 B A o
  .rintro U V ⟨ts,Q,b,rfl,rfl,l,ht⟩;rw[sG]at l;exact⟨_,aP,r ts l ht p N⟩
 cases g with
 | true=>exact⟨rfl,by decide +kernel,key _ rfl⟩
 | false=>exact(key _ rfl)
theorem zdd(m:Nat):(Bz m [W.int 6]).flatten=(Bz m (6:Int)).map W.int:=by
 induction m with
 | zero=>rfl
 | succ m E=>rw[Ez,Gn,E,Ez];rfl
theorem zde{x1 x2 x3 x4:Int}(h:w∈dH (([x1,x2,x3,x4]++I).map W.int) (aa 4) hi):∃d∈I,w=.int d:=by
 unfold dH at h;have e:HT.sIx ↥(([x1,x2,x3,x4]++I).map W.int) 0 (aa 4)=4:=by
  have:=HT.sIx_nat ↥(([x1,x2,x3,x4]++I).map W.int) 0 4;simp at this⊢;lia
 rw[e]at h;have h:=Ff h;let⟨d,hd,rfl⟩:=Ap.mp (show w∈I.map W.int from h);exact⟨d,hd,rfl⟩
theorem zdf:bG JB zbN zbH:=by
 rintro _ M R ⟨c,F,wds,f,rfl,hh0,hh1,hw,hm0,v,r⟩;have Y:pG 10 59:=⟨by decide,by decide,by decide⟩;have z6:∀{n:Nat},n<=20->n<=Ax:=λh=>small (Ar h ∅);refine⟨Y,by lia,by lia,z6 (by show 1*f.toNat<=20;lia),?_⟩;rw[zdd];refine⟨z6 (by show 4+↥(Sz W.int _)<=20;rw[Ab,Iv];lia),c,[(↥F:Int),f+1,3,10 ^ 59]++Bz f.toNat 6,by rw[Aw,Ab];rfl,by rw[Ak,Iv];show 4+_<=100;lia,λs y=>?_,λB hd=>aR.frz ?_⟩
 .rcases Ba.mp y with q|q
  .simp at q;rcases q with rfl|rfl|rfl|rfl
   .exact⟨by lia,Ny (show(↥F:Int)<=12 by lia) ∅⟩
   .exact⟨by lia,Ny (show f+1<=5 by lia) ∅⟩
   .exact⟨by decide,by decide⟩
   .exact⟨by decide,by decide⟩
  .rw[(List.mem_replicate.mp q).2];exact⟨by decide,by decide⟩
 .let⟨T,I,rfl,D,A⟩:=zaA hd;let⟨x1,x2,x3,x4,rfl,H,x,o,b⟩:=zaB D;have b6:=IE A (s:=6) λz hz=>(List.mem_replicate.mp hz).2;have Z:bT (([x1,x2,x3,x4]++I).map W.int) 0=aa (.int x1):=nK _ _;have g:bT (([x1,x2,x3,x4]++I).map W.int) 1=aa (.int x2):=iL (j:=1) rfl;have P:bT (([x1,x2,x3,x4]++I).map W.int) 2=aa (.int x3):=iL (j:=2) rfl;have a3:bT (([x1,x2,x3,x4]++I).map W.int) 3=aa (.int x4):=iL (j:=3) rfl;refine(λp N=>(so.of g ?_));show oP (dH (([x1,x2,x3,x4]++I).map W.int) (aa 4) (aa (4+x2))) _ _ _ _ _ _;have L:=zR (S:=([x1,x2,x3,x4]++I).map W.int) (i:=4) (j:=4+x2) ∅ (by have:=x.1;lia);have hcm:∀w∈dH (([x1,x2,x3,x4]++I).map W.int) (aa 4) (aa (4+x2)),∃d,Below d 6/\w=.int d:=λw hw'=>by
   let⟨d,hd,e⟩:=zde hw';exact⟨d,b6 d hd,e⟩
  generalize dH (([x1,x2,x3,x4]++I).map W.int) (aa 4) (aa (4+x2))=cw at *;let⟨b10,b11⟩:=H;let⟨b20,b21⟩:=x;let⟨b30,b31⟩:=o;let⟨b40,b41⟩:=b;refine dX (λi U V=>∃(ts:↑Ay) (Q:Option W),U=[aa (.int c),aa (.rl (F.map W.str)),aa (.rl (wds.map W.str)),aa (.int f),aa (.rl (([x1,x2,x3,x4]++I).map W.int)),aa (.ref p),Q]/\
   V=put M p (.lst (ts.map W.str))/\↥ts=i/\∀t∈ts,t∈wds\/t∈F) ⟨[],ae,rfl,rfl,rfl,λt ht=>nomatch ht⟩ ?_ ?_
  .rintro i w U V hw' ⟨ts,Q,rfl,rfl,l,ht⟩;have hi:=(Am.mp hw').1;obtain⟨d,⟨X,hd1⟩,rfl⟩:=hcm w (Ao hw');have fin:∀t,(t∈wds\/t∈F)->∃(K:↑Ay) (Q:Option W),[aa (.int c),aa (.rl (F.map W.str)),aa (.rl (wds.map W.str)),aa (.int f),aa (.rl (([x1,x2,x3,x4]++I).map W.int)),aa (.ref p),aa (.int d)]=[aa (.int c),aa (.rl (F.map W.str)),aa (.rl (wds.map W.str)),aa (.int f),aa (.rl (([x1,x2,x3,x4]++I).map W.int)),aa (.ref p),Q]/\
     put (put M p (.lst (ts.map W.str))) p (.lst (ts.map W.str++[.str t]))=put M p (.lst (K.map W.str))/\↥K=i+1/\∀t∈K,t∈wds\/t∈F:=λt ht'=>
    ⟨ts++[t],_,rfl,by rw[cJ,Aw];rfl,by rw[Ak,l];rfl,λu G=>(Ba.mp G).elim (ht u) λq=>by rw[Af.mp q];exact ht'⟩
   have C:↥(ts.map W.str)<Ax:=by rw[Ab];exact cS (by lia)
   refine(fW (λh3=>?_) λ_=>?_)
   .have h3:d<3:=Vh h3;let⟨t,e,m⟩:=sI (ts:=wds) (k:=d) X (by lia);exact⟨.inl ⟨rfl,_,aJ⟩,so.of e ⟨_,aJ,C,_,aP,fin t (.inl m)⟩⟩
   .have hpos:(0:Int)<(↥(F.map W.str):Int):=by rw[Ab];lia
    let⟨t,e,m⟩:=sI (ts:=F) (k:=(d-3+x1) % (↥(F.map W.str):Int)) (Fi _ (by lia)) (by have:=Ei (d-3+x1) hpos;rw[Ab]at this⊢;exact this);exact⟨.inl ⟨rfl,_,aJ⟩,so.of Z ⟨hpos,so.of e ⟨_,aJ,C,_,aP,fin t (.inr m)⟩⟩⟩
  .rintro U V ⟨ts,Q,rfl,rfl,l,ht⟩;let⟨nm,en,mn⟩:=sI (ts:=F) (k:=x1) b10 b11;let⟨cb,ecb,_,mcb⟩:=u7 (xs:=[W.int 1,W.int 10,W.int (10 ^ (59:Int).toNat)]) (i:=x3) b30 (by show x3<3;lia);have O:∃q:Int,cb=.int q/\0<q/\q<=10 ^ 59:=by
    rcases Au.mp mcb with rfl|mcb
    .exact⟨_,rfl,by decide,by decide⟩
    rcases Au.mp mcb with rfl|mcb
    .exact⟨_,rfl,by decide,by decide⟩
    .rw[Af.mp mcb];exact⟨_,rfl,by decide,by decide⟩
   let⟨q,rfl,E,J⟩:=O;have a:=Ei x4 E;refine(so.of Z (so.of en ⟨_,aJ,so.of a3 ⟨Y,so.of P (so.of ecb ⟨E,_,Sub.new N,r ⟨nm,ts,x4 % q⟩ ⟨mn,ht,by show ↥ts<=4;lia,Fi _ (by lia),Int.lt_of_lt_of_le a (Ny J ∅)⟩ (by show(↥ts:Int)<=f;lia)⟩)⟩⟩))
theorem Paired.rules{f:Int}(h:Ey (λ_ y=>∃r,y=bD r/\nM F wds r/\(↥r.parts:Int)<=f) xs G):∃rs:↑aE,G=rs.map bD/\↥rs=↥xs/\∀r∈rs,nM F wds r/\(↥r.parts:Int)<=f:=by
 induction h with
 | nil=>exact⟨[],rfl,rfl,λr T=>nomatch T⟩
 | cons a b E=>
  let⟨r,rfl,O⟩:=a;let⟨rs,rfl,hl,L⟩:=E;refine⟨r::rs,rfl,by simp[hl],λq Z=>?_⟩;rcases Au.mp Z with rfl|Z
  .exact O
  .exact L q Z
theorem zdg:bG JC zbW zbO:=by
 rintro _ M R ⟨d,v,f,rfl,hi,hl,hm0,D,ho0,ho1,r⟩;have pw:pG 10 9:=⟨by decide,by decide,by decide⟩;have K:∀{n:Nat},n<=3->n<=Ax:=λh=>small (Ar h ∅);refine⟨d,0,.inr rfl,hi,by decide,λc=>⟨pw,pw,c,[10 ^ 9,10 ^ 9],rfl,by decide,λs F=>?_,λB hd=>aR.frz ?_⟩⟩
 .rcases Au.mp F with rfl|F
  .exact⟨by decide,by decide⟩
  .rw[Af.mp F];exact⟨by decide,by decide⟩
 let⟨x1,x2,rfl,X,x⟩:=zaC hd;refine⟨rfl,rfl,x1,v,ab,rfl,by lia,by lia,λF hsl hhs=>aR.frz ⟨x2,3,ac,rfl,by decide,by decide,λwds E sX=>aR.frz ?_⟩⟩;have E:↥wds=3:=E;refine rW (ws:=dH d (aa 1) ae) (rest:=[aa (.rl (F.map W.str)),aa (.rl (wds.map W.str)),aa (.int f)]) (λ_ y=>∃r,y=bD r/\nM F wds r/\(↥r.parts:Int)<=f) (small (by have:=u9 (ws:=d) (lo:=aa 1) (hi:=ae);lia)) (λ_ _=>trivial) (λw hw V C sb O=>?_) λm A p N=>?_
 .let⟨i,rfl⟩:=hi w (zQ hw);exact⟨i,F,wds,f,rfl,by lia,by lia,E,by lia,by lia,λr L h3=>O _ ⟨r,rfl,L,h3⟩⟩
 let⟨rs,rfl,hrl,z⟩:=Paired.rules A;have P:=u9 (ws:=d) (lo:=aa 1) (hi:=ae);let⟨J,Y,mw⟩:=sI (ts:=wds) (k:=0) ∅ (by lia);refine dX (λi U V=>∃(qs:↑aE) (H:Option W),U=[aa (.rl d),aa (.int v),aa (.int f),aa (.int x1),aa (.int x2),aa (.rl (F.map W.str)),aa (.rl (wds.map W.str)),aa (.ref p),H]/\
   V=put M p (.lst (qs.map bD))/\↥qs<=↥rs+i/\(∀r∈qs,nM F wds r/\(↥r.parts:Int)<=f)/\(∀t∈F.take i,∃r∈qs,r.name=t)/\∀r∈qs.drop ↥rs,↥r.parts<=1) ⟨rs,_,rfl,rfl,by lia,z,by simp,by simp⟩ ?_ ?_
 .rintro i w U V hw ⟨qs,H,rfl,rfl,hql,Z,l,g⟩;rw[Av]at hw;let⟨t,ht,rfl⟩:=Az.mp hw;have hilt:=(Am.mp ht).1;have htm:t∈F:=Ao ht;refine⟨_,aJ,?_⟩;refine nJ (rest:=[]) (λw=>match w with|.tup (n::_)=>n|_=>.non) (small (by rw[Ab];lia)) (λV sb=>sb _ _ aJ) (λw hw V C sb O=>?_) (aR.frz ?_)
  .let⟨q,_,rfl⟩:=Ap.mp hw;exact O
  have Q:(qs.map bD).map (λw=>match w with|.tup (n::_)=>n|_=>W.non)=(qs.map aE.name).map W.str:=by
   rw[Bm,Bm];rfl
  rw[Q];refine⟨rfl,qB _,?_⟩;show if (!inW (.str t) ((qs.map aE.name).map W.str))=ab then _ else _;rw[sE];have cov:∀qs':↑aE,(∀r∈qs,r∈qs')->(∃r∈qs',r.name=t)->∀u∈F.take (i+1),∃r∈qs',r.name=u:=λqs' hsub hex u G=>by
   rw[Cb,ht]at G;rcases Ba.mp G with q|q
   .let⟨r,T,e⟩:=l u q;exact⟨r,hsub r T,e⟩
   .simp at q;subst q;exact hex
  refine fW (λ_=>?_) λo=>?_
  .refine⟨.inl ⟨rfl,_,aJ⟩,so.of Y ⟨_,aJ,cS (by rw[Ab];lia),_,aP,qs++[⟨t,[J],0⟩],_,rfl,by rw[cJ,Aw];rfl,by rw[Ak,Dl];lia,λr T=>?_,cov _ (λr T=>Be _ T) ⟨⟨t,[J],0⟩,by simp,rfl⟩,λr T=>by
    rw[Ql]at T;rcases Ba.mp T with T|T
    .exact g r T
    .rw[Af.mp (Ln T)];exact Ai 1⟩⟩
   rcases Ba.mp T with T|T
   .exact Z r T
   .rw[Af.mp T];exact⟨⟨htm,λu G=>.inl (by rw[Af.mp G];exact mw),by show 1<=4;decide,by show(0:Int)<=0;decide,by show(0:Int)<10 ^ 60;decide⟩,by show(1:Int)<=f;lia⟩
  .have hin':t∈qs.map aE.name:=Vh (by rw[<-Ga (decide _),o];rfl);let⟨S,j,I⟩:=Ap.mp hin';exact⟨_,aP,qs,_,rfl,rfl,by lia,Z,cov _ (λr T=>T) ⟨S,j,I⟩,g⟩
 .rintro U V ⟨qs,H,rfl,rfl,hql,Z,l,g⟩;rw[Ab]at hql;rw[Ab,Bp]at l;have hsn:↥F=v.toNat:=hsl;refine⟨_,aP,r qs ⟨λe=>?_,by lia,F,wds,by lia,λt ht=>hhs t ht,λt ht=>sX t ht,λr T=>(Z r T).1,l⟩ (λr T=>(Z r T).2) ⟨F,wds,by lia,E,λt ht=>hhs t ht,λt ht=>sX t ht,λr T=>(Z r T).1,l,by lia,↥rs,by lia,g⟩ p N⟩;subst e;cases F with
  | nil=>simp at hsn;lia
  | cons a b=>let⟨r,T,_⟩:=l a Bl;cases T
theorem KD:∀d,d<10->(Sk d).toNat=48+d:=by decide
theorem zdh{m:Nat}(h:10<=m):Ht 10 m=Ht 10 (m/10)++[Sk (m % 10)]:=Nat.toDigits_of_base_le ∅ h
theorem zdi:∀m:Nat,PySem.NumText.digitsVal ((Ht 10 m).map Tp)=m:=by
 intro m
 induction m using Nat.strongRecOn with
 | ind m ih=>
  by_cases h:m<10
  .rw[Nk h];show 0*10+((Sk m).toNat-48)=m;rw[KD m h];lia
  .rw[zdh (by lia),Aw,Bd,Nn,PySem.NumText.digitsVal_snoc,ih (m/10) (by lia),KD _ (Nat.mod_lt _ ∅)];lia
def jX(m:Nat):Ay:=Bs (toString ((m:Nat):Int))
theorem KG(m:Nat):cs (jX m)=(Ht 10 m).map Tp:=PySem.W.KIN.signs_num m
theorem zdj{m:Nat}(h:m<10 ^ 60):↥(jX m)<=60:=by
 rw[<-qT,KG,Ab];exact(Nat.length_toDigits_le_iff ∅ ∅).mpr h
theorem zdk{c:Nat}(h:c∈cs mY):48<=c/\c<=57:=by
 have key:∀c∈cs mY,48<=c/\c<=57:=by decide +kernel
 exact key c h
theorem KH{m:Nat}(h:m<10 ^ 60):PySem.intText? (jX m)=aa (m:Int):=by
 let⟨O,L⟩:=EJ (m:=m);have:=PySem.intText_digits (x:=jX m) (λc hc=>zdk (O c hc)) L (by have:=zdj h;lia);rw[this];congr 2;have e:=zdi m;rw[<-KG]at e;exact e
def jY{O:Type}[DecidableEq O](acc:↑O)(t:O):↑O:=if t∈acc then acc else acc++[t]
section
variable {O:Type}[DecidableEq O]
theorem zdl{acc:↑O}{t u:O}:u∈jY acc t↔u∈acc\/u=t:=by
 unfold jY;split
 .rename_i h;constructor
  .exact .inl
  .rintro(q|q)
   .exact q
   .rw[q];exact h
 .rw[Ba,Af]
theorem zdm{acc:↑O}{t:O}:↥(jY acc t)<=↥acc+1:=by
 unfold jY;split
 .lia
 .rw[Ak];exact Ai _
theorem zdn{acc:↑O}{t:O}(h:acc.Nodup):(jY acc t).Nodup:=by
 unfold jY;split
 .exact h
 .rename_i n;rw[Cd];refine⟨h,by simp,λx J y f=>?_⟩;rw[Af]at f;subst f;exact λe=>n (e▸J)
def jZ(acc ts:↑O):↑O:=ts.foldl jY acc
theorem KI:∀{ts acc:↑O} {u:O},u∈jZ acc ts↔u∈acc\/u∈ts
 | [],acc,u=>by simp[jZ]
 | t::r,acc,u=>by
  show u∈jZ (jY acc t) r↔_;rw[KI,zdl,Au,or_assoc]
theorem wA:∀{ts acc:↑O},↥(jZ acc ts)<=↥acc+↥ts
 | [],acc=>Ai _
 | t::r,acc=>by
  have Z:=wA (ts:=r) (acc:=jY acc t);have L:=zdm (acc:=acc) (t:=t);show(jZ (jY acc t) r).length<=_;rw[Bw];lia
theorem KJ:∀{ts acc:↑O},acc.Nodup->(jZ acc ts).Nodup
 | [],_,h=>h
 | t::r,acc,h=>KJ (ts:=r) (zdn h)
end
def gT(ps:↑Ay):↑(↑Ay):=(Ci (↥ps-2)).map λk=>ps.drop (k+1)
def iF(rs:↑aE):↑(↑Ay):=(rs.map λr=>gT r.parts).flatten
def cG(rs:↑aE):↑(↑Ay):=jZ [] (iF rs)
theorem KL:e∈gT ps↔∃k,k+2<↥ps/\e=ps.drop (k+1):=by
 unfold gT;rw[Ap];constructor
 .rintro⟨k,hk,rfl⟩;rw[Ew]at hk;exact⟨k,by lia,rfl⟩
 .rintro⟨k,hk,rfl⟩;exact⟨k,by rw[Ew];lia,rfl⟩
theorem wB:e∈cG rs↔∃r∈rs,∃k,k+2<↥r.parts/\e=r.parts.drop (k+1):=by
 unfold cG iF;rw[KI];simp only[Em,false_or,List.mem_flatten,Ap];constructor
 .rintro⟨l,⟨r,T,rfl⟩,Y⟩;exact⟨r,T,KL.mp Y⟩
 .rintro⟨r,T,h⟩;exact⟨_,⟨r,T,rfl⟩,KL.mpr h⟩
theorem wC(T:r∈rs)(h:2<↥r.parts):r.parts.drop 1∈cG rs:=wB.mpr ⟨r,T,0,by lia,rfl⟩
theorem wF(Y:e∈cG rs)(h:2<↥e):e.drop 1∈cG rs:=by
 let⟨r,T,k,hk,rfl⟩:=wB.mp Y;rw[Gf]at h;exact wB.mpr ⟨r,T,k+1,by lia,by rw[Rk]⟩
theorem A5:∀{rs:↑aE},(∀r∈rs,↥r.parts<=4)->↥(iF rs)<=2*↥rs
 | [],_=>Ai _
 | r::rs,h=>by
  have O:=A5 (rs:=rs) λq Z=>h q (Bj _ Z);have L:=h r Bl;unfold iF at O⊢;rw[Bd,Gn,Ak,Bw];unfold gT;rw[Ab,Gm];unfold gT at O;lia
theorem A6(h:∀r∈rs,↥r.parts<=4):↥(cG rs)<=2*↥rs:=by
 have O:=wA (ts:=iF rs) (acc:=[]);have L:=A5 h;unfold cG;simp at O;lia
theorem zdo:(cG rs).Nodup:=KJ Dx
def eV(i:Nat):Ay:="M"++"_"++jX i
theorem KN(i:Nat):cs (eV i)=77::95::cs (jX i):=by
 unfold eV;rw[pM,pM,EG];rfl
theorem zdp{i j:Nat}(hi:i<10 ^ 60)(hj:j<10 ^ 60)(h:cs (jX i)=cs (jX j)):i=j:=by
 have e:jX i=jX j:=by
  generalize jX i=a at h⊢;generalize jX j=b at h⊢;obtain⟨⟨a⟩⟩:=a;obtain⟨⟨b⟩⟩:=b;simp[cs]at h;rw[h]
 have O:=KH hi;rw[e,KH hj]at O;injection O with h2;lia
theorem KO{i j:Nat}(hi:i<10 ^ 60)(hj:j<10 ^ 60)(h:eV i=eV j):i=j:=by
 have e:=congrArg cs h;rw[KN,KN]at e;simp only[Es,true_and]at e;exact zdp hi hj e
def gU(old:↑Ay)(t:Nat):↑Ay:=((Ci t).map eV).filter λn=>!decide (n∈old)
theorem KP(old:↑Ay)(t:Nat):gU old (t+1)=if eV t∈old then gU old t else gU old t++[eV t]:=by
 unfold gU;rw[List.range_succ,Aw,Ik]
 by_cases h:eV t∈old
 .simp[h]
 .simp[h]
theorem KQ(old:↑Ay)(t:Nat)(ht:t<10 ^ 60):t<=↥(gU old t)+↥old:=by
 have key:↥(((Ci t).map eV).filter λn=>decide (n∈old))<=↥old:=by
  refine List.Nodup.length_le_of_subset ?_ λn hn=>by simpa using (Dq.mp hn).2
  refine List.Nodup.sublist Jo ?_;rw[Gk,Iy];refine List.Pairwise.imp_of_mem ?_ (Qi (n:=t));intro a b m G g e;rw[Ew]at m G;exact g (KO (by lia) (by lia) e)
 have e:=List.length_eq_countP_add_countP (λn=>decide (n∈old)) (l:=(Ci t).map eV);rw[List.countP_eq_length_filter,List.countP_eq_length_filter]at e;rw[Ab,Gm]at e;unfold gU;have A:(((Ci t).map eV).filter λn=>!decide (n∈old))=(((Ci t).map eV).filter λa=>decide ¬decide (a∈old)=ab):=by
  congr 1;funext a;simp
 rw[A];lia
def lL(old:↑Ay)(n:Nat):↑Ay:=(gU old (n+↥old)).take n
theorem zdq(old:↑Ay){t u:Nat}(h:t<=u):∃r,gU old u=gU old t++r:=by
 induction u with
 | zero=>
  cases Nat.le_zero.mp h;exact⟨[],by simp⟩
 | succ u E=>
  by_cases e:t=u+1
  .subst e;exact⟨[],by simp⟩
  .let⟨r,T⟩:=E (by lia);rw[KP];split
   .exact⟨r,T⟩
   .exact⟨r++[eV u],by rw[T,Dc]⟩
theorem zdr{n t:Nat}(hn:↥(gU old t)=n)(ht:t<=n+↥old):gU old t=lL old n:=by
 let⟨r,T⟩:=zdq old ht;unfold lL;rw[T,<-hn,Qy];rfl
theorem KR{n:Nat}(h:n+↥old<10 ^ 60):↥(lL old n)=n:=by
 have:=KQ old (n+↥old) h;unfold lL;rw[Ck];lia
theorem A7{n:Nat}(h:t∈lL old n):t∉old/\∃i,i<n+↥old/\t=eV i:=by
 unfold lL at h;have h:=Ff h;unfold gU at h;let⟨O,L⟩:=Dq.mp h;let⟨i,hi,rfl⟩:=Ap.mp O;rw[Ew]at hi;exact⟨by simpa using L,i,hi,rfl⟩
def fE(e:↑Ay):↑aC:=e.map Sum.inr
theorem A8:∀{a b:↑Ay},a.map (Sum.inr:Ay->aC)=b.map Sum.inr->a=b
 | [],[],_=>rfl
 | [],_::_,h=>by cases h
 | _::_,[],h=>by cases h
 | x::a,y::b,h=>by
  simp only[Bd,Es,Oh]at h;rw[h.1,A8 h.2]
theorem A9(h:fE a=fE b):a=b:=A8 h
def jK(rs:↑aE):↑Ay:=lL (namesOf rs) ↥(cG rs)
def oZ(rs:↑aE):↑(↑Ay×Ay):=(cG rs).zip (jK rs)
def iG(rs:↑aE):↑(↑aC×W):=(oZ rs).map λp=>(fE p.1,.str p.2)
def fF(rs:↑aE)(e:↑Ay):Ay:=((oZ rs).lookup e).getD ""
theorem wH:∀{es:↑(↑Ay)} {ns:↑Ay} {e:↑Ay},↥es=↥ns->e∈es->∃n∈ns,(es.zip ns).lookup e=aa n
 | [],_,e,_,h=>by cases h
 | x::es,[],e,h,_=>by cases h
 | x::es,n::ns,e,h,Y=>by
  rw[Kd,Dz]
  by_cases J:e=x
  .subst J;rw[beq_self_eq_true];exact⟨n,Bl,rfl⟩
  .rw[beq_eq_false_iff_ne.mpr J];rcases Au.mp Y with O|O
   .exact absurd O J
   .let⟨m,P,D⟩:=wH (es:=es) (ns:=ns) (by simpa using h) O;exact⟨m,Bj _ P,D⟩
theorem KS:∀(l:↑(↑Ay×Ay)) (e:↑Ay),aQ (l.map λp=>((fE p.1,W.str p.2):↑aC×W)) (fE e)=(l.lookup e).map W.str
 | [],e=>rfl
 | (x,n)::l,e=>by
  unfold aQ;rw[Bd,Cq,Dz]
  by_cases J:e=x
  .subst J;simp
  .rw[beq_eq_false_iff_ne.mpr J,Vj (λh=>J (A9 h).symm)];exact KS l e
structure fY(rs:↑aE):Prop where
 few:↥rs<=60
 prt:∀r∈rs,↥r.parts<=4
theorem KU(rs:↑aE):↥(namesOf rs)<=↥rs:=by
 have:=sA (rs.map aE.name) [];unfold namesOf mE;simpa using this
theorem fY.sum(f:fY rs):↥(cG rs)+↥(namesOf rs)<=180:=by
 have O:=A6 f.prt;have L:=KU rs;have:=f.few;lia
theorem fY.len(f:fY rs):↥(jK rs)=↥(cG rs):=KR (Gb f.sum ∅)
theorem wI(f:fY rs)(Y:e∈cG rs):aQ (iG rs) (fE e)=aa (.str (fF rs e))/\fF rs e∈jK rs:=by
 let⟨n,hn,D⟩:=wH (ns:=jK rs) f.len.symm Y;have A:fF rs e=n:=by unfold fF oZ;rw[D];rfl
 rw[A];refine⟨?_,hn⟩;unfold iG;rw[KS];unfold oZ;rw[D];rfl
def fG(rs:↑aE)(ps:↑Ay):↑Ay:=if ↥ps<=2 then ps else [ps.headD "",fF rs (ps.drop 1)]
theorem wJ(rs:↑aE)(ps:↑Ay):↥(fG rs ps)<=2:=by
 unfold fG;split
 .assumption
 .simp
abbrev NP:=Ay×↑Ay
def zds(ps:↑Ay):W:=.tup ((Ci ↥ps).map λ(i:Nat)=>W.int i)
def addT(acc:↑(NP×W))(it:NP×W):↑(NP×W):=if it.1∈acc.map Eb then acc else acc++[it]
def lM(x:NP):bP:=(Sum.inr x.1,x.2.map Sum.inr)
theorem zdt(h:lM x=lM y):x=y:=by
 let⟨a,b⟩:=x;let⟨c,d⟩:=y;unfold lM at h;rw[Prod.mk.injEq]at h;have O:=h.1;injection O with O;exact Nj O (A8 h.2)
def kvsOf(l:↑(NP×W)):↑(bP×W):=l.map λp=>(lM p.1,p.2)
theorem KW(l:↑(NP×W))(x:NP):(aQ (kvsOf l) (lM x)=ae/\x∉l.map Eb)\/(∃w,aQ (kvsOf l) (lM x)=aa w)/\x∈l.map Eb:=by
 induction l with
 | nil=>exact .inl ⟨rfl,by simp⟩
 | cons p l E=>
  unfold kvsOf aQ at E⊢;rw[Bd,Cq,Bd,Au]
  by_cases h:p.1=x
  .rw[Vi (by rw[h])];exact .inr ⟨⟨_,rfl⟩,.inl h.symm⟩
  .rw[Vj (λe=>h (zdt e))];rcases E with⟨O,L⟩|⟨O,L⟩
   .exact .inl ⟨O,λe=>by rcases e with e|e;exact h e.symm;exact L e⟩
   .exact .inr ⟨O,.inr L⟩
def mJ(x:NP):aE:=⟨x.1,x.2,0⟩
theorem BA(x:NP):fQ [0] (lM x)=bD (mJ x):=by
 unfold fQ lM bD mJ;simp[wK,Kz]
structure Sh(t:Ay):Prop where
 len:↥t<=60
 ne:cs t≠[]
 asc:vH t
theorem dW.sh(h:dW t):Sh t:=⟨by have:=h.len;lia,h.ne,h.asc⟩
theorem c9.sh(h:c9 t):Sh t:=⟨by have:=h.len;lia,by let⟨c,r,e,_⟩:=h.hd;rw[e];simp,h.asc⟩
structure KY(rs:↑aE):Prop where
 ne:rs≠[]
 few:↥rs<=400
 ok:∀r∈rs,0<=r.cost/\∀t∈r.parts,↥t<=1000/\(isNameB t=ab->t∈namesOf rs)
theorem zdu{b:Type}[DecidableEq b]{kvs:↑(b×W)}{k:b}{v:W}(h:k∉kvs.map Eb):bW kvs k v=kvs++[(k,v)]:=by
 unfold bW;rw[Vf];rw[Gg];rintro⟨p,N,e⟩;exact h (Ap.mpr ⟨p,N,by simpa using e⟩)
theorem KZ:∀{ps acc:↑(↑aC×W)},((acc++ps).map Eb).Nodup->iD acc ps=acc++ps
 | [],acc,_=>by simp[iD]
 | p::ps,acc,h=>by
  have hn:p.1∉acc.map Eb:=by
   rw[Aw,Bd,Cd]at h;intro P;exact h.2.2 _ P _ Bl rfl
  show iD (bW acc p.1 p.2) ps=_;rw[zdu hn];have e:acc++[(p.1,p.2)]++ps=acc++p::ps:=by simp
  rw[KZ (by rw[e];exact h),e]
theorem K0(f:fY rs):(iG rs).map Eb=(cG rs).map fE:=by
 unfold iG oZ;rw[Bm];have:∀{es:↑(↑Ay)} {ns:↑Ay},↥es=↥ns->(es.zip ns).map (Eb ∘ λ(p:↑Ay×Ay)=>((fE p.1,W.str p.2):↑aC×W))=es.map fE:=by
  intro es
  induction es with
  | nil=>intro ns _;rfl
  | cons e es E=>
   intro ns h;cases ns with
   | nil=>cases h
   | cons n ns=>rw[Kd,Bd,Bd,E (by simpa using h)];rfl
 exact this f.len.symm
theorem zdv(f:fY rs):iD [] (iG rs)=iG rs:=by
 rw[KZ]
 .simp
 .rw[Jx,K0 f,Gk,Iy];exact(Gk.mp zdo).imp λh e=>h (A9 e)
theorem zdw(f:fY rs):((iG rs).map λp=>p.2)=(jK rs).map W.str:=by
 unfold iG oZ;rw[Bm];have:∀{es:↑(↑Ay)} {ns:↑Ay},↥es=↥ns->(es.zip ns).map ((λ(p:↑aC×W)=>p.2) ∘ λ(p:↑Ay×Ay)=>((fE p.1,W.str p.2):↑aC×W))=ns.map W.str:=by
  intro es
  induction es with
  | nil=>intro ns h;cases ns with|nil=>rfl|cons _ _=>cases h
  | cons e es E=>
   intro ns h;cases ns with
   | nil=>cases h
   | cons n ns=>rw[Kd,Bd,Bd,E (by simpa using h)];rfl
 exact this f.len.symm
theorem sJ(l:↑Ay):(fE l).map wK=l.map W.str:=by
 unfold fE;rw[Bm];rfl
theorem zdx(f:fY rs):((iG rs).map λp=>W.tup (p.1.map wK))=(cG rs).map λe=>W.tup (e.map W.str):=by
 have e:((iG rs).map λp=>W.tup (p.1.map wK))=((iG rs).map Eb).map λk=>W.tup (k.map wK):=by rw[Bm];rfl
 rw[e,K0 f,Bm];exact Dy λl _=>by show W.tup ((fE l).map wK)=_;rw[sJ]
def f0(rs:↑aE):Ay:=(rs.headD ⟨"",[],0⟩).name
abbrev dQ(l:↑(NP×W)):↑aE:=l.map λz=>mJ z.1
def BB(rs:↑aE)(X:Ay)(l:↑Ay):Prop:=(∃r∈rs,r.name=X/\fG rs r.parts=l)\/∃e∈cG rs,fF rs e=X/\fG rs e=l
def Ex(l:↑(NP×W))(k:Nat)(S:NP->Prop)(o:↑(NP×W)):Prop:=∃q,o=l++q/\↥q<=k/\(∀z∈q,S z.1)/\∀x,S x->x∈o.map Eb
theorem wL{i:Nat}(h:i<10000):c9 (eV i):=IC (t:="M") (i:Int) (Pq i) (by lia) (by decide +kernel) (by decide +kernel) (by decide +kernel)
section
variable {l l1 l2:↑(NP×W)}{k j m:Nat}{S T U:NP->Prop}
theorem Ex.len(h:Ex l k S l1):↥l1<=↥l+k:=by
 let⟨q,rfl,h,_⟩:=h;rw[Ak];exact Ma h _
theorem Ex.no(h:∀x,¬S x):Ex l k S l:=⟨[],(Ce l).symm,Cn _,(λ_ h=>nomatch h),λx z=>(h x z).elim⟩
theorem Ex.cg(h:Ex l k S l1)(e:∀x,S x↔T x):Ex l k T l1:=by
 let⟨q,O,L,h3,D⟩:=h;exact⟨q,O,L,λz hz=>(e _).mp (h3 z hz),λx J=>D x ((e x).mpr J)⟩
theorem Ex.le(h:Ex l k S l1)(e:k<=j):Ex l j S l1:=by
 let⟨q,O,L,h3⟩:=h;exact⟨q,O,Ar L e,h3⟩
theorem Ex.add(a:Ex l k S l1)(b:Ex l1 j T l2):Ex l (k+j) (λx=>S x\/T x) l2:=by
 let⟨q,rfl,L,h3,D⟩:=a;let⟨p,rfl,B,N,c⟩:=b;refine⟨q++p,Dc ..,by rw[Ak];exact Nat.add_le_add L B,λz hz=>(Ba.mp hz).imp (h3 z) (N z),λx J=>J.elim (λJ=>?_) (c x)⟩;rw[Aw];exact Be _ (D x J)
theorem Ex.start{O:Type}{G:↑O}{T:O->NP->Prop}:Ex l (k*0) (λx=>∃y∈G.take 0,T y x) l:=.no λ_ ⟨_,h,_⟩=>nomatch h
theorem Ex.step{O:Type}{G:↑O}{T:O->NP->Prop}{i:Nat}{y:O}(g:Ex l (k*i) (λx=>∃y∈G.take i,T y x) l1)(h:G[i]? = aa y)(b:Ex l1 k (T y) l2):Ex l (k*(i+1)) (λx=>∃y∈G.take (i+1),T y x) l2:=
 (g.add b).cg λx=>by
  rw[Cb,h];constructor
  .rintro(⟨y,f,h⟩|h)
   .exact⟨y,Be _ f,h⟩
   .exact⟨y,Bi _ (.head _),h⟩
  .rintro⟨z,hz,h⟩;rcases Ba.mp hz with hz|hz
   .exact .inl ⟨z,hz,h⟩
   .rw[Af.mp hz]at h;exact .inr h
theorem Ex.addT(x:NP)(v:W):Ex l 1 (λy=>y=x) (addT l (x,v)):=by
 unfold L2.addT;split
 .rename_i h;exact⟨[],(Ce l).symm,Cn _,(λ_ h=>nomatch h),λy e=>by rw[e];exact h⟩
 .exact⟨_,rfl,Ai _,λz hz=>by rw[Af.mp hz],λy e=>by rw[e,Aw];exact Bi _ (.head _)⟩
theorem Ex.rs{S:Ay->↑Ay->Prop}(h:Ex [] k (λx=>S x.1 x.2) l)(X:Ay)(ps:↑Ay):(∃q∈dQ l,q.name=X/\q.parts=ps)↔S X ps:=by
 let⟨q,e,_,h3,D⟩:=h;rw[Jx]at e;subst e;constructor
 .rintro⟨r,T,rfl,rfl⟩;let⟨z,hz,rfl⟩:=Ap.mp T;exact h3 z hz
 .intro h;let⟨z,hz,e⟩:=Ap.mp (D (X,ps) h);exact⟨_,Ap.mpr ⟨z,hz,rfl⟩,by rw[e];rfl,by rw[e];rfl⟩
theorem Ex.one(h:Ex l 1 (λy=>y=x) l1)(n:x∉l.map Eb):∃v,l1=l++[(x,v)]:=by
 let⟨q,rfl,O,L,h3⟩:=h
 match q,O,L with
 | [],_,_=>exact absurd (by simpa using h3 x rfl) n
 | [z],_,L=>exact⟨z.2,by rw[<-L z (.head _)]⟩
 | _::_::_,O,_=>exact absurd (Nat.le_of_succ_le_succ O) (by simp)
theorem wM(h:rs≠[]):(namesOf rs)[0]? = aa (f0 rs):=by
 let⟨r,rs,rfl⟩:=Er h;have:∀(ts acc:↑Ay),(r.name::acc) <+: ts.foldl dA (r.name::acc):=by
  intro ts
  induction ts with
  | nil=>exact λ_=>List.prefix_rfl
  | cons t ts E=>
   intro acc;rw[Fz];unfold dA;split
   .exact E acc
   .exact List.IsPrefix.trans (List.prefix_append _ _) (E (acc++[t]))
 let⟨q,Z⟩:=this (rs.map aE.name) [];unfold namesOf mE;rw[Bd,Fz,show dA [] r.name=[r.name] from rfl,<-Z];rfl
def Hd(F:Ay)(p:Prop)(l:↑(NP×W)):Prop:=p->∃z t,l=z::t/\z.1.1=F
theorem Hd.ex{p:Prop}(h:Hd F p l)(e:Ex l k S l1):Hd F p l1:=λN=>by
 let⟨z,t,rfl,O⟩:=h N;let⟨q,rfl,_⟩:=e;exact⟨z,_,rfl,O⟩
theorem Hd.f0(h:Hd F True l):f0 (dQ l)=F:=by
 let⟨z,t,rfl,O⟩:=h trivial;exact O
theorem Hd.of{p:Prop}(h:Ex [] k S l1)(Z:∀x,S x->x.1=F)(N:p->∃x,S x):Hd F p l1:=λh'=>by
 let⟨x,J⟩:=N h';let⟨q,e,_,h3,D⟩:=h;rw[Jx]at e;cases l1 with
 | nil=>cases D x J
 | cons z t=>exact⟨z,t,rfl,Z _ (h3 z (e▸.head _))⟩
end
theorem pA(h:rs≠[]):∃r∈rs,r.name=f0 rs:=by
 cases rs with
 | nil=>exact absurd rfl h
 | cons r rs=>exact⟨r,.head _,rfl⟩
def wN(nm:Ay->Bool)(rs tl:↑aE):Prop:=∀row,Dv nm tl [f0 tl] row↔Dv nm rs [f0 rs] row
abbrev sL(f:Ay):↑aE:=[⟨f,[f,f],0⟩]
theorem K1{nm:Ay->Bool}(hf:nm f=ab)(h:Dv nm (sL f) ps row):f∉ps:=by
 induction h with
 | nil=>exact λh=>nomatch h
 | wd n _ E=>exact λh=>(Au.mp h).elim (λe=>by rw[<-e,hf]at n;cases n) E
 | nd r _ _ _ E _=>rw[Af.mp r]at E;exact absurd (.head _) E
section
variable {nm:Ay->Bool}{rs pl tl:↑aE}{D:↑Ay}{drop:Ay->Bool}
def wO(nm:Ay->Bool)(rs:↑aE)(D:↑Ay)(drop:Ay->Bool)(tl:↑aE):Prop:=
 (f0 rs∉D/\drop (f0 rs)=ac/\tl=sL (f0 rs))\/∃pl:↑aE,(∀X l,(∃q∈pl,q.name=X/\q.parts=l)↔lK rs D drop X l)/\
  ((drop (f0 rs)=ac/\tl=pl/\f0 pl=f0 rs)\/(drop (f0 rs)=ab/\(tl=⟨f0 rs,[],0⟩::pl\/∃m,ownB rs m=ac/\nm m=ab/\c9 m/\tl=⟨m,[f0 rs],0⟩::⟨m,[],0⟩::pl)))
theorem iE.noE(g:iE nm rs)(hn:rs≠[])(K:gD rs D=D)(hd:∀t,drop t=ab↔d9 rs ac t)(h:wO nm rs D drop tl):wN nm rs tl:=by
 let⟨S,j,I⟩:=pA hn;have d:ownB rs (f0 rs)=ab:=by rw[<-I];exact lE j
 have c:nm (f0 rs)=ab:=by rw[<-I];exact g.nam _ j
 have G:∀t∈[f0 rs],nm t=ownB rs t:=λt ht=>by rw[Af.mp ht,d,c]
 have key:∀{pl:↑aE} {row},(∀X l,lK rs D drop X l->∃q∈pl,q.name=X/\q.parts=l)->Dv nm rs [f0 rs] row->(row=[]/\drop (f0 rs)=ab)\/(row≠[]/\cY rs D (f0 rs)=ab/\Dv nm pl [f0 rs] row):=λ{pl row} N k=>by
  let⟨_,L,h3,l,f,o⟩:=g.all K hd N k G
  by_cases e:row=[]
  .exact .inl ⟨e,(hd _).mpr (L e _ (.head _))⟩
  .let⟨p,N,hw⟩:=h3 e;rw[Af.mp N]at hw;refine .inr ⟨e,hw,?_⟩;cases f with
   | kp _ h=>cases h;exact o
   | dr _ h=>cases h;exact absurd o.none e
 intro row;rcases h with⟨O,L,rfl⟩|⟨pl,N,h⟩
 .refine⟨λk=>absurd (.head _) (K1 c k),λk=>?_⟩;rcases key (pl:=rs.flatMap λr=>(lJ (cY rs D) drop (λ_=>W.non) r.parts).map λx=>⟨r.name,x.1,0⟩) (λX l ⟨r,T,e,ht,_⟩=>by
   let⟨x,J,rfl⟩:=v9.mpr ht;exact⟨⟨r.name,x.1,0⟩,Qj.mpr ⟨r,T,Ap.mpr ⟨x,J,rfl⟩⟩,e,rfl⟩) k with⟨_,z⟩|⟨_,z,_⟩
  .rw[L]at z;cases z
  .unfold cY at z;rw[d,Vj O]at z;cases z
 .have b:∀q∈pl,nm q.name=ab->∀a,Dv nm rs q.parts a->Dv nm rs [q.name] a:=λq Z n a k=>by
   let⟨r,T,e,ht,_⟩:=(N q.name q.parts).mp ⟨q,Z,rfl,rfl⟩;rw[<-e];exact .one T (g.nam r T) (g.thn hd ht k)
  have Q:drop (f0 rs)=ab->Dv nm rs [f0 rs] []:=λz=>g.fr ((hd _).mp z);have key:=λ{row}=>key (pl:=pl) (row:=row) λX l=>(N X l).mpr;rcases h with⟨O,rfl,h3⟩|⟨O,h⟩
  .rw[h3];refine⟨λk=>k.sim b,λk=>?_⟩;rcases key k with⟨_,z⟩|⟨_,_,z⟩
   .rw[O]at z;cases z
   .exact z
  .rcases h with rfl|⟨m,m1,m2,_,rfl⟩
   .refine⟨λk=>k.sim λq Z n a k=>?_,λk=>?_⟩
    .rcases Au.mp Z with rfl|Z
     .rw[k.none];exact Q O
     .exact b q Z n a k
    .rcases key k with⟨rfl,_⟩|⟨_,_,z⟩
     .exact .one (.head _) c .nil
     .exact z.mono λ_ h=>.tail _ h
   .have less:Dv nm (⟨m,[f0 rs],0⟩::⟨m,[],0⟩::pl) [f0 rs] row->Dv nm rs [f0 rs] row:=λk=>by
     refine(k.less (rs':=pl) (F:=λt=>t=m) (λr T=>?_) λt ht e=>?_).sim b
     .rcases Au.mp T with rfl|T
      .exact .inl rfl
      .rcases Au.mp T with rfl|T
       .exact .inl rfl
       .refine .inr ⟨T,λt ht e=>?_⟩;let⟨q,Z,_,k,_⟩:=(N r.name r.parts).mp ⟨r,T,rfl,rfl⟩;have:=g.prt q Z t (k.sub t ht).1;rw[e,m1,m2]at this;cases this
     .rw[Af.mp ht]at e;rw[e,m1]at d;cases d
    refine⟨λk=>?_,λk=>?_⟩
    .let⟨r,T,e,k⟩:=k.inv m2;rcases Au.mp T with rfl|T
     .exact less k
     .rcases Au.mp T with rfl|T
      .rw[k.none];exact Q O
      .let⟨q,Z,A,_⟩:=(N r.name r.parts).mp ⟨r,T,rfl,rfl⟩;have:=lE Z;rw[A,e]at this;rw[show f0 (⟨m,[f0 rs],0⟩::⟨m,[],0⟩::pl)=m from rfl,m1]at this;cases this
    .rcases key k with⟨rfl,_⟩|⟨_,_,z⟩
     .exact .one (r:=⟨m,[],0⟩) (.tail _ (.head _)) m2 .nil
     .exact .one (.head _) m2 (z.mono λ_ h=>.tail _ (.tail _ h))
end
def BC:aY:=λws M R=>∃rs:↑aE,ws=[a6 rs]/\↥rs<=100/\aR (rs.map λ_=>W.int 0) M R
abbrev zdy:↑Ay:=["grammar"]
abbrev zdz:aD:=
   (bM (c7 (bK cA aH) (aV 0) eU bC [ae]))
theorem zdA:bG BC zdz zdy:=by
 rintro _ M R ⟨rs,rfl,hl,r⟩;refine(nJ (rest:=[]) (λ_=>.int 0) (small (by rw[Ab];lia)) (λ_ _=>trivial) (λw hw V C sb O=>O) ?_)
 .intro p N;refine⟨_,aP,?_⟩;have e:(rs.map bD).map (λ_=>W.int 0)=rs.map λ_=>W.int 0:=by rw[Bm];rfl
  rw[e];exact r p N
def K2:aY:=λws M R=>∃(rs:↑aE) (U:↑Ay),ws=[a6 rs]/\↥rs<=100/\↥U<64/\v5 rs U/\∀ss:↑Ay,v5 rs ss->ss.Nodup->(∀t∈ss,t∈U)->R (.rl (ss.map W.str)) M
def BD:aY:=λws M R=>∃rs:↑aE,ws=[a6 rs]/\GL rs/\∀kvs:↑(aC×W),(∀X:Ay,(aQ kvs (Sum.inr X:aC)).isSome=mG rs ab X)->iO kvs M R
abbrev zdB:↑Ay:=["grammar","own","found","rule","part"]
abbrev zdC:aD:=
   (aN 1 (aW mH (aA (bE (aW jI (aA aH aB))) aB)))
abbrev zdD:aD:=
   (aN 2 rM)
abbrev zdE:aD:=
   (b9 (bK cA (vX bB a7)) (aV 4)
    (cC (bN (aG (bX ab) bA aM))
    (fP (vC (.bl ab)) (gM aX bA))
    cX))
abbrev zdF:aD:=
   (b9 (bK cA aH) (aV 3) zdE)
abbrev zdG:aD:=
   (bM (bH G5 (aA (bE aX) aB)))
abbrev zdH:aD:=(aF zdC (aF zdD (aF zdF zdG)))
abbrev zdI:↑Ay:=["grammar","steps","best"]
abbrev zdJ(C:Cc):aD:=
   (aN 1 (bE (bH AZ (aA (bE (c7 (bK cA (aW K2 (aA aH aB))) (aV 0) eU (a8 (aA (a8 (aA aH (aA bC aB))) (aA (dN (aA (a8 (aA bC (aA a7 aB))) aB)) aB))) [ae])) aB))))
abbrev zdK(C:Cc):aD:=
   (aN 2 (sH (aW (AR C) (aA aH (aA (dN (aA bC aB)) (aA aM (aA (bE (aW BC (aA aH aB))) aB)))))))
abbrev zdL(C:Cc):aD:=
   (bM (bH zT (aA (bE (c7 (bK nT aX) (aV 0) eU (a8 (aA (vX aH bC) (aA (vX (vX (vX aM aH) bC) bC) aB))) [ae,aa 2])) aB)))
abbrev zdM(C:Cc):aD:=(aF (zdJ C) (aF (zdK C) (zdL C)))
theorem sM(ts:↑Ay)(n:Ay):(aQ (ts.map cM) (Sum.inr n:aC)).isSome=decide (n∈ts):=by
 induction ts with
 | nil=>rfl
 | cons t ts ih=>
  unfold aQ at ih⊢;rw[Bd,Cq]
  by_cases h:t=n
  .subst h;simp[cM]
  .rw[show decide ((cM t).1=(Sum.inr n:aC))=ac by simp[cM,h]];rw[ih];have h2:¬n=t:=λe=>h e.symm;simp[h2]
theorem mK(rs:↑aE)(t:Ay):(aQ (ownOf rs) (Sum.inr t:aC)).isSome=ownB rs t:=by
 unfold ownOf ownB;rw[sM,Dw];simp only[decide_eq_true_eq];rw[vJ];simp
theorem zdN:bG K2 zdH zdB:=by
 rintro _ M R ⟨rs,U,rfl,hl,hU,aU,r⟩;refine⟨rs,rfl,Ar hl ∅,aR.frz ?_⟩;refine⟨namesOf rs,rfl,by have:=zc4 rs;lia,?_⟩;obtain⟨ow,how⟩:∃ow,ow=(((namesOf rs).foldl dA []).map cM):=⟨_,rfl⟩;have lo:∀t,(aQ ow (Sum.inr t:aC)).isSome=ownB rs t:=λt=>by rw[how];exact mK rs t
 rw[<-how];refine λp hp=>?_;refine dX (λi τ M'=>∃(ss:↑Ay) (o3 o4:Option W),τ=[aa (.rl (rs.map bD)),aa (.dk ow),aa (.ref p),o3,o4]/\M'=put M p (.dK (ss.map cM))/\ss.Nodup/\(∀t∈ss,t∈U)/\∀q∈rs.take i,∀t∈q.parts,ownB rs t=ac->t∈ss) ⟨[],_,_,rfl,rfl,Dx,by simp,by simp⟩ ?_ ?_
 .rintro i w τ M' hw ⟨ss,o3,o4,rfl,rfl,nd,hsU,hin⟩;rw[Av]at hw;let⟨q,hq,rfl⟩:=Az.mp hw;refine ?_;refine dX (ws:=q.parts.map W.str) (λj τ M'=>∃(s2:↑Ay) (o4:Option W),τ=[aa (.rl (rs.map bD)),aa (.dk ow),aa (.ref p),aa (bD q),o4]/\M'=put M p (.dK (s2.map cM))/\s2.Nodup/\(∀t∈s2,t∈U)/\(∀t∈ss,t∈s2)/\∀t∈q.parts.take j,ownB rs t=ac->t∈s2) ⟨ss,_,rfl,rfl,nd,hsU,λ_ h=>h,by simp⟩ ?_ ?_
  .rintro j w τ M' hw ⟨s2,o4,rfl,rfl,nd2,hsU2,hs2,hin2⟩;rw[Av]at hw;let⟨t,ht,rfl⟩:=Az.mp hw;refine⟨_,⟨Sum.inr t,rfl,rfl⟩,?_⟩;show if (!(aQ ow (Sum.inr t:aC)).isSome)=ab then _ else _;rw[lo t];cases ho:ownB rs t with
   | true=>
    refine⟨_,aP,s2,_,rfl,rfl,nd2,hsU2,hs2,λx hx hox=>?_⟩;rw[A2 ht]at hx;rcases Ba.mp hx with z|z
    .exact hin2 x z hox
    .rw[Af.mp z,ho]at hox;cases hox
   | false=>
    have hl2:↥s2<=↥U:=len_sub nd2 hsU2;refine(rX aJ (by rw[Ab];exact cS (by lia)) ⟨_,aP,dA s2 t,_,rfl,by rw[cJ,vS],A1 nd2,λx hx=>?_,λx hx=>lB.mpr (.inl (hs2 x hx)),λx hx hox=>?_⟩)
    .rcases lB.mp hx with z|z
     .exact hsU2 x z
     .rw[z];exact aU q (Ao hq) t (Ao ht) ho
    .rw[A2 ht]at hx;rcases Ba.mp hx with z|z
     .exact lB.mpr (.inl (hin2 x z hox))
     .exact lB.mpr (.inr (by simpa using z))
  .rintro τ M' ⟨s2,o4,rfl,rfl,nd2,hsU2,hs2,hin2⟩;rw[Ab,Bp]at hin2;refine⟨_,aP,s2,_,_,rfl,rfl,nd2,hsU2,λx hx t ht ho=>?_⟩;rw[A2 hq]at hx;rcases Ba.mp hx with z|z
   .exact hs2 t (hin x z t ht ho)
   .rw[Af.mp z]at ht;exact hin2 t ht ho
 .rintro τ M' ⟨ss,o3,o4,rfl,rfl,nd,hsU,hin⟩;rw[Ab,Bp]at hin;refine(E7 hp ?_);have hl2:↥ss<=↥U:=len_sub nd hsU;refine⟨ss,by rw[Bm];rfl,by lia,λs3 hperm=>⟨_,aP,r s3 (λq hq t ht ho=>hperm.mem_iff.mpr (hin q hq t ht ho)) (hperm.nodup_iff.mpr nd) λt ht=>hsU t (hperm.mem_iff.mp ht)⟩⟩
def mL(ss:↑Ay):↑(↑aC×W):=ss.map λt=>([Sum.inr t,Sum.inl 0],.rl [.tup [.int 0,.int 1]])
theorem K4:∀{ps acc:↑(↑aC×W)},((acc++ps).map (·.1)).Nodup->iD acc ps=acc++ps
 | [],acc,_=>by simp[iD]
 | p::ps,acc,h=>by
  have hn:aQ acc p.1=ae:=by
   rw[Aw,Cd]at h;exact II λe Y z=>h.2.2 _ (Ap.mpr ⟨e,Y,rfl⟩) p.1 (by simp) z
  have e:bW acc p.1 p.2=acc++[p]:=by
   unfold bW;rw[Vf (by rw[show(acc.any λg=>decide (g.1=p.1))=(aQ acc p.1).isSome from jW acc p.1,hn];decide)]
  show iD (bW acc p.1 p.2) ps=_;rw[e,K4 (by rw[Dc];exact h),Dc];rfl
theorem zdO(h:ss.Nodup):((mL ss).map (·.1)).Nodup:=by
 unfold mL;rw[Bm]
 induction ss with
 | nil=>simp
 | cons t ss E=>
  rw[Ca]at h;rw[Bd,Ca];refine⟨λP=>?_,E h.2⟩;let⟨x,J,e⟩:=Ap.mp P;have:x=t:=by simpa using e
  exact h.1 (by rw[<-this];exact J)
theorem zdP(ss:↑Ay)(t:Ay)(p:Int):aQ (mL ss) (eK (t,p))=if p=0/\t∈ss then aa (.rl [.tup [.int 0,.int 1]]) else ae:=by
 unfold mL eK
 induction ss with
 | nil=>simp[aQ]
 | cons x ss E=>
  rw[Bd,pZ,E]
  by_cases O:p=0
  .subst O
   by_cases L:x=t
   .subst L;rw[Vg rfl,Vg ⟨rfl,by simp⟩]
   .rw[Vf (λz=>L (by simpa using z))]
    by_cases h3:t∈ss
    .rw[Vg ⟨rfl,h3⟩,Vg ⟨rfl,Bj _ h3⟩]
    .rw[Vf (λz=>h3 z.2),Vf (λz=>by rcases Au.mp z.2 with q|q;exact L q.symm;exact h3 q)]
  .rw[Vf (λz=>O (by simp at z;exact z.2.symm)),Vf (λz=>O z.1),Vf (λz=>O z.1)]
theorem K5:((eA fK eJ B).map λp=>W.tup (p.1.map wK))=(B.map (·.1)).map λf=>W.tup ((fK f).map wK):=by rw[Bm,Bm];rfl
theorem K6(n:Nat)(rs:↑aE)(h:n=↥rs):((Ci n).map λ_=>W.int 0)=rs.map λ_=>W.int 0:=by
 rw[Qz,Qz,Gm,h]
theorem zdQ:bG BD (zdM C) zdI:=by
 rintro _ M R ⟨rs,rfl,g,r⟩;have hf:=g.few;let⟨U,s,n⟩:=g.wds;refine⟨rs,U,rfl,by lia,s,n,λss k nd e=>?_⟩;have d:↥ss<=↥U:=len_sub nd e;refine nJ (rest:=[]) (λw=>.tup [.tup [w,.int 0],.rl [.tup [.int 0,.int 1]]]) (small (by rw[Ab];lia)) (λ_ _=>trivial) (λw hw V C sb O=>O) (aR.frz ?_);refine⟨mL ss,?_,small (by rw[Ab,Ab];lia),?_⟩
 .unfold oY mL;rw[Bm,Bm];rfl
 rw[K4 (by simpa using zdO nd),Jx];refine j9.frz ⟨rs,rfl,by lia,aR.frz ⟨lG rs ss,⟨rs,ownOf rs,mL ss⟩,by rw[<-K6 ↥rs rs rfl];rfl,by show ↥rs<=100;lia,rfl,⟨rfl,λt=>mK rs t,λt p=>?_⟩,IW rs ss,λq Z=>Ar (g.prt q Z) ∅,λB F j i=>⟨j,rfl,.inr ⟨_,aJ,?_⟩⟩⟩⟩
 .show(aQ (mL ss) (eK (t,p))=ae/\(if p=0/\t∈ss then [((0:Int),(1:Int))] else [])=[])\/aQ (mL ss) (eK (t,p))=aa (.rl ((if p=0/\t∈ss then [((0:Int),(1:Int))] else []).map λz=>.tup [.int z.1,.int z.2]));rw[zdP]
  by_cases h:p=0/\t∈ss
  .right;rw[Vg h,Vg h];rfl
  .left;rw[Vf h,Vf h];exact⟨rfl,rfl⟩
 .rw[jQ i];have a:=IY F;have a:↥B<=↥rs:=a;show gN ((eA fK eJ B).map λp=>W.tup (p.1.map wK)) _ _ _ _ _ _ _;rw[K5];refine rW (rest:=[aa (.ft (eA fK eJ B))]) (λw y=>∃f v,w=W.tup ((fK f).map wK)/\y=W.tup [.str f.1,v]) (small (by rw[Ab,Ab];lia)) (λ_ _=>trivial) (λw hw V C sb O=>?_) λG A=>aR.frz ?_
  .let⟨f,hf,rfl⟩:=Ap.mp hw;let⟨v,c⟩:=Ef.mp (gS.mpr hf);exact⟨eJ v,⟨fK f,rfl,by rw[nR nQ,c];rfl⟩,O _ ⟨f,_,rfl,rfl⟩⟩
  .let⟨kvs,rfl,hk⟩:=A4 A;have b:=Cw A;rw[Ab,Ab]at b;exact⟨kvs,rfl,small (by lia),λp N=>⟨_,aP,r _ (J6 (λq Z t ht S=>⟨λ_=>rfl,λ_=>k q Z t ht S⟩) F hk) p N⟩⟩
def K7:aY:=λws M R=>∃rs:↑aE,ws=[.rl (rs.map bD)]/\KY rs/\aR (rs.map bD) M R
def BE:aY:=λws M R=>∃(old:↑Ay) (n:Nat),ws=[.rl (old.map W.str),.int n]/\n+↥old<=400/\aR ((lL old n).map W.str) M R
def wQ:aY:=λws M R=>∃ps:↑Ay,ws=[.tup (ps.map W.str)]/\↥ps<=1000/\R (zds ps) M
structure j0(P:Bc)(w:Bo)(C:An)(M:Mm)(a d dx:An)(l:↑(NP×W)):Prop where
 ob:M a=aa (.ins C dx [("backs",.ref d)])
 di:M d=aa (.dn P w [0] (kvsOf l))
def qE(P:Bc)(w:Bo)(C:An):aY:=λws M R=>∃a dx,ws=[.ref a]/\M a=aa (.ins C dx [])/\∀d,M d=ae->R .non (put (put M d (.dn P w [0] [])) a (.ins C dx [("backs",.ref d)]))
def nU(P:Bc)(w:Bo)(C:An):aY:=λws M R=>∃a d dx l,∃(x:NP) (v:W),ws=[.ref a,.str x.1,.tup (x.2.map W.str),v]/\j0 P w C M a d dx l/\↥l<=100000/\∀o,Ex l 1 (λy=>y=x) o->R .non (put M d (.dn P w [0] (kvsOf o)))
def qF(P:Bc)(w:Bo)(C:An):aY:=λws M R=>∃a d dx l,ws=[.ref a]/\j0 P w C M a d dx l/\∀p q,M p=ae->M q=ae->p≠q->R (.tup [.ref p,.ref q]) (put (put M p (.lst ((kvsOf l).map λz=>fQ [0] z.1))) q (.lst ((kvsOf l).map λz=>z.2)))
def K8:aY:=λws M R=>∃rs:↑aE,ws=[.rl (rs.map bD)]/\fY rs/\aR ((cG rs).map λe=>W.tup (e.map W.str)) M R
def BF:aY:=λws M R=>∃(rs:↑aE) (ps:↑Ay),ws=[.tup (ps.map W.str),.dt (iG rs)]/\fY rs/\(2<↥ps->ps.drop 1∈cG rs)/\R (.tup ((fG rs ps).map W.str)) M
def qG(l:↑(NP×W))(M:Mm)(R:K3):Prop:=∀p q,M p=ae->M q=ae->p≠q->R (.tup [.ref p,.ref q]) (put (put M p (.lst ((l.map λz=>mJ z.1).map bD))) q (.lst (l.map λz=>z.2)))
def K9:aY:=λws M R=>∃rs:↑aE,ws=[.rl (rs.map bD)]/\fY rs/\rs≠[]/\∀l,Ex [] 180 (λx=>BB rs x.1 x.2) l->Hd (f0 rs) True l->qG l M R
abbrev zdR:↑Ay:=["rules","known","rule"]
abbrev zdS:aD:=
   (cC (bN (aG (eD ac) (bH cL (aA aH aB)) bC))
    uY
    cX)
abbrev zdT:aD:=
   (aN 1 (bE (aW jI (aA aH aB))))
abbrev zdU:aD:=
   (b7 (aW JA (aA aX (aA aM aB))))
abbrev zdV:aD:=
   (b9 (bK cA aH) (aV 2) zdU)
abbrev zdW:aD:=
   (bM (bH uL (aA aH aB)))
abbrev zdX:aD:=(aF zdS (aF zdT (aF zdV zdW)))
abbrev zdY:↑Ay:=["old","count","taken","made","tried","name"]
abbrev zdZ:aD:=
   (aN 2 (aW mH (aA aH aB)))
abbrev zd0:aD:=
   (aN 3 (gA aB))
abbrev zd1:aD:=
   (aN 4 bC)
abbrev zd2:aD:=
   (aF (aN 5 (aG oW (aG oW (aG vQ (vC (.str "M")) (aG cE a7 (aG jA bA (vI 10000)))) (vC (.str "_"))) (bH y9 (aA (aG gL bA (vI 10000)) aB))))
   (aF (aN 4 (aG cE bA a7))
   (cC (bN (aG (bX ab) cB aX))
    (b7 (cR "list" dU bB (aA cB aB)))
    cX)))
abbrev zd3:aD:=
   (l7 (bN (aG nC (bH cL (aA bB aB)) aM)) zd2)
abbrev zd4:aD:=
   (bM bB)
abbrev zd5:aD:=(aF zdZ (aF zd0 (aF zd1 (aF zd3 zd4))))
abbrev zd6:↑Ay:=["parts"]
abbrev zd7:aD:=
   (bM (HK (bH cL (aA aH aB))))
abbrev zd8:↑Ay:=["self"]
abbrev zd9(P:Bc)(w:Bo)(C:An):aD:=
   (jF C aH "backs" (HG P w [0]))
abbrev zea:↑Ay:=["self","name","parts","pieces"]
abbrev zeb(P:Bc)(w:Bo)(C:An):aD:=
   (b7 (HI P w [0] (c8 C aH "backs") (a8 (aA aM (aA aX (aA bC aB)))) bB))
abbrev zec:↑Ay:=["self"]
abbrev zed(P:Bc)(w:Bo)(C:An):aD:=
   (bM (a8 (aA (bH (zW P w [0]) (aA (c8 C aH "backs") aB)) (aA (bH (zW P w [0]) (aA (HJ P w [0] (c8 C aH "backs")) aB)) aB))))
abbrev zee:↑Ay:=["grammar","found","rule","k"]
abbrev zef:aD:=
   (aN 1 kZ)
abbrev zeg:aD:=
   (b9 (GH (aA a7 (aA (aG kX (bH cL (aA (vX aX a7) aB)) a7) aB))) (aV 3)
    (fP (vC (.bl ab)) (gM aM (k9 (vX aX a7) (iC bB) rK))))
abbrev zeh:aD:=
   (b9 (bK cA aH) (aV 2) zeg)
abbrev zei:aD:=
   (bM (bH HL (aA aM aB)))
abbrev zej:aD:=(aF zef (aF zeh zei))
abbrev zek:↑Ay:=["parts","made"]
abbrev zel:aD:=
   (bM (yR (bN (aG FO (bH cL (aA aH aB)) l5)) aH (a8 (aA (vX aH bC) (aA (vX aM (k9 aH (iC a7) rK)) aB)))))
abbrev zem:↑Ay:=["grammar","ends","made","plain","number","rule","parts","end"]
abbrev zen(P:Bc)(w:Bo)(C:An):aD:=
   (aN 2 (HQ (aA aM (aA (bE (aW BE (aA (bE (aW jI (aA aH aB))) (aA (bH cL (aA aM aB)) aB)))) aB))))
abbrev zeo(P:Bc)(w:Bo)(C:An):aD:=
   (aF (aN 6 (aW BF (aA (vX cB a7) (aA aX aB))))
   (b7 (d8 C "put_rule" (nU P w C) bB (aA (vX cB bC) (aA cQ (aA (a8 (aA (a8 (aA bA (aA (aW wQ (aA cQ aB)) aB))) aB)) aB))))))
abbrev zep(P:Bc)(w:Bo)(C:An):aD:=
   (b9 (vB (aA aH aB)) (fV 2 (cI (aV 4) (cI (aV 5) fU))) (zeo P w C))
abbrev zeq(P:Bc)(w:Bo)(C:An):aD:=
   (aF (aN 6 (aW BF (aA cD (aA aX aB))))
   (b7 (d8 C "put_rule" (nU P w C) bB (aA (vX aX cD) (aA cQ (aA (aW wQ (aA cQ aB)) aB))))))
abbrev zer(P:Bc)(w:Bo)(C:An):aD:=
   (bM (d8 C "grammar_and_backs" (qF P w C) bB aB))
abbrev zes(P:Bc)(w:Bo)(C:An):aD:=(aF (aN 1 (bE (aW K8 (aA aH aB)))) (aF (zen P w C) (aF (aN 3 (mC C (qE P w C) aB)) (aF (zep P w C) (aF (b9 (bK cA aM) (aV 7) (zeq P w C)) (zer P w C))))))
theorem zet:bG K7 zdX zdR:=by
 rintro _ M R ⟨rs,rfl,g,r⟩;refine fW (λG=>?_) λ_=>⟨rs,rfl,g.few,aR.frz ?_⟩
 .have h:=Vh G;rw[Ab]at h;exact g.ne (Eo.mp (Int.ofNat.inj h))
 refine dX (λi U V=>∃o,U=[aa (.rl (rs.map bD)),aa (.rl ((namesOf rs).map W.str)),o]/\V=M) ⟨_,rfl,rfl⟩ ?_ ?_
 .rintro i w U V hw ⟨o,rfl,rfl⟩;let⟨t,ht,rfl⟩:=Ap.mp (Ao hw);let⟨O,L⟩:=g.ok t ht;exact⟨t,_,rfl,O,L,_,aP,_,rfl,rfl⟩
 .rintro U V ⟨o,rfl,rfl⟩;exact λq Z=>⟨_,aP,r q Z⟩
theorem BG:Cf ("backs" : Ay) [(("backs" : Ay),W.ref d)]=aa (.ref d):=by rw[Dz,beq_self_eq_true]
theorem LA:Ib ("M" : Ay) 1 = "M":=by decide +kernel
theorem zeu:bG BE zd5 zdY:=by
 rintro _ M R ⟨old,n,rfl,hl,r⟩;refine⟨old,rfl,by lia,λp N=>?_⟩;refine⟨λm U V=>∃t o,m=n+↥old-t/\t<=n+↥old/\↥(gU old t)<=n/\U=[aa (.rl (old.map W.str)),aa (.int n),aa (.dk ((old.foldl dA []).map cM)),aa (.ref p),aa (.int (t:Nat)),o]/\V=put M p (.lst ((gU old t).map W.str)),⟨_,0,ae,rfl,Cn _,Cn _,rfl,rfl⟩,?_⟩;rintro m U V ⟨t,o,rfl,ht,Y,rfl,rfl⟩;have tl:=KQ old t (Gb ht (Gb hl ∅));refine .inl ⟨_,aJ,fW (λhc=>?_) λhc=>?_⟩
 .have hc:↥(gU old t)<n:=by have:=Vh hc;rw[Ab]at this;lia
  have D:(t:Int)/10000=0:=Int.ediv_eq_zero_of_lt (by lia) (by lia);have A:(t:Int) % 10000=t:=Int.emod_eq_of_lt (by lia) (by lia);have en:(Ib ("M" : Ay) (1+(t:Int)/10000)++"_"++Bs (toString ((t:Int) % 10000)))=eV t:=by
   rw[D,A,show((1:Int)+0)=1 from rfl,LA];rfl
  have J:↥("M" : Ay)=1:=by decide +kernel
  have c:↥("_" : Ay)=1:=by decide +kernel
  have a:↥(Bs (toString ((t:Int) % 10000)))<=10:=by rw[A];exact Oa (by lia) (by lia)
  have d:↥(Ib ("M" : Ay) (1+(t:Int)/10000))=1:=by rw[D,show((1:Int)+0)=1 from rfl,LA];exact J
  refine⟨⟨by decide,by decide⟩,("M" : Ay),1+(t:Int)/10000,rfl,rfl,by lia,by lia,by lia,_,_,rfl,rfl,small (by lia),(by decide:(0:Int)<10000),ID (Fi _ ∅) (Ei _ ∅),_,_,rfl,rfl,small (by rw[Lx];lia),?_⟩;rw[en];have b:decide (eV t∈old.foldl dA [])=decide (eV t∈old):=by
   rw[Dw,decide_eq_true_eq,decide_eq_true_eq,vJ];simp
  have ts:=KP old t;refine⟨_,⟨Sum.inr (eV t),rfl,rfl⟩,?_⟩;show if (!(aQ ((old.foldl dA []).map cM) (Sum.inr (eV t):aC)).isSome)=ab then _ else _;rw[sM,b];refine fW (λP=>?_) λP=>?_
  .have P:eV t∉old:=λz=>by rw[Vi z]at P;cases P
   rw[Vf P]at ts;refine⟨.inl ⟨rfl,_,aJ⟩,_,aJ,cS (by rw[Ab];lia),_,_,?_,aP,t+1,_,rfl,by lia,by rw[ts,Ak,Dl];lia,rfl,?_⟩
   .lia
   .rw[cJ,ts,Aw];rfl
  .have P:eV t∈old:=Vh (by rw[<-Ga (decide _),P];rfl);rw[Vg P]at ts;exact⟨_,_,by lia,aP,t+1,_,rfl,by lia,by rw[ts];exact Y,rfl,by rw[ts]⟩
 .have hc:¬↥(gU old t)<n:=λz=>by have:=of_decide_eq_false hc;rw[Ab]at this;lia
  have e:=zdr (old:=old) (n:=n) (t:=t) (by lia) ht;rw[e];exact⟨_,aP,r p N⟩
theorem zev:bG wQ zd7 zd6:=by
 rintro _ M R ⟨ps,rfl,hl,r⟩;exact⟨↥ps,by rw[Ab],hl,_,aP,r⟩
theorem zew:bG (qE P w C) (zd9 P w C) zd8:=by
 rintro _ M R ⟨a,dx,rfl,m,r⟩;refine λd hd=>?_;have j:a≠d:=λe=>by subst e;rw[m]at hd;cases hd
 exact⟨a,dx,[],rfl,by rw[aT j];exact m,by decide,_,aP,r d hd⟩
theorem zex:bG (nU P w C) (zeb P w C) zea:=by
 rintro _ M R ⟨a,d,dx,l,x,v,rfl,i,hl,r⟩;have r:=r (addT l (x,v)) (Ex.addT x v);refine⟨a,dx,_,.ref d,rfl,i.ob,BG,⟨d,_,rfl,i.di⟩,d,_,lM x,rfl,i.di,?_,by unfold kvsOf;rw[Ab];exact cS (by lia),?_,?_⟩
 .unfold fQ lM;simp[wK,Kz]
 .intro J e;rcases KW l x with⟨O,_⟩|⟨_,L⟩
  .rw[O]at e;cases e
  .unfold addT at r;rw[Vg L,yO i.di]at r;exact⟨_,aP,r⟩
 .intro e;rcases KW l x with⟨_,L⟩|⟨⟨J,O⟩,_⟩
  .unfold addT at r;rw[Vf L]at r;unfold kvsOf at r;rw[Aw]at r;exact⟨_,aP,r⟩
  .rw[O]at e;cases e
theorem zey:bG (qF P w C) (zed P w C) zec:=by
 rintro _ M R ⟨a,d,dx,l,rfl,i,r⟩;refine⟨a,dx,_,.ref d,rfl,i.ob,BG,.inl ⟨_,i.di,λp N=>?_⟩⟩;have b:∀{c:An} {o:MO},M c=aa o->c≠p:=λhc e=>by rw[e,N]at hc;cases hc
 refine⟨a,dx,_,.ref d,rfl,by rw[aT (b i.ob)];exact i.ob,BG,d,_,rfl,by rw[aT (b i.di)];exact i.di,λv K=>?_⟩;have g:v≠p:=λe=>by rw[e,aJ]at K;cases K
 rw[aT g]at K;have h:∀{c:An} {o:MO},M c=aa o->c≠v:=λhc e=>by rw[e,K]at hc;cases hc
 refine .inr ⟨d,_,aJ,by rw[aT (h i.di),aT (b i.di)];exact i.di,λq Z=>?_⟩;have qv:q≠v:=λe=>by rw[e,aJ]at Z;cases Z
 rw[aT qv]at Z;have f:q≠p:=λe=>by rw[e,aJ]at Z;cases Z
 have B:=Z;rw[aT f]at B;exact⟨_,Sub.put (Sub.new (by rw[aT g];exact K)),r p q N B (Bx f)⟩
def j1(e:↑Ay):↑aC×W:=(fE e,.bl ab)
theorem zez(acc:↑(↑Ay))(e:↑Ay):bW (acc.map j1) (fE e) (.bl ab)=(jY acc e).map j1:=by
 unfold bW jY;have h:((acc.map j1).any λg=>decide (g.1=fE e))=decide (e∈acc):=by
  rw[Ku,Dw,Gg,decide_eq_true_eq];constructor
  .rintro⟨x,J,h⟩;have:=A9 (Vh h);rw[<-this];exact J
  .intro h;exact⟨e,h,by simp[j1]⟩
 rw[h]
 by_cases h:e∈acc
 .rw[Vg (Vi h),Vg h,Bm];refine Dy λu U=>?_;show(if (j1 u).1=fE e then((j1 u).1,W.bl ab) else j1 u)=j1 u
  by_cases hh:(j1 u).1=fE e
  .rw[Vg hh];rfl
  .rw[Vf hh]
 .rw[Vf (by simpa using h),Vf h,Aw];rfl
theorem zeA{rs:↑aE}{i:Nat}{r:aE}(h:rs[i]? = aa r):iF (rs.take (i+1))=iF (rs.take i)++gT r.parts:=by
 unfold iF;rw[Cb,h,Aw,Jn];simp
theorem LB{q:Type}[DecidableEq q](acc a b:↑q):jZ acc (a++b)=jZ (jZ acc a) b:=Kt
theorem zeB{rs:↑aE}{i:Nat}{r:aE}(h:rs[i]? = aa r):cG (rs.take (i+1))=jZ (cG (rs.take i)) (gT r.parts):=by
 unfold cG;rw[zeA h,LB]
theorem zeC{j:Nat}(h:j<↥ps-2):(gT ps).take (j+1)=(gT ps).take j++[ps.drop (j+1)]:=by
 have:(gT ps)[j]? = aa (ps.drop (j+1)):=by
  unfold gT;rw[Av,Pa h];rfl
 rw[Cb,this];rfl
theorem fY.take(f:fY rs)(i:Nat):fY (rs.take i):=⟨by rw[Ck];have:=f.few;lia,λr T=>f.prt r (Ff T)⟩
theorem LC{k:Nat}(h:k<=↥ws):dH ws (aa (k:Int)) ae=ws.drop k:=by
 unfold dH;have D:HT.sIx ↥ws 0 (aa (k:Int))=k:=by
  rw[HT.sIx_nat];lia
 have A:HT.sIx ↥ws ↥ws ae=↥ws:=rfl;rw[D,A,Ks (by rw[Gf];exact Ai _)]
theorem zeD:bG BF zel zek:=by
 rintro _ M R ⟨rs,ps,rfl,f,Y,r⟩;unfold fG at r;have el:(↥(ps.map W.str):Int)<=2↔↥ps<=2:=by rw[Ab];lia
 refine fW (λh=>?_) λh=>?_
 .rw[Vg (el.mp (Vh h))]at r;exact⟨_,aP,r⟩
 .have hl:¬↥ps<=2:=λz=>of_decide_eq_false h (el.mpr z);rw[Vf hl]at r;cases ps with
  | nil=>simp at hl
  | cons x ps=>
   have P:=Y (by lia);have t:(1:Int)=((1:Nat):Int):=rfl;refine so.of (nK _ _) ⟨λJ=>?_,_,⟨fE ps,?_,(wI f P).1.symm⟩,_,aP,r⟩
   .have O:=J.1;rw[t,HT.sIx_nat]at O;simp at O
   .rw[t,LC (by simp),sJ];rfl
theorem zeE:bG K8 zej zee:=by
 rintro _ M R ⟨rs,rfl,f,r⟩;refine λp N=>dX (λi U V=>∃c n,U=[aa (.rl (rs.map bD)),aa (.ref p),c,n]/\V=put M p (.dT ((cG (rs.take i)).map j1))) ⟨_,_,rfl,rfl⟩ ?_ ?_
 .rintro i w U V hw ⟨c,n,rfl,rfl⟩;rw[Av]at hw;let⟨q,Z,rfl⟩:=Az.mp hw;have P:q∈rs:=Ao Z;have D:=f.prt q P;have hi:i<↥rs:=(Am.mp Z).1;have u:=f.few;have h:=A6 (f.take i).prt;rw[Ck]at h;have v:↥(q.parts.map W.str)=↥q.parts:=Ab ..;refine⟨1,_,rfl,⟨by decide,by decide,by lia,by lia⟩,?_⟩;have g:((↥(q.parts.map W.str):Int)-1-1).toNat=↥q.parts-2:=by lia
  rw[g];refine dX (λj U V=>∃n,U=[aa (.rl (rs.map bD)),aa (.ref p),aa (bD q),n]/\V=put M p (.dT ((jZ (cG (rs.take i)) ((gT q.parts).take j)).map j1))) ⟨_,rfl,rfl⟩ ?_ ?_
  .rintro j w U V hw ⟨n,rfl,rfl⟩;unfold l9 at hw;rw[Av]at hw;let⟨a,hj,rfl⟩:=Az.mp hw;have d:j<↥q.parts-2:=by have:=(Am.mp hj).1;simpa using this
   obtain rfl:a=j:=by rw[Pa d]at hj;exact(Co hj).symm
   have t:((1:Int)+(a:Int))=((a+1:Nat):Int):=by lia
   rw[t];refine⟨λJ=>?_,?_⟩
   .rw[HT.sIx_nat]at J;have:=J.1;lia
   .rw[LC (by lia),<-Mz,<-sJ];have B:=wA (ts:=(gT q.parts).take a) (acc:=cG (rs.take i));have m:=List.length_take_le a (gT q.parts);refine oR aJ (by rw[Ab];exact cS (by lia)) ⟨_,aP,_,rfl,?_⟩;rw[cJ,zez,zeC d,LB];rfl
  .rintro U V ⟨n,rfl,rfl⟩;refine⟨_,aP,_,_,rfl,?_⟩;have:↥(l9 1 (↥q.parts-2))=↥(gT q.parts):=by unfold l9 gT;simp
   rw[this,Bp,zeB Z]
 .rintro U V ⟨c,n,rfl,rfl⟩;rw[Ab,Bp];refine⟨_,aJ,λq Z=>?_⟩;have b:q≠p:=λe=>by subst e;rw[aJ]at Z;cases Z
  rw[aT b]at Z;refine⟨_,?_,r q Z⟩;rw[Bm];have e:(cG rs).map ((λ(p:↑aC×W)=>W.tup (p.1.map wK)) ∘ j1)=(cG rs).map λe=>W.tup (e.map W.str):=Dy λl _=>by show W.tup ((fE l).map wK)=_;rw[sJ]
  rw[e];exact Sub.put (Sub.new N)
def Bt(P:Bc)(w:Bo)(C:An)(M:Mm)(a d dx:An)(l:↑(NP×W)):Mm:=put (put M a (.ins C dx [("backs",.ref d)])) d (.dn P w [0] (kvsOf l))
theorem Bt.pl(h:a≠d):j0 P w C (Bt P w C M a d dx l) a d dx l:=⟨by unfold Bt;rw[aT h,aJ],aJ⟩
theorem Bt.sub(m:M a=ae)(hd:M d=ae)(h:a≠d):Sub M (Bt P w C M a d dx l):=(Sub.new m).trans (Sub.new (by rw[aT (Bx h)];exact hd))
theorem Bt.put:L2.put (Bt P w C M a d dx l) d (.dn P w [0] (kvsOf o))=Bt P w C M a d dx o:=cJ
theorem Bt.first(h:a≠d):L2.put (L2.put (L2.put M a o) d (.dn P w [0] [])) a (.ins C dx [("backs",.ref d)])=Bt P w C M a d dx []:=by
 unfold Bt kvsOf;rw[oI (Bx h),cJ];rfl
theorem nV:Cf ("put_rule" : Ay) [(("backs" : Ay),W.ref d)]=ae:=by
 rw[Dz,show(("put_rule" : Ay)==("backs" : Ay))=ac by decide +kernel];rfl
theorem sN:Cf ("grammar_and_backs" : Ay) [(("backs" : Ay),W.ref d)]=ae:=by
 rw[Dz,show(("grammar_and_backs" : Ay)==("backs" : Ay))=ac by decide +kernel];rfl
theorem BH(m:M a=ae)(hd:M d=ae)(n:a≠d)(r:qG l M R)(p q:An)(N:Bt P w c M a d dx l p=ae)(Z:Bt P w c M a d dx l q=ae)(ne:p≠q):∃u,L2.Sub u (put (put (Bt P w c M a d dx l) p (.lst ((kvsOf l).map λz=>fQ [0] z.1))) q (.lst ((kvsOf l).map λz=>z.2)))/\R (.tup [.ref p,.ref q]) u:=by
 have sb:=Bt.sub (P:=P) (w:=w) (C:=c) (dx:=dx) (l:=l) m hd n;have b:∀{x:An},Bt P w c M a d dx l x=ae->M x=ae:=λ{x} h=>by
  cases e:M x with
  | none=>rfl
  | some o=>rw[sb x o e]at h;cases h
 refine⟨_,?_,r p q (b N) (b Z) ne⟩;have D:((kvsOf l).map λz=>fQ [0] z.1)=(l.map λz=>mJ z.1).map bD:=by
  unfold kvsOf;rw[Bm,Bm];exact Dy λz _=>BA z.1
 have A:((kvsOf l).map λz=>z.2)=l.map λz=>z.2:=by unfold kvsOf;rw[Bm];rfl
 rw[D,A];exact Sub.put (Sub.put sb)
theorem zeF:bG K9 (zes P w C) zem:=by
 rintro _ M R ⟨rs,rfl,f,j,r⟩;have hf:=f.few;have t:=f.sum;have b:=A6 f.prt;refine⟨rs,rfl,f,aR.frz ⟨rs,rfl,by lia,aR.frz ⟨namesOf rs,↥(cG rs),by rw[Ab],by lia,aR.frz ⟨iG rs,by rw[zdx f,zdw f];rfl,?_⟩⟩⟩⟩;rw[zdv f];refine λa dx m y _=>⟨a,dx,rfl,aJ,λd hd=>⟨rfl,?_⟩⟩
 have n:a≠d:=λe=>by rw[<-e,aJ]at hd;cases hd
 rw[aT (Bx n)]at hd;rw[Bt.first n];generalize H:(cG rs).map (λe=>W.tup (e.map W.str))=E;refine dX (λi U V=>∃l X u Q,U=[aa (.rl (rs.map bD)),aa (.rl E),aa (.dt (iG rs)),aa (.ref a),X,u,Q,ae]/\V=Bt P w C M a d dx l/\Ex [] (1*i) (λx=>∃q∈rs.take i,x=(q.name,fG rs q.parts)) l/\(0<i->Hd (f0 rs) True l)) ⟨[],_,_,_,rfl,rfl,Ex.start,λh=>absurd h ∅⟩ ?_ ?_
 .rintro i v U V hw ⟨l,X,u,Q,rfl,rfl,hl,hd⟩;rw[rY,Av,Option.map_map]at hw;let⟨q,Z,rfl⟩:=Az.mp hw;have L:=wJ rs q.parts;have hi:i<↥rs:=(Am.mp Z).1;have F:↥l<=0+1*i:=hl.len;refine⟨rfl,rfl,rs,q.parts,rfl,f,wC (Ao Z),mI (Bt.pl n).ob nV ⟨fG rs q.parts,rfl,by lia,a,d,dx,l,(q.name,fG rs q.parts),_,rfl,Bt.pl n,by lia,λo g=>⟨_,aP,o,_,_,_,rfl,Bt.put,hl.step Z g,λ_=>?_⟩⟩⟩;cases i with
  | zero=>
   cases l with
   | nil=>
    refine Hd.of g (λx e=>?_) λ_=>⟨_,rfl⟩
    cases rs with
    | nil=>cases Z
    | cons J rs=>cases Z;rw[e];rfl
   | cons z l=>cases F
  | succ i=>exact(hd (Sw i)).ex g
 .rintro U V ⟨k,X,u,Q,rfl,rfl,B,c⟩;rw[mB,Ab]at B c;have c:=c (Ia.mpr j);rw[Bp]at B;refine dX (λi U V=>∃l X u Q s,U=[aa (.rl (rs.map bD)),aa (.rl E),aa (.dt (iG rs)),aa (.ref a),X,u,Q,s]/\V=Bt P w C M a d dx l/\Ex k (1*i) (λx=>∃e∈(cG rs).take i,x=(fF rs e,fG rs e)) l) ⟨k,_,_,_,_,rfl,rfl,Ex.start⟩ ?_ ?_
  .rintro i v U V hw ⟨l,X,u,Q,s,rfl,rfl,hl⟩;rw[<-H,Av]at hw;let⟨e,Y,rfl⟩:=Az.mp hw;have S:e∈cG rs:=Ao Y;have L:=wJ rs e;have hi:i<↥(cG rs):=(Am.mp Y).1;have F:=hl.len;have G:↥k<=0+1*↥rs:=B.len;exact⟨rs,e,rfl,f,wF S,mI (Bt.pl n).ob nV ⟨.str (fF rs e),⟨fE e,by rw[sJ],(wI f S).1.symm⟩,fG rs e,rfl,by lia,a,d,dx,l,(fF rs e,fG rs e),_,rfl,Bt.pl n,by lia,λo g=>⟨_,aP,o,_,_,_,_,rfl,Bt.put,hl.step Y g⟩⟩⟩
  .rintro U V ⟨l,X,u,Q,s,rfl,rfl,hl⟩;rw[<-H,Ab,Bp]at hl;refine mI (Bt.pl n).ob sN ⟨a,d,dx,l,rfl,Bt.pl n,λp q N Z ne=>BH m hd n (r l (((B.add hl).cg λx=>or_congr ⟨?_,?_⟩ ⟨?_,?_⟩).le (by lia)) (c.ex hl)) p q N Z ne⟩
   .rintro⟨q,Z,rfl⟩;exact⟨q,Z,rfl,rfl⟩
   .rintro⟨q,Z,D,A⟩;exact⟨q,Z,by rw[D,A]⟩
   .rintro⟨q,Z,rfl⟩;exact⟨q,Z,rfl,rfl⟩
   .rintro⟨q,Z,D,A⟩;exact⟨q,Z,by rw[D,A]⟩
theorem nX{ps:↑Ay}{M:Mm}(h:∀t∈ps,Sh t):Pl 2 (cZ M (.tup (ps.map W.str))):=λw hw=>by
 let⟨t,ht,rfl⟩:=Ap.mp hw;exact nN (h t ht).asc
section
variable {X:Cx}{pos:Hu}{a b:Cg}{ta tb te:aS}
theorem cT{i:Nat}(hi:X.N[i]? = aa x:=by rfl)(J:Loc X.env.scope x:=by first|exact .inl rfl|exact .inr rfl)(t:X.N.Nodup:=by exact Vh (by kernel_rfl))(hf:Fy X x:=by first|exact .inl rfl|exact .inr rfl|assumption):PG X (.Name x pos) (iT X.K (aV i)):=rN t hi J hf
variable {tg iter elt:Cg}{ifs:↑Cg}{sc:Kl}{wi:gZ}{g:eS}{tt:dE}
end
theorem qH(a:sc.kind=.function:=by rfl)(b:sc.isCoroutine=ac:=by rfl)(c:sc.isGenerator=ac:=by rfl)(d:N.Nodup:=by decide +kernel)(e:N.take ↥ps=ps:=by rfl)(f:∀x∈ps,sc.names.lookup x=aa .local\/sc.names.lookup x=aa .cell:=by decide +kernel)(g:∀y∈sc.names,y.2≠.free:=by decide +kernel):mU N ps sc:=⟨a,b,c,d,e,f,g⟩
theorem LD{C:↑Ae->Prop}(h:C [])(us:↑Ae)(e:↥us=0):C us:=by rw[Eo.mp e];exact h
theorem sO{C:↑Ae->Prop}{n:Nat}(k:∀a us,↥us=n->C (a::us)):∀us:↑Ae,↥us=n+1->C us
 | a::l,e=>k a l (Rj e)
theorem wR{C:↑Ae->Prop}(h:∀a,C [a]):∀us:↑Ae,↥us=1->C us:=sO λa=>LD (h a)
theorem wU{C:↑Ae->Prop}(h:∀a b,C [a,b]):∀us:↑Ae,↥us=2->C us:=sO λa=>wR (h a)
theorem wV{C:↑Ae->Prop}(h:∀a b c,C [a,b,c]):∀us:↑Ae,↥us=3->C us:=sO λa=>wU (h a)
theorem wW{C:↑Ae->Prop}(h:∀a b c d,C [a,b,c,d]):∀us:↑Ae,↥us=4->C us:=sO λa=>wV (h a)
theorem BI{C:↑Ae->Prop}(h:∀a b c d e,C [a,b,c,d,e]):∀us:↑Ae,↥us=5->C us:=sO λa=>wW (h a)
def BJ(x q:Ay)(st:Jl)(ps:↑Ay):Prop:=∀(kV doc pm:Ae) (an:Option An) (cdv ct:Ae) (us:↑Ae),↥us=↥ps->bindArgs (Fv x q (jL st) (gF st) (dO st) .none kV doc pm an cdv ct) ⟨us,[]⟩=pure (ps.zip us)
section
variable {K:Ac}{mg:Ay->Option Ae}{h:Ds}{x q:Ay}{st:Jl}{C f:An}{ps:↑Ay}{an:Option An}{kV doc pm cdv ct:Ae}
theorem dF(X:K.In h)(G:h.Ns Ec mg)(j:BJ x x st ps:=by first|exact λ_ _ _ _ _ _=>wR λ_=>rfl|exact λ_ _ _ _ _ _=>wU λ_ _=>rfl|exact λ_ _ _ _ _ _=>wV λ_ _ _=>rfl|exact λ_ _ _ _ _ _=>wW λ_ _ _ _=>rfl|exact λ_ _ _ _ _ _=>BI λ_ _ _ _ _=>rfl|exact λ_ _ _ _ _ _=>ar6 λ_ _ _ _ _ _=>rfl|exact λ_ _ _ _ _ _=>ar7 λ_ _ _ _ _ _ _=>rfl|exact λ_ _ _ _ _ _=>LD rfl)(n:Rq K Ec x=aa (aa (.ref f)):=by kernel_rfl)(l:K.lookup f=aa ⟨.type "function",ae,.func (Fv x x (jL st) (gF st) (dO st) .none kV doc pm an cdv ct),#[]⟩:=by kernel_rfl)(c:Kg K cdv x=ab:=by kernel_rfl)(k:Gh K (.ref f)=ab:=by kernel_rfl):Df K mg x st ps f (Fv x x (jL st) (gF st) (dO st) .none kV doc pm an cdv ct):=⟨pL l c k,Jm X G n,(pL l c k).binds j⟩
theorem dM(G:BJ x q st ps:=by first|exact λ_ _ _ _ _ _=>wR λ_=>rfl|exact λ_ _ _ _ _ _=>wU λ_ _=>rfl|exact λ_ _ _ _ _ _=>wV λ_ _ _=>rfl|exact λ_ _ _ _ _ _=>wW λ_ _ _ _=>rfl|exact λ_ _ _ _ _ _=>BI λ_ _ _ _ _=>rfl)(a:Fe K (.ref C) x=aa (aa (.ref f)):=by kernel_rfl)(n:Nf K (.ref f)=ab:=by kernel_rfl)(l:K.lookup f=aa ⟨.type "function",ae,.func (Fv x q (jL st) (gF st) (dO st) .none kV doc pm an cdv ct),#[]⟩:=by kernel_rfl)(c:Kg K cdv q=ab:=by kernel_rfl)(k:Gh K (.ref f)=ab:=by kernel_rfl):Dm K C x q st ps f (Fv x q (jL st) (gF st) (dO st) .none kV doc pm an cdv ct):=⟨pL l c k,⟨a,n,k⟩,(pL l c k).binds G⟩
theorem dI(G:BJ x q st ps:=by first|exact λ_ _ _ _ _ _=>wR λ_=>rfl|exact λ_ _ _ _ _ _=>wU λ_ _=>rfl|exact λ_ _ _ _ _ _=>wV λ_ _ _=>rfl|exact λ_ _ _ _ _ _=>wW λ_ _ _ _=>rfl|exact λ_ _ _ _ _ _=>BI λ_ _ _ _ _=>rfl)(m:Pz K C=ab:=by kernel_rfl)(a:Fe K (.ref C) "__init__" = aa (aa (.ref f)):=by kernel_rfl)(n:Nf K (.ref f)=ab:=by kernel_rfl)(d:Gh K (.ref C)=ab:=by kernel_rfl)(l:K.lookup f=aa ⟨.type "function",ae,.func (Fv x q (jL st) (gF st) (dO st) .none kV doc pm an cdv ct),#[]⟩:=by kernel_rfl)(c:Kg K cdv q=ab:=by kernel_rfl)(k:Gh K (.ref f)=ab:=by kernel_rfl):Di K C x q st ps f (Fv x q (jL st) (gF st) (dO st) .none kV doc pm an cdv ct):=⟨pL l c k,⟨m,a,n,d⟩,(pL l c k).binds G⟩
variable {P:Bc}{w:Bo}{base:Ds}{fd:Fc}{N:↑Ay}{k:Nat}{sp:aY}{rd:aD}
theorem LF(P:Bc)(w:Bo)(mg:Ay->Option Ae)(base:Ds)(k:Nat)(F:jO K x q st f fd)(_:Binds K fd ps [])(S:mU N ps (dO st))(len:∀ws M R,sp ws M R->↥ws=↥ps)(a:bG sp rd N)(d:∀{cdv:Ae} {A:Cs} {outer:↑Ub} {s:Aj} {H:Hp} {E:XK},cP k (A.deeper (Li q (dO st) ⇑s f cdv))->(A.deeper (Li q (dO st) ⇑s f cdv)).units+1<Fd->N.Nodup->jS (kN eQ P w K mg base N q (dO st) f cdv A outer s H E).nox (gF st) rd):i6 P w K mg base eQ (k+1) f fd ps (fM K sp):=
 uX F S len λ_ _ _ _ _ _ _ _ _ T h=>⟨rd,d T (D4 T) S.nd,a _ _ _ h⟩
theorem LG(P:Bc)(w:Bo)(mg:Ay->Option Ae)(base:Ds)(k:Nat)(F:jO K x q st f fd)(_:Binds K fd ps [])(S:mU N ps (dO st))(a:bG sp rd N)(d:∀{cdv:Ae} {A:Cs} {outer:↑Ub} {s:Aj} {H:Hp} {E:XK},cP k (A.deeper (Li q (dO st) ⇑s f cdv))->(A.deeper (Li q (dO st) ⇑s f cdv)).units+1<Fd->N.Nodup->jS (kN eQ P w K mg base N q (dO st) f cdv A outer s H E).nox (gF st) rd)(len:∀ws M R,sp ws M R->↥ws=↥ps:=by intro _ _ _ h;repeat (first|(let⟨rfl,_⟩:=h;exact rfl)|let⟨_,h⟩:=h)):i6 P w K mg base eQ (k+1) f fd ps (fM K sp):=
 uX F S len λ_ _ _ _ _ _ _ _ _ T h=>⟨rd,d T (D4 T) S.nd,a _ _ _ h⟩
end
section
variable {X:Cx}{pos p:Hu}{x:Ay}{st:Jl}{e:Cg}{es:↑Cg}{t:dG}{k j:Nat}{f:An}{fd:Fc}{ps:↑Ay}{sp:aY}
theorem bV(F:X.f eQ k f fd ps (fM X.K sp))(D:Df X.K X.mg x st ps f fd)(T:cP j X.A)(m:A3 X (e::es) t)(hj:k<=j:=by decide)(L:Gl X x:=by rfl)(l:Db x:=by decide)(Y:Se X e es:=by rfl)(a:Sb X pos es:=by rfl):
  E3 X (.Call (.Name x p) (e::es) [] pos) (aW sp t):=rE F (T.mono hj) L D.at_ D.fn.kp D.bi m l Y a
end
section
variable {X:Cx}
def zeG(tk O:TE):TE:=λC H Q=>∀p,H p=ae->tT [(tk,O)] C (aL H p (.dT [])) λps E=>∃(b:An) (y:V) (k:↑aC),ps=[(.ref b,y)]/\E p=aa (.dT [])/\E b=aa (.tup (k.map kV))/\Q (.ref p) (aL E p (.dT [(k,y)]))
theorem zeH{k v:Cg}{tk tv:TE}{pos:Hu}(hu:X.A.units+1<Fd)(hk:PE X k tk)(hv:PE X v tv):PE X (.Dict [aa k] [v] pos) (zeG tk tv):=by
 intro af s Z H Q I q;have hn:=I.hok.fresh (Ai ⇑s);have I1:=I.laid (a:=⇑s) (o:=.dT []) (h':=s.heap.push {cls:=.type "dict",data:=.dict #[]}) (t':=s.toks) (λ_ _ q=>Ah _ q) (Ai _) (DU s.heap I.big);refine wpAny_Dict_any rfl rfl (λh=>nomatch h) (by decide:1<=15) (thn (DW hk hv DV af _ Z _ _ I1 (q _ hn)) λws s2 z0=>?_);let⟨ps,H2,I2,rel,b,y,k,ep,e,eb,q2⟩:=z0;subst ep;cases rel with
 | @cons a1 b1 _ _ r1 r2=>
  cases r2;let⟨u1,u2⟩:=b1;let⟨ru,rv⟩:=r1;cases (show u1=Value.ref b from ru);let⟨z,hd,xs,rel,dd⟩:=qR I2.hok e;cases rel;unfold storeAll;rw[Jz];refine Aa (Aa (Qo (hsz:=Cn _) (Ky hu) (i7 I2.hok eb) dd λh' dd' hs=>Ag ?_));show Bk _ _ (pure PUnit.unit) _ _ _;refine Ag ⟨.ref _,_,?_,rfl,q2⟩;let⟨q,es,ep,hq,h2,h3,h4,_,h5⟩:=dd';refine oC I2 (by rw[e];exact True.intro) hs ⟨q,hq⟩ ⟨show 1<=Ax by decide,hd,_,((show KT H2 [] [] from .nil).put k eb rv).keeps λc ys ec=>?_,q,es,ep,hq,h2,h3,h4,h5⟩;rw[a9 (sY ec e (λz=>nomatch z))];exact ec
end
section
variable {X:Cx}{a b:Cg}{ta tb:aS}{pos p:Hu}
abbrev LH(ta tb:aS):aS:=λU M R=>∀p,M p=ae->ta U (put M p (.dT [])) λx I=>tb U I λy d=>d p=aa (.dT [])/\∃k:↑aC,x=.tup (k.map wK)/\R (.ref p) (put d p (.dT [(k,y)]))
theorem zeI(W:X.A.units+1<Fd)(m:E3 X a ta)(G:E3 X b tb):E3 X (.Dict [aa a] [b] pos) (LH ta tb):=
 (zeH W m G).weak λC H Q Z=>Z.el λU M R J Y h k=>λp N=>by
  let⟨v,D⟩:=Y.laid (o:=.dT []) (u:=.dT []) N ⟨[],bY,.nil⟩;refine⟨U,_,_,J.kp Y D,v,h p (Y.nonM N),λx z n I s j S O=>⟨U,I,_,(J.kp Y D).kp v s,j,O,λy w l d B P E ⟨e,kk,ex,r⟩=>?_⟩⟩;subst ex;let⟨ks,f,q⟩:=P _ _ e;cases q;have K:=S.kp j B;exact K.tupE λc xs t L F=>by
   let⟨g,i⟩:=P.write (o:=.dT [(kk,l)]) (u:=.dT [(kk,y)]) e ⟨_,bY,.cons ⟨rfl,E.wr P e⟩ .nil⟩;exact⟨c,y,kk,by rw[t],f,by rw[<-F.keys];exact L,k _ _ _ _ (((D.trans s).trans B).trans i) g (.ref _) r⟩
variable {x:Ay}{e:Cg}{es:↑Cg}{t:dG}{k j i:Nat}{f:An}{fd:Fc}{ps:↑Ay}{sp:aY}
abbrev BK(i:Nat)(f:An)(sp:aY)(t:dG):aS:=λU M R=>U[i]? = aa (aa (.ref f))/\aW sp t U M R
theorem LI(ef:g=f)(F:X.f eQ k f fd ps (fM X.K sp))(T:cP j X.A)(hk:Gh X.K (.ref f)=ab)(G:Binds X.K fd ps [])(m:A3 X (e::es) t)(hj:k<=j:=by decide)(o:X.N[i]? = aa x:=by rfl)(c:tB X.env.scope x:=by first|exact Or.inl rfl|exact Or.inr (Or.inl rfl)|exact Or.inr (Or.inr rfl))(hd:Db x:=by decide)(V:(x==("__classdict__" : Ay))=ac:=by decide)(d:Se X e es:=by rfl)(a:Sb X pos es:=by rfl):
  E3 X (.Call (.Name x p) (e::es) [] pos) (BK i g sp t):=by
 subst ef;intro B s C H Q I ⟨U,M,R,J,Y,⟨O,h⟩,y⟩;have gc:=FE (K:=X.K) ⟨U,M,R,J,Y,h,y⟩;let⟨v,D,av⟩:=J.get O;refine Ej (thn (CP (pos:=p) o c hd V B s C H (λw l=>w=.ref g/\l=H) I ⟨v,D,av.inv,rfl⟩) λu W Z=>?_);let⟨w,z,n,E,ew,eH⟩:=Z;subst ew eH;cases E;exact Lu (h₀:=X.base) n.ok.mod.kin hk (thn (m pos B W C z _ n gc) λus P b=>by let⟨vs,L,S,r,q⟩:=b;exact⟨S.kIn,tL F (T.mono hj) G .nil pK S r q⟩) d a
theorem LJ{g f:An}{fd:Fc}{ps:↑Ay}{x:Ay}{pos:Hu}{st:Jl}(a:g=f)(D:Df X.K X.mg x st ps f fd)(L:Gl X x:=by rfl)(hd:Db x:=by decide):E3 X (.Name x pos) (vC (.ref g)):=by
 subst a;exact rA (y:=.ref g) L D.at_ rfl (λ_ _=>.ref _) hd
end
end L2
namespace PySem
namespace Et
open L2
section
variable {prog:Bc}{w:Bo}{A:Cs}{E:Ae->Aj->Prop}{s:Aj}
theorem draws(hh:A.handled=ae)(it l:An)(j:l≠it)(items:Array Ae):Draws prog w A it [it,l] items.size (λi v=>items[i]? = aa v) (λi h=>h.IsTupleIter it l i/\h.IsTuple l items) where
 live:=λ_ _ st=>let ⟨o,ho,_⟩:=st.1;⟨o,ho⟩
 frame:=λk h h' st hk=>(Zt.side_tuple (prog:=prog) (w:=w) it l j items).keep k h h' st λc hc o e=>hk c (by rcases hc with rfl|rfl<;>simp) o e
 item:=λi s Q E hi st K=>(Zt.side_tuple it l j items).item A E s i items[i] Q st (by simp[hi]) λh' a b=>K _ h' s.toks (by simp[hi]) a b
 done:=λs Q E st H=>(Zt.side_tuple it l j items).stop A E s _ Q hh st (by simp) H
theorem zeJ(l:An)(items:Array Ae)(n:Nat)(e:Option An)(Z:Array (Option Ae)):
  Meets (Ha.«enumerate.__new__» ⟨[.type "enumerate",.ref l],[]⟩) (λ_ R s=>s.heap.get? l=aa {cls:=.type "tuple",dict:=e,data:=.seq items n,slots:=Z}/\
   R (.ok (.ret (.ref (s.heap.push {cls:=.type "tuple_iterator",data:=.fields #[.ref l,.int 0 0]}).objs.size)))
    {s with heap:=(s.heap.push {cls:=.type "tuple_iterator",data:=.fields #[.ref l,.int 0 0]}).push {cls:=.type "enumerate",data:=.fields #[.none,.bool ac,.ref ⇑s,He 0,.none,.none]}}):=
 .of_wp λprog w A R s h=>by
  let⟨N,g,d,tk,os⟩:=s;let⟨hl,h⟩:=h;have a:=sub_enumerate;have f:Uz (Shared.heap ⟨N,g,d,tk,os⟩) l items:=⟨_,hl,rfl,n,rfl⟩
  wp_walk using Jk hl
  refine wpAny_stack_any λst=>Ag ?_;split
  .rename_i c _ _ _ _ _;cases (c==Value.type "enumerate")
   .wp_walk using Jk hl,Nc f
    exact⟨_,rfl,h⟩
   .wp_walk using Jk hl,Nc f
    exact⟨_,rfl,h⟩
  .wp_walk using Jk hl,Nc f
   exact⟨_,rfl,h⟩
theorem call_new{Q:Ae->Aj->Prop}(f:s.heap.IsTuple l items)(h:∀h',IsEnum h' (⇑s+1) ⇑s 0 .none->h'.IsTupleIter ⇑s l 0->(∀b o,s.heap.get? b=aa o->h'.get? b=aa o)->Q (.ref (⇑s+1)) {s with heap:=h'}):
  Bk (Dj prog w) A (call (.type "enumerate") [.ref l]) Q E s:=by
 obtain⟨⟨c,e,dt,Z⟩,hl,hc,n,hd⟩:=f;cases (show c=.type "tuple" from hc);cases (show dt=.seq items n from hd);refine callType_new F.called_enumerate ∅ (F.typeCall_enumerate_1 _) (F.newCall_enumerate_1 _) (λobj=>F.args_object_init_2 obj _) F.entry_enumerate_new (zeJ l items n e Z) ⟨hl,?_⟩;have hz:(s.heap.push {cls:=.type "tuple_iterator",data:=.fields #[.ref l,.int 0 0]}).objs.size=⇑s+1:=Gp ..;show _/\_;rw[hz];have Y:IsEnum ((s.heap.push {cls:=.type "tuple_iterator",data:=.fields #[.ref l,.int 0 0]}).push {cls:=.type "enumerate",data:=.fields #[.none,.bool ac,.ref ⇑s,He 0,.none,.none]}) (⇑s+1) ⇑s 0 .none:=by
  have:=Bb (s.heap.push {cls:=.type "tuple_iterator",data:=.fields #[.ref l,.int 0 0]}) (o:={cls:=.type "enumerate",data:=.fields #[.none,.bool ac,.ref ⇑s,He 0,.none,.none]}) rfl;rw[hz]at this;exact this
 exact⟨⟨_,Y,rfl⟩,h _ Y ⟨_,Ah _ (Bb _ rfl),rfl,rfl⟩ λb o x=>Ah _ (Ah _ x)⟩
end
end Et
end PySem
namespace L2
section
variable {X:Cx}
def LK(K:Ac)(a:An)(xs:↑V):It:=
 ⟨λi H=>bU K H a xs/\i<↥xs,
   λi H x l=>∃p u,xs[i]? = aa u/\H p=ae/\x=.ref p/\l=aL H p (.tup [.int (i:Nat),u]),
   λi H=>bU K H a xs/\i=↥xs⟩
theorem zeK{P:Bc}{w:Bo}{K:Ac}{es:↑Cg}{kx:Nat}{b:Hu}(a e it:An)(xs:↑V)(j:e≠it)(hea:e≠a)(hia:a≠it):
  jM P w K (.Tuple es kx b) (LK K a xs) [e,it] e (λi h=>(∃old,IsEnum h e it (i:Nat) old)/\h.IsTupleIter it a i) where
 mem:=by simp
 obj:=λi h st c hc=>by
  obtain⟨⟨old,O⟩,⟨F,D,_,G⟩⟩:=st;simp only[Au,Gv,or_false]at hc;rcases hc with rfl|rfl
  .exact⟨_,O,λv q=>by cases q⟩
  .exact⟨_,D,λv q=>by rw[G]at q;cases q⟩
 keep:=λi h h' st k=>by
  obtain⟨⟨old,O⟩,⟨F,D,m⟩⟩:=st;exact⟨⟨old,k e (by simp) _ O⟩,⟨F,k it (by simp) _ D,m⟩⟩
 item:=by
  intro X r hw Y hc i B s C H E I hf st L;subst r hw Y;obtain⟨⟨old,O⟩,D⟩:=st;let⟨t,hi⟩:=L;let⟨its,R,pl,hz⟩:=I.tuple t;let⟨u,U,ru⟩:=R.get (Bn hi);have hl:=↥R;refine wpAny_pyNext_enum_itemD (Et.draws (A:=X.A.in1) (I.ok.hd hc) it a hia its.toArray) O ⟨D,pl⟩ (by simp;lia) j (by simp[j,hea]) λx h' tk J W n N S hk=>?_;have ex:x=u:=by
   have J:its.toArray[i]? = aa x:=J;rw[List.getElem?_toArray,U]at J;exact(Co J).symm
  subst ex;refine⟨_,rfl,wpAny_letOwnedTupleGo_enum W λp l sb=>?_⟩;have y:H ⇑s=ae:=I.hok.fresh (Ai _);have d:e<⇑s:=Bg O;have T:it<⇑s:=by let⟨_,q,_⟩:=D;exact Bg q
  have f:∀q o,q∉[e,it]->s.heap.get? q=aa o->p.get? q=aa o:=λq o Z eq=>by
   simp only[Au,Gv,or_false,not_or]at Z;exact(sb.2 q Z.1).trans (hk q o Z.1 Z.2 eq)
  have Q:p.get? ⇑s=aa {cls:=.type "tuple",data:=.seq [.int (i:Nat) tk,x].toArray}:=(sb.2 _ (Ct d)).trans N;have M:Inv X B C (aL H ⇑s (.tup [.int (i:Nat),xs[i]])) {s with heap:=p,toks:=tk+1}:=I.laidT (its:=[.int (i:Nat) tk,x]) hf f (by show 2<=Ax;decide) (.cons ⟨_,rfl⟩ (.cons ru .nil)) Q;refine⟨.ref ⇑s,_,M,rfl,⟨⇑s,xs[i],Bn hi,y,rfl,rfl⟩,⟨⟨x,by rw[Od];exact l⟩,n.1.extBut sb.extBut j.symm⟩,λq Z=>?_⟩;rw[a9]
  .exact(hf q Z).1
  .intro eq;subst eq;simp only[Au,Gv,or_false]at Z;rcases Z with q|q
   .exact Ct d q
   .exact Ct T q
 done:=by
  intro X r hw Y hc i B s C H E I hf st L;subst r hw Y;obtain⟨⟨old,O⟩,D⟩:=st;let⟨t,rfl⟩:=L;let⟨its,R,pl,hz⟩:=I.tuple t;have g:=↥R;refine wpAny_pyNext_enum_endD (Et.draws (A:=X.A.in1) (I.ok.hd hc) it a hia its.toArray) O (show Heap.IsTupleIter s.heap it a its.toArray.size/\Uz s.heap a its.toArray from⟨by rw[Bh,<-g];exact D,pl⟩) λh' hk=>⟨rfl,?_⟩
  exact I.turnedT (tk:=s.toks) hf λq o Z eq=>hk q o (λz=>Z (by simp[z])) eq
 self:=λ_ _ _ _ _ st h=>by
  obtain⟨⟨old,O⟩,_⟩:=st;exact Nm O h
def zeL(K:Ac)(ta:TA):TI:=λC H R=>ta C H λvs z=>∃a xs,vs=[.ref a]/\bU K z a xs/\R (LK K a xs) z
theorem zeM{a:Cg}{ta:TA}{p pos:Hu}{es:↑Cg}{kx:Nat}{V:Hu}(L:Gl X "enumerate")(P:X.mg "enumerate" = ae)(m:PA X [a] ta)(F:Cp [a] X.env=[(ac,Eu a X.env)]:=by rfl):
  PI X (.Tuple es kx V) (.Call (.Name "enumerate" p) [a] [] pos) (zeL X.K ta):=by
 intro B s C H R I h;refine Call_ (iJ I L P boot_enumerate (Cj (thn (m pos B s C H _ I h) λus g n=>?_) F rfl));let⟨vs,z,M,N,d⟩:=n;let⟨a,xs,rfl,t,q⟩:=d;let⟨u,rfl,ru⟩:=vals1 N;cases ru;let⟨its,c,pl,hz⟩:=M.tuple t;have W:a<⇑g:=by let⟨o,e,_⟩:=pl;exact Bg e
 refine Et.call_new pl λh' G T k=>?_;refine Nm G ?_;refine⟨⇑g+1,[⇑g+1,⇑g],_,_,z,rfl,M.kept (t':=g.toks) k,zeK a _ _ xs (EM 1 ∅) (Bx (Br (Mw W))) (Br W),⟨⟨_,G⟩,T⟩,λq Z=>?_,q⟩;have b:⇑g<=q:=by
  simp only[Au,Gv,or_false]at Z;rcases Z with e|e
  .rw[e];exact EN 1
  .rw[e];exact Ai _
 exact M.fpOk b (M.hok.fresh b)
end
section
variable {X:Cx}{a:Cg}
abbrev BL(ta:dG):gZ:=λU M R=>ta U M λws I=>∃d,ws=[.tup d]/\R (gO 0 d) (λ_=>True) I
theorem zeN{t:dG}{p pos:Hu}{es:↑Cg}{kx:Nat}{V:Hu}(L:Gl X "enumerate")(P:X.mg "enumerate" = ae)(m:A3 X [a] t)(F:Cp [a] X.env=[(ac,Eu a X.env)]:=by rfl):PI X (.Tuple es kx V) (.Call (.Name "enumerate" p) [a] [] pos) (gB X.K (BL t)):=
 (zeM L P m F).weak λC H g Z=>Z.el λU M R J Y h k=>⟨U,M,_,J,Y,h,λvs z ws I s j S ⟨d,c,r⟩=>by
  subst c;let⟨v,rfl,av⟩:=S.one;exact av.tupE λb xs N O G=>⟨b,xs,by rw[N],bU.of O,k _ _ _ _ _ s j (by
   have st:∀H M,Kp z I H M->AM X.K H M->bU X.K H b xs:=λH M k _=>bU.of (k.fr _ _ (j.noTup O) O).1;refine⟨λi H M k Y kp hi=>⟨st H M k Y,by rw[mB]at hi;rw[↥G];exact hi⟩,λH M k Y kp=>⟨st H M k Y,by rw[mB,↥G]⟩,λi H M x l k Y kp hi y=>?_⟩;let⟨n,u,W,hn,rfl,rfl⟩:=y;let⟨w,hw,av⟩:=(G.kp j k).getV W;let⟨T,B⟩:=Y.tup (u:=.tup [.int (i:Nat),u]) hn;exact⟨.tup [.int ((i:Nat):Int),w],by rw[rY,hw];simp,B,T,.tup bY (.cons (.int _) (.cons (av.go (go_same hn)) .nil))⟩) r⟩⟩
end
section
variable {X:Cx}
theorem wX(ok:cU P w H h)(e:H a=aa (.frz o (.dK ks))):∃vs es ep,KV ks vs/\o.data=.dict es ep/\h.DictAt (bR P w) a vs ep/\(a==Fn)=ac:=by
 let⟨S,hz,j,vs,R,n,es,ep,O,r⟩:=(show bZ P w H h a (.frz o (.dK ks)) from ok a _ e);rw[S]at O;cases O;exact⟨vs,es,ep,R,r.2.1,⟨o,es,S,r⟩,j⟩
def wY(a:An)(o:Lv)(ks:↑(aC×V)):It:=
 ⟨λi H=>H a=aa (.frz o (.dK ks))/\i<↥ks,
   λi H x l=>∃p z,ks[i]? = aa z/\H p=ae/\x=.ref p/\l=aL H p (.tup [kV z.1,z.2]),
   λi H=>H a=aa (.frz o (.dK ks))/\i=↥ks⟩
theorem zeO(r:KV ks vs){i:Nat}(h:ks[i]? = aa z):∃x,vs[i]? = aa (z.1,x)/\RelV z.2 x:=by
 induction r generalizing i with
 | nil=>cases h
 | @cons p q ps qs Z t E=>
  cases i with
  | zero=>cases h;let⟨d,y⟩:=q;cases Z.1;exact⟨y,rfl,Z.2⟩
  | succ i=>rw[Ep]at h⊢;exact E h
theorem zeP{P:Bc}{w:Bo}{K:Ac}{es:↑Cg}{kx:Nat}{U:Hu}(a it:An)(o:Lv)(ks:↑(aC×V))(en:Array Eg)(ep:Nat)(hd:o.data=.dict en ep)(c:a≠it):
  jM P w K (.Tuple es kx U) (wY a o ks) [it] it (λi h=>∃ok N,IsItemIter h it a i ↥ks ep ok N) where
 mem:=by simp
 obj:=λi h st b G=>by
  cases (by simpa using G:b=it);let⟨ok,N,e⟩:=st;exact⟨_,e,λv z=>by cases z⟩
 keep:=λi h h' st k=>by
  let⟨ok,N,e⟩:=st;exact⟨ok,N,k it (by simp) _ e⟩
 item:=by
  intro X r hw Y hc i B s C H E I hf st L;subst r hw Y;let⟨ok,N,O⟩:=st;let⟨D,hi⟩:=L;let⟨vs,A,l,R,n,m,_⟩:=wX I.hok D;cases hd.symm.trans n;obtain⟨z,hz⟩:∃z,ks[i]? = aa z:=⟨_,Bn hi⟩;let⟨x,J,d⟩:=zeO R hz;rw[↥R]at O;refine wpAny_pyNext_items_item O m J λkey h' F S u hsz hk=>?_;refine⟨_,rfl,wpAny_letOwnedTupleGo_items S λp g sb=>?_⟩;have y:H ⇑s=ae:=I.hok.fresh (Ai _);have T:it<⇑s:=Bg O;have f:∀q o,q∉[it]->s.heap.get? q=aa o->p.get? q=aa o:=λq o Z eq=>by
   have Z:q≠it:=by simpa using Z
   exact(sb.2 q Z).trans (hk q o Z eq)
  have Q:p.get? ⇑s=aa {cls:=.type "tuple",data:=.seq [key,x].toArray}:=(sb.2 _ (Ct T)).trans u;have M:Inv X B C (aL H ⇑s (.tup [kV z.1,z.2])) {s with heap:=p,toks:=s.toks}:=I.laidT (its:=[key,x]) hf f (by show 2<=Ax;decide) (.cons (t5 F) (.cons d .nil)) Q;refine⟨.ref ⇑s,_,M,rfl,⟨⇑s,z,hz,y,rfl,rfl⟩,⟨key,x,by rw[↥R];exact g⟩,λq Z=>?_⟩;rw[a9]
  .exact(hf q Z).1
  .cases (by simpa using Z:q=it);exact Br T
 done:=by
  intro X r hw Y hc i B s C H E I hf st L;subst r hw Y;let⟨ok,N,O⟩:=st;let⟨D,rfl⟩:=L;let⟨vs,A,l,R,n,m,_⟩:=wX I.hok D;cases hd.symm.trans n;rw[↥R]at O;refine wpAny_pyNext_items_end (I.ok.hd hc) O m (by simp) λh' hk=>⟨rfl,?_⟩
  exact I.turnedT (tk:=s.toks) hf λq o Z eq=>hk q o (λz=>Z (by simp[z])) eq
 self:=λ_ _ _ _ _ st h=>by
  let⟨ok,N,e⟩:=st;exact PySem.W.kcp_self e h
abbrev rItems:V->↑V->Hp->VK->Prop:=λx vs H Q=>∃a o ks,x=.ref a/\vs=[]/\H a=aa (.frz o (.dK ks))/\∀p,H p=ae->Q (.ref p) (aL H p (.ext λh=>h.IsItemsView p a))
theorem zeQ:fJ X "dict.items" rItems:=by
 rintro B s C H x vs v us Q I d rs ⟨a,o,ks,rfl,rfl,e,q⟩;cases (show v=Value.ref a from d);cases rs;let⟨vs,es,ep,R,hd,m,j⟩:=wX I.hok e;refine Iw PySem.F.slot_dict_items m.dictOf.typeIs PySem.F.entry_dict_items (PySem.F.args_dict_items_1 _) (meets_dict_items (bR X.prog X.w) a j) ⟨⟨vs,m.dictOf⟩,?_⟩;have hf:=I.hok.fresh (Ai ⇑s);exact⟨.ref ⇑s,_,I.laid (a:=⇑s) (o:=.ext λh=>h.IsItemsView ⇑s a) (t':=s.toks) (λ_ _ z=>Ah _ z) (Ai _) ⟨⟨_,Bb _ rfl,rfl,rfl⟩,⟨_,Bb _ rfl⟩,λO L ⟨o,S,r⟩ kk=>⟨o,kk o S,r⟩⟩,rfl,q _ hf⟩
end
section
variable {X:Cx}
abbrev LL(to:aS):gZ:=λU M R=>to U M λd I=>∃kvs,d=.fk kvs/\R (kvs.map λp=>.tup [wK p.1,p.2]) (λ_=>True) I
theorem zeR{K:Ac}{g:Hp}{j:Mm}{a:An}{o:Lv}{ks:↑(aC×V)}{kvs:↑(aC×W)}(v:AM K g j)(e:g a=aa (.frz o (.dK ks)))(J:bQ K g j aC ks kvs):iU K g j (wY a o ks) (kvs.map λp=>.tup [wK p.1,p.2]) λ_=>True:=by
 have st:∀H M,Kp g j H M->H a=aa (.frz o (.dK ks)):=λH M k=>(k.fr _ _ (v.noFrz e) e).1;have hl:=Cw J;refine⟨λi H M k Y _ hi=>⟨st H M k,by rw[Ab]at hi;lia⟩,λH M k Y _=>⟨st H M k,by rw[Ab];lia⟩,λi H M x l k Y _ hi y=>?_⟩;let⟨n,z,hz,hn,rfl,rfl⟩:=y;obtain⟨y,f,D,av⟩:∃y,kvs[i]? = aa y/\z.1=y.1/\AV K g j z.2 y.2:=by
  have:∀{ks:↑(aC×V)} {kvs:↑(aC×W)} {i:Nat},bQ K g j aC ks kvs->ks[i]? = aa z->∃y,kvs[i]? = aa y/\z.1=y.1/\AV K g j z.2 y.2:=by
   intro ks kvs i r
   induction r generalizing i with
   | nil=>intro h;cases h
   | @cons p q ps qs Z t E=>
    intro h;cases i with
    | zero=>cases h;exact⟨q,rfl,Z⟩
    | succ i=>rw[Ep]at h⊢;exact E h
  exact this J hz
 let⟨P,B⟩:=Y.tup (u:=.tup [kV z.1,z.2]) hn;exact⟨.tup [wK y.1,y.2],by rw[Av,f];rfl,B,P,.tup bY (.cons (by rw[D];exact J3 _) (.cons ((av.kp v k).go (go_same hn)) .nil))⟩
theorem zeS{o:Cg}{to:aS}{es:↑Cg}{kx:Nat}{px g f:Hu}(S:E3 X o to)(W:Gu o "items" X.env (Eu o X.env)=Eu o X.env:=by rfl)(y:(g.endLine==f.line)=ab:=by rfl):
  PI X (.Tuple es kx px) (.Call (.Attribute o "items" g) [] [] f) (gB X.K (LL to)):=by
 intro B s C H R' I ⟨U,M,R,J,Y,h,k⟩;refine thn (DM Mu PySem.F.slot_dict_items PySem.F.type_dict_items zeQ S W y B s C H (λx E=>∃p a o ks,x=.ref p/\E p=aa (.ext λh=>h.IsItemsView p a)/\E a=aa (.frz o (.dK ks))/\R' (wY a o ks) E) I ⟨U,M,_,J,Y,h,λd z wd T V j ad ⟨kvs,D,r⟩=>?_⟩) λv l ⟨x,E,i,Z,p,a,o,ks,ex,ep,L,q⟩=>?_
 .subst D;cases ad with
  | @fk a n ks _ e ke q=>
   refine⟨.inr (.inr (.inl ⟨rfl,.inl ⟨_,.inr ⟨_,e⟩⟩⟩)),a,n,ks,rfl,rfl,e,λp N=>?_⟩;let⟨P,t⟩:=j.tup (u:=.ext λh=>h.IsItemsView p a) N;have A:aL z p (.ext λh=>h.IsItemsView p a) a=aa (.frz n (.dK ks)):=(a9 (eO e N)).trans e;exact⟨p,a,n,ks,rfl,bY,A,k _ _ _ _ _ (V.trans t) P (zeR P A (oJ ke (q.newT N))) r⟩
 .subst ex;cases (show v=Value.ref p from Z);have c:l.heap.IsItemsView p a:=(show bZ X.prog X.w E l.heap p (.ext λh=>h.IsItemsView p a) from i.hok p _ ep).1;let⟨vs,O,ep',Q,hd,m,_⟩:=wX i.hok L;have hge:⇑l<=⇑l:=Ai _;refine wpAny_pyIter_items c m ⟨⇑l,[⇑l],_,wY a o ks,E,rfl,i.kept (t':=l.toks) λb o e=>Ah _ e,zeP a _ o ks O ep' hd (Br m.lt_size),⟨.none,.none,by rw[↥Q];exact Bb _ rfl⟩,λb G=>?_,q⟩;cases (by simpa using G:b=⇑l);exact i.fpOk hge (i.hok.fresh hge)
end
section
variable {X:Cx}
theorem zeT:bF X (Eh .Add) (λx y H Q=>∃a b xs,x=.ref a/\y=.ref b/\bU X.K H a []/\bU X.K H b xs/\Q (.ref b) H):=by
 rintro B s C H x y v u Q I d P ⟨a,b,xs,rfl,rfl,m,G,q⟩;cases (show v=Value.ref a from d);cases (show u=Value.ref b from P);obtain⟨its,R,⟨⟨cls,i,data,Z⟩,S,hc,n,hd⟩,_⟩:=I.tuple m;obtain⟨c,e,⟨⟨p,l,o,k⟩,f,h,j,g⟩,_⟩:=I.tuple G;cases R;simp only at hc hd h g;subst hc hd h g;exact Tv ⟨_,S,rfl⟩ ⟨_,f,rfl⟩ Rp Tb Ng Mv (Mi _ _) (tuple_addW0 a b _ c.toArray n j i l Z k rfl) ⟨S,f,.ref b,H,I,rfl,q⟩
theorem zeU:tQ X "list.pop" (λx vs H Q=>∃l y G,x=.ref l/\vs=[.int 0]/\H l=aa (.lst (y::G))/\Q y (aL H l (.lst G))):=by
 intro B s C H x vs v us Q I d R h;let⟨l,y,G,rfl,rfl,g,q⟩:=h;cases d;let⟨b,rfl,a,E⟩:=vals1 R;subst E;let⟨z,its,n,r,hl,e⟩:=I.lstM g;cases r with
 | @cons _ u _ i ru r=>
  refine Kx F.slot_list_pop ⟨_,e,rfl⟩ F.entry_list_pop (F.args_list_pop_2 _ _) (MeetsSeq.list_pop_at l _ n 0 a 0 u ∅ (by simp[Va]) rfl (by rw[Bh];lia)) ⟨e,?_⟩;refine⟨y,_,I.lset (its':=i) g e ?_ r ?_,ru,q⟩
  .rw[List.eraseIdxIfInBounds_toArray];rfl
  .exact Ar (Hg _) z
def LM(K:Ac)(a:An)(xs:↑V):It:=
 ⟨λi H=>bU K H a xs/\i<↥xs,λi H x l=>l=H/\xs.reverse[i]? = aa x,λi H=>bU K H a xs/\i=↥xs⟩
theorem zeV{P:Bc}{w:Bo}{K:Ac}{f:Cg}(a it:An)(xs:↑V)(c:a≠it):jM P w K f (LM K a xs) [it] it (λi h=>Rv.IsRv h it a ((↥xs:Int)-1-(i:Int))) where
 mem:=by simp
 obj:=λi h st b G=>by
  cases (by simpa using G:b=it);exact⟨_,st,λv z=>by cases z⟩
 keep:=λi h h' st k=>k it (by simp) _ st
 item:=by
  intro X r hw Y hc i B s C H E I hf st L;subst r hw Y;let⟨Z,hi⟩:=L;let⟨its,R,p,hz⟩:=I.tuple Z;have hl:=↥R;have J:xs.reverse[i]? = aa xs[↥xs-1-i]:=by rw[List.getElem?_reverse hi];exact Bn (by lia)
  let⟨u,U,ru⟩:=R.get (Bn (l:=xs) (i:=↥xs-1-i) (by lia));let⟨f0,g,O,F,j,y⟩:=hf it (by simp);rw[show(↥xs:Int)-1-(i:Int)=((↥xs-1-i:Nat):Int) by lia]at st;refine Rv.next_item st p (x:=u) (by simpa using U) (by have:=lU;lia) λh' tk m sb=>?_;have M:Inv X B C H {s with heap:=h',toks:=tk}:=I.turned (t':=tk) (λb o G e=>(sb.2 b G).trans e) f0 g F j y;refine⟨u,rfl,pD (s:={s with heap:=h',toks:=tk}) m rfl rfl ∅ ⟨_,H,M,ru,⟨rfl,J⟩,?_,λb G=>(hf b G).1⟩⟩;rw[show(↥xs:Int)-1-((i+1:Nat):Int)=((↥xs-1-i:Nat):Int)-1 by lia];exact m
 done:=by
  intro X r hw Y hc i B s C H E I hf st L;subst r hw Y;let⟨Z,rfl⟩:=L;rw[show(↥xs:Int)-1-(↥xs:Int) = -1 by lia]at st;refine Rv.next_end (I.ok.hd hc) st λh' hk=>⟨rfl,?_⟩
  exact I.turnedT (tk:=s.toks) hf λq o Z eq=>hk q o (λz=>Z (by simp[z])) eq
 self:=λ_ _ _ _ _ st h=>Rv.iter_self st h
theorem zeW(L:Gl X "reversed")(P:X.mg "reversed" = ae)(m:PA X [a] ta)(F:Cp [a] X.env=[(ac,Eu a X.env)]:=by rfl):
  PI X f (.Call (.Name "reversed" p) [a] [] pos) (λC H R=>ta C H λvs z=>∃a xs,vs=[.ref a]/\bU X.K z a xs/\R (LM X.K a xs) z):=by
 intro B s C H R I h;refine Call_ (iJ I L P WE (Cj (thn (m pos B s C H _ I h) λus g Z=>?_) F rfl));let⟨vs,z,M,N,d⟩:=Z;let⟨a,xs,rfl,t,q⟩:=d;let⟨u,rfl,ru⟩:=vals1 N;cases ru;let⟨its,c,pl,hz⟩:=M.tuple t;have hl:=↥c;have W:a<⇑g:=by let⟨o,e,_⟩:=pl;exact Bg e
 refine Rv.call_rev pl (by rw[Bh,<-hl];exact hz) λtk=>?_;have st:Rv.IsRv (g.heap.push (Rv.rvObj a ((its.toArray.size:Int)-1))) ⇑g a ((its.toArray.size:Int)-1):=Bb _ rfl;refine Rv.iter_self st ⟨⇑g,[⇑g],_,_,z,rfl,M.kept (t':=tk) (λb o e=>Ah _ e),zeV a _ xs (Br W),?_,λb G=>?_,q⟩
 .rw[Bh,<-hl]at st;show Rv.IsRv _ _ _ ((↥xs:Int)-1-((0:Nat):Int));rw[show(↥xs:Int)-1-((0:Nat):Int)=(↥xs:Int)-1 by lia,show(its.toArray.size:Int)=(↥xs:Int) by rw[Bh,hl]];exact st
 .cases (by simpa using G:b=⇑g);exact M.fpOk (Ai _) (M.hok.fresh (Ai _))
end
section
variable {X:Cx}{a b:Cg}{ta tb:aS}{pos:Hu}
abbrev nY:R3:=λx y M R=>∃xs G,x=.tup xs/\y=.tup G/\↥xs+↥G<=Ax/\R (.tup (xs++G)) M
theorem zeX:bF X (Eh .Add) (cV X.K nY):=by
 rintro B s C H x y v u Q I d P ⟨t,l,M,R,Y,S,E,⟨xs,G,rfl,rfl,hl,r⟩,k⟩
 by_cases J:xs=[]
 .subst J;refine S.tupE λi w D V n=>E.tupE λF Z A O p=>?_;cases n.nil_;exact zeT B s C H x y v u Q I d P ⟨i,F,Z,D,A,bU.of V,bU.of O,by rw[<-A];exact k.at Y E r⟩
 .exact uZ B s C H x y v u Q I d P ⟨.tup xs,.tup G,M,R,Y,S,E,⟨J,hl,r⟩,k⟩
def LN:W->↑W->Mm->K3->Prop:=λx vs M R=>∃l y G,x=.ref l/\vs=[.int 0]/\M l=aa (.lst (y::G))/\R y (put M l (.lst G))
theorem zeY:fJ X "list.pop" (kA X.K LN):=by
 rintro B s C H x xs v us Q I d rs ⟨n,ws,M,R,Y,S,E,⟨l,y,G,rfl,rfl,e,r⟩,k⟩;let⟨vs,f,q⟩:=Y.lst e;cases q with
 | @cons a j _ _ av q=>
  let⟨z,D,F⟩:=E.one;let⟨P,t⟩:=Y.write (o:=.lst G) (u:=.lst j) e ⟨_,bY,q.wr Y e⟩;exact zeU B s C H x xs v us Q I d rs ⟨l,a,j,S.inv,by rw[D,F.inv],f,k _ _ _ _ t P (av.wr Y e) r⟩
abbrev LO(ta:dG):gZ:=λU M R=>ta U M λws I=>∃d,ws=[.tup d]/\R d.reverse (λ_=>True) I
theorem zeZ(L:Gl X "reversed")(P:X.mg "reversed" = ae)(m:A3 X [a] t)(F:Cp [a] X.env=[(ac,Eu a X.env)]:=by rfl):PI X f (.Call (.Name "reversed" p) [a] [] pos) (gB X.K (LO t)):=
 (zeW L P m F).weak λC H g Z=>Z.el λU M R J Y h k=>⟨U,M,_,J,Y,h,λvs z ws I s j S ⟨d,c,r⟩=>by
  subst c;let⟨v,rfl,av⟩:=S.one;exact av.tupE λb xs T O G=>⟨b,xs,by rw[T],bU.of O,k _ _ _ _ _ s j (by
   have st:∀H M,Kp z I H M->bU X.K H b xs:=λH M k=>bU.of (k.fr _ _ (j.noTup O) O).1;refine⟨λi H M k Y kp hi=>⟨st H M k,by rw[List.length_reverse]at hi;rw[↥G];exact hi⟩,λH M k Y kp=>⟨st H M k,by rw[List.length_reverse,↥G]⟩,λi H M x l k Y kp hi y=>?_⟩;let⟨rfl,y⟩:=y;let⟨w,hw,av⟩:=((G.kp j k).reverse).getV y;exact⟨w,hw,Kp.refl Y,Y,av⟩) r⟩⟩
abbrev LP(ta tb:aS):aS:=λU M R=>∀p,M p=ae->ta U (put M p (.dK [])) λx I=>tb U I λy d=>d p=aa (.dK [])/\∃k:aC,x=wK k/\R (.ref p) (put d p (.dK [(k,y)]))
theorem ze0(m:E3 X a ta)(G:E3 X b tb):E3 X (.Dict [aa a] [b] pos) (LP ta tb):=
 (U0 (DW m G DV) rfl rfl (by simp) (by simp)).weak λC H Q Z=>Z.el λU M R J Y h k=>λp N=>by
  let⟨v,D⟩:=Y.laid (o:=.dK []) (u:=.dK []) N ⟨[],bY,.nil⟩;refine⟨U,_,_,J.kp Y D,v,h p (Y.nonM N),λx z n I s j S O=>⟨U,I,_,(J.kp Y D).kp v s,j,O,λy w l d B P E ⟨e,kk,ex,r⟩=>?_⟩⟩;subst ex;let⟨ks,f,q⟩:=P _ _ e;cases q;let⟨g,t⟩:=P.write (o:=.dK [(kk,l)]) (u:=.dK [(kk,y)]) e ⟨_,bY,.cons ⟨rfl,E.wr P e⟩ .nil⟩;exact⟨f,[(kk,y)],by rw[(S.kp j B).key];rfl,by simp,k _ _ _ _ (((D.trans s).trans B).trans t) g (.ref _) r⟩
end
abbrev CT:=↑(Ay×↑Int)
structure iW(rs:↑aE):Prop where
 ne:rs≠[]
 few:↥rs<=17
 nam:↥(namesOf rs)<=4
 prt:∀r∈rs,↥r.parts<=4
 wds:∃U:↑Ay,↥U<64/\v5 rs U
 shn:∀r∈rs,Sh r.name
 sh:∀r∈rs,∀t∈r.parts,Sh t
theorem iW.gl(g:iW rs):GL rs:=⟨Ar g.few ∅,g.prt,g.wds⟩
theorem iW.few100(g:iW rs):↥rs<=100:=Ar g.few ∅
def fZ(c:CT):↑(aC×W):=c.map λe=>(Sum.inr e.1,W.tup (e.2.map W.int))
def sglB(rs:↑aE)(r:aE):Bool:=match r.parts with
 | [t]=>ownB rs t
 | _=>ac
def numsOf(rs:↑aE)(X:Ay):↑Nat:=(rs.zipIdx.filter λx=>decide (x.1.name=X)).map (·.2)
theorem nZ{n:Nat}:n∈numsOf rs X↔∃r,rs[n]? = aa r/\r.name=X:=by
 unfold numsOf;rw[Ap];constructor
 .rintro⟨⟨r,k⟩,h,rfl⟩;rw[Dq,decide_eq_true_eq]at h;exact⟨r,(Hb.mp h.1),h.2⟩
 .rintro⟨r,h,e⟩;exact⟨(r,n),by rw[Dq,decide_eq_true_eq];exact⟨Hb.mpr h,e⟩,rfl⟩
inductive Rc(rs:↑aE):Ay->Ay->Prop
 | rf {X:Ay}:Rc rs X X
 | st {r:aE} {Y Z:Ay}:r∈rs->r.parts=[Y]->ownB rs Y=ab->Rc rs Y Z->Rc rs r.name Z
theorem Rc.snoc(h:Rc rs X r.name)(T:r∈rs)(e:r.parts=[Y])(o:ownB rs Y=ab):Rc rs X Y:=by
 generalize hz:r.name=Z at h
 induction h with
 | rf=>rw[<-hz];exact .st T e o .rf
 | st a b c _ E=>exact .st a b c (E hz)
def iX(rs:↑aE)(X:Ay)(l:↑Ay):Prop:=∃r∈rs,Rc rs X r.name/\r.parts=l/\sglB rs r=ac/\∀t∈l,dP rs t=ab
def wZ:aY:=λws M R=>∃(rs:↑aE) (X:Ay),ws=[a6 rs,.str X]/\↥rs<=100/\aR ((numsOf rs X).map λ(n:Nat)=>W.int n) M R
def BM:aY:=λws M R=>∃(rs:↑aE) (r:aE),ws=[.dk (ownOf rs),bD r]/\R (.bl (sglB rs r)) M
def LQ:aY:=λws M R=>∃(rs:↑aE) (X:Ay),ws=[a6 rs,.dk (ownOf rs),.str X]/\iW rs/\X∈namesOf rs/\∀c:CT,(∀Z,Z∈c.map (·.1)↔Rc rs X Z)->↥c<=4->(∀e∈c,↥e.2<=1000)->iO (fZ c) M R
def LR:aY:=λws M R=>∃(c:↑Int) (n:Nat) (ps:↑Ay),ws=[.tup (c.map W.int),.int n,.tup (ps.map W.str)]/\↥ps<=1000/\∀v,R v M
def LS(P:Bc)(w:Bo)(C:Cc):aY:=λws M R=>∃(a d dx:An) (l:↑(NP×W)) (rs:↑aE) (X:Ay) (kvs:↑(aC×W)),ws=[.ref a,a6 rs,.str X,.dk kvs]/\j0 P w C.p M a d dx l/\↥l<=50000/\iW rs/\X∈namesOf rs/\(∀t,(aQ kvs (Sum.inr t:aC)).isSome=mG rs ab t)/\∀l',Ex l 68 (λx=>x.1=X/\iX rs X x.2) l'->R .non (put M d (.dn P w [0] (kvsOf l')))
def BN:aY:=λws M R=>∃rs:↑aE,ws=[a6 rs]/\rs≠[]/\∀v,qG [((f0 rs,[f0 rs,f0 rs]),v)] M R
abbrev ze1:↑Ay:=["grammar","name"]
abbrev ze2:aD:=
   (bM (c7 (vB (aA aH aB)) (fV 2 (cI (aV 0) (cI (aV 1) fU))) (bN (aG (eD ac) (vX aM bC) aX)) aH [ae,ae,aa 1]))
abbrev ze3:↑Ay:=["grammar","name","plain"]
abbrev ze4(P:Bc)(w:Bo)(C:Cc):aD:=
   (b7 (d8 C.p "put_rule" (nU P w C.p) aX (aA aM (aA (a8 (aA aM (aA aM aB))) (aA (a8 (aA (a8 (aA bC (aA (a8 (aA bC (aA a7 aB))) aB))) aB)) aB)))))
abbrev ze5(P:Bc)(w:Bo)(C:Cc):aD:=
   (bM (d8 C.p "grammar_and_backs" (qF P w C.p) aX aB))
abbrev ze6(P:Bc)(w:Bo)(C:Cc):aD:=(aF (aN 1 (aW sC (aA aH aB))) (aF (aN 2 (mC C.p (qE P w C.p) aB)) (aF (ze4 P w C) (ze5 P w C))))
abbrev ze7:↑Ay:=["own","rule"]
abbrev ze8:aD:=
   (bM (uE (aG (eD ac) (bH cL (aA (vX aM a7) aB)) a7) (aG (bX ac) (vX (vX aM a7) bC) aH)))
abbrev ze9:↑Ay:=["grammar","own","name","chains","waiting","here","number","part"]
abbrev zfa:aD:=
   (aN 3 (LP aX (a8 aB)))
abbrev zfb:aD:=
   (aN 4 (gA (aA aX aB)))
abbrev zfc:aD:=
   (aF (aN 5 (cR "list" LN bA (aA bC aB)))
   (b9 (bK cA (bE (aW wZ (aA aH (aA cB aB))))) (aV 6)
    (aF (aN 7 (yR (fB (aW BM (aA aM (aA (vX aH cQ) aB)))) (vX (vX (vX aH cQ) a7) bC) cB))
   (cC (bN (aG (bX ab) cD bB))
    (aF (fP (aG nY (vX bB cB) (a8 (aA cQ aB))) (gM bB cD))
   (b7 (cR "list" dU bA (aA cD aB))))
    cX))))
abbrev zfd:aD:=
   (l7 (fB bA) zfc)
abbrev zfe:aD:=
   (bM bB)
abbrev zff:aD:=(aF zfa (aF zfb (aF zfd zfe)))
abbrev zfg:↑Ay:=["chain","number","parts","pieces","single"]
abbrev zfh:aD:=
   (aN 3 (a8 (aA (a8 (aA aM (aA (aW wQ (aA aX aB)) aB))) aB)))
abbrev zfi:aD:=
   (aN 3 (a8 (aA (a8 (aA bA (aA bB aB))) aB)))
abbrev zfj:aD:=
   (b9 (LO (aA aH aB)) (aV 4) zfi)
abbrev zfk:aD:=
   (bM bB)
abbrev zfl:aD:=(aF zfh (aF zfj zfk))
abbrev zfm:↑Ay:=["plain","grammar","name","fruitful","own","here","chain","number","parts","is_fruitful"]
abbrev zfn(P:Bc)(w:Bo)(C:Cc):aD:=
   (aN 4 (aW mH (aA (bE (aW jI (aA aM aB))) aB)))
abbrev zfo(P:Bc)(w:Bo)(C:Cc):aD:=
   (b9 (bK cA (bE (aW wZ (aA aM (aA cB aB))))) (aV 7)
    (aF (aN 8 (vX (vX aM cD) a7))
   (aF (aN 9 (bH uM (aA (bE (c7 (bK cA eZ) (aV 0) eU (oM (aG (bX ac) aH aM) (aG (bX ab) aH aX)) [ae,aa 3,aa 4])) aB)))
   (cC (iR (fB iQ) (rD (fB (aW BM (aA bA (aA (vX aM cD) aB))))))
    (b7 (d8 C.p "put_rule" (nU P w C.p) aH (aA aX (aA eZ (aA (aW LR (aA cQ (aA cD (aA eZ aB)))) aB)))))
    cX))))
abbrev zfp(P:Bc)(w:Bo)(C:Cc):aD:=
   (b9 (LL (sH (aW LQ (aA aM (aA bA (aA aX aB)))))) (fV 2 (cI (aV 5) (cI (aV 6) fU))) (zfo P w C))
abbrev zfq(P:Bc)(w:Bo)(C:Cc):aD:=(aF (zfn P w C) (zfp P w C))
def w5(X:Ay):W->Option W
 | .tup [.int i,.tup (.str n::_)]=>if n=X then aa (.int i) else ae
 | _=>ae
theorem BO(rs:↑aE):∀n:Nat,gO n (rs.map bD)=(rs.zipIdx n).map λx=>W.tup [.int (x.2:Int),bD x.1]:=by
 induction rs with
 | nil=>intro n;rfl
 | cons r rs E=>intro n;rw[Bd,Le,Bd,<-E];rfl
theorem zfr{F:W->Option W}{ws:↑W}{os:↑(Option W)}(h:Ey (λw o=>o=F w) ws os):os.filterMap id=ws.filterMap F:=by
 induction h with
 | nil=>rfl
 | cons a _ E=>rw[a,Ea,Ea,E];rfl
theorem zfs(rs:↑aE)(X:Ay):(gO 0 (rs.map bD)).filterMap (w5 X)=(numsOf rs X).map λ(n:Nat)=>W.int n:=by
 unfold numsOf;rw[BO,Ke,Bm];generalize rs.zipIdx=l
 induction l with
 | nil=>rfl
 | cons x l E=>
  rw[Ea,Ed,E];have e:(w5 X ∘ λx:aE×Nat=>W.tup [.int (x.2:Int),bD x.1]) x=if x.1.name=X then aa (.int x.2) else ae:=rfl;rw[e]
  by_cases h:x.1.name=X
  .rw[Vg h,Vg (Vi h)];rfl
  .rw[Vf h,Vf (by rw[Vj h];decide)]
theorem zft:bG wZ ze2 ze1:=by
 rintro _ M R ⟨rs,X,rfl,hl,r⟩;refine zN (rest:=[aa (.str X)]) (λw o=>o=w5 X w) (λw hw=>?_) (small (by rw[mB,Ab];lia)) (λ_ _=>trivial) (λa b P V C D sb O L=>?_) λos po=>?_
 .rw[BO]at hw;let⟨x,_,rfl⟩:=Ap.mp hw;exact⟨_,_,rfl⟩
 .rw[BO]at P;obtain⟨⟨q,k⟩,J,e⟩:=Ap.mp P;cases e;have ep:w5 X (.tup [.int (k:Int),bD q])=if q.name=X then aa (.int k) else ae:=rfl;exact bS (b:=decide (q.name=X)) (λz=>O _ (by rw[ep,Vg (Vh z)])) λz=>L (by rw[ep,Vf (of_decide_eq_false z)])
 .rw[zfr po,zfs];exact λp N=>⟨_,aP,r p N⟩
theorem zfu:bG BM ze8 ze7:=by
 rintro _ M R ⟨rs,⟨nm,ps,c⟩,rfl,r⟩
 match ps,r with
 | [],r=>exact⟨_,aP,r⟩
 | [t],r=>
  have e:sglB rs ⟨nm,[t],c⟩=(aQ (ownOf rs) (Sum.inr t:aC)).isSome:=(mK rs t).symm;rw[e]at r;exact⟨_,⟨Sum.inr t,rfl,rfl⟩,_,aP,r⟩
 | a::b::l,r=>exact⟨_,aP,r⟩
theorem zfv:bG LR zfl zfg:=by
 rintro _ M R ⟨c,n,ps,rfl,hl,r⟩;refine⟨ps,rfl,hl,_,rfl,?_⟩;refine dX (λi U V=>∃v o,U=[aa (.tup (c.map W.int)),aa (.int n),aa (.tup (ps.map W.str)),aa v,o]/\V=M) ⟨_,_,rfl,rfl⟩ ?_ ?_
 .rintro i w U V hw ⟨v,o,rfl,rfl⟩;exact⟨_,aP,_,_,rfl,rfl⟩
 .rintro U V ⟨v,o,rfl,rfl⟩;exact⟨_,aP,r v⟩
theorem BP(c:CT)(Z:Ay):aQ (fZ c) (Sum.inr Z:aC)=(b8 c Z).map λv=>W.tup (v.map W.int):=by
 unfold fZ aQ b8
 induction c with
 | nil=>rfl
 | cons e c ih=>
  rw[Bd,Cq,Cq]
  by_cases h:e.1=Z
  .rw[Vi h,Vi (show(Sum.inr e.1:aC)=Sum.inr Z by rw[h])];rfl
  .rw[Vj h,Vj (λz:(Sum.inr e.1:aC)=Sum.inr Z=>h (Pu z))];exact ih
theorem zfw{c:CT}{Z:Ay}(h:b8 c Z=ae)(v:↑Int):bW (fZ c) (Sum.inr Z:aC) (.tup (v.map W.int))=fZ (c++[(Z,v)]):=by
 unfold bW;rw[Vf (by rw[show((fZ c).any λkv=>decide (kv.1=(Sum.inr Z:aC)))=(aQ (fZ c) (Sum.inr Z:aC)).isSome from jW _ _,BP,h];decide)];unfold fZ;rw[Aw];rfl
abbrev zfx:aD:=cC (bN (aG (L2.bX ab) cD bB)) (aF (fP (aG nY (aG L2.oN bB cB) (a8 (aA cQ aB))) (gM bB cD)) (b7 (cR "list" L2.dU bA (aA cD aB)))) cX
structure g9(rs:↑aE)(X:Ay)(m:Nat)(E:aE->Prop)(ch:CT)(wt:↑Ay):Prop where
 nd:(ch.map (·.1)).Nodup
 rc:∀k∈ch.map (·.1),Rc rs X k
 own:∀k∈ch.map (·.1),k∈namesOf rs
 wk:∀k∈wt,k∈ch.map (·.1)
 top:X∈ch.map (·.1)
 cl:∀r∈rs,∀Y,r.parts=[Y]->ownB rs Y=ab->r.name∈ch.map (·.1)->r.name∈wt\/E r\/Y∈ch.map (·.1)
 len:∀e∈ch,↥e.2<=↥ch
 ms:↥wt+↥(namesOf rs)=↥ch+m
 mn:m<=↥(namesOf rs)
theorem g9.few{m:Nat}{E:aE->Prop}(I:g9 rs X m E ch wt):↥ch<=↥(namesOf rs):=by
 have:=len_sub I.nd I.own;rwa [Ab]at this
theorem g9.to{m:Nat}{E l:aE->Prop}(I:g9 rs X m E ch wt)(h:∀r∈rs,∀Y,r.parts=[Y]->ownB rs Y=ab->E r->l r\/Y∈ch.map (·.1)):g9 rs X m l ch wt:=
 ⟨I.nd,I.rc,I.own,I.wk,I.top,λr T Y e o hk=>(I.cl r T Y e o hk).imp_right λz=>z.elim (h r T Y e o) .inr,I.len,I.ms,I.mn⟩
theorem g9.add{rs:↑aE}{X y:Ay}{m:Nat}{E:aE->Prop}{ch:CT}{wt:↑Ay}{v:↑Int}(I:g9 rs X m E ch wt)(f:y∈namesOf rs)(hc:Rc rs X y)(hn:b8 ch y=ae)(c:↥v<=↥ch+1):g9 rs X m E (ch++[(y,v)]) (wt++[y]):=by
 have hn:y∉ch.map (·.1):=λz=>by rw[<-gS,hn]at z;cases z
 have e:↥(ch++[(y,v)])=↥ch+1:=Ak;have Q:(ch++[(y,v)]).map (·.1)=ch.map (·.1)++[y]:=Aw;have all:∀{p:Ay->Prop},(∀k∈ch.map (·.1),p k)->p y->∀k∈(ch++[(y,v)]).map (·.1),p k:=λO L k hk=>by
  rw[Q]at hk;rcases Ba.mp hk with h|h
  .exact O k h
  .rw[Af.mp h];exact L
 refine⟨?_,all I.rc hc,all I.own f,λk hk=>?_,by rw[Q];exact Be _ I.top,λr T Y e o hk=>?_,λx J=>?_,?_,I.mn⟩
 .rw[Q,Cd];exact⟨I.nd,by simp,λa g b G z=>hn (by rw[<-Af.mp G,<-z];exact g)⟩
 .rw[Q];rcases Ba.mp hk with h|h
  .exact Be _ (I.wk k h)
  .exact Bi _ h
 .rw[Q]at hk⊢;rcases Ba.mp hk with h|h
  .exact(I.cl r T Y e o h).imp (Be _) λz=>z.imp_right (Be _)
  .exact .inl (Bi _ h)
 .rw[e];rcases Ba.mp J with h|h
  .exact My (I.len x h)
  .rw[Af.mp h];exact c
 .have:=I.ms;rw[e,Ak,Dl];lia
theorem g9.done{m:Nat}(I:g9 rs X m (λ_=>False) ch [])(Z:Ay):Z∈ch.map (·.1)↔Rc rs X Z:=by
 refine⟨I.rc Z,λh=>?_⟩;have:∀{A B},Rc rs A B->A∈ch.map (·.1)->B∈ch.map (·.1):=λh=>by
  induction h with
  | rf=>exact id
  | st a b c _ E=>exact λk=>E (((I.cl _ a _ b c k).resolve_left λz=>nomatch z).resolve_left id)
 exact this h I.top
theorem zfy:bG LQ zff ze9:=by
 rintro _ M R ⟨rs,X,rfl,g,hX,r⟩;have hf:=g.few;have hnm:=g.nam;refine λp hp=>⟨aJ,Sum.inr X,rfl,?_⟩
 rw[cJ];refine λq hq=>?_;have hpq:q≠p:=λe=>by rw[e,aJ]at hq;cases hq
 have hq0:M q=ae:=by rw[aT hpq]at hq;exact hq
 have atp:∀{A B:MO},put (put M p A) q B p=aa A:=λ{A B}=>by rw[aT (Bx hpq),aJ]
 have setp:∀{A A' B:MO},put (put (put M p A) q B) p A'=put (put M p A') q B:=λ{A A' B}=>by rw[oI hpq,cJ]
 refine⟨λm τ M'=>∃ch wt o5 o6 o7,τ=[aa (a6 rs),aa (.dk (ownOf rs)),aa (.str X),aa (.ref p),aa (.ref q),o5,o6,o7]/\M'=put (put M p (.dK (fZ ch))) q (.lst (wt.map W.str))/\g9 rs X m (λ_=>False) ch wt,
  ⟨_,[(X,[])],[X],_,_,_,rfl,rfl,⟨by simp,λk hk=>by rw[Af.mp hk];exact .rf,λk hk=>by rw[Af.mp hk];exact hX,λ_ h=>h,Af.mpr rfl,λr _ Y _ _ hk=>.inl hk,λe he=>by rw[Af.mp he];exact Cn _,rfl,Ai _⟩⟩,?_⟩
 rintro m τ M' ⟨ch,wt,o5,o6,o7,rfl,rfl,I⟩;refine .inl ⟨_,aJ,bS (λh=>?_) λh=>?_⟩
 .cases wt with
  | nil=>cases h
  | cons hr wt=>
  have hms:(↥wt+1)+↥(namesOf rs)=↥ch+m:=I.ms;have hcl:=I.few;obtain⟨m,rfl⟩:∃m',m=m'+1:=⟨m-1,by lia⟩;have Ip:g9 rs X m (λr=>r.name=hr) ch wt:=⟨I.nd,I.rc,I.own,λk h=>I.wk k (Bj _ h),I.top,λr h Y e o hk=>(I.cl r h Y e o hk).elim (λz=>(Au.mp z).elim (λz=>.inr (.inl z)) .inl) λz=>.inr (.inr (z.resolve_left id)),I.len,by lia,by have:=I.mn;lia⟩;have hh:hr∈ch.map (·.1):=I.wk hr Bl;refine⟨fD aJ,_,_,_,rfl,rfl,aJ,?_⟩;rw[cJ];refine⟨rs,hr,rfl,by lia,aR.frz ?_⟩;refine dX (λj τ M'=>∃ch2 wt2 o6 o7,τ=[aa (a6 rs),aa (.dk (ownOf rs)),aa (.str X),aa (.ref p),aa (.ref q),aa (.str hr),o6,o7]/\M'=put (put M p (.dK (fZ ch2))) q (.lst (wt2.map W.str))/\g9 rs X m (λr=>r.name=hr/\∀n∈(numsOf rs hr).take j,rs[n]?≠aa r) ch2 wt2/\hr∈ch2.map (·.1)) ⟨ch,wt,_,_,rfl,rfl,Ip.to (λ_ _ _ _ _ z=>.inl ⟨z,λ_ h=>nomatch h⟩),hh⟩ ?_ ?_
  .rintro j x τ M' hx ⟨ch2,wt2,o6,o7,rfl,rfl,I2,hh2⟩;rw[Av]at hx;let⟨n,hn,rfl⟩:=Az.mp hx;have hc2:=I2.few;have hms2:=I2.ms;have hmn2:=I2.mn;let⟨ru,hru,en⟩:=nZ.mp (Ao hn);let⟨ru',h1,h2⟩:=lI (rs:=rs) (n:=n) (Am.mp hru).1;cases (show aa ru'=aa ru from h1.symm.trans hru);let⟨v,hv⟩:=Ef.mp (gS.mpr hh2);have hvl:↥v<=↥ch2:=by
    let⟨a,b,e3⟩:=vM hv;exact I2.len (hr,v) (by rw[e3];simp)
   have fin:∀{D:D3} {y:Ay},y∈namesOf rs->Rc rs X y->(∀Y,ru.parts=[Y]->ownB rs Y=ab->Y=y)->(∀ch3 wt3,g9 rs X m (λr=>r.name=hr/\∀n∈(numsOf rs hr).take (j+1),rs[n]?≠aa r) ch3 wt3->hr∈ch3.map (·.1)->D.nx [aa (a6 rs),aa (.dk (ownOf rs)),aa (.str X),aa (.ref p),aa (.ref q),aa (.str hr),aa (.int n),aa (.str y)] (put (put M p (.dK (fZ ch3))) q (.lst (wt3.map W.str))))->zfx D [aa (a6 rs),aa (.dk (ownOf rs)),aa (.str X),aa (.ref p),aa (.ref q),aa (.str hr),aa (.int n),aa (.str y)] (put (put M p (.dK (fZ ch2))) q (.lst (wt2.map W.str))):=λ{D y} hy hyc hyY k=>by
    have nx:∀{ch3 wt3},g9 rs X m (λr=>r.name=hr/\∀n∈(numsOf rs hr).take j,rs[n]?≠aa r) ch3 wt3->y∈ch3.map (·.1)->g9 rs X m (λr=>r.name=hr/\∀n∈(numsOf rs hr).take (j+1),rs[n]?≠aa r) ch3 wt3:=λI3 h3=>I3.to λr h Y e o z=>by
     by_cases er:rs[n]? = aa r
     .rw[hru]at er;cases er;exact .inr (hyY Y e o▸h3)
     .refine .inl ⟨z.1,λn' hn'=>?_⟩;rw[Cb,hn]at hn';rcases Ba.mp hn' with q|q
      .exact z.2 n' q
      .rw[Af.mp q];exact er
    refine .inr ⟨_,.inl ⟨fZ ch2,Sum.inr y,atp,rfl,rfl⟩,?_⟩;show if (!(aQ (fZ ch2) (Sum.inr y:aC)).isSome)=ab then _ else _;rw[BP,Ki];refine bS (λhn=>?_) λhn=>k ch2 wt2 (nx I2 (gS.mp (by rw[<-Ga (b8 ch2 y).isSome,hn];rfl))) hh2;have hn:b8 ch2 y=ae:=by
     cases e:b8 ch2 y with
     | none=>rfl
     | some z=>rw[e]at hn;cases hn
    refine FY (.inl ⟨fZ ch2,Sum.inr hr,atp,rfl,(by rw[BP,hv];rfl)⟩) ⟨_,_,rfl,rfl,?_,rX atp (by unfold fZ;rw[Ab];exact cS (by lia)) ?_⟩
    .exact small (by rw[Ab];show ↥v+1<=10000000;lia)
    .rw[show W.tup (v.map W.int++[W.int n])=.tup ((v++[(n:Int)]).map W.int) by rw[Aw];rfl,zfw hn,setp];refine⟨fD aJ,_,aJ,cS (by rw[Ab];lia),?_⟩;rw[cJ,show(Sz W.str wt2++[W.str y])=Sz W.str (wt2++[y]) by rw[Aw];rfl];exact k _ _ (nx (I2.add hy hyc hn (by rw[Ak];exact Ee hvl)) (by rw[Aw];exact Bi _ (.head _))) (by rw[Aw];exact Be _ hh2)
   refine so.of h2 ⟨rs,ru,rfl,bS (b:=sglB rs ru) (λhs1=>?_) λhs1=>?_⟩
   .obtain⟨t,et,ot⟩:∃t,ru.parts=[t]/\ownB rs t=ab:=by
     unfold sglB at hs1;split at hs1
     .rename_i t e;exact⟨t,e,hs1⟩
     .cases hs1
    refine so.of h2 (so.of (o:=bT (ru.parts.map W.str) 0) (a:=.str t) (by rw[et];rfl) (fin (Vh ot) ((en▸I2.rc _ hh2:Rc rs X ru.name).snoc (Ao hru) et ot) (λY e _=>by rw[et]at e;cases e;rfl) λch3 wt3 I3 hh3=>?_));exact⟨_,aP,ch3,wt3,_,_,rfl,rfl,I3,hh3⟩
   .refine fin (I2.own _ hh2) (I2.rc _ hh2) (λY e o=>by unfold sglB at hs1;rw[e]at hs1;exact absurd o (by rw[show ownB rs Y=ac from hs1];decide)) λch3 wt3 I3 hh3=>?_;exact⟨_,aP,ch3,wt3,_,_,rfl,rfl,I3,hh3⟩
  .rintro τ M' ⟨ch2,wt2,o6,o7,rfl,rfl,I2,_⟩;rw[Ab,Bp]at I2;refine⟨m,_,Ih m,aP,ch2,wt2,_,_,_,rfl,rfl,I2.to λr h Y _ _ z=>?_⟩;let⟨n,hn⟩:=Hs h;exact absurd hn (z.2 n (nZ.mpr ⟨r,hn,z.1⟩))
 .have hcl:=I.few;cases wt with
  | cons _ _=>cases h
  | nil=>
  refine⟨_,?_,r ch I.done (by lia) (λe he=>Ar (I.len e he) (by lia)) p hp⟩;exact Sub.new (by rw[aT hpq];exact hq0)
theorem LU(h:M d=aa o):put M d o=M:=by
 funext b
 by_cases e:b=d
 .subst e;rw[aJ,h]
 .rw[aT e]
theorem BQ{ts:↑Ay}{rest:S3}{m:aS}{o:Option W}{keep:Mm->Prop}{M:Mm}{R:K3}(f:Ay->Bool)(hl:↥ts<=1000)(hk:∀M,keep M)(F:∀t∈ts,∀V (C:K3),L2.Sub M V->C (.bl (f t)) V->m (aa (.str t)::rest) V C)(r:R (.rl (bools (ts.map f))) M):
  gN (ts.map W.str) keep (aV 0) eU m (o::rest) M λw V=>frz w V R:=by
 refine rW (rest:=rest) (λw y=>∃t,w=.str t/\y=.bl (f t)) (small (by rw[Ab];lia)) (λ_ _=>hk _) (λw hw V C sb O=>?_) λG po=>aR.frz ?_
 .let⟨t,ht,rfl⟩:=Ap.mp hw;exact F t ht V C sb (O _ ⟨t,rfl,rfl⟩)
 .have e:G=bools (ts.map f):=by
   clear F r hl
   induction ts generalizing G with
   | nil=>cases po;rfl
   | cons t ts E=>
    cases po with
    | cons a b=>
     let⟨t',D,rfl⟩:=a;cases D;rw[E _ b];rfl
  rw[e];exact r
theorem w6(rs:↑aE)(X:Ay):↥(numsOf rs X)<=↥rs:=by
 unfold numsOf;rw[Ab];exact Ar (Fw _ _) (Qd (List.length_zipIdx))
section
variable {P:Bc}{w:Bo}{C:Cc}
theorem j0.putD(pl:j0 P w c M a d dx l)(o:↑(NP×W)):j0 P w c (put M d (.dn P w [0] (kvsOf o))) a d dx o:=⟨by
 have:a≠d:=λe=>by have O:=pl.ob;rw[e,pl.di]at O;cases O
 rw[aT this];exact pl.ob,aJ⟩
def BR(rs:↑aE)(X:Ay)(n:Nat)(x:NP):Prop:=x.1=X/\∃r,rs[n]? = aa r/\r.parts=x.2/\sglB rs r=ac/\∀t∈r.parts,dP rs t=ab
theorem zfz:bG (LS P w C) (zfq P w C) zfm:=by
 rintro _ M R ⟨a,d,dx,l,rs,X,kvs,rfl,pl,hl,g,hX,hkv,r⟩;have hf:=g.few;have hnl:=g.nam;refine⟨rs,rfl,by lia,aR.frz ⟨namesOf rs,rfl,by lia,rs,X,rfl,g,hX,λc hcX hc4 hcl p0 hp0=>⟨p0,rfl,.inl ⟨_,aJ,?_⟩⟩⟩⟩;rw[jQ hp0];refine⟨_,rfl,?_⟩;refine dX (λi τ M'=>∃l1 o5 o6 o7 o8 o9,τ=[aa (.ref a),aa (a6 rs),aa (.str X),aa (.dk kvs),aa (.dk (ownOf rs)),o5,o6,o7,o8,o9]/\M'=put M d (.dn P w [0] (kvsOf l1))/\Ex l (17*i) (λx=>∃e∈c.take i,∃n∈numsOf rs e.1,BR rs X n x) l1) ⟨l,_,_,_,_,_,rfl,(LU pl.di).symm,Ex.start⟩ ?_ ?_
 .rintro i v τ M' hv ⟨l1,o5,o6,o7,o8,o9,rfl,rfl,g1⟩;rw[Av]at hv;let⟨e',he',rfl⟩:=Az.mp hv;unfold fZ at he';rw[Av]at he';obtain⟨⟨Z,ci⟩,he,rfl⟩:=Az.mp he';have hi:=(Am.mp he).1;have g1l:=g1.len;show _/\_;refine⟨rfl,rfl,rs,Z,rfl,by lia,aR.frz ?_⟩;refine dX (λj τ M'=>∃l2 o7 o8 o9,τ=[aa (.ref a),aa (a6 rs),aa (.str X),aa (.dk kvs),aa (.dk (ownOf rs)),aa (.str Z),aa (.tup (ci.map W.int)),o7,o8,o9]/\M'=put M d (.dn P w [0] (kvsOf l2))/\Ex l1 (1*j) (λx=>∃n∈(numsOf rs Z).take j,BR rs X n x) l2) ⟨l1,_,_,_,rfl,rfl,Ex.start⟩ ?_ ?_
  .rintro j y τ M' hy ⟨l2,o7,o8,o9,rfl,rfl,g2⟩;rw[Av]at hy;let⟨n,hn,rfl⟩:=Az.mp hy;let⟨ru,hru,en⟩:=nZ.mp (Ao hn);let⟨ru',h1,h2⟩:=lI (rs:=rs) (n:=n) (Am.mp hru).1;cases (show aa ru'=aa ru from h1.symm.trans hru);have hpr:=g.prt ru (Ao hru);have hjl:=Bv (Am.mp hn).1 (w6 rs Z);have g2l:=g2.len;have no:(ru.parts.all (dP rs)=ab->sglB rs ru=ab)->Ex l1 (1*(j+1)) (λx=>∃n∈(numsOf rs Z).take (j+1),BR rs X n x) l2:=λhno=>g2.step hn (.no λx z0=>by
    let⟨_,q,hq,_,h3,h4⟩:=z0;rw[hru]at hq;cases hq;rw[hno (Fj.mpr h4)]at h3;cases h3)
   refine so.of h2 ?_;refine BQ (rest:=[aa (.dk kvs),aa (.dk (ownOf rs))]) (dP rs) (by lia) (λ_=>trivial) (λt ht M' C sb h1=>?_) ?_
   .unfold dP at h1;rw[<-hkv]at h1;refine⟨_,⟨Sum.inr t,rfl,rfl⟩,bS (b:=(aQ kvs (Sum.inr t:aC)).isSome) (λz=>by rw[z]at h1;exact h1) λz=>⟨_,⟨Sum.inr t,rfl,rfl⟩,?_⟩⟩;rw[z,Na,<-mK]at h1;exact h1
   refine⟨_,rfl,?_⟩;have e2:(ru.parts.map (dP rs)).all id=ru.parts.all (dP rs):=by rw[Mb];rfl
   rw[e2];refine bS (b:=ru.parts.all (dP rs)) (λha=>?_) λha=>⟨_,aP,l2,_,_,_,rfl,rfl,no λz=>by rw[ha]at z;cases z⟩
   refine so.of h2 ⟨rs,ru,rfl,bS (b:=!sglB rs ru) (λhs=>?_) λhs=>?_⟩
   .refine mI (pl.putD l2).ob nV ⟨ci,n,ru.parts,rfl,by lia,λv=>⟨a,d,dx,l2,(X,ru.parts),v,rfl,pl.putD l2,by lia,λl' g'=>⟨_,aP,l',_,_,_,rfl,cJ,g2.step hn (g'.cg λx=>⟨?_,?_⟩)⟩⟩⟩
    .rintro rfl;exact⟨rfl,ru,hru,rfl,Bool.not_eq_true' _▸hs,Fj.mp ha⟩
    .rintro⟨rfl,q,hq,h3,_⟩;rw[hru]at hq;cases hq;rw[h3]
   .exact⟨_,aP,l2,_,_,_,rfl,rfl,no λ_=>by cases q:sglB rs ru;rw[q]at hs;cases hs;rfl⟩
  .rintro τ M' ⟨l2,o7,o8,o9,rfl,rfl,g2⟩;rw[Ab,Bp]at g2;have:=w6 rs Z;exact⟨_,aP,l2,_,_,_,_,_,rfl,rfl,g1.step he (g2.le (by lia))⟩
 .rintro τ M' ⟨l1,o5,o6,o7,o8,o9,rfl,rfl,g1⟩;have e:↥((fZ c).map λp=>W.tup [wK p.1,p.2])=↥c:=by unfold fZ;rw[Ab,Ab]
  rw[e,Bp]at g1;refine⟨_,aP,r l1 ((g1.le (by lia)).cg λx=>⟨?_,?_⟩)⟩
  .rintro⟨e,he,n,hn,h1,q,hq,h2,h3⟩;let⟨q',hq',en⟩:=nZ.mp hn;rw[hq]at hq';cases hq';exact⟨h1,q,Ao hq,(hcX _).mp (Ap.mpr ⟨e,he,en.symm⟩),h2,h3.1,h2▸h3.2⟩
  .rintro⟨h1,q,hq,hc,h2,h3,h4⟩;let⟨e,he,en⟩:=Ap.mp ((hcX _).mpr hc);let⟨n,hn⟩:=Hs hq;exact⟨e,he,n,nZ.mpr ⟨q,hn,en.symm⟩,h1,q,hn,h2,h3,h2▸h4⟩
theorem zfA:bG BN (ze6 P w C) ze3:=by
 rintro _ M R ⟨rs,rfl,hn,r⟩;obtain⟨J,l,rfl⟩:∃q l,rs=q::l:=by
  cases rs with
  | nil=>exact absurd rfl hn
  | cons q l=>exact⟨q,l,rfl⟩
 refine⟨J,l,rfl,λa dx m y j=>⟨a,dx,rfl,aJ,λd hd=>⟨rfl,?_⟩⟩⟩;have n:a≠d:=λe=>by rw[<-e,aJ]at hd;cases hd
 rw[aT (Bx n)]at hd;rw[Bt.first n];refine mI (Bt.pl n).ob nV ⟨a,d,dx,[],(J.name,[J.name,J.name]),_,rfl,Bt.pl n,Cn _,λo g=>?_⟩;rw[Bt.put];let⟨v,rfl⟩:=g.one (λh=>nomatch h);exact mI (Bt.pl n).ob sN ⟨a,d,dx,_,rfl,Bt.pl n,λp q N Z ne=>BH m hd n (r v) p q N Z ne⟩
end
section
variable {X:Cx}{a:Cg}{ta:TA}{p p2 pos pos2:Hu}
def zfB(ta:TA):TE:=λZ H Q=>ta Z H λvs z=>∃n:Nat,vs=[.int n]/\n<=1000/\∀q,z q=ae->Q (.ref q) (aL z q (.lst ((Ci n).map λ(i:Nat)=>V.int i)))
theorem zfC(hc:X.calm=ab)(hg:Gl X "list")(hm:X.mg "list" = ae)(hg2:Gl X "range")(hm2:X.mg "range" = ae)(ha:PA X [a] ta)(hs1:Cp [.Call (.Name "range" p2) [a] [] pos2] X.env=[(ac,Eu (.Call (.Name "range" p2) [a] [] pos2) X.env)]:=by rfl)(hs2:Cp [a] X.env=[(ac,Eu a X.env)]:=by rfl):
  PE X (.Call (.Name "list" p) [.Call (.Name "range" p2) [a] [] pos2] [] pos) (zfB ta):=by
 intro af s Z H Q I h;refine Ej (iJ I hg hm (by decide +kernel:Cr "list" = aa (.type "list")) (Cj ?_ hs1 rfl));rw[hs1];refine Me (Ej (iJ I hg2 hm2 (by decide +kernel:Cr "range" = aa (.type "range")) (Cj (thn (ha pos2 af s Z H _ I h) λus s1 z0=>?_) hs2 rfl)));let⟨vs,H1,I1,r1,q1⟩:=z0;let⟨n,rfl,hn,q⟩:=q1;let⟨u,rfl,ru⟩:=vals1 r1;let⟨t,rfl⟩:=ru;refine Tw (Ml ?_);have sz:Hm 0 (n:Int) 1=(n:Nat):=by rw[Tc];split<;>lia
 refine call_list_range (n:=n) (b:=(n:Int)) (I1.ok.hd hc) (Sm _ _ _ _ _ _ _) (PySem.small_one ∅ ∅ (by lia) (by lia)) sz (by lia) λh' tk acc c hk hS hacc=>?_;have up:∀b o,s1.heap.get? b=aa o->h'.get? b=aa o:=λb o e=>hk b o (Ah _ e);have ez:(s1.heap.push {cls:=.type "range",data:=.fields #[.int 0 0,.int (n:Int) t,.int 1 0]}).objs.size=⇑s1+1:=Gp _ _;refine⟨.ref _,_,I1.laid (o:=.lst ((Ci n).map λ(i:Nat)=>V.int i)) (t':=tk) up ?_ ⟨by simp[Jq];lia,acc.toList,c,?_,by rw[Hr];exact hS⟩,rfl,q _ (I1.hok.fresh ?_)⟩
 .first|exact Hf (Nat.lt_of_lt_of_eq (Ih _) (Gp _ _).symm)|(rw[Gp];exact Hg _)
 .refine qV (by simp[hacc.1]) λj v hv=>?_;have hv':acc[j]? = aa v:=by simpa using hv
  let⟨t',rfl⟩:=hacc.2 j v hv';have hj:j<n:=by have:=(Jc.mp hv').1;rw[hacc.1]at this;exact this
  refine⟨.int j,?_,t',by simp⟩;simp[hj]
 .first|exact Hf (Nat.lt_of_lt_of_eq (Ih _) (Gp _ _).symm)|(rw[Gp];exact Hg _)
end
section
variable {X:Cx}{a:Cg}{ta:aS}
def LV(ta:aS):aS:=λU M R=>ta U M λw I=>∃n:Nat,w=.int n/\n<=1000/\aR ((Ci n).map λ(i:Nat)=>W.int i) I R
theorem zfD(L:Gl X "list")(P:X.mg "list" = ae)(x:Gl X "range")(y:X.mg "range" = ae)(m:E3 X a ta)(hc:X.calm=ab:=by rfl)(G:Cp [.Call (.Name "range" p2) [a] [] pos2] X.env=[(ac,Eu (.Call (.Name "range" p2) [a] [] pos2) X.env)]:=by rfl)(D:Cp [a] X.env=[(ac,Eu a X.env)]:=by rfl):
  E3 X (.Call (.Name "list" p) [.Call (.Name "range" p2) [a] [] pos2] [] pos) (LV ta):=
 (zfC hc L P x y (eC m e8 (D.trans rfl)) G D).weak λZ H Q B=>B.el λU M R g Y h k=>⟨U,M,λws I=>∃n:Nat,ws=[.int n]/\n<=1000/\aR ((Ci n).map λ(i:Nat)=>W.int i) I R,g,Y,(show aA ta aB U M _ from(show ta U M _ from by
  refine(id h:ta U M _) |> λz=>?_
  exact Eq.mp (congrArg (ta U M) (funext λw=>funext λI=>propext ⟨λ⟨n,e,r⟩=>⟨n,by rw[e],r⟩,λ⟨n,e,r⟩=>⟨n,(Qx e).1,r⟩⟩)) z)),λvs J ws I s j S ⟨n,e,hn,r⟩=>by
  subst e;let⟨v,rfl,av⟩:=S.one;obtain rfl:=av.inv;refine⟨n,rfl,hn,λq T=>gY j (k.kp s) T ?_ r⟩;have:∀l:↑Nat,aK X.K J I (l.map λ(i:Nat)=>V.int i) (l.map λ(i:Nat)=>W.int i):=by
   intro l
   induction l with
   | nil=>exact .nil
   | cons i r E=>exact .cons (.int _) E
  exact this _⟩
end
abbrev En:=cF×c0×Nat×↑Int
structure BS(G:Sr)(pre:dB)(e:En)(r:aE):Prop where
 no:b8 pre e.1=ae
 ru:G.rs[e.2.2.1]? = aa r
 fa:e.1=(r.name,e.2.2.2.headD 0,e.2.2.2.getLastD 0)
 ln:↥r.parts+1<=↥e.2.2.2
 pn:∀k t,r.parts[k]? = aa t->G.own t=ab->(b8 pre (t,e.2.2.2.getD k 0,e.2.2.2.getD (k+1) 0)).isSome=ab
def w9(G:Sr)(B:dB):Prop:=∀pre e post,B=pre++e::post->∃r,BS G pre e r
theorem zfE(F:mF G B):w9 G B:=λpre e post j=>by
 let⟨r,O,L,h3,D,f⟩:=F.bs pre e post j;have z:∀k,e.2.2.2.getD k 0=0:=λk=>by
  rw[h3,List.getD_eq_getElem?_getD,List.getElem?_replicate];split<;>rfl
 refine⟨r,Option.not_isSome_iff_eq_none.mp λh=>f ?_,O,?_,by rw[h3,Iv];exact Ai _,λk t ht S=>?_⟩
 .rw[L]at h;exact gS.mp h
 .rw[L,h3,show(rep (↥r.parts+1)).getLastD 0=0 by rw[List.getLastD_eq_getLast?,List.getLast?_replicate];rfl];rfl
 .rw[z,z,gS];have:=D t (Ao ht);unfold eE at this;rwa [Vg S]at this
def qI(G:Sr)(n:Nat):↑Ay:=((G.rs[n]?).map aE.parts).getD []
section
variable {X:Cx}{tg a b c:Cg}
def LW:↑W->Mm->K3->Prop
 | [.bl b],M,R=>R (.int (if b then 1 else 0)) M
 | _,_,_=>False
theorem zfF:cN X (.type "int") (eR X.K LW):=by
 rintro af s Z H xs us Q I rs ⟨ws,M,R,Y,E,h,k⟩
 match ws,h with
 | [.bl b],h=>
  let⟨v,rfl,av⟩:=E.one;obtain rfl:=av.inv;cases rs with
  | cons r l=>
   cases l;cases r;exact call_int_bool ⟨.int _,H,I.kept λ_ _ e=>e,⟨_,rfl⟩,k.at Y (.int _) h⟩
end
abbrev LX(row:↑Ay):W:=.rl (row.map W.str)
def iY(fs:↑cF):↑(↑aC×W):=fs.map λf=>(fK f,.bl ab)
def pB(row:↑Ay):↑(↑aC×W):=(row.zipIdx).map λx=>([Sum.inr x.1,Sum.inl (x.2:Int)],.rl [.tup [.int ((x.2:Int)+1),.int 0]])
def LY:aY:=λws M R=>∃row:↑Ay,ws=[LX row]/\↥row<=60/\aR ((Ci (↥row+1)).map λ(i:Nat)=>W.int i) M R
def LZ:aY:=λws M R=>∃row:↑Ay,ws=[LX row]/\↥row<=60/\j9 (pB row) M R
abbrev zfG:↑Ay:=["row"]
abbrev zfH:aD:=
   (bM (LV (aG cE (bH cL (aA aH aB)) a7)))
abbrev zfI:↑Ay:=["row"]
abbrev zfJ:aD:=
   (bM (bH AZ (aA (bE (c7 (vB (aA aH aB)) (fV 2 (cI (aV 0) (cI (aV 1) fU))) eU (a8 (aA (a8 (aA aM (aA aH aB))) (aA (dN (aA (a8 (aA (aG cE aH a7) (aA bC aB))) aB)) aB))) [ae,ae])) aB)))
theorem L0(r:aR ws M R):aR ws M λw V=>∃u,L2.Sub u V/\R w u:=λp N=>⟨_,aP,r p N⟩
theorem L3(r:j9 ws M R):j9 ws M λw V=>∃u,L2.Sub u V/\R w u:=λp N=>⟨_,aP,r p N⟩
theorem zfK:bG LY zfH zfG:=by
 rintro _ M R ⟨row,rfl,hl,r⟩;exact⟨↥row+1,by rw[Ab];rfl,by lia,L0 r⟩
theorem enum_zip(ws:↑Ay):∀n:Nat,gO n (ws.map W.str)=(ws.zipIdx n).map λx=>W.tup [.int (x.2:Int),.str x.1]:=by
 induction ws with
 | nil=>intro n;rfl
 | cons w ws E=>intro n;rw[Bd,gO,E,Le,Bd]
theorem L4:∀{ps acc:↑(↑aC×W)},((acc++ps).map (·.1)).Nodup->iD acc ps=acc++ps
 | [],acc,_=>by simp[iD]
 | p::ps,acc,h=>by
  have hn:aQ acc p.1=ae:=by
   rw[Aw,Cd]at h;exact II λe Y z=>h.2.2 _ (Ap.mpr ⟨e,Y,rfl⟩) p.1 (by simp) z
  have e:bW acc p.1 p.2=acc++[p]:=by
   unfold bW;rw[Vf (by rw[show(acc.any λg=>decide (g.1=p.1))=(aQ acc p.1).isSome from jW acc p.1,hn];decide)]
  show iD (bW acc p.1 p.2) ps=_;rw[e,L4 (by rw[Dc];exact h),Dc];rfl
theorem zfL(row:↑Ay):((pB row).map (·.1)).Nodup:=by
 unfold pB;rw[Bm];have:∀(row:↑Ay) (n:Nat),((row.zipIdx n).map ((λx:↑aC×W=>x.1) ∘ λx:Ay×Nat=>(([Sum.inr x.1,Sum.inl (x.2:Int)]:↑aC),W.rl [.tup [.int ((x.2:Int)+1),.int 0]]))).Nodup:=by
  intro row
  induction row with
  | nil=>intro n;exact Dx
  | cons t row E=>
   intro n;rw[Le,Bd,Ca];refine⟨λP=>?_,E _⟩;let⟨x,J,e⟩:=Ap.mp P;have O:=List.mem_zipIdx J;simp only[Kz,Es,Oh,Mh,and_true]at e;lia
 exact this row 0
theorem zfM:bG LZ zfJ zfI:=by
 rintro _ M R ⟨row,rfl,hl,r⟩;refine ?_;refine Y5 (ws:=gO 0 (row.map W.str)) (rest:=[]) (λw y=>∃x:Ay×Nat,w=W.tup [.int (x.2:Int),.str x.1]/\y=.tup [.tup (([Sum.inr x.1,Sum.inl (x.2:Int)]:↑aC).map wK),.rl [.tup [.int ((x.2:Int)+1),.int 0]]]) (λw hw=>?_) (small (by rw[mB,Ab];lia)) (λ_ _=>trivial) (λa b P V C sb O=>?_) λG po=>?_
 .rw[enum_zip]at hw;let⟨x,_,rfl⟩:=Ap.mp hw;exact⟨_,_,rfl⟩
 .rw[enum_zip]at P;let⟨x,_,e⟩:=Ap.mp P;simp only[W.tup.injEq,Es,and_true]at e;let⟨rfl,rfl⟩:=e;exact(O _ ⟨x,rfl,rfl⟩)
 .have f:G=oY (pB row):=by
   rw[enum_zip]at po;unfold oY pB;rw[Bm]
   revert po
   generalize row.zipIdx=l;intro po
   induction l generalizing G with
   | nil=>cases po;rfl
   | cons x l E=>
    cases po with
    | cons h t=>
     let⟨c,D,rfl⟩:=h;simp only[W.tup.injEq,Es,W.int.injEq,W.str.injEq,and_true]at D;have:x=c:=Nj D.2 (by lia);subst this;rw[E _ t];rfl
  subst f;refine aR.frz ⟨pB row,rfl,small (by unfold oY pB;rw[Ab,Ab,List.length_zipIdx];lia),?_⟩;rw[L4 (by simpa using zfL row),Jx];exact L3 r
theorem BU(fs:↑cF)(f:cF):(aQ (iY fs) (fK f)).isSome=decide (f∈fs):=by
 unfold iY
 induction fs with
 | nil=>rfl
 | cons g fs E=>
  rw[Bd,pZ]
  by_cases h:g=f
  .subst h;rw[Vg rfl];simp
  .rw[Vf (λz=>h (nQ _ _ z)),E];have:¬f=g:=λz=>h z.symm;simp[this]
theorem zfN{fs:↑cF}{f:cF}(h:f∉fs):bW (iY fs) (fK f) (.bl ab)=iY (fs++[f]):=by
 unfold bW;rw[Vf (by rw[show((iY fs).any λg=>decide (g.1=fK f))=(aQ (iY fs) (fK f)).isSome from jW _ _,BU,decide_eq_true_eq];exact h)];unfold iY;rw[Aw];rfl
def eN(f:cF):W:=.tup ((fK f).map wK)
def n4(own:Ay->Bool)(ps:↑Ay)(cut:↑Int):↑cF:=ps.zipIdx.filterMap λx=>if own x.1=ab then aa (x.1,cut.getD x.2 0,cut.getD (x.2+1) 0) else ae
structure Wb(G:Sr)(B:dB):Prop where
 own:∀t,G.own t=ownB G.rs t
 few:↥G.rs<=100
 ord:w9 G B
 bl:↥B<=2000
 pl:∀r∈G.rs,↥r.parts<=100
abbrev n5(B:dB):W:=.ft (eA fK eJ B)
def L5:aY:=λws M R=>∃(rs:↑aE) (ps:↑Ay) (cut:↑Int),ws=[.dk (ownOf rs),.tup (ps.map W.str),gQ cut]/\↥ps+1<=↥cut/\↥ps<=100/\aR ((n4 (ownB rs) ps cut).map eN) M R
def xA(G:Sr)(B:dB)(p:cF->Bool):Prop:=∀e∈B,p e.1=ab->∀f∈n4 G.own (qI G e.2.2.1) e.2.2.2,p f=ab
def L6:aY:=λws M R=>∃(G:Sr) (B:dB) (top:cF),ws=[a6 G.rs,n5 B,eN top]/\Wb G B/\top∈B.map (·.1)/\∀p:cF->Bool,p top=ab->xA G B p->(∀q:cF->Bool,q top=ab->xA G B q->∀f,p f=ab->q f=ab)->aR (((B.map (·.1)).filter p).map eN) M R
def L7:aY:=λws M R=>∃(t:Ay) (b e:Int),ws=[.str t,.int b,.int e]/\R (.str t) M
def L8:aY:=λws M R=>∃(n:Nat) (p:An) (vs:↑W),ws=[.int n,.ref p]/\M p=aa (.lst vs)/\∀v,R v M
def L9(C:Cc):aY:=λws M R=>∃(G:Sr) (B:dB) (top:cF),ws=[a6 G.rs,n5 B,eN top,.ref C.f,.ref C.g]/\Wb G B/\top∈B.map (·.1)/\∀v,R v M
def MA(C:Cc):aY:=λws M R=>∃(G:Sr) (B:dB) (top:cF),ws=[a6 G.rs,n5 B,eN top]/\Wb G B/\top∈B.map (·.1)/\∀v,R v M
abbrev zfO:↑Ay:=["own","parts","cut"]
abbrev zfP:aD:=
   (bM (c7 (BL (aA aM aB)) (fV 2 (cI (aV 0) (cI (aV 1) fU))) (bN (aG (bX ac) aM aX)) (a8 (aA aM (aA (vX bB aH) (aA (vX bB (aG cE aH a7)) aB)))) [ae,ae,aa 0,aa 2]))
abbrev zfQ:↑Ay:=["grammar","best","top","own","found","waiting","told","fact"]
abbrev zfR:aD:=
   (aN 3 (aW mH (aA (bE (aW jI (aA aH aB))) aB)))
abbrev zfS:aD:=
   (aN 4 (LH aX (vC (.bl ab))))
abbrev zfT:aD:=
   (aN 5 (gA (aA aX aB)))
abbrev zfU:aD:=
   (aF (aN 6 (vX aM (rF "list" uO cB)))
   (b9 (bK cA (bE (aW L5 (aA bB (aA (vX (vX aH (vX cQ a7)) a7) (aA (vX cQ l5) aB)))))) (aV 7)
    (cC (bN (aG (bX ab) cD bA))
    (aF (fP (vC (.bl ab)) (gM bA cD))
   (b7 (cR "list" dU cB (aA cD aB))))
    cX)))
abbrev zfV:aD:=
   (l7 (fB cB) zfU)
abbrev zfW:aD:=
   (bM (c7 (bK nT aM) (aV 0) (bN (aG (bX ac) aH aM)) aH [ae,aa 4]))
abbrev zfX:aD:=(aF zfR (aF zfS (aF zfT (aF zfV zfW))))
abbrev zfY:↑Ay:=["grammar","best","top","of_word","of_rule","own","made","fact","number","cut","values","k","part"]
abbrev zfZ(C:Cc):aD:=
   (aN 5 (aW mH (aA (bE (aW jI (aA aH aB))) aB)))
abbrev zf0(C:Cc):aD:=
   (aF (aN 8 (vX (vX aM cD) a7))
   (aF (aN 9 (vX (vX aM cD) l5))
   (aF (aN 10 (gA aB))
   (aF (b9 (BL (aA (vX (vX aH eZ) a7) aB)) (fV 2 (cI (aV 11) (cI (aV 12) fU)))
    (cC (bN (aG (bX ac) rB cB))
    (b7 (cR "list" dU pP (aA (vX cQ (a8 (aA rB (aA (vX iQ mZ) (aA (vX iQ (aG cE mZ a7)) aB))))) aB)))
    (b7 (cR "list" dU pP (aA (BK 3 C.f L7 (aA rB (aA (vX iQ mZ) (aA (vX iQ (aG cE mZ a7)) aB)))) aB)))))
   (fP (BK 4 C.g L8 (aA eZ (aA pP aB))) (gM cQ cD))))))
abbrev zf1(C:Cc):aD:=
   (b9 (bK cA (bE (aW L6 (aA aH (aA aM (aA aX aB)))))) (aV 7) (zf0 C))
abbrev zf2(C:Cc):aD:=(aF (zfZ C) (aF (aN 6 kZ) (aF (zf1 C) (bM (vX cQ aX)))))
abbrev zf3:↑Ay:=["word","begin","end"]
abbrev zf4:aD:=
   (bM aH)
abbrev zf5:↑Ay:=["number","children"]
abbrev zf6:aD:=
   (bM (a8 (aA aH (aA (bH rL (aA aM aB)) aB))))
abbrev zf7:↑Ay:=["grammar","best","top"]
abbrev zf8(C:Cc):aD:=
   (bM (aW (L9 C) (aA aH (aA aM (aA aX (aA (vC (.ref C.f)) (aA (vC (.ref C.g)) aB)))))))
theorem xB(h:↥rs<=100):↥(namesOf rs)<=400:=by
 have O:=sA (rs.map aE.name) [];rw[Ab,Jy,Nv]at O;exact Ar O (Ar h ∅)
theorem xD{cut:↑Int}{k:Nat}(h:k<↥cut):bT (cut.map W.int) (k:Int)=aa (.int (cut.getD k 0)):=iL (by rw[Av,List.getD_eq_getElem?_getD,Bn h];rfl)
theorem zf9:bG L7 zf4 zf3:=by
 rintro _ M R ⟨t,b,e,rfl,r⟩;exact⟨_,aP,r⟩
theorem zga:bG L8 zf6 zf5:=by
 rintro _ M R ⟨n,p,vs,rfl,e,r⟩;exact⟨_,e,_,aP,r _⟩
theorem zgb:bG (MA C) (zf8 C) zf7:=by
 rintro _ M R ⟨G,B,top,rfl,w,ht,r⟩;exact⟨G,B,top,rfl,w,ht,λv=>⟨_,aP,r v⟩⟩
def BV(rs:↑aE)(cut:↑Int):W->Option W
 | .tup [.int i,.str t]=>if ownB rs t=ab then aa (eN (t,cut.getD i.toNat 0,cut.getD (i.toNat+1) 0)) else ae
 | _=>ae
theorem zgc{F:W->Option W}{ws:↑W}{os:↑(Option W)}(h:Ey (λw o=>o=F w) ws os):os.filterMap id=ws.filterMap F:=by
 induction h with
 | nil=>rfl
 | cons a _ E=>rw[a,Ea,Ea,E];rfl
theorem zgd(rs:↑aE)(cut:↑Int)(ps:↑Ay):(gO 0 (ps.map W.str)).filterMap (BV rs cut)=(n4 (ownB rs) ps cut).map eN:=by
 unfold n4;rw[enum_zip,Ke,List.map_filterMap];refine congrArg (λf=>List.filterMap f ps.zipIdx) (funext λx=>?_);show(if ownB rs x.1=ab then _ else ae)=_;rw[De]
 by_cases h:ownB rs x.1=ab
 .rw[Vg h,Vg h];rfl
 .rw[Vf h,Vf h];rfl
theorem zge:bG L5 zfP zfO:=by
 rintro _ M R ⟨rs,ps,cut,rfl,hc,hp,r⟩;refine⟨_,rfl,zN (rest:=[aa (.dk (ownOf rs)),aa (gQ cut)]) (λw o=>o=BV rs cut w) (λw hw=>?_) (small (by rw[mB,Ab];lia)) (λ_ _=>trivial) (λa b hm M' C D sb h1 h2=>?_) λos po=>?_⟩
 .rw[enum_zip]at hw;let⟨x,_,rfl⟩:=Ap.mp hw;exact⟨_,_,rfl⟩
 .rw[enum_zip]at hm;obtain⟨⟨t,k⟩,hx,e⟩:=Ap.mp hm;cases e;have hk:=(Am.mp (Hb.mp hx)).1;have ep:BV rs cut (.tup [.int (k:Int),.str t])=if ownB rs t=ab then aa (eN (t,cut.getD k 0,cut.getD (k+1) 0)) else ae:=rfl;have ho:(aQ (ownOf rs) (Sum.inr t:aC)).isSome=ownB rs t:=mK rs t;exact⟨_,⟨Sum.inr t,rfl,rfl⟩,bS (λz=>(so.of (xD (by lia)) (so.of (xD (k:=k+1) (by lia)) (h1 _ (by rw[ep,Vg (ho.symm.trans z)];rfl))))) λz=>h2 (by rw[ep,Vf (ne_true_of_eq_false (ho.symm.trans z))])⟩
 .rw[zgc po,zgd];exact L0 r
structure FW(G:Sr)(B:dB)(top:cF)(ex:cF->Prop)(fs wt:↑cF):Prop where
 tp:top∈fs
 nd:fs.Nodup
 sub:∀f∈fs,f∈B.map (·.1)
 wq:∀f∈wt,f∈fs
 wl:↥wt<=↥fs
 cl:∀e∈B,e.1∈fs->e.1∈wt\/ex e.1\/∀f∈n4 G.own (qI G e.2.2.1) e.2.2.2,f∈fs
 mn:∀q:cF->Bool,q top=ab->xA G B q->∀f∈fs,q f=ab
theorem FW.len{G:Sr}{B:dB}{top:cF}{fs wt:↑cF}{ex:cF->Prop}(h:FW G B top ex fs wt):↥fs<=↥B:=by
 have:=len_sub h.nd h.sub;rw[Ab]at this;exact this
theorem FW.add{G:Sr}{B:dB}{top g:cF}{fs wt:↑cF}{ex:cF->Prop}(h:FW G B top ex fs wt)(T:g∉fs)(j:g∈B.map (·.1))(P:∀q:cF->Bool,q top=ab->xA G B q->q g=ab):FW G B top ex (fs++[g]) (wt++[g]):=by
 refine⟨Be _ h.tp,?_,λf hf=>?_,λf hf=>?_,(by rw[Ak,Ak];exact Nat.add_le_add_right h.wl _),λe Y hf=>?_,λq O L f hf=>(Ba.mp hf).elim (h.mn q O L f) λz=>by rw[Af.mp z];exact P q O L⟩
 .rw[Cd];exact⟨h.nd,(by simp),λa m b j e=>T (by cases Af.mp j;rw[<-e];exact m)⟩
 .rcases Ba.mp hf with z|z
  .exact h.sub f z
  .cases Af.mp z;exact j
 .rcases Ba.mp hf with z|z
  .exact Be _ (h.wq f z)
  .exact Bi _ z
 .rcases Ba.mp hf with z|z
  .rcases h.cl e Y z with y|y|y
   .exact .inl (Be _ y)
   .exact .inr (.inl y)
   .exact .inr (.inr λf hf=>Be _ (y f hf))
  .exact .inl (Bi _ z)
def qJ(fs:↑cF):W->Option W
 | .tup [.str n,.int b,.int e]=>if (n,b,e)∈fs then aa (.tup [.str n,.int b,.int e]) else ae
 | _=>ae
theorem zgf(fs i:↑cF):(i.map eN).filterMap (qJ fs)=(i.filter λf=>decide (f∈fs)).map eN:=by
 induction i with
 | nil=>rfl
 | cons f i E=>
  have e:qJ fs (eN f)=if f∈fs then aa (eN f) else ae:=rfl;rw[Bd,Ea,Ed,e,E]
  by_cases h:f∈fs
  .rw[Vg h,Vg (Vi h),Bd]
  .rw[Vf h,Vf (by rw[Vj h];exact Bf)]
theorem MB(h:f∈B.map (·.1)):∃v,b8 B f=aa v/\aQ (eA fK eJ B) (fK f)=aa (eJ v):=by
 let⟨v,c⟩:=Ef.mp (gS.mpr h);exact⟨v,c,by rw[nR nQ,c];rfl⟩
theorem zgg{G:Sr}{B:dB}(o:w9 G B){e:En}(Y:e∈B):b8 B e.1=aa e.2:=by
 let⟨a,b,sp⟩:=List.append_of_mem Y;let⟨r,E⟩:=o a e b sp;rw[sp,IG,E.no,nO,Vg rfl];rfl
theorem MC(E:BS G pre e r)(L:g∈n4 G.own r.parts e.2.2.2):g∈pre.map (·.1):=by
 obtain⟨⟨t,k⟩,J,D⟩:=Ij.mp L;have J:=Hb.mp J
 by_cases S:G.own t=ab
 .rw[Vg S]at D;cases D;exact gS.mp (E.pn k t J S)
 .rw[Vf S]at D;cases D
theorem BW(E:BS G pre e r):qI G e.2.2.1=r.parts:=by unfold qI;rw[E.ru];rfl
theorem zgh:bG L6 zfX zfQ:=by
 rintro _ M R ⟨G,B,top,rfl,w,ht,r⟩;have hown:G.own=ownB G.rs:=funext w.own;refine⟨G.rs,rfl,(Ar w.few ∅),aR.frz ⟨namesOf G.rs,rfl,xB w.few,λp N=>⟨aJ,fK top,rfl,(λq Z=>?_)⟩⟩⟩;rw[cJ]at Z⊢;have hpq:q≠p:=λe=>by rw[e,aJ]at Z;cases Z
 have hq0:M q=ae:=by rw[aT hpq]at Z;exact Z
 have atp:∀{X Y:MO},put (put M p X) q Y p=aa X:=λ{X Y}=>by rw[aT (Bx hpq),aJ]
 have setp:∀{X X' Y:MO},put (put (put M p X) q Y) p X'=put (put M p X') q Y:=λ{X X' Y}=>by rw[oI hpq,cJ]
 refine⟨λm U V=>∃fs wt Q H,U=[aa (a6 G.rs),aa (n5 B),aa (eN top),aa (.dk (ownOf G.rs)),aa (.ref p),aa (.ref q),Q,H]/\V=put (put M p (.dT (iY fs))) q (.lst (wt.map eN))/\FW G B top (λ_=>False) fs wt/\m=2*(↥B-↥fs)+↥wt,
  ⟨_,[top],[top],_,_,rfl,rfl,⟨List.mem_singleton_self _,(by simp),λf hf=>by cases Af.mp hf;exact ht,λf hf=>hf,Ai _,λe _ hf=>.inl hf,λq O _ f hf=>by rw[Af.mp hf];exact O⟩,rfl⟩,?_⟩
 rintro m U V ⟨fs,wt,Q,H,rfl,rfl,F,rfl⟩;refine(.inl ⟨_,aJ,bS (λh=>?_) λh=>?_⟩)
 .rcases Lc wt with e|⟨wt',f,e⟩
  .rw[e]at h;cases h
  rw[Ld]at e;subst e;let⟨v,c,lv⟩:=MB (F.sub f (F.wq f (by simp)));let⟨pre,post,sp⟩:=vM c;let⟨ru,E⟩:=w.ord pre _ post sp;let⟨ru',O,L⟩:=lI (rs:=G.rs) (n:=v.2.1) (Am.mp E.ru).1;cases (show aa ru'=aa ru from O.symm.trans E.ru);refine⟨fD aJ,_,_,by rw[Aw];exact aJ,_,⟨fK f,rfl,lv.symm⟩,(so.of L ⟨G.rs,ru.parts,v.2.2,rfl,E.ln,w.pl ru (Ao O),aR.frz ?_⟩)⟩;rw[cJ,<-hown];obtain⟨pf,hpf⟩:∃pf,pf=n4 G.own ru.parts v.2.2:=⟨_,rfl⟩;rw[<-hpf];have hpB:∀g∈pf,g∈B.map (·.1):=λg T=>by
   rw[hpf]at T;rw[sp,Aw];exact Be _ (MC E T)
  have A:=F.len;refine gC (λj U V=>∃fs2 i H,U=[aa (a6 G.rs),aa (n5 B),aa (eN top),aa (.dk (ownOf G.rs)),aa (.ref p),aa (.ref q),aa (eJ v),H]/\V=put (put M p (.dT (iY fs2))) q (.lst (i.map eN))/\(∀g∈pf.take j,g∈fs2)/\FW G B top (λx=>x=f) fs2 i/\2*(↥B-↥fs2)+↥i+1<=2*(↥B-↥fs)+↥(wt'++[f])) ?_ ?_ ?_
  .refine⟨fs,wt',⟨_,rfl,rfl,(λg T=>nomatch T),⟨F.tp,F.nd,F.sub,λx J=>F.wq x (Be _ J),Ar (by rw[Ak];exact Qv _ _) F.wl,λe d hf=>?_,F.mn⟩,by rw[Ak];exact Ai _⟩⟩;rcases F.cl e d hf with y|y|y
   .rcases Ba.mp y with y|y
    .exact .inl y
    .exact .inr (.inl (Af.mp y))
   .exact y.elim
   .exact .inr (.inr y)
  .rintro j x U V J ⟨fs2,i,H,rfl,rfl,o,F2,P⟩ D1 hD1;rw[Av]at J;let⟨g,T,rfl⟩:=Az.mp J;have hgm:=Ao T;have hl2:=F2.len;have hbl:=w.bl;refine(.inr ⟨_,.inr ⟨iY fs2,fK g,atp,rfl,rfl⟩,?_⟩);show if (!(aQ (iY fs2) (fK g)).isSome)=ab then _ else _;rw[BU];refine bS (λhn=>?_) λhn=>?_
   .have hn:g∉fs2:=of_decide_eq_false (by rw[<-Ga (decide _),hn];rfl);have F3:=F2.add hn (hpB g hgm) λq O L=>L (f,v) (by rw[sp];simp) (F.mn q O L f (F.wq f (by simp))) g (by rw[show qI G v.2.1=ru.parts from BW E,<-hpf];exact hgm);have hl3:=F3.len;rw[Ak,Dl]at hl3;have lw:=F2.wl;refine(oR (k:=fK g) atp (by unfold iY;rw[Ab];exact cS (by lia)) ?_);rw[zfN hn,setp];refine⟨fD aJ,⟨_,aJ,cS (by rw[Ab];lia),hD1 _ _ ⟨fs2++[g],i++[g],⟨_,rfl,?_,λy K=>?_,F3,?_⟩⟩⟩⟩
    .rw[cJ,Aw];rfl
    .rw[Cb,T]at K;rcases Ba.mp K with z|z
     .exact Be _ (o y z)
     .exact Bi _ z
    .rw[Ak,Ak,Dl];lia
   .have hn:g∈fs2:=Vh (by rw[<-Ga (decide _),hn];rfl);refine hD1 _ _ ⟨fs2,i,⟨_,rfl,rfl,λy K=>?_,F2,P⟩⟩;rw[Cb,T]at K;rcases Ba.mp K with z|z
    .exact o y z
    .cases Af.mp z;exact hn
  .rintro U V ⟨fs2,i,H,rfl,rfl,o,F2,P⟩;rw[Ab,Bp]at o;refine⟨_,_,P,aP,fs2,i,_,⟨_,rfl,rfl,⟨F2.tp,F2.nd,F2.sub,F2.wq,F2.wl,λe d hf=>?_,F2.mn⟩,rfl⟩⟩;rcases F2.cl e d hf with y|y|y
   .exact .inl y
   .have:=zgg w.ord d;rw[y,c]at this;refine .inr (.inr λg T=>o g ?_);rw[<-Co this,show qI G v.2.1=ru.parts from BW E]at T;rw[hpf];exact T
   .exact .inr (.inr y)
 .have e:wt=[]:=by
   cases wt with
   | nil=>rfl
   | cons a b=>cases h
  subst e;have hbl:=w.bl;refine(rV (rest:=[aa (.ref p)]) (qJ fs) (small (by rw[Ab,Ab];lia)) (λ_ _=>trivial) (λx J t C D sb d1 I=>?_) ?_)
  .rw[Bm]at J;let⟨e,d,rfl⟩:=Ap.mp J;have ei:qJ fs (eN e.1)=if e.1∈fs then aa (eN e.1) else ae:=rfl;refine(.inr ⟨_,.inr ⟨iY fs,fK e.1,sb _ _ atp,rfl,rfl⟩,?_⟩);show if (aQ (iY fs) (fK e.1)).isSome=ab then _ else _;rw[BU];exact bS (λz=>(d1 _ (by show qJ fs (eN e.1)=_;rw[ei,Vg (Vh z)];rfl))) λz=>I (by show qJ fs (eN e.1)=_;rw[ei,Vf (of_decide_eq_false z)])
  .have e:((eA fK eJ B).map λp=>W.tup (p.1.map wK))=(B.map (·.1)).map eN:=by rw[Bm,Bm];rfl
   rw[e,zgf];have z:=r (λf=>decide (f∈fs)) (Vi F.tp) λe d hf f P=>by
    rcases F.cl e d (Vh hf) with y|y|y
    .cases y
    .exact y.elim
    .exact Vi (y f P)
   have z:=z λq O L f hf=>F.mn q O L f (Vh hf);intro s l;have S:s≠q:=λe=>by rw[e,aJ]at l;cases l
   have u:s≠p:=λe=>by rw[e,atp]at l;cases l
   rw[aT S,aT u]at l;exact⟨_,Sub.put (gP (gP (aP) N) hq0),z s l⟩
theorem zgi(o:w9 G B):(B.map (·.1)).Nodup:=by
 rw[Gk,Iy];refine List.pairwise_iff_getElem.mpr λi j hi hj l e=>?_;let⟨r,E⟩:=o (B.take j) B[j] (B.drop (j+1)) (by rw[<-Fq hj,Hj]);have P:B[j].1∈(B.take j).map (·.1):=by
  rw[<-e];exact List.mem_map_of_mem (List.mem_iff_getElem.mpr ⟨i,by rw[Ck];lia,by rw[List.getElem_take]⟩)
 rw[<-gS,E.no]at P;cases P
theorem zgj(nd:l.Nodup)(e:l=a++f::b){j:Nat}(h:l[j]? = aa f):l.take j=a:=by
 have:j=↥a:=(List.getElem?_inj (Am.mp h).1 nd).mp (h.trans (by rw[e,Hh (Ai _),Nw];rfl));rw[this,e,List.take_left]
abbrev qK(T:↑(cF×W)):↑(↑aC×W):=eA fK (λw=>w) T
theorem zgk{T:↑(cF×W)}{g:cF}{v:W}(h:g∉T.map (·.1)):bW (qK T) (fK g) v=qK (T++[(g,v)]):=by
 refine(AK (f:=λw=>w) nQ _ g v).trans ?_;rw[vK (Option.not_isSome_iff_eq_none.mp λz=>h (gS.mp z))]
theorem zgl{C:Cc}:bG (L9 C) (zf2 C) zfY:=by
 rintro _ M R ⟨G,B,top,rfl,w,ht,r⟩;have hown:G.own=ownB G.rs:=funext w.own;have nd:=zgi w.ord;refine⟨G.rs,rfl,(Ar w.few ∅),aR.frz ⟨namesOf G.rs,rfl,xB w.few,λp hp=>⟨G,B,top,rfl,w,ht,λP hP hcl _=>aR.frz ?_⟩⟩⟩;obtain⟨F,hF⟩:∃F,F=(B.map (·.1)).filter P:=⟨_,rfl⟩;rw[<-hF];have ndF:F.Nodup:=by rw[hF];exact nd.filter _
 have lF:↥F<=2000:=Ar (by rw[hF];exact Fw _ _) (by rw[Ab];exact w.bl);refine dX (λj τ M'=>∃T o7 o8 o9 o10 o11 o12,τ=[aa (a6 G.rs),aa (n5 B),aa (eN top),aa (.ref C.f),aa (.ref C.g),aa (.dk (ownOf G.rs)),aa (.ref p),o7,o8,o9,o10,o11,o12]/\M'=put M p (.dT (qK T))/\T.map (·.1)=F.take j) ⟨[],_,_,_,_,_,_,rfl,rfl,rfl⟩ ?_ ?_
 .rintro j x τ M' hx ⟨T,o7,o8,o9,o10,o11,o12,rfl,rfl,hT⟩;rw[Av]at hx;let⟨f,hf,rfl⟩:=Az.mp hx;have hfm:f∈F:=Ao hf;have hfm2:=hfm;rw[hF]at hfm2;let⟨hfB,hfP⟩:=Dq.mp hfm2;let⟨v,hv,lv⟩:=MB hfB;let⟨pre,post,sp⟩:=vM hv;let⟨ru,E⟩:=w.ord pre _ post sp;let⟨ru',h1,h2⟩:=lI (rs:=G.rs) (n:=v.2.1) (Am.mp E.ru).1;cases (show aa ru'=aa ru from h1.symm.trans E.ru);have hpl:=w.pl ru (Ao h1);have hcutl:↥ru.parts+1<=↥v.2.2:=E.ln;have htk:F.take j=(pre.map (·.1)).filter P:=zgj ndF (by rw[hF,sp,Aw,Bd,Ik,Ed,Vg hfP]) hf;have hpf:∀k t,ru.parts[k]? = aa t->G.own t=ab->(t,v.2.2.getD k 0,v.2.2.getD (k+1) 0)∈F.take j:=λk t hk ho=>by
   have hg:(t,v.2.2.getD k 0,v.2.2.getD (k+1) 0)∈n4 G.own ru.parts v.2.2:=Ij.mpr ⟨(t,k),Hb.mpr hk,by rw[Vg ho]⟩;rw[htk];refine Dq.mpr ⟨MC E hg,hcl (f,v) (by rw[sp];simp) hfP _ ?_⟩;rw[BW E];exact hg
  have hnf:f∉F.take j:=λz=>by
   rw[htk]at z;have:=(Dq.mp z).1;rw[<-gS,E.no]at this;cases this
  refine⟨_,⟨fK f,rfl,lv.symm⟩,_,⟨fK f,rfl,lv.symm⟩,λq hq=>?_⟩;have hpq:q≠p:=λe=>by rw[e,aJ]at hq;cases hq
  have atp:∀{X Y:MO},put (put M p X) q Y p=aa X:=λ{X Y}=>by rw[aT (Bx hpq),aJ]
  refine(so.of h2 ⟨_,rfl,?_⟩);refine dX (λk τ M'=>∃vs o11 o12,τ=[aa (a6 G.rs),aa (n5 B),aa (eN top),aa (.ref C.f),aa (.ref C.g),aa (.dk (ownOf G.rs)),aa (.ref p),aa (eN f),aa (.int v.2.1),aa (gQ v.2.2),aa (.ref q),o11,o12]/\M'=put (put M p (.dT (qK T))) q (.lst vs)/\↥vs=k) ⟨[],_,_,rfl,rfl,rfl⟩ ?_ ?_
  .rintro k x τ M' hx ⟨vs,o11,o12,rfl,rfl,hvs⟩;rw[rY,Av]at hx;cases hs:ru.parts[k]? with
   | none=>rw[hs]at hx;cases hx
   | some t=>
    rw[hs]at hx;cases hx;have hk1:=(Am.mp hs).1;have ho:(aQ (ownOf G.rs) (Sum.inr t:aC)).isSome=G.own t:=by rw[hown];exact mK G.rs t
    have lk:↥vs<Ax:=cS (by lia);have c1:bT (v.2.2.map W.int) ((0+k:Nat):Int)=aa (.int (v.2.2.getD k 0)):=by rw[Nv];exact xD (by lia)
    have c2:bT (v.2.2.map W.int) (((0+k:Nat):Int)+1)=aa (.int (v.2.2.getD (k+1) 0)):=by rw[Nv];exact xD (k:=k+1) (by lia)
    have fin:∀y,put (put (put M p (.dT (qK T))) q (.lst vs)) q (.lst (vs++[y]))=put (put M p (.dT (qK T))) q (.lst (vs++[y])):=λy=>cJ;have fl:∀y,↥(vs++[y])=k+1:=λy=>by rw[Ak,hvs];rfl
    refine⟨rfl,rfl,_,⟨Sum.inr t,rfl,rfl⟩,bS (λz=>?_) λz=>?_⟩
    .let⟨y,hy⟩:=Ef.mp (gS.mpr (by rw[hT];exact hpf k t hs (ho.symm.trans z):(t,v.2.2.getD k 0,v.2.2.getD (k+1) 0)∈T.map (·.1)));exact⟨fD aJ,so.of c1 (so.of c2 (p9 (k:=fK (t,v.2.2.getD k 0,v.2.2.getD (k+1) 0)) (w:=y) atp (by rw[nR nQ,hy];rfl) ⟨_,aJ,lk,_,aP,_,_,_,rfl,fin _,fl _⟩))⟩
    .exact⟨fD aJ,rfl,so.of c1 (so.of c2 ⟨t,_,_,rfl,_,aJ,lk,_,aP,_,_,_,rfl,fin _,fl _⟩)⟩
  .rintro τ M' ⟨vs,o11,o12,rfl,rfl,_⟩;have hTl:↥T=j:=by
    have:=congrArg Ii hT;rw[Ab,Ck]at this;have:=(Am.mp hf).1;lia
   have:=(Am.mp hf).1;refine⟨rfl,v.2.1,q,vs,rfl,aJ,λy=>oR (k:=fK f) atp (cS (by rw[Ab];lia)) ?_⟩;rw[zgk (by rw[hT];exact hnf),oI hpq,cJ];refine⟨_,Sub.new ?_,T++[(f,y)],_,_,_,_,_,_,rfl,rfl,?_⟩
   .rw[aT hpq];rw[aT hpq]at hq;exact hq
   .rw[Aw,hT,Cb,hf];rfl
 .rintro τ M' ⟨T,o7,o8,o9,o10,o11,o12,rfl,rfl,hT⟩;rw[Ab,Bp]at hT;let⟨y,hy⟩:=Ef.mp (gS.mpr (by rw[hT,hF];exact Dq.mpr ⟨ht,hP⟩:top∈T.map (·.1)));exact p9 (k:=fK top) (w:=y) aJ (by rw[nR nQ,hy];rfl) ⟨_,Sub.new hp,r y⟩
section
variable {X:Cx}{af:Pn}{Z:St}{H:Hp}{s:Aj}{a:An}
theorem Inv.swap{F G:Ds->Prop}(I:Inv X af Z H s)(e:H a=aa (.ext F))(L:∀l,bZ X.prog X.w l s.heap a (.ext G)):Inv X af Z (aL H a (.ext G)) s:=by
 have ne:∀{b:An} {v:HO},H b=aa v->v≠.ext F->b≠a:=λ{b v} D h z=>by subst z;rw[e]at D;exact h (Co D).symm
 have d:∀{b:An},H b=ae->b≠a:=λ{b} D z=>by subst z;rw[e]at D;cases D
 have f:∀b xs,H b=aa (.tup xs)->aL H a (.ext G) b=aa (.tup xs):=λb xs T=>by
  rw[a9 (ne T (λz=>by cases z))];exact T
 have g:∀b y,H b=aa (.own y)->aL H a (.ext G) b=aa (.own y):=λb y T=>by
  rw[a9 (ne T (λz=>by cases z))];exact T
 refine I.step (h':=s.heap) (g':=s.gens) (d':=s.drawn) (t':=s.toks) (ch:=[]) (λ_ z=>nomatch z) (λb o _ _ _ D _=>D) (λb o _ _ _ D _=>⟨o.slots,D⟩) (λb o _ _ n=>by rw[a9 (d n)];exact n) (λb o _ D=>⟨o,D⟩) f
  (λb ob v T=>?_) (λb ps T=>⟨#[],?_⟩) (λm P=>P) (λb v T=>?_) I.bare
 .rw[a9 (ne T (λz=>by cases z))];exact T
 .rw[a9 (ne T (λz=>by cases z)),T];simp
 .by_cases j:b=a
  .subst j;rw[bY]at T;cases T;exact L _
  .rw[a9 j]at T;exact(I.hok b v T).stay (λ_ _ _ q=>q) (λc q=>g c b q) f
def BX(P:Bc)(w:Bo)(tl:↑Int)(a:An)(o:Lv)(n:Nat):It:=
 ⟨λi H=>(∃es,H a=aa (.ext (iA P w tl a es o)))/\i<n,λi H x l=>l=H/\∃b en m ep,o.data=.dict m ep/\m[i]? = aa en/\en.key=.ref b/\x=.ref b,λi H=>(∃es,H a=aa (.ext (iA P w tl a es o)))/\n<=i⟩
theorem zgm{P:Bc}{w:Bo}{K:Ac}{tg:Cg}{tl:↑Int}(a it:An)(o:Lv)(m:Array Eg)(ep:Nat)(hd:o.data=.dict m ep)(hk:∀(i:Nat) (en:Eg),m[i]? = aa en->∃b,en.key=.ref b):
  jM P w K tg (BX P w tl a o m.size) [it] it (λi h=>h.IsKeyIter it a i m.size ep) where
 mem:=by simp
 obj:=λi h st b G=>by
  have e:b=it:=by simpa using G
  subst e;let⟨o,e,c,d⟩:=st;exact⟨o,e,λv z=>by rw[d]at z;cases z⟩
 keep:=λi h h' st k=>st.at λo e=>k it (by simp) o e
 item:=by
  intro X r hw Y hc i af s Z H E I hf st L;subst r hw Y;obtain⟨⟨es,D⟩,hi⟩:=L;have S:s.heap.get? a=aa o:=(show bZ X.prog X.w H s.heap a (.ext (iA X.prog X.w tl a es o)) from I.hok a _ D).1.1;let⟨b,G⟩:=hk i m[i] (by simp[hi]);let⟨f0,C,O,B,j,y⟩:=hf it (by simp);refine t7 ac st S hd hi λh' l sb=>?_;have M:Inv X af Z H {s with heap:=h'}:=I.turned (t':=s.toks) (λb o G e=>(sb.2 b G).trans e) f0 C B j y;let⟨R,e,c,d⟩:=id l;exact⟨_,rfl,pD (s:={s with heap:=h'}) e c d ∅ ⟨.ref b,H,M,G,⟨rfl,b,_,_,_,hd,by simp[hi],G,rfl⟩,l,λb G=>(hf b G).1⟩⟩
 done:=by
  intro X r hw Y hc i af s Z H E I hf st L;subst r hw Y;obtain⟨⟨es,D⟩,hi⟩:=L;have S:s.heap.get? a=aa o:=(show bZ X.prog X.w H s.heap a (.ext (iA X.prog X.w tl a es o)) from I.hok a _ D).1.1;refine t9 ac (I.ok.hd hc) st S hd (by lia) λh' hk=>⟨rfl,?_⟩
  exact I.turnedT (tk:=s.toks) hf λq o W eq=>hk q o (λz=>W (by simp[z])) eq
 self:=λ_ _ _ _ _ st h=>Pj st h
end
section
variable {X:Cx}
abbrev BY(P:Bc)(w:Bo)(tl:↑Int):W->Mm->(↑W->(Mm->Prop)->Mm->Prop)->Prop:=λx I R=>∃a kvs o,x=.ref a/\I a=aa (.dh P w tl kvs o)/\R (kvs.map λp=>fQ tl p.1) (λM=>M a=aa (.dh P w tl kvs o)) I
theorem zgn{K:Ac}{g:Hp}{j:Mm}{P:Bc}{w:Bo}{tl:↑Int}{a:An}{o:Lv}{kvs:↑(bP×W)}{m:Array Eg}{ep:Nat}(hd:o.data=.dict m ep)(hn:m.size=↥kvs):iU K g j (BX P w tl a o m.size) (kvs.map λp=>fQ tl p.1) λM=>M a=aa (.dh P w tl kvs o):=by
 refine⟨λi H M k Y e hi=>?_,λH M k Y e=>?_,λi H M x l k Y e hi y=>?_⟩
 .let⟨es,D,_⟩:=Y _ _ e;rw[Ab]at hi;exact⟨⟨es,D⟩,by lia⟩
 .let⟨es,D,_⟩:=Y _ _ e;exact⟨⟨es,D⟩,by rw[Ab];lia⟩
 .let⟨rfl,b,en,c,T,n,d,G,rfl⟩:=y;cases hd.symm.trans n;obtain⟨es,D,⟨s,u,C,hsz,hz⟩,q⟩:=Y _ _ e;cases hd.symm.trans C;let⟨z,U,R⟩:=hz i en d;rw[G]at R;cases R;have:∀{es:↑(bP×An×V)} {kvs:↑(bP×W)} {i:Nat},PN K l M tl es kvs->es[i]? = aa z->∃p,kvs[i]? = aa p/\z.1=p.1/\iB l tl z.1 z.2.1:=by
   intro es kvs i r
   induction r generalizing i with
   | nil=>intro h;cases h
   | @cons p q ps qs Z t E=>
    intro h;cases i with
    | zero=>cases h;exact⟨q,rfl,Z.1,Z.2.1⟩
    | succ i=>rw[Ep]at h⊢;exact E h
  let⟨p,O,p2,f⟩:=this q U;exact⟨fQ tl p.1,by rw[Av,O];rfl,Kp.refl Y,Y,by rw[<-p2];exact iB.av f⟩
theorem zgo{tg:Cg}{tl:↑Int}:l8 X tg (rQ X.K (BY X.prog X.w tl)):=by
 rintro af s Z H x u g I N ⟨n,M,R,S,Y,⟨a,kvs,o,rfl,e,h⟩,k⟩;obtain rfl:=S.inv;cases (show u=Value.ref a from N);obtain⟨es,D,⟨m,ep,hd,hsz,hz⟩,q⟩:=Y _ _ e;have hl:=Cw q;have hh:=(show bZ X.prog X.w H s.heap a (.ext (iA X.prog X.w tl a es o)) from I.hok a _ D).1;let⟨c,l,T,_,_,j,_⟩:=rZ hh.2;have fp:∀b∈[⇑s],gW X af H b:=λb G=>by
  have e:b=⇑s:=by simpa using G
  subst e;exact I.fpOk (Ai _) (I.hok.fresh (Ai _))
 have T:gK s.heap a m ep:=by
  let⟨P,W,J,V⟩:=T;rw[hh.1]at W;cases W;exact⟨o,hh.1,J,hd⟩
 exact uA j T ⟨⇑s,[⇑s],_,BX X.prog X.w tl a o m.size,H,rfl,I.kept (t':=s.toks) λb o e=>Ah _ e,zgm a _ o m ep hd (λi en d=>(hz i en d).elim λz y=>⟨_,y.2⟩),⟨_,Bb _ rfl,rfl,rfl⟩,fp,k _ _ _ _ _ (Kp.refl Y) Y (zgn hd (by lia)) h⟩
theorem zgp(hl:E3 X l tl):PI X tg l (gB X.K (bK (BY X.prog X.w n) tl)):=uV hl zgo
theorem BZ{K:Ac}{H:Hp}{M:Mm}{a:An}{c o:MO}{u:HO}(Y:AM K H M)(e:M a=aa c):Go H M (aL H a u) (put M a o):=by
 have d:∀{b:An},M b=ae->b≠a:=λ{b} h z=>by subst z;rw[e]at h;cases h
 refine⟨λb xs T=>?_,λb ob v T=>?_,λb v n T=>?_⟩
 .rw[a9 (d (Y.noTup T))];exact T
 .rw[a9 (d (Y.noFrz T))];exact T
 .rw[a9 (d n),aT (d n)];exact⟨T,n⟩
theorem MD{K:Ac}{H:Hp}{M:Mm}{a:An}{c o:MO}{u:HO}(Y:AM K H M)(e:M a=aa c)(p:AO K (aL H a u) (put M a o) a o):AM K (aL H a u) (put M a o)/\Kp H M (aL H a u) (put M a o):=by
 have go:Go H M (aL H a u) (put M a o):=BZ Y e;refine⟨λb t T=>?_,λb v n T=>go.hl b v n T,λb v T=>?_⟩
 .by_cases G:b=a
  .subst G;rw[aJ]at T;cases T;exact p
  .rw[aT G]at T;exact(Y b t T).go go (a9 G)
 .by_cases G:b=a
  .subst G;exact⟨_,bY⟩
  .let⟨y,q⟩:=(Y b v T).has;exact⟨y,by rw[a9 G];exact q⟩
abbrev B0(P:Bc)(w:Bo)(tl:↑Int)(m:aS):aS:=λU M R=>∃a kvs,M a=aa (.dn P w tl kvs)/\∀o,m U (put M a (.dh P w tl kvs o)) λx V=>V a=aa (.dh P w tl kvs o)/\R x (put V a (.dn P w tl kvs))
theorem zgq(h:E3 X e t):E3 X e (B0 X.prog X.w tl t):=by
 rintro af s σ H Q I ⟨U,M,R,n,Y,⟨a,kvs,F,h'⟩,k⟩;let⟨es,D,q⟩:=Y _ _ F;have J:=pX I D;let⟨m,ep,T,hsz,_,_,hz⟩:=rZ J;let⟨o,S,hc,hd⟩:=T;have held:iA X.prog X.w tl a es o s.heap:=⟨S,J⟩;have i:=I.swap D (G:=iA X.prog X.w tl a es o) λ_=>held.ok;have go:Go H M (aL H a (.ext (iA X.prog X.w tl a es o))) (put M a (.dh X.prog X.w tl kvs o)):=BZ Y F;let⟨P,B⟩:=MD (o:=.dh X.prog X.w tl kvs o) (u:=.ext (iA X.prog X.w tl a es o)) Y F ⟨es,bY,⟨m,ep,hd,hsz,λj en d=>(hz j en d).elim λz y=>⟨z,y.1,y.2.1⟩⟩,Paired.mapP q λp r z=>⟨z.1,let ⟨pa,n1,n2⟩:=z.2.1;⟨pa,go.ht _ _ n1,go.ht _ _ n2⟩,z.2.2.go go⟩⟩;refine thn (h af s σ _ (λx W=>∃A,W a=aa (.ext (iA X.prog X.w tl a A o))/\Q x (aL W a (.ext (dJ X.prog X.w tl a A)))) i ⟨U,_,_,n.kp Y B,P,h' o,λv l w V L c av ⟨eM,r⟩=>?_⟩) λv g ⟨x,W,O,C,A,K,f⟩=>?_
 .let⟨A,N,_,E⟩:=c _ _ eM;have Z:Go l V (aL l a (.ext (dJ X.prog X.w tl a A))) (put V a (.dn X.prog X.w tl kvs)):=BZ c eM;let⟨b,k4⟩:=MD (o:=.dn X.prog X.w tl kvs) (u:=.ext (dJ X.prog X.w tl a A)) c eM ⟨A,bY,Paired.mapP E λp r z=>⟨z.1,let ⟨pa,n1,n2⟩:=z.2.1;⟨pa,Z.ht _ _ n1,Z.ht _ _ n2⟩,z.2.2.go Z⟩⟩;exact⟨A,N,k _ _ _ _ ((B.trans L).trans k4) b (av.go Z) r⟩
 .have h3:=(show bZ X.prog X.w W g.heap a (.ext (iA X.prog X.w tl a A o)) from O.hok a _ K).1;exact⟨x,_,O.swap K (λ_=>dJ.ok h3.2),C,f⟩
end
def ME(P:Bc)(w:Bo)(C:An):aY:=λws M R=>∃a d dx l,∃x:Ay,ws=[.ref a,.str x]/\j0 P w C M a d dx l/\↥l<=100000/\∀b,R (.bl b) M
abbrev zgr:↑Ay:=["self","name"]
abbrev zgs(P:Bc)(w:Bo)(C:An):aD:=
   (bM (bH vA (aA (bE (B0 P w [0] (c7 (bK (BY P w [0]) (c8 C aH "backs")) (aV 0) eU (aG (bX ac) aM (vX aH a7)) [ae,aa 1]))) aB)))
theorem zgt:bG (ME P w C) (zgs P w C) zgr:=by
 rintro _ M R ⟨a,d,dx,l,x,rfl,pl,hl,r⟩;have n:a≠d:=λe=>by have O:=pl.ob;rw[e,pl.di]at O;cases O
 refine⟨d,kvsOf l,pl.di,λo=>?_⟩;have m:put M d (.dh P w [0] (kvsOf l) o) a=aa (.ins C dx [("backs",.ref d)]):=by rw[aT n];exact pl.ob
 have X:Cf ("backs" : Ay) [(("backs" : Ay),W.ref d)]=aa (.ref d):=by rw[Dz,show(("backs" : Ay)==("backs" : Ay))=ab by decide +kernel]
 refine⟨a,dx,_,_,rfl,m,X,d,kvsOf l,o,rfl,aJ,?_⟩;have u:((kvsOf l).map λp=>fQ [0] p.1)=(l.map λz=>mJ z.1).map bD:=by
  unfold kvsOf;rw[Bm,Bm];exact Dy λz _=>BA z.1
 rw[u];refine nJ (rest:=[aa (.str x)]) (λw=>match w with|.tup [_,.tup ps,_]=>.bl (inW (.str x) ps)|_=>.non) (small (by rw[Ab,Ab];lia)) (λV sb=>sb _ _ aJ) (λw hw V C sb O=>?_) λp N=>?_
 .let⟨q,Z,rfl⟩:=Ap.mp hw;exact⟨rfl,qB _,O⟩
 .have b:p≠d:=λe=>by rw[e,aJ]at N;cases N
  have i:M p=ae:=by rw[aT b]at N;exact N
  refine⟨by rw[aT (Bx b),aJ],?_⟩;rw[oI b,cJ,show put M d (.dn P w [0] (kvsOf l))=M from yO pl.di];refine E6 i ?_;have D:(((l.map λz=>mJ z.1).map bD).map λw=>match w with|.tup [_,.tup ps,_]=>W.bl (inW (.str x) ps)|_=>.non)=bools (l.map λz=>inW (.str x) (z.1.2.map W.str)):=by
   unfold bools;rw[Bm,Bm,Bm];rfl
  rw[D];exact⟨_,rfl,_,aP,r _⟩
def zgu(rs:↑aE)(D:↑Ay):Prop:=∃n,D=eL rs n/\gD rs D=D
def drK(kvs:↑(aC×W))(t:Ay):Bool:=(aQ kvs (Sum.inr t:aC)).isSome
def lN(kvs:↑(aC×W))(t:Ay):W:=(aQ kvs (Sum.inr t:aC)).getD .non
abbrev B1(rs:↑aE)(D:↑Ay)(kvs:↑(aC×W))(ps:↑Ay):↑jJ:=lJ (cY rs D) (drK kvs) (lN kvs) ps
def lP(x:jJ):W:=.tup [.tup (x.1.map W.str),.tup x.2]
def MF(C:Cc):aY:=λws M R=>∃rs:↑aE,ws=[a6 rs,.rl [],.rl (rs.map λ_=>W.int 0)]/\iW rs/\∀B,mF (lG rs []) B->j9 (eA fK eJ B) M R
def MG(C:Cc):aY:=λws M R=>∃rs:↑aE,ws=[a6 rs]/\iW rs/\∀kvs,(∀X,drK kvs X=mG rs ac X)->iO kvs M R
def MH:aY:=λws M R=>∃rs:↑aE,ws=[a6 rs]/\iW rs/\∀D,zgu rs D->iO (D.map cM) M R
def MI:aY:=λws M R=>∃(rs:↑aE) (D:↑Ay) (kvs:↑(aC×W)) (ps:↑Ay),ws=[.tup (ps.map W.str),.dk (ownOf rs),.dk (D.map cM),.dk kvs]/\↥ps<=4/\R (.rl ((B1 rs D kvs ps).map lP)) M
def MJ(P:Bc)(w:Bo)(C:Cc):aY:=λws M R=>∃(a d dx:An) (l:↑(NP×W)) (rs:↑aE) (X:Ay) (D:↑Ay) (kvs:↑(aC×W)),ws=[.ref a,a6 rs,.str X,.dk (D.map cM),.dk kvs]/\j0 P w C.p M a d dx l/\↥l<=50000/\iW rs/\∀o,Ex l 272 (λx=>x.1=X/\lK rs D (drK kvs) X x.2) o->R .non (put M d (.dn P w [0] (kvsOf o)))
def MK:aY:=λws M R=>∃rs:↑aE,ws=[a6 rs]/\iW rs/\∀l D drop,gD rs D=D->(∀t,drop t=ab↔d9 rs ac t)->wO isNameB rs D drop (dQ l)->↥l<=2000->qG l M R
abbrev zgv:↑Ay:=["grammar","row","weights"]
abbrev zgw(C:Cc):aD:=
   (bM (aW (AR C) (aA aH (aA (bE (aW LY (aA aM aB))) (aA (bE (aW LZ (aA aM aB))) (aA aX aB))))))
abbrev zgx:↑Ay:=["grammar","best"]
abbrev zgy(C:Cc):aD:=
   (aF (aN 1 (sH (aW (MF C) (aA aH (aA (dN aB) (aA (bE (aW BC (aA aH aB))) aB))))))
   (bM (bH zT (aA (bE (c7 (bK nT aM) (aV 0) eU (a8 (aA (vX aH bC) (aA (aW (MA C) (aA aM (aA aX (aA aH aB)))) aB))) [ae,aa 0,aa 1])) aB))))
abbrev zgz:↑Ay:=["grammar","own","fruitful","rules","wordy","size","rule"]
abbrev zgA:aD:=
   (aN 1 (aW mH (aA (bE (aW jI (aA aH aB))) aB)))
abbrev zgB:aD:=
   (aN 2 (bE (aW BD (aA aH aB))))
abbrev zgC:aD:=
   (aN 3 (bE (c7 (bK cA aH) (aV 0) (fB (bH uM (aA (bE (c7 (bK cA (vX aH a7)) (aV 0) eU (oM (aG (bX ac) aH aM) (aG (bX ab) aH aX)) [ae,aa 1,aa 2])) aB))) aH [ae,aa 2,aa 1])))
abbrev ML:aD:=
   (aN 4 rM)
abbrev zgD:aD:=
   (aN 5 (kB kE a7))
abbrev zgE:aD:=
   (aF (aN 5 (bH cL (aA bA aB)))
   (b9 (bK cA bB) (aV 6)
    (cC (fB (bH vA (aA (bE (c7 (bK cA (vX cQ a7)) (aV 0) eU (oM (aG (bX ac) aH aM) (aG (bX ab) aH aX)) [ae,aa 4,aa 1])) aB)))
    (fP (vC (.bl ab)) (gM bA (vX cQ bC)))
    cX)))
abbrev zgF:aD:=
   (l7 (bN (aG nC cB (bH cL (aA bA aB)))) zgE)
abbrev zgG:aD:=
   (bM bA)
abbrev zgH:aD:=(aF zgA (aF zgB (aF zgC (aF ML (aF zgD (aF zgF zgG))))))
abbrev zgI:↑Ay:=["parts","own","wordy","empties","told","part","kept","left"]
abbrev zgJ:aD:=
   (aN 4 (dN (aA (a8 (aA (a8 aB) (aA (a8 aB) aB))) aB)))
abbrev zgK:aD:=
   (aF (aN 6 (bE (c7 (bK jU bA) (fV 2 (cI (aV 0) (cI (aV 1) fU))) (uD (bN (aG (bX ac) aX bB)) (bN (aG (bX ab) aX bA))) (a8 (aA (aG nY aH (a8 (aA aX aB))) (aA (aG nY aM (a8 (aA (bH cL (aA aH aB)) aB))) aB))) [ae,ae,aa 5,aa 2,aa 1])))
   (aF (aN 7 (bE (c7 (bK jU bA) (fV 2 (cI (aV 0) (cI (aV 1) fU))) (bN (aG (bX ac) aX bB)) (a8 (aA aH (aA (aG nY aM (a8 (aA (a8 (aA (vC (.str "whole")) (aA (vX bB aX) aB))) aB))) aB))) [ae,ae,aa 5,aa 3])))
   (aN 4 (aG cE cQ cD))))
abbrev zgL:aD:=
   (b9 (bK cA aH) (aV 5) zgK)
abbrev zgM:aD:=
   (bM bA)
abbrev zgN:aD:=(aF zgJ (aF zgL zgM))
abbrev zgO:↑Ay:=["plain","grammar","name","wordy","empties","own","number","parts","pieces"]
abbrev zgP(P:Bc)(w:Bo)(C:Cc):aD:=
   (aF (aN 5 (aW mH (aA (bE (aW jI (aA aM aB))) aB)))
   (b9 (bK cA (bE (aW wZ (aA aM (aA aX aB))))) (aV 6)
    (b9 (bK jU (bE (aW MI (aA (vX (vX aM cQ) a7) (aA cB (aA bB (aA bA aB))))))) (fV 2 (cI (aV 7) (cI (aV 8) fU)))
    (cC (iR (bN (aG (eD ab) cD (a8 aB))) (bN (aG (eD ab) cD (a8 (aA aX aB)))))
    (b7 (d8 C.p "put_rule" (nU P w C.p) aH (aA aX (aA cD (aA (a8 (aA (a8 (aA cQ (aA eZ aB))) aB)) aB)))))
    cX))))
abbrev zgQ:↑Ay:=["grammar","first","wordy","empties","plain","name","ahead","begin","told","begun"]
abbrev zgR(P:Bc)(w:Bo)(C:Cc):aD:=
   (aN 3 (bE (aW (MG C) (aA aH aB))))
abbrev zgS(P:Bc)(w:Bo)(C:Cc):aD:=
   (cC (iR (bN (aG (bX ab) aM aX)) (bN (aG (bX ab) aM bB)))
    (bM (aW BN (aA aH aB)))
    cX)
abbrev MM(P:Bc)(w:Bo)(C:Cc):aD:=
   (aN 4 (mC C.p (qE P w C.p) aB))
abbrev zgT(P:Bc)(w:Bo)(C:Cc):aD:=
   (b7 (aW (MJ P w C) (aA bA (aA aH (aA cB (aA aX (aA bB aB)))))))
abbrev MN(P:Bc)(w:Bo)(C:Cc):aD:=
   (b9 (bK cA (bE (aW jI (aA aH aB)))) (aV 5) (zgT P w C))
abbrev B2(P:Bc)(w:Bo)(C:Cc):aD:=
   (aN 6 (mC C.p (qE P w C.p) aB))
abbrev MP(P:Bc)(w:Bo)(C:Cc):aD:=
   (cC (bN (aG (bX ac) aM bB))
    (aF (aN 7 aM)
   (aF (cC (fB (d8 C.p "is_part" (ME P w C.p) bA (aA aM aB)))
    (aF (aN 7 (vX (bE (aW BE (aA (bE (aW jI (aA aH aB))) (aA a7 aB)))) bC))
   (b7 (d8 C.p "put_rule" (nU P w C.p) cQ (aA cD (aA (a8 (aA aM aB)) (aA (a8 (aA bC aB)) aB))))))
    cX)
   (b7 (d8 C.p "put_rule" (nU P w C.p) cQ (aA cD (aA (a8 aB) (aA (a8 (aA (a8 (aA (vC (.str "whole")) (aA (vX bB aM) aB))) aB)) aB)))))))
    cX)
abbrev B3(P:Bc)(w:Bo)(C:Cc):aD:=
   (aN 8 (d8 C.p "grammar_and_backs" (qF P w C.p) bA aB))
abbrev B4(P:Bc)(w:Bo)(C:Cc):aD:=
   (aN 9 (d8 C.p "grammar_and_backs" (qF P w C.p) cQ aB))
abbrev B5(P:Bc)(w:Bo)(C:Cc):aD:=
   (bM (a8 (aA (aG rG (vX iQ bC) (vX eZ bC)) (aA (aG rG (vX iQ a7) (vX eZ a7)) aB))))
abbrev zgU(P:Bc)(w:Bo)(C:Cc):aD:=(aF (aN 1 (aW sC (aA aH aB))) (aF (aN 2 (bE (aW MH (aA aH aB)))) (aF (zgR P w C) (aF (zgS P w C) (aF (MM P w C) (aF (MN P w C) (aF (B2 P w C) (aF (MP P w C) (aF (B3 P w C) (aF (B4 P w C) (B5 P w C)))))))))))
theorem zgV{rs:↑aE}{keep:Mm->Prop}{k:dE}{m:aS}{o:Option W}{rest:S3}{I:Mm}{R:K3}(f:aE->Option W)(hl:↥rs<=1000)(hk:∀M,L2.Sub I M->keep M)(F:∀q∈rs,∀M (C:K3) (D:Mm->Prop),L2.Sub I M->(∀y,f q=aa y->C y M)->(f q=ae->D M)->k (aa (bD q)::rest) M λb H=>if b=ab then m (aa (bD q)::rest) H C else D H)(r:aR (rs.filterMap f) I R):gN (rs.map bD) keep (aV 0) k m (o::rest) I R:=by
 unfold gN;intro p N;refine⟨λi U acc M=>(∃o,U=o::rest)/\acc=(rs.take i).filterMap f/\M=I,⟨⟨_,rfl⟩,rfl,rfl⟩,?_,?_,?_⟩
 .rintro vs i U acc M _ d ⟨_,_,rfl⟩;exact hk _ (Sub.new N)
 .rintro vs i w U acc M hw d ⟨⟨o,rfl⟩,rfl,rfl⟩;rw[Av]at hw;let⟨q,Z,rfl⟩:=Az.mp hw;have tk:rs.take (i+1)=rs.take i++[q]:=by rw[Cb,Z];rfl
  have Y:↥((rs.take i).filterMap f)<Ax:=cS (by have O:=List.length_filterMap_le f (rs.take i);rw[Ck]at O;lia);refine F q (Ao Z) _ _ _ (Sub.new N) (λy K=>⟨aJ,Y,M,by rw[jQ N];exact aP,⟨_,rfl⟩,?_,rfl⟩) λhn=>⟨aJ,M,by rw[jQ N];exact aP,⟨_,rfl⟩,?_,rfl⟩
  .rw[tk,List.filterMap_append];simp[K]
  .rw[tk,List.filterMap_append];simp[hn]
 .rintro U acc M d ⟨_,rfl,rfl⟩;rw[Ab,Bp];exact r p N
theorem zgW(rs:↑aE)(p:aE->Bool):rs.filterMap (λq=>if p q=ab then aa (bD q) else ae)=(rs.filter p).map bD:=by
 induction rs with
 | nil=>rfl
 | cons q rs E=>
  rw[Ea,Ed,E];cases p q<;>rfl
theorem zgX:bG (MF C) (zgw C) zgv:=by
 rintro _ M R ⟨rs,rfl,g,r⟩;refine⟨[],rfl,by decide,aR.frz ⟨[],rfl,by decide,j9.frz ⟨lG rs [],⟨rs,ownOf rs,[]⟩,by rw[<-K6 ↥rs rs rfl];rfl,g.few100,rfl,⟨rfl,mK rs,λt p=>.inl ⟨rfl,Vf λz=>nomatch z.2⟩⟩,IW rs [],λq Z=>Ar (g.prt q Z) ∅,λB F=>L3 (r B F)⟩⟩⟩
theorem zgY:bG (MG C) (zgy C) zgx:=by
 rintro _ M R ⟨rs,rfl,g,r⟩;refine⟨rs,rfl,g.few100,aR.frz ⟨rs,rfl,g,λB F p hp=>⟨p,rfl,.inr ⟨_,aJ,?_⟩⟩⟩⟩;rw[jQ hp];have hbl:↥B<=↥rs:=IY F;have h100:=g.few100;have wb:Wb (lG rs []) B:=⟨λ_=>rfl,h100,zfE F,by lia,λq hq=>Ar (g.prt q hq) ∅⟩;show gN ((eA fK eJ B).map λp=>W.tup (p.1.map wK)) _ _ _ _ _ _ _;rw[K5];refine rW (rest:=[aa (a6 rs),aa (n5 B)]) (λw y=>∃f v,w=W.tup ((fK f).map wK)/\y=W.tup [.str f.1,v]) (small (by rw[Ab,Ab];lia)) (λ_ _=>trivial) (λw hw M' C sb h1=>?_) λys po=>aR.frz ?_
 .let⟨f,hf,rfl⟩:=Ap.mp hw;exact⟨lG rs [],B,f,rfl,wb,hf,λv=>h1 _ ⟨f,v,rfl,rfl⟩⟩
 .let⟨kvs,rfl,hk⟩:=A4 po;have hyl:=Cw po;rw[Ab,Ab]at hyl;exact⟨kvs,rfl,small (by lia),λq hq=>⟨_,aP,r _ (J6 (ss:=[]) (w:=ac) (λq hq t ht ho=>⟨(λz=>nomatch z),λz=>(Bf z).elim⟩) F hk) q hq⟩⟩
theorem zgZ{ts:↑Ay}{f:Ay->Bool}:(ts.map f).all id=ts.all f:=by rw[Mb];rfl
theorem zg0{ts:↑Ay}{f:Ay->Bool}:(ts.map f).any id=ts.any f:=by rw[Ku];rfl
theorem MQ{b:Bool}(h0:τ[0]? = aa (aa (.str t)))(hx:τ[1]? = aa (aa x))(hd:∀R:K3,R (.bl b) M->bX ac (.str t) x M R)(h2:τ[2]? = aa (aa (.dk (ownOf rs))))(r:R (.bl (b||!ownB rs t)) M):
  oM (aG (bX ac) (cH 0) (cH 1)) (aG (bX ab) (cH 0) (cH 2)) τ M R:=by
 simp only[oM,aG,cH,h0,hx,h2];refine hd _ (bS (λz=>?_) λz=>⟨_,⟨Sum.inr t,rfl,rfl⟩,?_⟩)
 .rw[z]at r;exact r
 .show R (.bl (!(aQ (ownOf rs) (Sum.inr t:aC)).isSome)) M;rw[z,Na]at r;rw[mK];exact r
theorem zg1:bG MH zgH zgz:=by
 rintro _ M R ⟨rs,rfl,g,r⟩;have h17:=g.few;have h100:=g.few100;refine⟨rs,rfl,Ar h100 ∅,aR.frz ⟨namesOf rs,rfl,xB h100,rs,rfl,g.gl,λkvs hk=>iO.frz ?_⟩⟩;have hfr:∀t:Ay,(aQ kvs (Sum.inr t:aC)).isSome=mG rs ab t:=hk;refine(zgV (rest:=[aa (.dk kvs),aa (.dk (ownOf rs))]) (λq=>if q.parts.all (dP rs)=ab then aa (bD q) else ae) (by lia) (λ_ _=>trivial) (λq hq M' C D sb h1 h2=>?_) (aR.frz ?_))
 .have hp:=g.prt q hq;refine(BQ (rest:=[aa (.dk kvs),aa (.dk (ownOf rs))]) (dP rs) (by lia) (λ_=>trivial) (λt ht M2 C2 sb2 h3=>MQ (b:=mG rs ab t) rfl rfl (λR h=>⟨_,⟨Sum.inr t,rfl,rfl⟩,by show R (.bl (aQ kvs (Sum.inr t:aC)).isSome) _;rw[hfr];exact h⟩) rfl h3) ⟨_,rfl,?_⟩);show yQ (.bl ((q.parts.map (dP rs)).all id)) _ _;rw[zgZ];exact bS (λz=>(h1 _ (by rw[Vg z]))) λz=>h2 (by rw[Vf (by rw[z];exact Bf)])
 rw[zgW];show(aF ML _) _ [aa (a6 rs),aa (.dk (ownOf rs)),aa (.dk kvs),aa (.rl ((fX rs).map bD)),ae,ae,ae] _;refine λp hp=>?_;have lW:=λn=>Ar (Wd.rounds rs n).len g.nam;have lF:↥(fX rs)<=17:=Ar (Fw _ _) h17;refine⟨λm τ M'=>∃(n:Nat) (s:Int) (o6:Option W),τ=[aa (a6 rs),aa (.dk (ownOf rs)),aa (.dk kvs),aa (.rl ((fX rs).map bD)),aa (.ref p),aa (.int s),o6]/\M'=put M p (.dK ((eL rs n).map cM))/\(s<↥(eL rs n)\/∃k,n=k+1/\s=↥(eL rs k))/\m=2*(10-↥(eL rs n))+(if s<↥(eL rs n) then 1 else 0),⟨_,0,_,_,rfl,rfl,.inl (by show(-1:Int)<0;decide),rfl⟩,?_⟩;rintro m τ M' ⟨n,s,o6,rfl,rfl,hs,rfl⟩;refine(.inr ⟨_,aJ,bS (λz=>?_) λz=>?_⟩)
 .have z:=Vh z;rw[Ab]at z;rw[Vg z];refine(.inr ⟨_,aJ,(dX (λj τ M'=>∃o6,τ=[aa (a6 rs),aa (.dk (ownOf rs)),aa (.dk kvs),aa (.rl ((fX rs).map bD)),aa (.ref p),aa (.int ↥((eL rs n).map cM)),o6]/\M'=put M p (.dK ((((fX rs).take j).foldl (fR rs) (eL rs n)).map cM))) ⟨_,rfl,rfl⟩ ?_ ?_)⟩)
  .rintro j x τ M' hx ⟨o6,rfl,rfl⟩;rw[Av]at hx;let⟨q,hq,rfl⟩:=Az.mp hx;have hqm:=Ao hq;have hp4:=g.prt q (v8.mp hqm).1;obtain⟨D,hD⟩:∃D,D=((fX rs).take j).foldl (fR rs) (eL rs n):=⟨_,rfl⟩;have wD:Wd rs D:=by rw[hD];exact(Wd.rounds rs n).fold λr hr=>Ff hr
   have lD:=Ar wD.len g.nam;have hnx:((fX rs).take (j+1)).foldl (fR rs) (eL rs n)=fR rs D q:=by rw[Cb,hq,Kt,<-hD];rfl
   rw[hnx,<-hD];refine(BQ (rest:=[aa (.ref p),aa (.dk (ownOf rs))]) (cY rs D) (by lia) (λ_=>trivial) (λt ht M2 C2 sb2 h3=>MQ (b:=decide (t∈D)) rfl rfl (λR h=>.inr ⟨_,.inl ⟨_,Sum.inr t,sb2 _ _ aJ,rfl,rfl⟩,by show R (.bl (aQ (D.map cM) (Sum.inr t:aC)).isSome) _;rw[sM];exact h⟩) rfl h3) ⟨_,rfl,?_⟩);show yQ (.bl ((q.parts.map (cY rs D)).any id)) _ _;rw[zg0];refine bS (λz=>(rX aJ (cS (by rw[Ab];lia)) ⟨_,aP,_,rfl,?_⟩)) λz=>⟨_,aP,_,rfl,?_⟩
   .rw[cJ,vS];unfold fR;rw[Vg z]
   .unfold fR;rw[Vf (by rw[z];exact Bf)]
  .rintro τ M' ⟨o6,rfl,rfl⟩;have ek:((fX rs).take ↥((fX rs).map bD)).foldl (fR rs) (eL rs n)=eL rs (n+1):=by rw[Ab,Bp];rfl
   rw[ek];refine⟨_,_,?_,aP,n+1,_,_,rfl,rfl,.inr ⟨n,rfl,by rw[Ab]⟩,rfl⟩;let⟨q,hq⟩:=v7 rs (fX rs) (eL rs n);have e:↥(eL rs (n+1))=↥(eL rs n)+↥q:=by show(gD rs (eL rs n)).length=_;unfold gD;rw[hq,Ak]
   have:=lW (n+1);rw[Ab];split<;>lia
 .have z:=of_decide_eq_false z;rw[Ab]at z;rcases hs with hs|⟨k,rfl,rfl⟩
  .exact absurd hs z
  .have e:gD rs (eL rs k)=eL rs k:=zc5 (by have:↥(eL rs (k+1))=↥(gD rs (eL rs k)):=rfl;lia);have e1:eL rs (k+1)=eL rs k:=e;exact⟨_,aP,r _ ⟨k+1,rfl,by rw[e1];exact e⟩ p hp⟩
theorem MR{l:↑jJ}{keep:Mm->Prop}{k:dE}{m:aS}{c n:Option W}{rest:S3}{I:Mm}{R:K3}(b:Bool)(f:jJ->W)(hl:↥l<=1000)(hk:∀M,keep M)(F:∀x∈l,∀M (C:K3) (D:Mm->Prop),L2.Sub I M->(b=ab->C (f x) M)->(b=ac->D M)->k (aa (.tup (x.1.map W.str))::aa (.tup x.2)::rest) M λb H=>if b=ab then m (aa (.tup (x.1.map W.str))::aa (.tup x.2)::rest) H C else D H)(r:R (.rl (if b=ab then l.map f else [])) I):gN (l.map lP) keep zM k m (c::n::rest) I λw V=>frz w V R:=by
 unfold gN;intro p N;refine⟨λi U acc M=>(∃c n,U=c::n::rest)/\acc=(if b=ab then(l.take i).map f else [])/\M=I,⟨⟨_,_,rfl⟩,by split<;>rfl,rfl⟩,λ_ _ _ _ _ _ _ _=>hk _,?_,?_⟩
 .rintro vs i w U acc M hw d ⟨⟨c,n,rfl⟩,rfl,rfl⟩;rw[Av]at hw;let⟨x,J,rfl⟩:=Az.mp hw;have hi:=(Am.mp J).1;have Y:↥(if b=ab then(l.take i).map f else [])<Ax:=cS (by split<;>simp<;>lia);refine⟨rfl,rfl,F x (Ao J) _ _ _ (Sub.new N) (λG=>⟨aJ,Y,M,by rw[jQ N];exact aP,⟨_,_,rfl⟩,?_,rfl⟩) λG=>⟨aJ,M,by rw[jQ N];exact aP,⟨_,_,rfl⟩,?_,rfl⟩⟩
  .rw[Vg G,Vg G,Cb,J,Aw];rfl
  .rw[G];rfl
 .rintro U acc M d ⟨_,rfl,rfl⟩;rw[Ab,Bp];exact aR.frz r p N
theorem zg2{keep drop:Ay->Bool}{E:Ay->W}(h:x∈lJ keep drop E ps):↥x.1<=↥ps/\↥x.2<=↥ps:=by
 have:∀(ps:↑Ay) (told:↑jJ) (n:Nat),(∀y∈told,↥y.1<=n/\↥y.2<=n)->∀x∈ps.foldl (iV keep drop E) told,↥x.1<=n+↥ps/\↥x.2<=n+↥ps:=by
  intro ps
  induction ps with
  | nil=>intro told n h x J;exact h x J
  | cons t ps m=>
   intro told n h x J;have:=m (iV keep drop E told t) (n+1) (λy f=>?_) x J
   .rw[Bw];lia
   .unfold iV at f;rcases Ba.mp f with f|f
    .split at f
     .let⟨z,hz,rfl⟩:=Ap.mp f;have:=h z hz;simp only[Ak,Dl];lia
     .cases f
    .split at f
     .let⟨z,hz,rfl⟩:=Ap.mp f;have:=h z hz;simp only[Ak,Dl];lia
     .cases f
 have:=this ps [([],[])] 0 (λy f=>by rw[Af.mp f];exact⟨Ai _,Ai _⟩) x h;lia
theorem zg3(h:R (.rl ws) M):frz (.rl ws) M R:=h
theorem MS{keep drop:Ay->Bool}{E:Ay->W}(h:↥ps<=4):↥(lJ keep drop E ps)<=16:=by
 have:=J9 (keep:=keep) (drop:=drop) (E:=E) ps [([],[])];rw[Dl,Nat.mul_one]at this;exact Ar this (Lp (n:=2) ∅ h)
theorem zg4:bG MI zgN zgI:=by
 rintro _ M R ⟨rs,D,kvs,ps,rfl,hp4,r⟩;refine(dX (ws:=ps.map W.str) (λi τ M'=>∃o5 o6 o7,τ=[aa (.tup (ps.map W.str)),aa (.dk (ownOf rs)),aa (.dk (D.map cM)),aa (.dk kvs),aa (.rl ((lJ (cY rs D) (drK kvs) (lN kvs) (ps.take i)).map lP)),o5,o6,o7]/\M'=M) ⟨_,_,_,rfl,rfl⟩ ?_ ?_)
 .rintro i x τ M' hx ⟨o5,o6,o7,rfl,rfl⟩;rw[Av]at hx;let⟨t,ht,rfl⟩:=Az.mp hx;obtain⟨l,hl⟩:∃l,l=lJ (cY rs D) (drK kvs) (lN kvs) (ps.take i):=⟨_,rfl⟩;have l16:↥l<=16:=by rw[hl];exact MS (by rw[Ck];lia)
  have lx:∀x∈l,↥x.1<=4/\↥x.2<=4:=λx hx=>by
   rw[hl]at hx;let⟨h1,h2⟩:=zg2 hx;rw[Ck]at h1 h2;exact⟨by lia,by lia⟩
  have hnx:lJ (cY rs D) (drK kvs) (lN kvs) (ps.take (i+1))=iV (cY rs D) (drK kvs) (lN kvs) l t:=by
   rw[Cb,ht,hl];unfold lJ;rw[Kt];rfl
  rw[hnx,<-hl];refine(MR (rest:=[aa (.str t),aa (.dk (D.map cM)),aa (.dk (ownOf rs))]) (cY rs D t) (λx=>lP (x.1++[t],x.2++[W.int ↥x.1])) (by lia) (λ_=>trivial) (λx hx M C E sb h1 h2=>?_) ?_)
  .let⟨x1,x2⟩:=lx x hx;have go:cY rs D t=ab->a8 (aA (aG nY (cH 0) (a8 (aA (cH 2) aB))) (aA (aG nY (cH 1) (a8 (aA (bH cL (aA (cH 0) aB)) aB))) aB)) (aa (.tup (x.1.map W.str))::aa (.tup x.2)::[aa (.str t),aa (.dk (D.map cM)),aa (.dk (ownOf rs))]) M C:=λz=>by
    refine⟨_,_,rfl,rfl,small (by rw[Ab];show _+1<=_;lia),_,_,rfl,rfl,small (by show _+1<=_;lia),?_⟩;have:=h1 z;unfold lP at this;rw[Aw]at this;rw[Ab];exact this
   refine⟨_,⟨Sum.inr t,rfl,rfl⟩,?_⟩;show if (aQ (D.map cM) (Sum.inr t:aC)).isSome=ab then _ else _;rw[sM];refine bS (λz=>go (by unfold cY;rw[z];rfl)) λz=>⟨_,⟨Sum.inr t,rfl,rfl⟩,?_⟩
   show if (!(aQ (ownOf rs) (Sum.inr t:aC)).isSome)=ab then _ else _;rw[mK];exact bS (λy=>go (by unfold cY;rw[y,Kw])) λy=>h2 (by unfold cY;rw[z,y];rfl)
  .refine(MR (rest:=[aa (.str t),aa (.dk kvs)]) (drK kvs t) (λx=>lP (x.1,x.2++[W.tup [.str "whole",lN kvs t]])) (by lia) (λ_=>trivial) (λx hx M C E sb h1 h2=>?_) ?_)
   .let⟨x1,x2⟩:=lx x hx;refine⟨_,⟨Sum.inr t,rfl,rfl⟩,?_⟩;show if (aQ kvs (Sum.inr t:aC)).isSome=ab then _ else _;refine bS (λz=>?_) λz=>h2 z;have lk:aa (lN kvs t)=aQ kvs (Sum.inr t:aC):=by
     let⟨v,hv⟩:=Ef.mp z;unfold lN;rw[hv];rfl
    exact⟨_,⟨Sum.inr t,rfl,lk⟩,_,_,rfl,rfl,small (by show _+1<=_;lia),h1 z⟩
   .refine⟨small ?_,?_⟩
    .split<;>split<;>simp<;>lia
    .have e:(if cY rs D t=ab then l.map λx=>lP (x.1++[t],x.2++[W.int ↥x.1]) else [])++(if drK kvs t=ab then l.map λx=>lP (x.1,x.2++[W.tup [.str "whole",lN kvs t]]) else [])=(iV (cY rs D) (drK kvs) (lN kvs) l t).map lP:=by
      unfold iV;rw[Aw];congr 1
      .split
       .rw[Bm];rfl
       .rfl
      .split
       .rw[Bm];rfl
       .rfl
     rw[<-e];exact⟨_,aP,_,_,_,rfl,rfl⟩
 .rintro τ M' ⟨o5,o6,o7,rfl,rfl⟩;rw[Ab,Bp];exact⟨_,aP,r⟩
theorem sP:∀{a b:↑Ay},a.map W.str=b.map W.str->a=b
 | [],[],_=>rfl
 | [],_::_,h=>nomatch h
 | _::_,[],h=>nomatch h
 | x::a,y::b,h=>by
  rw[Bd,Bd,Es,W.str.injEq]at h;rw[h.1,sP h.2]
section
variable {P:Bc}{w:Bo}{C:Cc}
def B6(X:Ay)(y:jJ)(x:NP):Prop:=x=(X,y.1)/\y.1≠[]/\y.1≠[X]
theorem zg5:bG (MJ P w C) (zgP P w C) zgO:=by
 rintro _ M R ⟨a,d,dx,l,rs,X,D,kvs,rfl,pl,hl,g,r⟩;have c:=g.few100;have h17:=g.few;refine⟨rs,rfl,Ar c ∅,aR.frz ⟨namesOf rs,rfl,xB c,rs,X,rfl,c,aR.frz ?_⟩⟩;refine dX (λi U V=>∃J Q s H,U=[aa (.ref a),aa (a6 rs),aa (.str X),aa (.dk (D.map cM)),aa (.dk kvs),aa (.dk (ownOf rs)),Q,s,H]/\V=put M d (.dn P w [0] (kvsOf J))/\Ex l (16*i) (λx=>∃n∈(numsOf rs X).take i,∃r,rs[n]? = aa r/\∃y∈B1 rs D kvs r.parts,B6 X y x) J) ⟨l,_,_,_,rfl,(LU pl.di).symm,Ex.start⟩ ?_ ?_
 .rintro i y U V f ⟨J,Q,s,H,rfl,rfl,I⟩;rw[Av]at f;let⟨n,hn,rfl⟩:=Az.mp f;let⟨ru,E,en⟩:=nZ.mp (Ao hn);let⟨k,O,L⟩:=lI (rs:=rs) (n:=n) (Am.mp E).1;cases (show aa k=aa ru from O.symm.trans E);have S:=Ao E;have hp4:=g.prt ru S;have hi:=Bv (Am.mp hn).1 (w6 rs X);have g1l:=I.len;refine so.of L ⟨rs,D,kvs,ru.parts,rfl,hp4,?_⟩;obtain⟨G,A⟩:∃G,G=B1 rs D kvs ru.parts:=⟨_,rfl⟩;rw[<-A];have y16:↥G<=16:=by rw[A];exact MS hp4
  refine zg3 (dX (ws:=G.map lP) (λj U V=>∃m s H,U=[aa (.ref a),aa (a6 rs),aa (.str X),aa (.dk (D.map cM)),aa (.dk kvs),aa (.dk (ownOf rs)),aa (.int n),s,H]/\V=put M d (.dn P w [0] (kvsOf m))/\Ex J (1*j) (λx=>∃y∈G.take j,B6 X y x) m) ⟨J,_,_,rfl,rfl,Ex.start⟩ ?_ ?_)
  .rintro j y U V f ⟨m,s,H,rfl,rfl,T⟩;rw[Av]at f;let⟨y,hyj,rfl⟩:=Az.mp f;have hj:=(Am.mp hyj).1;have g2l:=T.len;have ysh:∀t∈y.1,Sh t:=λt ht=>g.sh ru S t ((v9.mp ⟨y,A▸Ao hyj,rfl⟩:Th _ _ _ _).sub t ht).1;have Xsh:∀t∈[X],Sh t:=λt ht=>by rw[Af.mp ht,<-en];exact g.shn ru S
   have no:(y.1≠[]->y.1=[X])->Ex J (1*(j+1)) (λx=>∃y∈G.take (j+1),B6 X y x) m:=λz=>T.step hyj (.no λx h=>h.2.2 (z h.2.1));refine⟨rfl,rfl,nH 2 ∅ (nX ysh) (nX (ps:=[]) (λt ht=>nomatch ht)) λK u=>bS (λv=>?_) λv=>⟨_,aP,m,_,_,rfl,rfl,no λz=>?_⟩⟩
   .refine nH 2 ∅ (nX ysh) (nX (ps:=[X]) Xsh) λW p=>bS (λY=>?_) λY=>⟨_,aP,m,_,_,rfl,rfl,no λ_=>?_⟩
    .exact mI (pl.putD m).ob nV ⟨a,d,dx,m,(X,y.1),_,rfl,pl.putD m,by lia,λo g'=>⟨_,aP,o,_,_,rfl,cJ,T.step hyj (g'.cg λx=>⟨λe=>⟨e,(λz=>by rw[u.mpr (by rw[z];rfl)]at v;cases v),(λz=>by rw[p.mpr (by rw[z];rfl)]at Y;cases Y)⟩,λh=>h.1⟩)⟩⟩
    .have Y:W=ab:=by cases W;cases Y;rfl
     exact sP (by have:=p.mp Y;injection this)
   .have v:K=ab:=by cases K;cases v;rfl
    exact absurd (sP (b:=[]) (by have:=u.mp v;injection this)) z
  .rintro U V ⟨m,s,H,rfl,rfl,T⟩;rw[Ab,Bp,A]at T;refine⟨_,aP,m,_,_,_,rfl,rfl,I.step hn ((T.le (by rw[<-A];lia)).cg λx=>⟨λh=>⟨ru,E,h⟩,λ⟨q,Z,h⟩=>?_⟩)⟩;rw[E]at Z;cases Z;exact h
 .rintro U V ⟨J,Q,s,H,rfl,rfl,I⟩;rw[Ab,Bp]at I;have:=w6 rs X;refine⟨_,aP,r J ((I.le (by lia)).cg λx=>⟨?_,?_⟩)⟩
  .rintro⟨n,hn,q,Z,y,f,rfl,L,h3⟩;let⟨N,B,en⟩:=nZ.mp hn;rw[Z]at B;cases B;exact⟨rfl,q,Ao Z,en,v9.mp ⟨y,f,rfl⟩,L,h3⟩
  .rintro⟨O,q,Z,en,L,h3,F⟩;let⟨n,hn⟩:=Hs Z;let⟨y,f,e⟩:=v9.mpr L;exact⟨n,nZ.mpr ⟨q,hn,en⟩,q,hn,y,f,by rw[e,<-O],e▸h3,e▸F⟩
end
section
variable {P:Bc}{w:Bo}{C:Cc}
def kL(l:↑(NP×W)):↑W:=(l.map λz=>mJ z.1).map bD
def vL(l:↑(NP×W)):↑W:=l.map λz=>z.2
theorem MT(l:↑(NP×W)):((kvsOf l).map λz=>fQ [0] z.1)=kL l:=by
 unfold kvsOf kL;rw[Bm,Bm];exact Dy λz _=>BA z.1
theorem MU(l:↑(NP×W)):((kvsOf l).map λz=>z.2)=vL l:=by unfold kvsOf vL;rw[Bm];rfl
theorem zg6:Cf ("is_part" : Ay) [(("backs" : Ay),W.ref d)]=ae:=by
 rw[Dz,show(("is_part" : Ay)==("backs" : Ay))=ac by decide +kernel];rfl
theorem zg7:bG MK (zgU P w C) zgQ:=by
 rintro _ M R ⟨rs,rfl,g,r⟩;have h100:=g.few100;have hnm:=g.nam;obtain⟨q0,l,e0⟩:∃q l,rs=q::l:=by
  cases rs with
  | nil=>exact absurd rfl g.ne
  | cons q l=>exact⟨q,l,rfl⟩
 refine⟨q0,l,by rw[e0];rfl,rs,rfl,g,λD hD=>iO.frz ⟨rs,rfl,g,λkvs he=>iO.frz ?_⟩⟩;obtain⟨F,hF⟩:∃F,F=q0.name:=⟨_,rfl⟩;rw[<-hF];have hF0:f0 rs=F:=by rw[hF,e0];rfl
 have hD2:gD rs D=D:=hD.elim λ_ h=>h.2;have hdr:∀t,drK kvs t=ab↔d9 rs ac t:=λt=>by rw[he,lH]
 have go:F∈D\/drK kvs F=ab->(aF (MM P w C) (aF (MN P w C) (aF (B2 P w C) (aF (MP P w C) (aF (B3 P w C) (aF (B4 P w C) (B5 P w C))))))) (k7 R) [aa (a6 rs),aa (.str F),aa (.dk (D.map cM)),aa (.dk kvs),ae,ae,ae,ae,ae,ae] M:=λhc=>by
  have has:drK kvs F=ac->∃l,lK rs D (drK kvs) F l:=λz=>by
   have hFD:=hc.resolve_right (by rw[z];exact Bf);let⟨n,e1,e2⟩:=hD;exact zc9 (by rw[e1];exact Wd.rounds rs n) e2 hdr hFD
  refine λa dx ha hdx hne=>⟨a,dx,rfl,aJ,λd hd=>⟨rfl,?_⟩⟩
  have had:a≠d:=λe=>by rw[<-e,aJ]at hd;cases hd
  rw[aT (Bx had)]at hd;rw[Bt.first had];refine⟨rs,rfl,Ar h100 ∅,aR.frz ?_⟩;refine dX (λi τ M'=>∃T o5,τ=[aa (a6 rs),aa (.str F),aa (.dk (D.map cM)),aa (.dk kvs),aa (.ref a),o5,ae,ae,ae,ae]/\M'=Bt P w C.p M a d dx T/\Ex [] (272*i) (λx=>∃X∈(namesOf rs).take i,x.1=X/\lK rs D (drK kvs) X x.2) T/\(0<i->Hd F (∃l,lK rs D (drK kvs) F l) T)) ⟨[],_,rfl,rfl,Ex.start,λh=>absurd h ∅⟩ ?_ ?_
  .rintro i v τ M' hv ⟨T,o5,rfl,rfl,g1,h1⟩;rw[Av]at hv;let⟨X,hX,rfl⟩:=Az.mp hv;have hi:=(Am.mp hX).1;have g1l:↥T<=0+272*i:=g1.len;refine⟨a,d,dx,T,rs,X,D,kvs,rfl,Bt.pl had,by lia,g,λl' g'=>⟨_,aP,l',aa (.str X),rfl,Bt.put,g1.step hX g',λ_=>?_⟩⟩;cases i with
   | zero=>
    cases T with
    | nil=>
     have:F=X:=by rw[wM g.ne,hF0]at hX;cases hX;rfl
     exact Hd.of g' (λx h=>h.1.trans this.symm) λ⟨l,hl⟩=>⟨(X,l),rfl,this▸hl⟩
    | cons z l=>cases g1l
   | succ i=>exact(h1 (Sw i)).ex g'
  .rintro τ M' ⟨T,o5,rfl,rfl,g1,h1⟩;rw[Ab]at h1;rw[Ab,Bp]at g1;have hT:=h1 (Ia.mpr λz=>by have:=wM g.ne;rw[z]at this;cases this);have lT:↥T<=1500:=by have:↥T<=0+272*↥(namesOf rs):=g1.len;lia
   have g1:∀X ps,(∃q∈dQ T,q.name=X/\q.parts=ps)↔lK rs D (drK kvs) X ps:=(g1.cg λx=>⟨λ⟨Y,_,e,h⟩=>e▸h,λh=>⟨x.1,jG.mpr (h.elim λr h=>⟨r,h.1,h.2.1⟩),rfl,h⟩⟩).rs;show(aF (B2 P w C) _) _ _ (Bt P w C.p M a d dx T);have sb1:L2.Sub M (Bt P w C.p M a d dx T):=Bt.sub ha hd had;have pl1:j0 P w C.p (Bt P w C.p M a d dx T) a d dx T:=Bt.pl had;generalize hM1:Bt P w C.p M a d dx T=M1 at sb1 pl1;refine λa2 dx2 ha2 hdx2 hne2=>⟨a2,dx2,rfl,aJ,λd2 hd2=>⟨rfl,?_⟩⟩
   have had2:a2≠d2:=λe=>by rw[<-e,aJ]at hd2;cases hd2
   rw[aT (Bx had2)]at hd2;rw[Bt.first had2];have sb2:∀l,L2.Sub M (Bt P w C.p M1 a2 d2 dx2 l):=λl=>sb1.trans (Bt.sub ha2 hd2 had2);have pl2:∀l,j0 P w C.p (Bt P w C.p M1 a2 d2 dx2 l) a d dx T:=λl=>⟨Bt.sub ha2 hd2 had2 _ _ pl1.ob,Bt.sub ha2 hd2 had2 _ _ pl1.di⟩
   have fin:∀(lb:↑(NP×W)) (o7:Option W),↥lb<=2->wO isNameB rs D (drK kvs) (dQ lb++dQ T)->(aF (B3 P w C) (aF (B4 P w C) (B5 P w C))) (k7 R) [aa (a6 rs),aa (.str F),aa (.dk (D.map cM)),aa (.dk kvs),aa (.ref a),o5,aa (.ref a2),o7,ae,ae] (Bt P w C.p M1 a2 d2 dx2 lb):=λlb o7 CK hne3=>by
    refine mI (pl2 lb).ob sN ⟨a,d,dx,_,rfl,pl2 lb,λt0 t1 ht0 ht1 tne=>?_⟩;rw[MT,MU];have ht1':put (Bt P w C.p M1 a2 d2 dx2 lb) t0 (.lst (kL T)) t1=ae:=by rw[aT (Bx tne)];exact ht1
    have sb3:=(Sub.new (o:=.lst (kL T)) ht0).trans (Sub.new (o:=.lst (vL T)) ht1');have pl3:j0 P w C.p (put (put (Bt P w C.p M1 a2 d2 dx2 lb) t0 (.lst (kL T))) t1 (.lst (vL T))) a2 d2 dx2 lb:=⟨sb3 _ _ (Bt.pl had2).ob,sb3 _ _ (Bt.pl had2).di⟩;have m0:put (put (Bt P w C.p M1 a2 d2 dx2 lb) t0 (.lst (kL T))) t1 (.lst (vL T)) t0=aa (.lst (kL T)):=by rw[aT tne,aJ]
    have m1:put (put (Bt P w C.p M1 a2 d2 dx2 lb) t0 (.lst (kL T))) t1 (.lst (vL T)) t1=aa (.lst (vL T)):=aJ;have sb4:=(sb2 lb).trans sb3;generalize put (put (Bt P w C.p M1 a2 d2 dx2 lb) t0 (.lst (kL T))) t1 (.lst (vL T))=M3 at pl3 m0 m1 sb4;refine mI pl3.ob sN ⟨a2,d2,dx2,_,rfl,pl3,λb0 b1 hb0 hb1 bne=>?_⟩;rw[MT,MU];have hb1':put M3 b0 (.lst (kL lb)) b1=ae:=by rw[aT (Bx bne)];exact hb1
    have sb5:=(Sub.new (o:=.lst (kL lb)) hb0).trans (Sub.new (o:=.lst (vL lb)) hb1');have n0:put (put M3 b0 (.lst (kL lb))) b1 (.lst (vL lb)) b0=aa (.lst (kL lb)):=by rw[aT bne,aJ]
    have n1:put (put M3 b0 (.lst (kL lb))) b1 (.lst (vL lb)) b1=aa (.lst (vL lb)):=aJ;have m0:=sb5 _ _ m0;have m1:=sb5 _ _ m1;have sb6:=sb4.trans sb5;generalize put (put M3 b0 (.lst (kL lb))) b1 (.lst (vL lb))=M4 at n0 n1 m0 m1 sb6;have kl:↥(kL lb)+↥(kL T)<=10000:=by unfold kL;rw[Ab,Ab,Ab,Ab];lia
    have vl:↥(vL lb)+↥(vL T)<=10000:=by unfold vL;rw[Ab,Ab];lia
    refine⟨_,_,n0,m0,small (by lia),λx hx=>?_⟩;refine⟨_,_,Sub.new hx _ _ n1,Sub.new hx _ _ m1,small (by lia),λy hy=>⟨_,?_,r (lb++T) D (drK kvs) hD2 hdr (by unfold dQ at hne3⊢;rw[Aw];exact hne3) (by rw[Ak];lia) x y (sb6.non hx) ?_ ?_⟩⟩
    .have ek:kL lb++kL T=((lb++T).map λz=>mJ z.1).map bD:=by unfold kL;rw[Aw,Aw]
     have ev:vL lb++vL T=(lb++T).map λz=>z.2:=by unfold vL;rw[Aw]
     rw[ek,ev];exact Sub.put (Sub.put sb6)
    .exact sb6.non ((Sub.new hx).non hy)
    .exact λe=>by rw[e,aJ]at hy;cases hy
   refine⟨_,⟨Sum.inr F,rfl,rfl⟩,bS (b:=drK kvs F) (λy1=>?_) λy1=>fin [] _ (Cn _) (.inr ⟨dQ T,g1,.inl ⟨hF0.symm▸y1,rfl,hF0.symm▸Hd.f0 λ_=>hT (has y1)⟩⟩)⟩;let⟨v,hv⟩:=Ef.mp y1;refine mI (pl2 []).ob zg6 ⟨a,d,dx,T,F,rfl,pl2 [],by lia,λb=>bS (b:=b) (λ_=>?_) λ_=>?_⟩
   .refine⟨rs,rfl,Ar h100 ∅,aR.frz ⟨namesOf rs,1,rfl,by lia,aR.frz ?_⟩⟩;let⟨x,hx⟩:=List.length_eq_one_iff.mp (KR (old:=namesOf rs) (n:=1) (Gb (show 1+↥(namesOf rs)<=5 by lia) ∅));rw[hx];refine mI (Bt.pl had2).ob nV ⟨a2,d2,dx2,[],(x,[F]),_,rfl,Bt.pl had2,Cn _,λl1 g2=>?_⟩;rw[Bt.put];let⟨v1,rfl⟩:=g2.one (λh=>nomatch h);refine mI (Bt.pl had2).ob nV ⟨_,⟨Sum.inr F,rfl,hv.symm⟩,a2,d2,dx2,_,(x,[]),_,rfl,Bt.pl had2,by show 1<=_;lia,λl2 g3=>?_⟩;rw[Bt.put];let⟨v2,rfl⟩:=g3.one (λh=>nomatch (Mf (Af.mp h)).2);let⟨x1,i,xi,x2⟩:=A7 (by rw[hx];exact .head _:x∈lL (namesOf rs) 1);exact fin _ _ (Ai _) (.inr ⟨dQ T,g1,.inr ⟨hF0.symm▸y1,.inr ⟨x,Vj x1,x2▸(wL (by lia)).nm,x2▸wL (by lia),by rw[hF0];rfl⟩⟩⟩)
   .refine mI (Bt.pl had2).ob nV ⟨_,⟨Sum.inr F,rfl,hv.symm⟩,a2,d2,dx2,[],(F,[]),_,rfl,Bt.pl had2,Cn _,λl2 g3=>?_⟩;rw[Bt.put];let⟨v2,rfl⟩:=g3.one (λh=>nomatch h);exact fin _ _ (by show 1<=2;lia) (.inr ⟨dQ T,g1,.inr ⟨hF0.symm▸y1,.inl (by rw[hF0];rfl)⟩⟩)
 refine⟨_,⟨Sum.inr F,rfl,rfl⟩,?_⟩;show if (!(aQ (D.map cM) (Sum.inr F:aC)).isSome)=ab then _ else _;rw[sM];refine bS (λy1=>⟨_,⟨Sum.inr F,rfl,rfl⟩,bS (b:=!drK kvs F) (λy2=>?_) λy2=>go (.inr ?_)⟩) λy1=>go (.inl ?_)
 .exact⟨rs,rfl,g.ne,λv p q hp hq ne=>⟨_,aP,r _ D (drK kvs) hD2 hdr (.inl ⟨hF0.symm▸of_decide_eq_false (by rw[<-Ga (decide (F∈D)),y1];rfl),hF0.symm▸(by rw[<-Ga (drK kvs F),y2];rfl),rfl⟩) (by show 1<=2000;lia) p q hp hq ne⟩⟩
 .rw[<-Ga (drK kvs F),y2];rfl
 .exact Vh (by rw[<-Ga (decide (F∈D)),y1];rfl)
end
theorem MV(h:sglB rs r=ab):∃Y,r.parts=[Y]/\ownB rs Y=ab:=by
 unfold sglB at h;split at h
 .rename_i t e;exact⟨t,e,h⟩
 .cases h
theorem B7(h:dP rs t=ab)(o:ownB rs t=ab):d9 rs ab t:=by
 unfold dP at h;rw[o,Pg,Rz]at h;exact lH.mp h
theorem B8(h:d9 rs ab t):dP rs t=ab:=by unfold dP;rw[lH.mpr h];rfl
theorem B9(h:ownB rs t=ac):dP rs t=ab:=by unfold dP;rw[h];exact Kw _
theorem zg8(h:d9 rs ab X):∃l,iX rs X l:=by
 induction h with
 | @mk r T N _ E=>
  cases F:sglB rs r with
  | false=>exact⟨_,r,T,.rf,rfl,F,λt ht=>by
    cases S:ownB rs t with
    | true=>exact B8 (N t ht S)
    | false=>exact B9 S⟩
  | true=>
   let⟨Y,e,o⟩:=MV F;let⟨l,q,O,L,h3⟩:=E Y (by rw[e];exact .head _) o;exact⟨l,q,O,.st T e o L,h3⟩
section
variable {nm:Ay->Bool}{rs pl tl:↑aE}
theorem iE.chs(g:iE nm rs)(N:∀X l,X∈namesOf rs->iX rs X l->∃q∈pl,q.name=X/\q.parts=l)(Z:∀q∈pl,iX rs q.name q.parts)(h:Dv nm rs ps row):
  (∀t∈ps,nm t=ownB rs t)->(∀t∈ps,dP rs t=ab)/\Dv nm pl ps row:=by
 induction h with
 | nil=>exact λ_=>⟨(λ_ h=>nomatch h),.nil⟩
 | @wd t ps row n _ E=>
  intro hn;let⟨O,L⟩:=E λt ht=>hn t (.tail _ ht);exact⟨λu U=>(Au.mp U).elim (λz=>z▸B9 ((hn t (.head _))▸n)) (O u),.wd n L⟩
 | @nd r ps a b T n _ _ m Q=>
  intro hn;let⟨i,P⟩:=m (g.prt r T);let⟨H,W⟩:=Q λt ht=>hn t (.tail _ ht);have put:∀l,iX rs r.name l->Dv nm pl l a->Dv nm pl [r.name] a:=λl hc k=>by
   let⟨q,Z,D,A⟩:=N r.name l (jG.mpr ⟨r,T,rfl⟩) hc;rw[<-D];exact .one Z (by rw[D];exact n) (by rw[A];exact k)
  refine⟨λu U=>(Au.mp U).elim (λz=>z▸B8 (.mk T (λt ht o=>B7 (i t ht) o) λ_ _ _=>rfl)) (H u),Dv.app (ps:=[r.name]) ?_ W⟩;cases F:sglB rs r with
  | false=>exact put _ ⟨r,T,.rf,rfl,F,i⟩ P
  | true=>
   let⟨Y,e,o⟩:=MV F;rw[e]at P;let⟨q,d,p,B⟩:=P.inv (by rw[g.prt r T Y (by rw[e];exact .head _)];exact o);let⟨s,M,C,j⟩:=Z q d;rw[p]at C;exact put _ ⟨s,M,.st T e o C,j⟩ B
theorem iE.noS(g:iE nm rs)(hn:rs≠[])(h:(¬d9 rs ab (f0 rs)/\tl=sL (f0 rs))\/(f0 tl=f0 rs/\(∀X l,X∈namesOf rs->iX rs X l->∃q∈tl,q.name=X/\q.parts=l)/\∀q∈tl,iX rs q.name q.parts)):wN nm rs tl:=by
 let⟨S,j,F⟩:=pA hn;have d:ownB rs (f0 rs)=ab:=by rw[<-F];exact lE j
 have c:nm (f0 rs)=ab:=by rw[<-F];exact g.nam _ j
 have G:∀t∈[f0 rs],nm t=ownB rs t:=λt ht=>by rw[Af.mp ht,d,c]
 intro row;rcases h with⟨O,rfl⟩|⟨O,L,h3⟩
 .refine⟨λk=>absurd (.head _) (K1 c k),λk=>absurd ?_ O⟩;have fr:∀{ps row},Dv nm rs ps row->(∀t∈ps,nm t=ownB rs t)->∀t∈ps,dP rs t=ab:=λk=>by
   induction k with
   | nil=>exact λ_ _ h=>nomatch h
   | wd n _ E=>exact λhn u U=>(Au.mp U).elim (λz=>z▸B9 ((hn _ (.head _))▸n)) (E (λt ht=>hn t (.tail _ ht)) u)
   | nd T n _ _ m Q=>exact λhn u U=>(Au.mp U).elim (λz=>z▸B8 (.mk T (λt ht o=>B7 (m (g.prt _ T) t ht) o) λ_ _ _=>rfl)) (Q (λt ht=>hn t (.tail _ ht)) u)
  exact B7 (fr k G _ (.head _)) d
 .rw[O];refine⟨λk=>k.sim λq N n a k=>?_,λk=>(g.chs L h3 k G).2⟩;let⟨r,T,hc,e,_⟩:=h3 q N;rw[<-e]at k;have k:=Dv.one T (g.nam r T) k;generalize r.name=Z at hc k;generalize q.name=X at hc
  induction hc with
  | rf=>exact k
  | st a b _ _ E=>exact .one a (g.nam _ a) (by rw[b];exact E k)
end
def xE(rs:↑aE):Prop:=∀r∈rs,r.parts=[]->r.name=f0 rs/\∀q∈rs,f0 rs∉q.parts
def MW:aY:=λws M R=>∃rs:↑aE,ws=[a6 rs]/\iW rs/\xE rs/\R .non M
def MX:aY:=λws M R=>∃rs:↑aE,ws=[a6 rs]/\iW rs/\xE rs/\∀l,((¬d9 rs ab (f0 rs)/\dQ l=sL (f0 rs))\/(f0 (dQ l)=f0 rs/\(∀X ps,X∈namesOf rs->iX rs X ps->∃q∈dQ l,q.name=X/\q.parts=ps)/\∀q∈dQ l,iX rs q.name q.parts/\q.name∈namesOf rs))->↥l<=2000->qG l M R
abbrev zg9:↑Ay:=["grammar","first","is_part","rule"]
abbrev zha:aD:=
   (cC (iR (bN (aG (eD ac) (vX bB a7) (a8 aB))) (uD (bN (aG (eD ab) (vX bB bC) aM)) (fB aX)))
    uY
    cX)
abbrev zhb:aD:=(aF (aN 1 (aW sC (aA aH aB))) (aF (aN 2 (bH vA (aA (bE (c7 (bK cA aH) (aV 0) eU (aG (bX ac) aM (vX aH a7)) [ae,aa 1])) aB)))
   (b9 (bK cA aH) (aV 3) zha)))
abbrev zhc:↑Ay:=["grammar","fruitful","plain","name"]
abbrev zhd(P:Bc)(w:Bo)(C:Cc):aD:=
   (b7 (aW (LS P w C) (aA aX (aA aH (aA bB (aA aM aB))))))
abbrev zhe(P:Bc)(w:Bo)(C:Cc):aD:=(aF (b7 (aW MW (aA aH aB))) (aF (aN 1 (bE (aW BD (aA aH aB))))
   (aF (cC (bN (aG (bX ab) (aW sC (aA aH aB)) aM)) (bM (aW BN (aA aH aB))) cX)
   (aF (aN 2 (mC C.p (qE P w C.p) aB))
   (aF (b9 (bK cA (bE (aW jI (aA aH aB)))) (aV 3) (zhd P w C))
   (bM (d8 C.p "grammar_and_backs" (qF P w C.p) aX aB)))))))
theorem zhf:bG MW zhb zg9:=by
 rintro _ M R ⟨rs,rfl,g,E,r⟩;have hf:=g.few;let⟨J,l,F⟩:=Er g.ne;have A:f0 rs=J.name:=by rw[F];rfl
 refine⟨J,l,by rw[F];rfl,?_⟩;refine nJ (rest:=[aa (.str J.name)]) (λw=>match w with|.tup [_,.tup ps,_]=>.bl (inW (.str J.name) ps)|_=>.non) (small (by rw[Ab];lia)) (λ_ _=>trivial) (λw hw V C sb O=>?_) (aR.frz ?_)
 .let⟨q,Z,rfl⟩:=Ap.mp hw;exact⟨rfl,qB _,O⟩
 have B:((rs.map bD).map λw=>match w with|.tup [_,.tup ps,_]=>W.bl (inW (.str J.name) ps)|_=>.non)=bools (rs.map λq=>decide (J.name∈q.parts)):=by
  unfold bools;rw[Bm,Bm];refine Dy λz _=>?_;show W.bl (inW (.str J.name) (z.parts.map W.str))=.bl (decide (J.name∈z.parts));rw[sE]
 rw[B];refine⟨_,rfl,?_⟩;generalize G:(rs.map λq=>decide (J.name∈q.parts)).any id=b;refine gC (λi U V=>∃o,U=[aa (.rl (rs.map bD)),aa (.str J.name),aa (.bl b),o]/\V=M) ⟨_,rfl,rfl⟩ ?_ ?_
 .rintro i w U V hw ⟨o,rfl,rfl⟩ D K;rw[Av]at hw;let⟨q,Z,rfl⟩:=Az.mp hw;have P:=Ao Z;refine nH 2 ∅ (nX (g.sh q P)) (nX (ps:=[]) (λt ht=>nomatch ht)) λc hc=>?_;have go:=K _ _ ⟨aa (bD q),rfl,rfl⟩;refine bS (b:=c) (λv=>?_) λv=>go;let⟨d,j⟩:=E q P (sP (b:=[]) (W.tup.inj (hc.mp v)));refine bS (b:=!decide (q.name=J.name)) (λY=>?_) λY=>bS (b:=b) (λk=>?_) λk=>go
  .rw[Vi (d.trans A)]at Y;cases Y
  .rw[<-G,Ku,Gg]at k;let⟨z,hz,h⟩:=k;exact absurd (Vh h) (A▸j z hz)
 .rintro U V ⟨o,rfl,rfl⟩;exact⟨_,aP,r⟩
section
variable {P:Bc}{w:Bo}{C:Cc}
theorem zhg:bG MX (zhe P w C) zhc:=by
 rintro _ M R ⟨rs,rfl,g,fu,r⟩;have hf:=g.few;have hnm:=g.nam;let⟨q0,l,e0⟩:=Er g.ne;have hF:f0 rs=q0.name:=by rw[e0];rfl
 refine⟨rs,rfl,g,fu,rs,rfl,g.gl,λkvs hk=>iO.frz ⟨q0,l,by rw[e0];rfl,_,⟨Sum.inr q0.name,rfl,rfl⟩,bS (b:=!(aQ kvs (Sum.inr q0.name:aC)).isSome) (λhn=>?_) λhn=>?_⟩⟩
 .refine⟨rs,rfl,g.ne,λv p q hp hq ne=>⟨_,aP,r _ (.inl ⟨λz=>?_,rfl⟩) (by show 1<=2000;lia) p q hp hq ne⟩⟩;rw[hk,<-hF,lH.mpr z]at hn;cases hn
 have hn:d9 rs ab (f0 rs):=lH.mp (by rw[hF,<-hk,<-Ga (aQ kvs _).isSome,hn];rfl);refine λa dx ha hdx hne=>⟨a,dx,rfl,aJ,λd hd=>⟨rfl,?_⟩⟩
 have had:a≠d:=λe=>by rw[<-e,aJ]at hd;cases hd
 rw[aT (Bx had)]at hd;rw[Bt.first had];refine⟨rs,rfl,by lia,aR.frz ?_⟩;refine dX (λi τ M'=>∃T o3,τ=[aa (a6 rs),aa (.dk kvs),aa (.ref a),o3]/\M'=Bt P w C.p M a d dx T/\Ex [] (68*i) (λx=>∃X∈(namesOf rs).take i,x.1=X/\iX rs X x.2) T/\(0<i->Hd (f0 rs) True T)) ⟨[],_,rfl,rfl,Ex.start,λh=>absurd h ∅⟩ ?_ ?_
 .rintro i v τ M' hv ⟨T,o3,rfl,rfl,g1,h1⟩;rw[Av]at hv;let⟨X,hX,rfl⟩:=Az.mp hv;have hi:=(Am.mp hX).1;have g1l:↥T<=0+68*i:=g1.len;refine⟨a,d,dx,T,rs,X,kvs,rfl,Bt.pl had,by lia,g,Ao hX,hk,λl' g'=>⟨_,aP,l',aa (.str X),rfl,Bt.put,g1.step hX g',λ_=>?_⟩⟩;cases i with
  | zero=>
   cases T with
   | nil=>
    have:f0 rs=X:=by rw[wM g.ne]at hX;cases hX;rfl
    exact Hd.of g' (λx h=>h.1.trans this.symm) λ_=>(zg8 hn).elim λl hl=>⟨(X,l),rfl,this▸hl⟩
   | cons z l=>cases g1l
  | succ i=>exact(h1 (Sw i)).ex g'
 .rintro τ M' ⟨T,o3,rfl,rfl,g1,h1⟩;rw[Ab]at h1;rw[Ab,Bp]at g1;have hT:=h1 (Ia.mpr λz=>by have:=wM g.ne;rw[z]at this;cases this);have lT:↥T<=0+68*↥(namesOf rs):=g1.len;have g1:=(g1.cg (T:=λx=>x.1∈namesOf rs/\iX rs x.1 x.2) λx=>⟨λ⟨Y,h,e,k⟩=>e▸⟨h,k⟩,λh=>⟨x.1,h.1,rfl,h.2⟩⟩).rs (S:=λX ps=>X∈namesOf rs/\iX rs X ps);exact mI (Bt.pl had).ob sN ⟨a,d,dx,_,rfl,Bt.pl had,λp q hp hq ne=>BH ha hd had (r T (.inr ⟨hT.f0,λX ps h1 h2=>(g1 X ps).mpr ⟨h1,h2⟩,λq hq=>((g1 _ _).mp ⟨q,hq,rfl,rfl⟩).symm⟩) (by lia)) p q hp hq ne⟩
end
theorem MY:∀{es:↑(↑Ay)} {ns:↑Ay} {a b:↑Ay} {n:Ay},ns.Nodup->(es.zip ns).lookup a=aa n->(es.zip ns).lookup b=aa n->a=b
 | [],_,_,_,_,_,h,_=>nomatch h
 | _::_,[],_,_,_,_,h,_=>nomatch h
 | e::es,m::ns,a,b,n,hn,h,k=>by
  have no:∀{c},(es.zip ns).lookup c=aa m->False:=λ{c} h=>by
   have:(c,m)∈es.zip ns:=by
    let⟨J,o,e,_⟩:=List.lookup_eq_some_iff.mp h;rw[e];simp
   exact(Ca.mp hn).1 (Nx this).2
  rw[Kd,Dz]at h k
  by_cases x:a=e<;>by_cases y:b=e
  .rw[x,y]
  .rw[beq_eq_false_iff_ne.mpr y]at k;rw[x,beq_self_eq_true]at h;cases h;exact(no k).elim
  .rw[beq_eq_false_iff_ne.mpr x]at h;rw[y,beq_self_eq_true]at k;cases k;exact(no h).elim
  .rw[beq_eq_false_iff_ne.mpr x]at h;rw[beq_eq_false_iff_ne.mpr y]at k;exact MY (Ca.mp hn).2 h k
theorem zhh(f:fY rs):(jK rs).Nodup:=by
 unfold jK lL gU;refine(List.Nodup.sublist Jo ?_).sublist (List.take_sublist _ _);rw[Gk,Iy];refine List.Pairwise.imp_of_mem ?_ Qi;intro a b m G g e;rw[Ew]at m G;have:=f.sum;exact g (KO (Fp (Bv m this) ∅) (Fp (Bv G this) ∅) e)
theorem zhi(f:fY rs)(m:a∈cG rs)(G:b∈cG rs)(h:fF rs a=fF rs b):a=b:=by
 let⟨x,_,D⟩:=wH (ns:=jK rs) f.len.symm m;let⟨y,_,A⟩:=wH (ns:=jK rs) f.len.symm G;unfold fF oZ at h;rw[D,A]at h;cases h;exact MY (zhh f) D A
section
variable {nm:Ay->Bool}{rs tl:↑aE}
theorem CA{ps:↑Ay}(h:¬↥ps<=2):∃p,ps=p::ps.drop 1/\fG rs ps=[p,fF rs (ps.drop 1)]:=by
 cases ps with
 | nil=>exact absurd ∅ h
 | cons p ps=>exact⟨p,rfl,by unfold fG;rw[Vf h];rfl⟩
theorem iE.tws(g:iE nm rs)(hn:rs≠[])(f:fY rs)(P:∀i,i<10000->nm (eV i)=ab)(G:f0 tl=f0 rs)(ht:∀X l,(∃q∈tl,q.name=X/\q.parts=l)↔BB rs X l):wN nm rs tl:=by
 let⟨S,j,I⟩:=pA hn;have fresh:∀{e},e∈cG rs->ownB rs (fF rs e)=ac/\nm (fF rs e)=ab:=λY=>by
  let⟨O,i,hi,L⟩:=A7 (wI f Y).2;exact⟨Vj O,by rw[L];exact P i (Fp (Bv hi f.sum) ∅)⟩
 intro row;rw[G];constructor
 .intro k
  let R:=rs++(cG rs).map λe=>⟨fF rs e,e,0⟩
  have un:∀{ps a},(2<↥ps->ps.drop 1∈cG rs)->Dv nm R (fG rs ps) a->Dv nm R ps a:=λ{ps a} hd k=>by
   by_cases hl:↥ps<=2
   .unfold fG at k;rwa [Vg hl]at k
   .let⟨p,D,A⟩:=CA (rs:=rs) hl;have Y:=hd (Qt hl);rw[A]at k;let⟨a,b,rfl,s,B⟩:=k.cut;let⟨r,T,K,B⟩:=B.inv (fresh Y).2;rw[D];refine s.app (ps:=[p]) ?_;rcases Ba.mp T with T|T
    .have:=lE T;rw[K,(fresh Y).1]at this;cases this
    .let⟨e,x,rfl⟩:=Ap.mp T;rw[<-zhi f x Y K];exact B
  have k:=k.sim (rs':=R) λq Z n a k=>by
   rcases(ht q.name q.parts).mp ⟨q,Z,rfl,rfl⟩ with⟨r,T,D,A⟩|⟨e,Y,D,A⟩
   .rw[<-D];rw[<-A]at k;exact .one (Be _ T) (g.nam r T) (un (λh=>wC T h) k)
   .rw[<-D];rw[<-A]at k;exact .one (r:=⟨fF rs e,e,0⟩) (Bi _ (Ap.mpr ⟨e,Y,rfl⟩)) (fresh Y).2 (un (λh=>wF Y h) k)
  have c:∀{t},nm t=ownB rs t->¬ ∃e∈cG rs,fF rs e=t:=λhw ⟨e,Y,z⟩=>by
   rw[<-z,(fresh Y).1,(fresh Y).2]at hw;cases hw
  refine k.less (F:=λt=>∃e∈cG rs,fF rs e=t) (λr T=>?_) λt h=>?_
  .rcases Ba.mp T with T|T
   .exact .inr ⟨T,λt h=>c (g.prt r T t h)⟩
   .let⟨e,Y,rfl⟩:=Ap.mp T;exact .inl ⟨e,Y,rfl⟩
  .rw[Af.mp h,<-I];exact c (by rw[g.nam _ j,lE j])
 .intro k;have up:∀n {ps a},↥ps<=n->(2<↥ps->ps.drop 1∈cG rs)->Dv nm tl ps a->Dv nm tl (fG rs ps) a:=λn=>by
   induction n with
   | zero=>exact λ{ps a} hl _ k=>by unfold fG;rw[Vg (Ar hl ∅)];exact k
   | succ n E=>
    intro ps a hl hd k
    by_cases L:↥ps<=2
    .unfold fG;rwa [Vg L]
    .let⟨p,D,A⟩:=CA (rs:=rs) L;have Y:=hd (Qt L);rw[D]at k;let⟨a,b,rfl,s,B⟩:=k.cut;rw[A];refine s.app (ps:=[p]) ?_;let⟨q,Z,d,y⟩:=(ht _ _).mpr (.inr ⟨_,Y,rfl,rfl⟩);rw[<-d];exact .one Z (by rw[d];exact(fresh Y).2) (by rw[y];exact E (by rw[Gf];lia) (λh=>wF Y h) B)
  refine k.sim λr T n a k=>?_;let⟨q,Z,d,y⟩:=(ht _ _).mpr (.inl ⟨r,T,rfl,rfl⟩);rw[<-d];exact .one Z (by rw[d];exact n) (by rw[y];exact up _ (Ai _) (λh=>wC T h) k)
end
abbrev eW:=↑((Ay×Nat)×↑Nat)
def gt(S:eW)(k:Ay×Nat):↑Nat:=(b8 S k).getD []
def eI(S:eW):Nat:=(S.map λe=>↥e.2).sum
def iZ(S:eW)(row:↑Ay):↑Ay->Nat->Nat->Prop
 | [],b,e=>e=b
 | p::ps,b,e=>∃m,(if isNameB p=ab then m∈gt S (p,b) else row[b]? = aa p/\m=b+1)/\iZ S row ps m e
def lQ(row:↑Ay)(b e:Nat):↑Ay:=(row.drop b).take (e-b)
theorem zhj{b m e:Nat}(h:b<=m)(k:m<=e):lQ row b m++lQ row m e=lQ row b e:=by
 unfold lQ;rw[show e-b=(m-b)+(e-m) by lia,List.take_add,Rk,show b+(m-b)=m by lia]
def sQ(rs:↑aE)(row:↑Ay)(S:eW):Prop:=∀p b e,e∈gt S (p,b)->b<=e/\e<=↥row/\Dv isNameB rs [p] (lQ row b e)
section
variable {rs:↑aE}{row:↑Ay}{S S0:eW}
theorem sQ.en(h:sQ rs row S):∀{ps:↑Ay} {b e:Nat},iZ S row ps b e->b<=↥row->b<=e/\e<=↥row/\Dv isNameB rs ps (lQ row b e)
 | [],b,e,z,G=>by
  have z:e=b:=z;subst z;exact⟨Ai _,G,by unfold lQ;rw[Nw];exact .nil⟩
 | p::ps,b,e,⟨m,z,k⟩,G=>by
  have:b<=m/\m<=↥row/\Dv isNameB rs [p] (lQ row b m):=by
   split at z
   .exact h p b m z
   .rename_i n;let⟨z,rfl⟩:=z;let⟨hl,z⟩:=Am.mp z;refine⟨Hg _,hl,?_⟩;unfold lQ;rw[Nat.add_sub_cancel_left,Fq hl,z];exact .wd (Bool.not_eq_true _▸n) .nil
  let⟨O,L,h3⟩:=sQ.en h k this.2.1;exact⟨Ar this.1 O,L,zhj this.1 O▸this.2.2.app h3⟩
def xF(rs:↑aE)(row:↑Ay)(S:eW):Prop:=∀r∈rs,∀b,b<=↥row->∀e,iZ S row r.parts b e->e∈gt S (r.name,b)
theorem xF.all(h:xF rs row S)(d:Dv isNameB rs ps sub):∀{b:Nat} {post:↑Ay},b<=↥row->row.drop b=sub++post->iZ S row ps b (b+↥sub):=by
 induction d with
 | nil=>exact λ_ _=>rfl
 | @wd t ps sub n _ E=>
  intro b post G e;have hl:b<↥row:=by
   have:=congrArg Ii e;rw[Gf,Ak,Bw]at this;lia
  rw[Fq hl]at e;have e:=Qx e;exact⟨b+1,by rw[n];exact⟨Am.mpr ⟨hl,e.1⟩,rfl⟩,by rw[Bw,<-Lm,Nat.add_right_comm];exact E hl e.2⟩
 | @nd r ps a c T n _ _ m Q=>
  intro b post G e;rw[Dc]at e;have hl:b+↥a<=↥row:=by
   have:=congrArg Ii e;rw[Gf,Ak]at this;lia
  refine⟨b+↥a,by rw[n];exact h r T b G _ (m G e),?_⟩;rw[Ak,<-Lm];exact Q hl (by rw[<-Rk,e,List.drop_left])
theorem zhk(h:sQ rs row S)(k:xF rs row S)(n:isNameB (f0 rs)=ab):↥row∈gt S (f0 rs,0)↔Dv isNameB rs [f0 rs] row:=by
 refine⟨λz=>?_,λd=>?_⟩
 .have:=(h _ _ _ z).2.2;unfold lQ at this;rwa [Oj,Sx,Bp]at this
 .let⟨m,z,e⟩:=k.all d (b:=0) (post:=[]) (Cn _) (by rw[Ce];rfl);rw[n]at z;have e:0+↥row=m:=e;rw[<-e,Nv]at z;exact z
theorem CB(k j:Ay×Nat)(v:↑Nat):gt (jH S k v) j=if k=j then v else gt S j:=by
 unfold gt;rw[AB];split<;>rfl
theorem zhl(hn:(S.map (·.1)).Nodup)(k:Ay×Nat)(q:↑Nat):eI (jH S k (gt S k++q))=eI S+↥q:=by
 cases e:b8 S k with
 | none=>
  unfold gt eI;rw[vK e,e,Aw,List.sum_append];simp
 | some l=>
  let⟨A,B,rfl⟩:=vM e;have ne:∀z,z∈A\/z∈B->z.1≠k:=λz hz hk=>by
   rw[Aw,Bd,Cd,Ca]at hn;rcases hz with hz|hz
   .exact hn.2.2 _ (Ap.mpr ⟨z,hz,rfl⟩) _ (.head _) hk
   .exact hn.2.1.1 (Ap.mpr ⟨z,hz,hk⟩)
  have id:∀C:eW,(∀z∈C,z.1≠k)->∀v,C.map (λe=>if e.1=k then(e.1,v) else e)=C:=λC d v=>by
   rw[Dy (g:=λe=>e) λz hz=>Vf (d z hz)];exact List.map_id' C
  unfold gt jH eI;rw[e,Vg (by simp),Aw,Bd,id A (λz hz=>ne z (.inl hz)),id B (λz hz=>ne z (.inr hz)),Vg rfl];simp only[Option.getD_some,Aw,Bd,List.sum_append,Pe,Ak];lia
theorem xG:∀{S:eW} {e:(Ay×Nat)×↑Nat},(S.map (·.1)).Nodup->e∈S->b8 S e.1=aa e.2
 | x::S,e,hn,Y=>by
  rw[Bd,Ca]at hn;unfold b8;rw[Cq];rcases Au.mp Y with rfl|Y
  .rw[Vi rfl];rfl
  .rw[Vj λz=>hn.1 (Ap.mpr ⟨e,Y,z.symm⟩)];exact xG hn.2 Y
theorem CC(h:∀k,gt S k=gt S0 k):∀{ps:↑Ay} {b e:Nat},iZ S row ps b e->iZ S0 row ps b e
 | [],_,_,z=>z
 | p::ps,b,e,⟨m,z,k⟩=>⟨m,by rw[<-h];exact z,CC h k⟩
structure gE(rs:↑aE)(row:↑Ay)(S0 S:eW)(dn:aE->Nat->Prop):Prop where
 sd:sQ rs row S
 nd:(S.map (·.1)).Nodup
 ln:∀k,(gt S k).Nodup
 ks:∀k∈S.map (·.1),(∃r∈rs,r.name=k.1)/\k.2<=↥row
 ge:eI S0<=eI S
 eq:eI S=eI S0->(∀k,gt S k=gt S0 k)/\∀r b,dn r b->∀e,iZ S0 row r.parts b e->e∈gt S0 (r.name,b)
theorem gE.step{j:aE->Nat->Prop}(h:gE rs row S0 S j){r:aE}{b:Nat}(T:r∈rs)(hn:isNameB r.name=ab)(G:b<=↥row){es:↑Nat}(Y:∀e,e∈es↔iZ S row r.parts b e)(hd:es.Nodup):
  gE rs row S0 (jH S (r.name,b) (gt S (r.name,b)++es.filter λe=>!decide (e∈gt S (r.name,b)))) λq c=>j q c\/(q=r/\c=b):=by
 have m:=zhl h.nd (r.name,b) (es.filter λe=>!decide (e∈gt S (r.name,b)));refine⟨λp c e P=>?_,?_,λk=>?_,λk hk=>?_,by rw[m];exact Ar h.ge (Qv _ _),λz=>?_⟩
 .rw[CB]at P;split at P
  .rename_i u;cases u;rcases Ba.mp P with P|P
   .exact h.sd _ _ _ P
   .let⟨O,L,h3⟩:=h.sd.en ((Y e).mp (Dq.mp P).1) G;exact⟨O,L,.one T hn h3⟩
  .exact h.sd _ _ _ P
 .cases e:b8 S (r.name,b) with
  | none=>
   rw[vK e,Aw,Cd];exact⟨h.nd,by simp,λx J y f z=>by
    rw[Af.mp f]at z;rw[z,<-gS,e]at J;cases J⟩
  | some l=>
   unfold jH;rw[Vg (by rw[jW];show(b8 S (r.name,b)).isSome=ab;rw[e];rfl),Bm];rw[Dy (g:=(·.1)) λx _=>by show(if _ then _ else _:(Ay×Nat)×↑Nat).1=_;split<;>rfl];exact h.nd
 .rw[CB];split
  .rename_i u;rw[Cd];exact⟨h.ln _,hd.sublist Jo,λx J y f z=>by
    have:=(Dq.mp f).2;rw[<-z,Vi J]at this;cases this⟩
  .exact h.ln k
 .have:k∈S.map (·.1)\/k=(r.name,b):=by
   rw[<-gS,AB]at hk;split at hk
   .rename_i e;exact .inr e.symm
   .exact .inl (gS.mp hk)
  rcases this with hk|rfl
  .exact h.ks k hk
  .exact⟨⟨r,T,rfl⟩,G⟩
 .rw[m]at z;have B:↥(es.filter λe=>!decide (e∈gt S (r.name,b)))=0:=by have:=h.ge;lia
  have U:=Eo.mp B;let⟨O,L⟩:=h.eq (by lia);have sub:∀e,e∈es->e∈gt S (r.name,b):=λe P=>by
   refine Vh (by
    cases q:decide (e∈gt S (r.name,b)) with
    | true=>rfl
    | false=>
     have:e∈es.filter λe=>!decide (e∈gt S (r.name,b)):=Dq.mpr ⟨P,by rw[q];rfl⟩;rw[U]at this;cases this)
  refine⟨λk=>?_,λq c Z e H=>?_⟩
  .rw[CB,U,Ce];split
   .rename_i u;rw[<-u];exact O _
   .exact O k
  .rcases Z with Z|⟨rfl,rfl⟩
   .exact L q c Z e H
   .rw[<-O];exact sub e ((Y e).mpr (CC (λk=>(O k).symm) H))
theorem gE.few{j:aE->Nat->Prop}(h:gE rs row S0 S j):↥S<=↥rs*(↥row+1):=by
 have:=len_sub (b:=rs.flatMap λr=>(Ci (↥row+1)).map λb=>(r.name,b)) h.nd λk hk=>by
  obtain⟨⟨r,T,e⟩,G⟩:=h.ks k hk;exact Qj.mpr ⟨r,T,Ap.mpr ⟨k.2,Ew.mpr (Mx G),by rw[e]⟩⟩
 rw[Ab]at this;refine Ar this ?_;rw[List.length_flatMap];simp[Qz,List.sum_replicate_nat]
theorem gE.bound{j:aE->Nat->Prop}(h:gE rs row S0 S j):eI S<=↥rs*(↥row+1)*(↥row+1):=by
 have m:∀e∈S,↥e.2<=↥row+1:=λe Y=>by
  have ge:gt S e.1=e.2:=by
   unfold gt;rw[xG h.nd Y];rfl
  have:=len_sub (b:=Ci (↥row+1)) (h.ln e.1) λx J=>Ew.mpr (Mx (h.sd _ _ _ J).2.1);rw[ge,Gm]at this;exact this
 have:∀T:eW,(∀e∈T,↥e.2<=↥row+1)->eI T<=↥T*(↥row+1):=λT=>by
  induction T with
  | nil=>exact λ_=>Cn _
  | cons e T E=>
   intro I;have O:=E λe Y=>I e (.tail _ Y);have L:=I e (.head _);unfold eI at O⊢;rw[Bd,Pe,Bw,Qc];lia
 exact Ar (this S m) (Nat.mul_le_mul_right _ h.few)
end
theorem Inv.thaw(j:Inv X i k H h)(I:Inv X B C w s)(hd:IsDict u)(F:H a=aa u)(l:w a=aa (.frz o u)):Inv X B C (aL w a u) s:=by
 have d:∀{b:An},w b=ae->aL w a u b=ae:=λ{b} e=>by
  rw[a9 (λz=>by rw[z,l]at e;cases e)];exact e
 have kk:∀{b:An} {v:HO},w b=aa v->(∀o u,v≠.frz o u)->aL w a u b=aa v:=λ{b v} e ne=>by
  rw[a9 (λz=>by rw[z,l]at e;cases e;exact ne _ _ rfl)];exact e
 have f:∀b xs,w b=aa (.tup xs)->aL w a u b=aa (.tup xs):=λb xs e=>kk e λ_ _ z=>nomatch z;have g:∀b y,w b=aa (.own y)->aL w a u b=aa (.own y):=λb y e=>kk e λ_ _ z=>nomatch z;refine⟨I.ok,I.os,I.bare,⟨I.base.keep,I.base.slot,λb o e n J=>d (I.base.free b o e n J),I.base.there,λb xs e=>f b xs (I.base.tups b xs e),λb o R e=>?_,λb ps e=>?_⟩,I.loc,I.cell,d I.free,λx c e=>d (I.freeC x c e),λp N=>?_,λb v e=>?_,I.len⟩
 .rw[a9 (λz=>?_)]
  .exact I.base.frzs b o R e
  .rw[z]at e;rw[j.base.frzs a o R e]at F;cases F;rcases hd with⟨_,z⟩|⟨_,z⟩<;>cases z
 .let⟨m,D⟩:=I.base.tbls b ps e;exact⟨m,kk D λ_ _ z=>nomatch z⟩
 .let⟨O,L,h3⟩:=I.pin p N;exact⟨O,d L,h3⟩
 .by_cases G:b=a
  .subst G;rw[bY]at e;cases e;exact(I.hok b _ l).2.stay (λ_ _ _ q=>q) (λc q=>g c b q) f
  .rw[a9 G]at e;exact(I.hok b v e).stay (λ_ _ _ q=>q) (λc q=>g c b q) f
abbrev sR(i:Nat)(m:aS):aS:=λU M R=>∃a kvs,U[i]? = aa (aa (.ref a))/\M a=aa (.dT kvs)/\m (U.set i (aa (.ft kvs))) (λ_=>ae) λw _=>∃n,w=.int n/\R (.int n) M
theorem zhm{K:Ac}{H:Hp}{M:Mm}{C:SV}{U:S3}{i:Nat}{v:V}{w:W}(h:AS K H M C U)(e:C[i]? = aa (aa v))(a:AV K H M v w):AS K H M C (U.set i (aa w)):=by
 have:=h.set a i;rwa [show C.set i (aa v)=C from by
  let⟨hi,e⟩:=Am.mp e;rw[<-e];exact List.set_getElem_self hi]at this
theorem zhn{X:Cx}{i:Nat}{e:Cg}{m:aS}(h:E3 X e m):E3 X e (sR i m):=by
 rintro B s C H Q I ⟨U,M,R,J,Y,⟨a,kvs,D,A,h'⟩,k⟩;let⟨ks,f,q⟩:=Y _ _ A;let⟨o,j⟩:=I.frzD f (.inr ⟨_,rfl⟩);have d:∀{b:An},M b=ae->b≠a:=λ{b} e z=>by rw[z,A]at e;cases e
 have go:Go H M (aL H a (.frz o (.dT ks))) (λ_=>ae):=⟨λb xs T=>by rw[a9 (d (Y.noTup T))];exact T,λb o u T=>by rw[a9 (d (Y.noFrz T))];exact T,λb o n T=>⟨by rw[a9 (d n)];exact T,rfl⟩⟩;let⟨v,S,F⟩:=J.get D;obtain rfl:=F.inv;have as2:AS X.K (aL H a (.frz o (.dT ks))) (λ_=>ae) C U:=Paired.mapP J λp r z w e=>by
  let⟨v,O,L⟩:=z w e;exact⟨v,O,L.go go⟩
 refine thn (h B s C _ (λv W=>(∀b P,aL H a (.frz o (.dT ks)) b=aa P->W b=aa P)/\∃n,v=.int n/\R (.int n) M) j ⟨_,_,_,zhm as2 S (.ft bY q.keys (q.vals.go go)),(λb o z=>nomatch z),h',λv l w V y c av ⟨n,ew,r⟩=>?_⟩) λv g ⟨x,W,Z,N,st,n,t,r⟩=>?_
 .subst ew;obtain rfl:=av.inv;exact⟨λb o z=>(y.fr b o rfl z).1,n,rfl,r⟩
 .subst t;have I4:=I.thaw Z (.inr ⟨_,rfl⟩) f (st a _ bY);have stay:∀b u,H b=aa u->aL W a (.dT ks) b=aa u:=λb u e=>by
   by_cases G:b=a
   .rw[G]at e⊢;rw[bY,<-f];exact e
   .rw[a9 G];exact st b u (by rw[a9 G];exact e)
  have E:Go H M (aL W a (.dT ks)) M:=⟨λb xs e=>stay b _ e,λb o u e=>stay b _ e,λb o n e=>⟨stay b _ e,n⟩⟩;refine⟨.int n,_,I4,N,k _ _ _ M ⟨E.hl,λb o e=>?_⟩ (λb o e=>?_) (.int n) r⟩
  .let⟨u,q⟩:=(Y b o e).has;exact⟨u,stay b u q⟩
  .let⟨u,q⟩:=(Y b o e).has;exact(Y b o e).go E ((stay b u q).trans q.symm)
structure mM(rs:↑aE):Prop where
 ne:rs≠[]
 few:↥rs<=2000
 nm:∀r∈rs,c9 r.name
 pt:∀r∈rs,∀p∈r.parts,c9 p\/dW p
 prt:∀r∈rs,↥r.parts<=4
abbrev i0:=↑(Ay×Nat)
def eX(ch:i0):↑(aC×W):=ch.map λe=>(Sum.inr e.1,.int e.2)
structure gV(rs:↑aE)(ch:i0):Prop where
 nd:(ch.map (·.1)).Nodup
 at_:∀(i:Nat) (nm:Ay) (k:Nat),ch[i]? = aa (nm,k)->∃r,rs[k]? = aa r/\r.name=nm/\∀p∈r.parts,isNameB p=ab->p∈(ch.take i).map (·.1)
def TW:Nat->W->↑Ay->Prop
 | 0,_,_=>False
 | n+1,w,row=>(∃t,w=.str t/\row=[t]/\Sh t)\/∃(k:Int) (ws:↑W) (rows:↑(↑Ay)),w=.tup [.int k,.tup ws]/\Ey (TW n) ws rows/\row=rows.flatten/\↥ws<=4
def j6(L:Nat)(b:Int)(rank:Nat):Nat:=if b<6 then(6-b).toNat+L else rank+1
def Gw(g:↑aE):Prop:=mM g/\∃p K,1<=p/\(∀r∈g,↥r.parts<=p)/\↥(namesOf g)<=K/\K<=20/\p ^ (6+K)<=2 ^ 23
def hJ(S:eW):↑(↑aC×W):=eA (λk:Ay×Nat=>[Sum.inr k.1,Sum.inl (k.2:Int)]) (λl:↑Nat=>W.rl (l.map λ(n:Nat)=>W.int n)) S
def sS:aY:=λws M R=>∃p:Ay,ws=[.str p]/\(c9 p\/dW p)/\R (.bl (isNameB p)) M
def CD:aY:=λws M R=>∃(d:W) (ps:↑Ay) (ch:i0),ws=[.tup (ps.map W.str),d]/\(d=.dk (eX ch)\/∃a,d=.ref a/\M a=aa (.dK (eX ch)))/\(∀p∈ps,c9 p\/dW p)/\↥ps<=4/\
 ∀b:Bool,(b=ab↔∀p∈ps,isNameB p=ab->p∈ch.map (·.1))->R (.bl b) M
def MZ:aY:=λws M R=>∃rs:↑aE,ws=[a6 rs]/\mM rs/\∀ch,gV rs ch->iO (eX ch) M R
def mN:Nat->aY
 | 0=>λ_ _ _=>False
 | n+1=>λws M R=>∃(rs:↑aE) (ch:i0) (nm:Ay) (q:An) (a b:Int) (rank k p:Nat),ws=[a6 rs,.dk (eX ch),.str nm,.ref q]/\M q=aa (.lst [.int a,.int b])/\mM rs/\gV rs ch/\ch[rank]? = aa (nm,k)/\1<=p/\(∀r∈rs,↥r.parts<=p)/\j6 ↥ch b rank<=n+1/\
  ∀w row c d,TW (n+2) w row->↥row<=p ^ j6 ↥ch b rank->b<=d->R w (put M q (.lst [.int c,.int d]))
abbrev iH:aY:=mN 30
def M8:aY:=λws M R=>∃c:Int,ws=[.int c]/\∀z:Int,R (.int z) M
def sU:Nat->aY
 | 0=>λ_ _ _=>False
 | n+1=>λws M R=>∃w row,ws=[w]/\TW (n+1) w row/\↥row<=2 ^ 23/\R (.rl (row.map W.str)) M
abbrev mO:aY:=sU 31
def M9:aY:=λws M R=>∃(p:An) (S:eW) (ps row:↑Ay) (b:Nat),ws=[.ref p,.tup (ps.map W.str),.rl (row.map W.str),.int b]/\M p=aa (.dT (hJ S))/\(∀p∈ps,c9 p\/dW p)/\↥row<=5/\(∀t∈row,Sh t)/\b<=↥row/\↥ps<=4/\(∀k,∀e∈gt S k,e<=↥row)/\(∀k,(gt S k).Nodup)/\
 ∀es:↑Nat,(∀e,e∈es↔iZ S row ps b e)->es.Nodup->R (.rl (es.map λ(n:Nat)=>W.int n)) M
def CF:aY:=λws M R=>∃(rs:↑aE) (row:↑Ay),ws=[a6 rs,.rl (row.map W.str)]/\mM rs/\↥row<=5/\(∀t∈row,Sh t)/\∀b:Bool,(b=ab↔Dv isNameB rs [f0 rs] row)->R (.bl b) M
def NA:aY:=λws M R=>∃(rs:↑aE) (i:↑(↑aE)) (d:↑W),ws=[a6 rs,.rl (i.map a6),.rl d]/\oQ d/\↥d<=10/\mM rs/\↥rs<=20/\i≠[]/\↥i<=10/\(∀g∈i,Gw g)/\∀rows:↑(↑Ay),(∀row∈rows,↥row<=5/\∀t∈row,Sh t)->↥rows<=100->aR (rows.map λrow=>.rl (row.map W.str)) M R
def hV(rs:↑aE)(way:Int):↑aE:=rs.map λr=>if r.parts=[]/\0<way then⟨r.name,["zoe"],r.cost⟩ else r
open Classical in
def i4(rs:↑aE)(way:Int):↑aE:=hV rs way++if way=2/\∀r∈hV rs way,f0 rs∉r.parts then [⟨f0 rs,[],0⟩] else []
def NB:aY:=λws M R=>∃(rs:↑aE) (way:Int),ws=[a6 rs,.int way]/\mM rs/\↥rs<=20/\aR ((i4 rs way).map bD) M R
abbrev zho:↑Ay:=["part"]
abbrev zhp:aD:=
   (bM (aG (bX ac) (vX aH bC) (vC (.str "ABCDEFGHIJKLMNOPQRSTUVWXYZ"))))
abbrev zhq:↑Ay:=["parts","chosen"]
abbrev zhr:aD:=
   (bM (aG (eD ac) (bE (c7 (bK cA aH) (aV 0) (iR (bN (aG (bX ab) aH aM)) (fB (aW sS (aA aH aB)))) aH [ae,aa 1])) (dN aB)))
abbrev zhs:↑Ay:=["rules","chosen","k","number","name","parts","cost"]
abbrev zht:aD:=
   (aN 1 rM)
abbrev zhu:aD:=
   (b9 (nG (aA (bH cL (aA aH aB)) aB)) (aV 3)
    (aF (fP (vX aH bB) (fV 3 (cI (aV 4) (cI (aV 5) (cI (aV 6) fU)))))
   (cC (iR (bN (aG (bX ab) bA aM)) (fB (aW CD (aA cB (aA aM aB)))))
    (fP bB (gM aM bA))
    cX)))
abbrev zhv:aD:=
   (b9 (nG (aA (bH cL (aA aH aB)) aB)) (aV 2) zhu)
abbrev zhw:aD:=
   (bM aM)
abbrev zhx:aD:=(aF zht (aF zhv zhw))
abbrev NC:↑Ay:=["rules","chosen","name","state","number","some","k","children","part"]
abbrev zhy(iH:aY):aD:=
   (cC (bN (aG nC (vX bB a7) (vI 6)))
    (aF (aN 5 (gA aB))
   (aF (b9 (nG (aA (bH cL (aA aH aB)) aB)) (aV 6)
    (cC (iR (bN (aG (eD ac) (vX (vX aH cQ) bC) aX)) (fB (aW CD (aA (vX (vX aH cQ) a7) (aA aM aB)))))
    (b7 (cR "list" dU cB (aA cQ aB)))
    cX))
   (aF (aN 4 (vX cB (aG gL (vX bB bC) (bH cL (aA cB aB)))))
   (fP (aG jA (vX bB bC) (bH cL (aA cB aB))) (gM bB bC)))))
    cX)
abbrev ND(iH:aY):aD:=
   (fP (aG cE (vX bB a7) a7) (gM bB a7))
abbrev NF(iH:aY):aD:=
   (aN 7 (gA aB))
abbrev zhz(iH:aY):aD:=
   (cC (fB (aW sS (aA eZ aB)))
    (b7 (cR "list" dU cD (aA (aW iH (aA aH (aA aM (aA eZ (aA bB aB))))) aB)))
    (b7 (cR "list" dU cD (aA eZ aB))))
abbrev NG(iH:aY):aD:=
   (b9 (bK cA (vX (vX aH bA) a7)) (aV 8) (zhz iH))
abbrev NH(iH:aY):aD:=
   (bM (a8 (aA bA (aA (bH rL (aA cD aB)) aB))))
abbrev zhA(iH:aY):aD:=(aF (aN 4 (vX aM aX)) (aF (zhy iH) (aF (ND iH) (aF (NF iH) (aF (NG iH) (NH iH))))))
abbrev zhB:↑Ay:=["cell"]
abbrev zhC:aD:=
   (aF (cC (bN (aG yW aH (aG jB (vI 10) (vI 18))))
    (bM (aG kX aH (aG jB (vI 10) (vI 18))))
    cX)
   (bM (aG rG (aG jV (aW vR (aA aH (aA a7 aB))) (aG jB (vI 10) (vI 60))) (aW vR (aA aH (aA l5 aB))))))
abbrev NI:↑Ay:=["tree","found","child"]
abbrev zhD(mO:aY):aD:=
   (cC (fB (bH rT (aA aH (aA (vC (.ty "str")) aB))))
    (bM (dN (aA aH aB)))
    cX)
abbrev zhE(mO:aY):aD:=
   (aN 1 (aG cE aM (aW mO (aA aX aB))))
abbrev zhF(mO:aY):aD:=
   (b9 (bK cA (vX aH a7)) (aV 2) (zhE mO))
abbrev zhG(mO:aY):aD:=(aF (zhD mO) (aF (aN 1 (dN aB)) (aF (zhF mO) (bM aM))))
abbrev zhH:↑Ay:=["spans","parts","row","begin","ends","part","more","at","some"]
abbrev zhI:aD:=
   (aN 4 (dN (aA bB aB)))
abbrev zhJ:aD:=
   (aF (aN 6 (dN aB))
   (aF (b9 (bK cA bA) (aV 7)
    (aF (cC (rD (fB (aW sS (aA cB aB))))
    (aN 8 (aG jV (dN (aA (aG cE cD a7) aB)) (bH LW (aA (aG (eD ac) (k9 aX (iC cD) (iC (aG cE cD a7))) (dN (aA cB aB))) aB))))
    (aN 8 (cR "dict" nL aH (aA (a8 (aA cB (aA cD aB))) (aA (dN aB) aB)))))
   (aN 6 (aG cE cQ (bE (c7 (bK cA eZ) (aV 0) (bN (aG (bX ab) aH aM)) aH [ae,aa 6]))))))
   (aN 4 cQ)))
abbrev zhK:aD:=
   (b9 (bK cA aM) (aV 5) zhJ)
abbrev zhL:aD:=
   (bM bA)
abbrev zhM:aD:=(aF zhI (aF zhK zhL))
abbrev zhN:↑Ay:=["rules","row","spans","many","name","parts","cost","begin","old","ends"]
abbrev zhO:aD:=
   (aN 2 kZ)
abbrev zhP:aD:=
   (aN 3 (kB kE a7))
abbrev zhQ:aD:=
   (aF (aN 3 (sR 2 (bH vD (aA (bE (c7 (bK nT aX) (aV 0) eU (bH cL (aA (vX aM aH) aB)) [ae,aa 2])) aB))))
   (b9 (bK jU aH) (fV 3 (cI (aV 4) (cI (aV 5) (cI (aV 6) fU))))
    (b9 (nG (aA (aG cE (bH cL (aA aM aB)) a7) aB)) (aV 7)
    (aF (aN 8 (cR "dict" nL aX (aA (a8 (aA bA (aA cD aB))) (aA (dN aB) aB))))
   (aF (aN 9 (aW M9 (aA aX (aA cB (aA aM (aA cD aB))))))
   (fP (aG cE eZ (bE (c7 (bK cA iQ) (aV 0) (bN (aG (bX ab) aH aM)) aH [ae,aa 8]))) (gM aX (a8 (aA bA (aA cD aB))))))))))
abbrev zhR:aD:=
   (l7 (bN (aG rH (sR 2 (bH vD (aA (bE (c7 (bK nT aX) (aV 0) eU (bH cL (aA (vX aM aH) aB)) [ae,aa 2])) aB))) bB)) zhQ)
abbrev zhS:aD:=
   (bM (aG (bX ac) (bH cL (aA aM aB)) (cR "dict" nL aX (aA (a8 (aA (vX (vX aH bC) bC) (aA bC aB))) (aA (dN aB) aB)))))
abbrev zhT:aD:=(aF zhO (aF zhP (aF zhR zhS)))
abbrev zhU:↑Ay:=["rules","some","cells","words","name","parts","cost","rows","cell","drawn","number","told","chosen","row"]
abbrev zhV:aD:=
   (aN 3 (dN (aA (vC (.str "zoe")) aB)))
abbrev zhW:aD:=
   (aN 3 (aG cE bB (bE (c7 (bK cA cB) (aV 0) (iR (rD (fB (aW sS (aA aH aB)))) (bN (aG (bX ab) aH aM))) aH [ae,aa 3]))))
abbrev zhX:aD:=
   (b9 (bK jU aH) (fV 3 (cI (aV 4) (cI (aV 5) (cI (aV 6) fU)))) zhW)
abbrev zhY:aD:=
   (aN 7 (gA (aA (dN aB) aB)))
abbrev zhZ:aD:=
   (aF (aN 9 (bE (aW qA (aA eZ (aA (aG cE (dN (aA (vI 5) aB)) (aG jV (dN (aA (bH cL (aA bB aB)) aB)) (vI 4))) aB)))))
   (aF (b7 (cR "list" dU cD (aA (bE (c7 (bK cA (k9 iQ (iC a7) (iC (aG cE a7 (vX iQ bC))))) (aV 0) eU (vX aM aH) [ae,aa 3])) aB)))
   (aF (aN 10 (aW M8 (aA eZ aB)))
   (aF (aN 11 (vX aM (aG gL pP (bH cL (aA aM aB)))))
   (aF (aN 12 (bE (aW MZ (aA mZ aB))))
   (cC (bN (aG (bX ac) (vX (vX mZ bC) bC) rB))
    (aF (aN 13 (aW mO (aA (aW iH (aA mZ (aA rB (aA (vX (vX mZ bC) bC) (aA (gA (aA (aG jA pP (vI 5)) (aA bC aB))) aB))))) aB)))
   (b7 (cR "list" dU cD (aA (k9 WU rK (iC (vI 5))) aB))))
    cX))))))
abbrev zh0:aD:=
   (b9 (bK cA aX) (aV 8) zhZ)
abbrev zh1:aD:=
   (bM cD)
abbrev zh2:aD:=(aF zhV (aF zhX (aF zhY (aF zh0 zh1))))
abbrev zh3:↑Ay:=["rules","way","longer","name","parts","cost"]
abbrev zh4:aD:=
   (aN 2 (gA aB))
abbrev zh5:aD:=
   (aF (cC (iR (bN (aG (eD ac) bA (a8 aB))) (bN (aG rH aM bC)))
    (aN 4 (a8 (aA (vC (.str "zoe")) aB)))
    cX)
   (b7 (cR "list" dU aX (aA (a8 (aA bB (aA bA (aA cB aB)))) aB))))
abbrev zh6:aD:=
   (b9 (bK jU aH) (fV 3 (cI (aV 3) (cI (aV 4) (cI (aV 5) fU)))) zh5)
abbrev zh7:aD:=
   (cC (iR (bN (aG (eD ac) aM l5)) (bN (aG (eD ac) (bE (c7 (bK cA aX) (aV 0) (bN (aG (bX ac) (vX (vX aM bC) bC) (vX aH a7))) aH [ae,aa 2])) (dN aB))))
    (b7 (cR "list" dU aX (aA (a8 (aA (vX (vX aX bC) bC) (aA (a8 aB) (aA bC aB)))) aB)))
    cX)
abbrev zh8:aD:=
   (bM aX)
abbrev zh9:aD:=(aF zh4 (aF zh6 (aF zh7 zh8)))
abbrev zia:↑Ay:=["script","rules","way","grammar","some","row","due","told"]
abbrev zib:aD:=
   (aN 1 (bE (aW JC (aA (k9 aH (iC a7) (iC (vI 8))) (aA (aG cE a7 (vX (bE (aW qA (aA (aW sD (aA aH (aA bC aB))) (aA (dN (aA kT aB)) aB)))) bC)) (aA (vI 4) aB))))))
abbrev zic:aD:=
   (aN 2 (vX (bE (aW qA (aA (aW sD (aA aH (aA (vI 9) aB))) (aA (dN (aA kT aB)) aB)))) bC))
abbrev zid:aD:=
   (aN 1 (bE (aW NB (aA aM (aA aX aB)))))
abbrev zie:aD:=
   (aN 3 (bE (aW K7 (aA (bH GV (aA aM aB)) aB))))
abbrev zif:aD:=
   (aN 4 (gA (aA (bE (vX (aW MK (aA bB aB)) bC)) (aA (bE (vX (aW K9 (aA bB aB)) bC)) aB))))
abbrev zig:aD:=
   (cC (bN (aG rH aX bC))
    (b7 (cR "list" dU bA (aA (bE (vX (aW MX (aA bB aB)) bC)) aB)))
    cX)
abbrev zih:aD:=
   (aF (aN 6 (aW CF (aA aM (aA cB aB))))
   (b9 (bK cA bA) (aV 7)
    (cC (bN (aG (eD ab) (aW CF (aA cD (aA cB aB))) cQ))
    (bM (vC (.bl ac)))
    cX)))
abbrev NJ:aD:=
   (b9 (bK cA (bE (aW NA (aA aM (aA (aG cE (dN (aA aM aB)) bA) (aA (k9 aH (iC (vI 10)) (iC (vI 12))) aB)))))) (aV 5) zih)
abbrev NK:aD:=
   (bM (aG (eD ac) bB aM))
abbrev zii:aD:=(aF zib (aF zic (aF zid (aF zie (aF zif (aF zig (aF NJ NK)))))))
theorem mP(h:c9 p\/dW p):Sh p:=h.elim c9.sh dW.sh
theorem zij(h:c9 p\/dW p):∃c rest,cs p=c::rest/\decide (c∈cs gJ)=isNameB p:=by
 rcases h with h|h
 .let⟨c,r,e,m⟩:=h.hd;exact⟨c,r,e,by rw[h.nm];exact Vi m⟩
 .cases e:cs p with
  | nil=>exact absurd e h.ne
  | cons c r=>
   refine⟨c,r,rfl,?_⟩;rw[yK h.ne h.sm];have key:∀c∈cs kR,c∉cs gJ:=by decide +kernel
   exact Vj (key c (h.sm c (by rw[e];exact Bl)))
theorem zik:bG sS zhp zho:=by
 rintro _ M R ⟨p,rfl,N,r⟩;let⟨c,rest,e,hc⟩:=zij N;refine⟨small (Ar (mP N).len ∅),so.of (o:=bT p.cps.toList 0) (a:=c) (by rw[show p.cps.toList=c::rest from e];exact nK _ _) ?_⟩;rw[<-hc]at r;refine⟨_,aP,?_⟩;show R (.bl (occ ⟨#[c]⟩ gJ)) M;rw[JL];exact r
theorem NL(ch:i0)(p:Ay):aQ (eX ch) (Sum.inr p:aC)=(b8 ch p).map λn=>W.int (n:Nat):=by
 unfold eX aQ b8
 induction ch with
 | nil=>rfl
 | cons e c ih=>
  rw[Bd,Cq,Cq]
  by_cases h:e.1=p
  .rw[Vi h,Vi (show(Sum.inr e.1:aC)=Sum.inr p by rw[h])];rfl
  .rw[Vj h,Vj (λz:(Sum.inr e.1:aC)=Sum.inr p=>h (Pu z))];exact ih
theorem xH:(aQ (eX ch) (Sum.inr p:aC)).isSome=decide (p∈ch.map (·.1)):=by
 rw[NL,Ki,Dw,decide_eq_true_iff,gS]
theorem zil:bG CD zhr zhq:=by
 rintro _ M R ⟨c,ps,ch,rfl,e,N,hl,r⟩;have o:∀(V:Mm) (x:Ay) (g:K3),L2.Sub M V->g (.bl (!decide (x∈ch.map (·.1)))) V->bX ab (.str x) c V g:=λV x g sb h=>by
  rw[<-xH]at h;rcases e with rfl|⟨a,rfl,m⟩
  .exact⟨_,⟨.inr x,rfl,rfl⟩,h⟩
  .exact .inr ⟨_,.inl ⟨_,.inr x,sb _ _ m,rfl,rfl⟩,h⟩
 refine rV (rest:=[aa c]) (λw=>match w with|.str p=>if isNameB p=ab/\p∉ch.map (·.1) then aa (.str p) else ae|_=>ae) (small (by rw[Ab];lia)) (λ_ _=>trivial) (λw hw V C D sb O L=>?_) (aR.frz ?_)
 .let⟨p,v,rfl⟩:=Ap.mp hw;refine o V p _ sb (bS (λP=>⟨p,rfl,N p v,bS (b:=isNameB p) (λhn=>O _ (Vg ⟨hn,of_decide_eq_false (by rw[<-Ga (decide _),P];rfl)⟩)) λhn=>L (Vf λz=>by rw[z.1]at hn;cases hn)⟩) λP=>L (Vf λz=>by rw[Vj z.2]at P;cases P))
 .refine nH 2 ∅ (λw hw=>?_) (λw hw=>nomatch hw) λb G=>⟨_,aP,r b ?_⟩
  .let⟨z,hz,e⟩:=Ij.mp hw;let⟨p,v,rfl⟩:=Ap.mp hz;have e:(if isNameB p=ab/\p∉ch.map (·.1) then aa (W.str p) else ae)=aa w:=e;split at e
   .cases e;exact nN (mP (N p v)).asc
   .cases e
  .rw[G];show W.rl _=W.rl []↔_;rw[W.rl.injEq,List.filterMap_eq_nil_iff];constructor
   .intro h p v hn;have:(if isNameB p=ab/\p∉ch.map (·.1) then aa (W.str p) else ae)=ae:=h (.str p) (Ap.mpr ⟨p,v,rfl⟩);exact Gq λP=>by rw[Vg ⟨hn,P⟩]at this;cases this
   .intro h w hw;let⟨p,v,rfl⟩:=Ap.mp hw;exact Vf λz=>z.2 (h p v z.1)
theorem zim:bG M8 zhC zhB:=by
 rintro _ M R ⟨c,rfl,r⟩;have Y:pG 10 18:=⟨by decide,by decide,by decide⟩;refine⟨Y,fW (λ_=>⟨Y,_,aP,r _⟩) λ_=>⟨c,1,rfl,by decide,by decide,λz G O=>⟨⟨by decide,by decide,by decide⟩,.inr ⟨?_,by decide⟩,c,2,rfl,by decide,by decide,λn _ _=>⟨_,aP,r _⟩⟩⟩⟩;have:z.natAbs<2 ^ 250:=by
  have L:z<2 ^ 250:=Sy O ∅;lia
 exact tZ this ∅
theorem zin{ch:i0}{p:Ay}(h:p∉ch.map (·.1))(k:Nat):bW (eX ch) (Sum.inr p:aC) (.int (k:Nat))=eX (ch++[(p,k)]):=by
 unfold bW;rw[Vf (by rw[show((eX ch).any λkv=>decide (kv.1=(Sum.inr p:aC)))=(aQ (eX ch) (Sum.inr p:aC)).isSome from jW _ _,xH,Vj h];decide)];unfold eX;rw[Aw];rfl
theorem gV.add{k:Nat}(h:gV rs ch)(T:rs[k]? = aa r)(hn:r.name∉ch.map (·.1))(N:∀p∈r.parts,isNameB p=ab->p∈ch.map (·.1)):gV rs (ch++[(r.name,k)]):=by
 refine⟨?_,λi nm y e=>?_⟩
 .rw[Aw,Cd];exact⟨h.nd,by simp,λa m b G z=>hn (by rw[z,Af.mp G]at m;exact m)⟩
 .rcases Nat.lt_trichotomy i ↥ch with hi|rfl|hi
  .rw[Mj hi]at e;rw[List.take_append_of_le_length (Hf hi)];exact h.at_ i nm y e
  .rw[Hh (Ai _),Nw]at e;cases e;rw[Qy]
   .exact⟨r,T,rfl,N⟩
   .rfl
  .rw[Oc (by rw[Ak];exact hi)]at e;cases e
theorem gV.sub(h:gV rs ch):∀x∈ch.map (·.1),x∈namesOf rs:=λx J=>by
 let⟨e,Y,rfl⟩:=Ap.mp J;let⟨i,hi⟩:=Hs Y;let⟨r,T,en,_⟩:=h.at_ i e.1 e.2 hi;exact jG.mpr ⟨r,Ao T,en⟩
theorem gV.few(h:gV rs ch):↥ch<=↥(namesOf rs):=by
 have:=len_sub h.nd h.sub;rwa [Ab]at this
theorem zio:bG MZ zhx zhs:=by
 rintro _ M R ⟨rs,rfl,g,r⟩;have hf:=g.few;have hl:↥(rs.map bD)=↥rs:=Ab _;have bd : -(2 ^ 62)<=(↥(rs.map bD):Int)/\(↥(rs.map bD):Int)<2 ^ 62:=by rw[hl];lia
 refine λp hp=>⟨_,rfl,bd.1,bd.2,?_⟩
 refine gC (λ_ τ M'=>∃ch o2 o3 o4 o5 o6,τ=[aa (a6 rs),aa (.ref p),o2,o3,o4,o5,o6]/\M'=put M p (.dK (eX ch))/\gV rs ch) ⟨[],_,_,_,_,_,rfl,rfl,⟨Dx,λ_ _ _ h=>nomatch h⟩⟩ ?_ ?_
 .rintro i w τ M' hw ⟨ch,o2,o3,o4,o5,o6,rfl,rfl,hc⟩ D hD;refine⟨_,rfl,bd.1,bd.2,gC (λ_ τ M'=>∃ch o2 o3 o4 o5 o6,τ=[aa (a6 rs),aa (.ref p),o2,o3,o4,o5,o6]/\M'=put M p (.dK (eX ch))/\gV rs ch) ⟨ch,_,_,_,_,_,rfl,rfl,hc⟩ ?_ λτ M' h=>hD _ _ h⟩;rintro j w τ M' hw ⟨ch,o2,o3,o4,o5,o6,rfl,rfl,hc⟩ D' hD';let⟨hj,rfl⟩:=qD hw;rw[De,hl]at hj;let⟨ru,h1,h2⟩:=lI hj;rw[Md];have hm:=Ao h1;have cl:=hc.few;have cn:=KU rs;refine so.of h2 ⟨rfl,rfl,.inr ⟨_,.inl ⟨eX ch,.inr ru.name,aJ,rfl,rfl⟩,?_⟩⟩;show if (!(aQ (eX ch) (Sum.inr ru.name:aC)).isSome)=ab then _ else _;rw[xH];refine bS (λy1=>⟨_,ru.parts,ch,rfl,.inr ⟨p,rfl,aJ⟩,g.pt ru hm,g.prt ru hm,λb hb=>bS (b:=b) (λy2=>?_) λ_=>hD' _ _ ⟨ch,_,_,_,_,_,rfl,rfl,hc⟩⟩) λ_=>hD' _ _ ⟨ch,_,_,_,_,_,rfl,rfl,hc⟩;have y1:ru.name∉ch.map (·.1):=of_decide_eq_false (by rw[<-Ga (decide _),y1];rfl);refine rX aJ (by unfold eX;rw[Ab];exact cS (by lia)) ?_;rw[zin y1,cJ];exact hD' _ _ ⟨_,_,_,_,_,_,rfl,rfl,hc.add h1 y1 (hb.mp y2)⟩
 .rintro τ M' ⟨ch,o2,o3,o4,o5,o6,rfl,rfl,hc⟩;exact⟨_,aP,r ch hc p hp⟩
theorem ziq{q j:Type}{P:q->j->Prop}{xs:↑q}{G:↑j}{i:Nat}{x:q}(p:Ey P xs G)(h:xs[i]? = aa x):∃y,G[i]? = aa y/\P x y:=by
 induction p generalizing i with
 | nil=>cases h
 | cons a b E=>
  cases i with
  | zero=>cases h;exact⟨_,rfl,a⟩
  | succ i=>exact E h
theorem zir{rows:↑(↑Ay)}{i:Nat}{r:↑Ay}(h:rows[i]? = aa r):(rows.take (i+1)).flatten=(rows.take i).flatten++r:=by
 rw[Cb,h,Jn];simp
theorem zis{rows:↑(↑Ay)}(i:Nat):(rows.take i).flatten.length<=↥rows.flatten:=by
 have:rows.flatten=(rows.take i).flatten++(rows.drop i).flatten:=by rw[<-Jn,Hj]
 rw[this,Ak];exact Qv _ _
theorem TW.sh:∀{n:Nat} {w:W} {row:↑Ay},TW n w row->∀t∈row,Sh t
 | n+1,w,row,.inl ⟨t,_,e,h⟩,u,U=>by rw[e]at U;rw[Af.mp U];exact h
 | n+1,w,row,.inr ⟨k,ws,rows,_,N,e,_⟩,u,U=>by
  rw[e]at U;let⟨r,T,U⟩:=List.mem_flatten.mp U;have:∀{ws:↑W} {rows:↑(↑Ay)},Ey (TW n) ws rows->∀r∈rows,∀u∈r,Sh u:=λh=>by
   induction h with
   | nil=>exact λ_ h=>nomatch h
   | cons a _ E=>exact λr T u U=>(Au.mp T).elim (λz=>TW.sh a u (z▸U)) λz=>E r z u U
  exact this N r T u U
theorem zit{n:Nat}:bG (sU (n+1)) (zhG (sU n)) NI:=by
 rintro _ M R ⟨w,row,rfl,hw,hl,r⟩;rcases hw with⟨t,rfl,rfl,_⟩|⟨k,ws,rows,rfl,N,rfl,F⟩
 .exact ZC.mpr ⟨_,aP,r⟩
 .refine ZD.mpr ?_;refine gC (λi U V=>∃o,U=[aa (.tup [.int k,.tup ws]),aa (.rl ((rows.take i).flatten.map W.str)),o]/\V=M) ⟨_,rfl,rfl⟩ ?_ ?_
  .rintro i x U V J ⟨o,rfl,rfl⟩ D K;let⟨l,a,g⟩:=ziq N J;have e:=zir a;have B:=zis (rows:=rows) (i+1);rw[e,Ak]at B;cases n with
   | zero=>cases g
   | succ n=>
    refine⟨x,l,rfl,g,by lia,?_⟩;refine⟨?_,K _ _ ⟨_,by rw[e,Aw];rfl,rfl⟩⟩;rw[Ab,Ab];exact Ar B (Ar hl ∅)
  .rintro U V ⟨o,rfl,rfl⟩;rw[↥N,Bp];exact⟨_,aP,r⟩
theorem ziu{L:Nat}{b d:Int}{rank a:Nat}(G:b+1<=d)(f:a<L)(h:6<=b->a<rank):j6 L d a+1<=j6 L b rank:=by
 unfold j6;split<;>split<;>lia
theorem NM{L:Nat}{b:Int}{rank:Nat}:1<=j6 L b rank:=by unfold j6;split<;>lia
theorem gV.rank{ch:i0}{p:Ay}(h:p∈ch.map (·.1)):∃rank k,ch[rank]? = aa (p,k)/\rank<↥ch:=by
 let⟨e,Y,rfl⟩:=Ap.mp h;let⟨i,hi⟩:=Hs Y;exact⟨i,e.2,hi,(Am.mp hi).1⟩
theorem gV.look(h:gV rs ch){rank k:Nat}(e:ch[rank]? = aa (nm,k)):aQ (eX ch) (Sum.inr nm:aC)=aa (.int (k:Nat)):=by
 have:∀{ch:i0},(ch.map (·.1)).Nodup->(nm,k)∈ch->b8 ch nm=aa k:=λ{ch}=>by
  induction ch with
  | nil=>exact λ_ h=>nomatch h
  | cons e c ih=>
   intro hn hm;rw[Bd,Ca]at hn;unfold b8;rw[Cq];rcases Au.mp hm with rfl|hm
   .rw[Vi rfl];rfl
   .rw[Vj λz=>hn.1 (Ap.mpr ⟨_,hm,z.symm⟩)];exact ih hn.2 hm
 rw[NL,this h.nd (Ao e)];rfl
def xI(rs:↑aE)(ch:i0)(nm:Ay)(j:Nat):Prop:=∃r,rs[j]? = aa r/\r.name=nm/\∀p∈r.parts,isNameB p=ab->p∈ch.map (·.1)
theorem ziv{n:Nat}:bG (mN (n+1)) (zhA (mN n)) NC:=by
 rintro _ M R ⟨rs,ch,nm,q,a,b,rank,k,p,rfl,T,g,hc,hrk,hp1,hpp,hlev,r⟩;have hf:=g.few;have hrl:=(Am.mp hrk).1;let⟨r0,hr0,hn0,hp0⟩:=hc.at_ rank nm k hrk;have fin:∀(N:Mm) (num:Nat) (ru:aE) (a0:Int) (u Q:Option W),(∀o,L2.Sub (put M q o) (put N q o))->N q=aa (.lst [.int a0,.int b])->rs[num]? = aa ru->(∀t∈ru.parts,isNameB t=ab->∃rank' y,ch[rank']? = aa (t,y)/\rank'<↥ch/\(6<=b->rank'<rank))->
   (aF (ND (mN n)) (aF (NF (mN n)) (aF (NG (mN n)) (NH (mN n))))) (k7 R) [aa (a6 rs),aa (.dk (eX ch)),aa (.str nm),aa (.ref q),aa (.int num),u,Q,ae,ae] N:=by
  intro N num ru a0 u Q sb C E hpt;have P:=Ao E;have m:=g.prt ru P;let⟨ru',O,S⟩:=lI (rs:=rs) (n:=num) (Am.mp E).1;cases (show aa ru'=aa ru from O.symm.trans E);refine kY C (show bT [W.int a0,W.int b] 1=aa (.int b) from rfl) (zS C ∅ (by simp) λc hcf=>?_);have hcq:q≠c:=λz=>by rw[<-z,aJ]at hcf;cases hcf
  have hNc:N c=ae:=by rw[aT (Bx hcq)]at hcf;exact hcf
  have sw:∀{X Y Z:MO},put (put (put N q X) c Z) q Y=put (put N q Y) c Z:=λ{X Y Z}=>by rw[oI (Bx hcq),cJ]
  have atq:∀{X Z:MO},put (put N q X) c Z q=aa X:=λ{X Z}=>by rw[aT hcq,aJ]
  have L1:1<=j6 ↥ch b rank:=NM;refine so.of S ?_;refine gC (λi U V=>∃cs rows a' b' I,U=[aa (a6 rs),aa (.dk (eX ch)),aa (.str nm),aa (.ref q),aa (.int num),u,Q,aa (.ref c),I]/\V=put (put N q (.lst [.int a',.int b'])) c (.lst cs)/\Ey (TW (n+1)) cs rows/\↥cs=i/\b+1<=b'/\↥rows.flatten<=i*p ^ (j6 ↥ch b rank-1)) ⟨[],[],a0,b+1,_,rfl,rfl,.nil,rfl,Tf _,Cn _⟩ ?_ ?_
  .rintro i w U V hw ⟨cs,rows,a',b',I,rfl,rfl,hpr,hcl,hbb,hll⟩ D H;rw[Av]at hw;let⟨t,ht,rfl⟩:=Az.mp hw;have htm:=Ao ht;have hi:=(Am.mp ht).1;have nx:∀{w:W} {row:↑Ay} {a'' b'':Int},TW (n+1) w row->↥row<=p ^ (j6 ↥ch b rank-1)->b'<=b''->D.nx [aa (a6 rs),aa (.dk (eX ch)),aa (.str nm),aa (.ref q),aa (.int num),u,Q,aa (.ref c),aa (.str t)] (put (put N q (.lst [.int a'',.int b''])) c (.lst (cs++[w]))):=λ{w row a'' b''} O S h3=>
    H _ _ ⟨cs++[w],rows++[row],a'',b'',_,rfl,rfl,hpr.snoc O,by rw[Ak,hcl];rfl,Ny hbb h3,by
     rw[Jn,Ak,Qc];simp only[Gn,List.flatten_nil,Ce];exact Nat.add_le_add hll S⟩
   refine⟨t,rfl,g.pt ru P t htm,bS (b:=isNameB t) (λhn=>?_) λhn=>?_⟩
   .let⟨rank',y,O,hL,h3⟩:=hpt t htm hn;have ld:=ziu hbb hL h3;refine⟨fD aJ,?_⟩;cases n with
    | zero=>exact absurd (Ar ld hlev) (by have:=NM (L:=↥ch) (b:=b') (rank:=rank');lia)
    | succ n=>
     refine⟨rs,ch,t,q,a',b',rank',y,p,rfl,atq,g,hc,O,hp1,hpp,by lia,λw row a'' b'' B A l=>?_⟩;rw[sw];refine⟨_,aJ,cS (by lia),?_⟩;rw[cJ];exact nx B (Ar A (Lp hp1 (by lia))) l
   .refine⟨fD aJ,_,aJ,cS (by lia),?_⟩;rw[cJ];exact nx (.inl ⟨t,rfl,rfl,mP (g.pt ru P t htm)⟩) (Nat.one_le_pow _ _ hp1) (Tf _)
  .rintro U V ⟨cs,rows,a',b',I,rfl,rfl,hpr,hcl,hbb,hll⟩;rw[Ab]at hcl hll;refine⟨_,aJ,_,(sb _).trans (Sub.new (by rw[aT (Bx hcq)];exact hNc)),r _ rows.flatten a' b' (.inr ⟨num,cs,rows,rfl,hpr,rfl,by lia⟩) ?_ (by lia)⟩;refine Ar hll (Ar (Nat.mul_le_mul_right _ (hpp ru P)) ?_);rw[<-Nat.pow_succ',Nat.succ_eq_add_one,Pp L1];exact Ai _
 refine⟨_,⟨Sum.inr nm,rfl,(hc.look hrk).symm⟩,?_⟩;refine kY T (show bT [W.int a,W.int b] 1=aa (.int b) from rfl) (bS (b:=decide (b<6)) (λv=>?_) λv=>?_)
 .refine λs F=>?_;have hsq:q≠s:=λz=>by rw[<-z,T]at F;cases F
  have hl:↥(rs.map bD)=↥rs:=Ab _;refine⟨_,rfl,by rw[hl];lia,by rw[hl];lia,?_⟩;refine gC (λi U V=>∃js Q,U=[aa (a6 rs),aa (.dk (eX ch)),aa (.str nm),aa (.ref q),aa (.int k),aa (.ref s),Q,ae,ae]/\V=put M s (.lst (js.map λ(j:Nat)=>W.int j))/\↥js<=i/\(∀j∈js,xI rs ch nm j)/\∀j,j<i->xI rs ch nm j->j∈js) ⟨[],_,rfl,rfl,Ai _,(λ_ h=>nomatch h),λ_ h=>nomatch h⟩ ?_ ?_
  .rintro i w U V hw ⟨js,Q,rfl,rfl,hjl,hj1,hj2⟩ D H;let⟨hi,rfl⟩:=qD hw;rw[De,hl]at hi;rw[Md];let⟨ru,O,S⟩:=lI hi;have P:=Ao O;have no:¬xI rs ch nm i->∀j,j<i+1->xI rs ch nm j->j∈js:=λhn j hj f=>(Ni.mp hj).elim (λz=>hj2 j z f) λz=>absurd (z▸f) hn;refine so.of S (bS (b:=decide (ru.name=nm)) (λG=>?_) λG=>H _ _ ⟨js,_,rfl,rfl,by lia,hj1,no λ⟨x,J,hx2,_⟩=>by rw[O]at J;cases J;exact of_decide_eq_false G hx2⟩);refine so.of S ⟨_,ru.parts,ch,rfl,.inl rfl,g.pt ru P,g.prt ru P,λb1 hb1=>bS (b:=b1) (λy3=>?_) λy3=>H _ _ ⟨js,_,rfl,rfl,by lia,hj1,no λ⟨x,J,_,hx3⟩=>by rw[O]at J;cases J;rw[hb1.mpr hx3]at y3;cases y3⟩⟩;refine⟨fD aJ,_,aJ,cS (by rw[Ab];lia),?_⟩;rw[cJ];refine H _ _ ⟨js++[i],_,rfl,by rw[Aw];rfl,by rw[Ak];exact Ee hjl,λj hj=>(Ba.mp hj).elim (hj1 j) λz=>by rw[Af.mp z];exact⟨ru,O,Vh G,hb1.mp y3⟩,λj hj f=>(Ni.mp hj).elim (λz=>Be _ (hj2 j z f)) λz=>Bi _ (by rw[z];exact .head _)⟩
  .rintro U V ⟨js,Q,rfl,rfl,hjl,hj1,hj2⟩;rw[sG,De,hl]at hjl hj2;have hkj:=hj2 k (Am.mp hr0).1 ⟨r0,hr0,hn0,λt ht hn=>by
    let⟨e,d,A⟩:=Ap.mp (hp0 t ht hn);exact Ap.mpr ⟨e,Ff d,A⟩⟩
   have hjp:0<↥js:=List.length_pos_of_mem hkj;have hq2:put M s (.lst (js.map λ(j:Nat)=>W.int j)) q=aa (.lst [.int a,.int b]):=by rw[aT hsq];exact T
   have jl:↥(js.map λ(j:Nat)=>W.int (j:Int))=↥js:=Ab _;let⟨w,hw,hwm⟩:=G2 (xs:=js.map λ(j:Nat)=>W.int (j:Int)) (i:=a) (n:=(↥(js.map λ(j:Nat)=>W.int (j:Int)):Int)) rfl (by rw[jl];lia);let⟨num,hnum,rfl⟩:=Ap.mp hwm;let⟨ru,E,_,hru2⟩:=hj1 num hnum;refine kY hq2 (show bT [W.int a,W.int b] 0=aa (.int a) from rfl) (.inl ⟨_,aJ,by rw[jl];lia,kY aJ hw ?_⟩);refine kY hq2 (show bT [W.int a,W.int b] 0=aa (.int a) from rfl) (.inl ⟨_,aJ,⟨by rw[jl];lia,Sy (by rw[jl];lia:_<(2:Int) ^ 20) ∅⟩,zS hq2 ∅ (by simp) ?_⟩);refine fin _ num ru _ _ _ (λo=>by rw[cJ];exact Sub.put (Sub.new F)) aJ E λt ht hn=>?_;let⟨rk,y,O,S⟩:=gV.rank (hru2 t ht hn);exact⟨rk,y,O,S,λz=>absurd (Vh v) (by lia)⟩
 .exact fin M k r0 a _ _ (λ_=>aP) T hr0 λt ht hn=>by
   have:=hp0 t ht hn;let⟨rk,y,O,S⟩:=gV.rank this;rw[List.getElem?_take]at O;split at O
   .rename_i K;exact⟨rk,y,O,by lia,λ_=>K⟩
   .cases O
theorem ziw(n:Nat)(ws:↑W)(M:Mm)(R:K3)(h:mN n ws M R):↥ws=4:=by
 cases n with
 | zero=>exact h.elim
 | succ n=>
  let⟨_,_,_,_,_,_,_,_,_,e,_⟩:=h;rw[e];rfl
theorem zix:∀n ws M R,sU n ws M R->↥ws=1
 | 0,_,_,_,h=>h.elim
 | n+1,_,_,_,⟨_,_,e,_⟩=>by rw[e];rfl
abbrev nW(l:↑Nat):↑W:=l.map λ(n:Nat)=>W.int n
theorem NN(l:↑Nat):(nW l).all fN=ab:=by
 rw[Mb];exact Fj.mpr λ_ _=>rfl
theorem NO{e:Nat}:inW (.int e) (nW l)=decide (e∈l):=by
 unfold inW nW;rw[Ku,Dw,Gg,decide_eq_true_iff];constructor
 .rintro⟨x,J,h⟩;have h:decide ((x:Int)=e)=ab:=h;rw[<-Int.ofNat_inj.mp (Vh h)];exact J
 .exact λh=>⟨e,h,Vi (p:=(e:Int)=e) rfl⟩
def xJ(ms:↑Nat):W->Option W
 | .int i=>if i.toNat∈ms then ae else aa (.int i)
 | _=>ae
theorem NQ{keep:Mm->Prop}(hl:↥xs<=1000)(hk:∀M,keep M)(r:R (.rl (nW (xs.filter λe=>!decide (e∈ms)))) M):
  gN (nW xs) keep (aV 0) (bN (aG (bX ab) (cH 0) (cH 1))) (cH 0) [o,aa (.rl (nW ms))] M λw V=>frz w V R:=by
 refine rV (rest:=[aa (.rl (nW ms))]) (xJ ms) (small (by rw[Ab];lia)) (λ_ _=>hk _) (λw hw V C D sb O L=>?_) (aR.frz ?_)
 .let⟨e,Y,rfl⟩:=Ap.mp hw;refine⟨rfl,NN _,?_⟩;show if (!inW (.int e) (nW ms))=ab then _ else _;rw[NO];exact bS (λy=>O _ (Vf λz=>by rw[Vi (show e∈ms from z)]at y;cases y)) λy=>L (Vg (show e∈ms from Gq λz=>by rw[Vj z]at y;cases y))
 .have e:(nW xs).filterMap (xJ ms)=nW (xs.filter λe=>!decide (e∈ms)):=by
   clear hl r
   induction xs with
   | nil=>rfl
   | cons x xs E=>
    unfold nW at E⊢;rw[Bd,Ea,Ed]
    by_cases h:x∈ms
    .rw[show xJ ms (.int x)=ae from Vg h,Vi h];exact E
    .rw[show xJ ms (.int x)=aa (.int x) from Vf h,Vj h];exact congrArg _ E
  rw[e];exact r
abbrev pC(S:eW)(row:↑Ay)(t:Ay)(b m:Nat):Prop:=if isNameB t=ab then m∈gt S (t,b) else row[b]? = aa t/\m=b+1
theorem CG:∀{qs:↑Ay} {b e:Nat},iZ S row (qs++[t]) b e↔∃m,iZ S row qs b m/\pC S row t m e
 | [],b,e=>⟨λ⟨m,h,k⟩=>⟨b,rfl,(show e=m from k)▸h⟩,λ⟨m,h,k⟩=>⟨e,(show m=b from h)▸k,rfl⟩⟩
 | p::qs,b,e=>by
  show(∃m,_/\iZ S row (qs++[t]) m e)↔∃m,(∃c,_/\iZ S row qs c m)/\_;constructor
  .rintro⟨c,O,L⟩;let⟨m,h3,D⟩:=CG.mp L;exact⟨m,⟨c,O,h3⟩,D⟩
  .rintro⟨m,⟨c,O,h3⟩,D⟩;exact⟨c,O,CG.mpr ⟨m,h3,D⟩⟩
theorem CH(a b:Ay×Nat)(h:([Sum.inr a.1,Sum.inl (a.2:Int)]:↑aC)=[Sum.inr b.1,Sum.inl (b.2:Int)]):a=b:=by
 simp only[Es,Oh,Mh,Int.ofNat_inj,and_true]at h;exact Nj h.1 h.2
theorem CI{b:Nat}(h:M p=aa (.dT (hJ S)))(r:R (.rl (nW (gt S (t,b)))) M):nL (.ref p) [.tup [.str t,.int b],.rl []] M R:=by
 refine⟨_,.inr ⟨_,[Sum.inr t,Sum.inl (b:Int)],h,rfl,rfl⟩,?_⟩;unfold hJ;rw[nR (kk:=λk:Ay×Nat=>[Sum.inr k.1,Sum.inl (k.2:Int)]) CH S (t,b)];unfold gt at r;cases e:b8 S (t,b) with
 | none=>rw[e]at r;exact r
 | some l=>rw[e]at r;exact r
theorem ziy:bG M9 zhM zhH:=by
 rintro _ M R ⟨p,S,ps,row,b,rfl,n,N,E,a,G,F,Z,X,r⟩;refine gC (λi U V=>∃es u Q s H,U=[aa (.ref p),aa (.tup (ps.map W.str)),aa (.rl (row.map W.str)),aa (.int b),aa (.rl (nW es)),u,Q,s,H]/\M=V/\(∀e,e∈es↔iZ S row (ps.take i) b e)/\es.Nodup/\∀e∈es,e<=↥row) ⟨[b],_,_,_,_,rfl,rfl,λe=>Af,by simp,λe Y=>by rw[Af.mp Y];exact G⟩ ?_ ?_
 .rintro i w U V hw ⟨es,u,Q,s,H,rfl,rfl,Y,hn,hl⟩ D K;rw[Av]at hw;let⟨t,ht,rfl⟩:=Az.mp hw;have k:=N t (Ao ht);have few:∀{l:↑Nat},l.Nodup->(∀e∈l,e<=↥row)->↥l<=6:=λ{l} O L=>by
   have:=len_sub (b:=Ci (↥row+1)) O λx J=>Ew.mpr (Mx (L x J));rw[Gm]at this;lia
  refine gC (λj U V=>∃ms s H,U=[aa (.ref p),aa (.tup (ps.map W.str)),aa (.rl (row.map W.str)),aa (.int b),aa (.rl (nW es)),aa (.str t),aa (.rl (nW ms)),s,H]/\M=V/\(∀e,e∈ms↔∃m∈es.take j,pC S row t m e)/\ms.Nodup/\∀e∈ms,e<=↥row) ⟨[],_,_,rfl,rfl,λe=>⟨(λh=>nomatch h),λ⟨_,h,_⟩=>nomatch h⟩,Dx,λ_ h=>nomatch h⟩ ?_ ?_
  .rintro j w U V hw ⟨ms,s,H,rfl,rfl,P,q,v⟩ o d;rw[Av]at hw;let⟨m,T,rfl⟩:=Az.mp hw;have I:=hl m (Ao T);have fin:∀{xs:↑Nat} {D:D3},(∀U V,(∃ms s H,U=[aa (.ref p),aa (.tup (ps.map W.str)),aa (.rl (row.map W.str)),aa (.int b),aa (.rl (nW es)),aa (.str t),aa (.rl (nW ms)),s,H]/\M=V/\(∀e,e∈ms↔∃m∈es.take (j+1),pC S row t m e)/\ms.Nodup/\∀e∈ms,e<=↥row)->D.nx U V)->(∀e,e∈xs↔pC S row t m e)->xs.Nodup->(∀e∈xs,e<=↥row)->
     aN 6 (aG cE (cH 6) (bE (c7 (bK cA (cH 8)) (aV 0) (bN (aG (bX ab) (cH 0) (cH 1))) (cH 0) [ae,aa 6]))) D [aa (.ref p),aa (.tup (ps.map W.str)),aa (.rl (row.map W.str)),aa (.int b),aa (.rl (nW es)),aa (.str t),aa (.rl (nW ms)),aa (.int m),aa (.rl (nW xs))] M:=λ{xs D} K J A B=>by
    have g:=few A B;have fm:=few q v;refine NQ (by lia) (λ_=>trivial) ⟨small (by rw[Ab,Ab];have:=Fw (λe=>!decide (e∈ms)) xs;lia),K _ _ ⟨ms++xs.filter λe=>!decide (e∈ms),_,_,by unfold nW;rw[Aw];rfl,rfl,λe=>?_,?_,λe Y=>?_⟩⟩
    .rw[Cb,T,Ba,Dq];constructor
     .rintro(h|⟨h,_⟩)
      .let⟨c,hc,h⟩:=(P e).mp h;exact⟨c,Be _ hc,h⟩
      .exact⟨m,Bi _ (.head _),(J e).mp h⟩
     .rintro⟨c,hc,h⟩
      by_cases z:e∈ms
      .exact .inl z
      .rcases Ba.mp hc with hc|hc
       .exact absurd ((P e).mpr ⟨c,hc,h⟩) z
       .rw[Af.mp hc]at h;exact .inr ⟨(J e).mpr h,by rw[Vj z];rfl⟩
    .rw[Cd];exact⟨q,A.sublist Jo,λx J y f z=>by
      have:=(Dq.mp f).2;rw[<-z,Vi J]at this;cases this⟩
    .exact(Ba.mp Y).elim (v e) λz=>B e (Dq.mp z).1
   refine⟨t,rfl,k,bS (b:=!isNameB t) (λhn=>?_) λhn=>?_⟩
   .have hn:isNameB t=ac:=Bool.not_eq_true' _▸hn;have C:dH (row.map W.str) (aa (m:Int)) (aa ((m:Int)+1))=((row.drop m).take 1).map W.str:=by
     unfold dH;rw[show((m:Int)+1)=((m+1:Nat):Int) from rfl,HT.sIx_nat,HT.sIx_nat,Ab,Ob I,<-Mz,<-Pf];rcases Nat.lt_or_eq_of_le I with z|z
     .rw[Ob z,Nat.succ_sub (Ai m),Nw]
     .rw[z,List.drop_length,List.take_nil,List.take_nil]
    have at_:((row.drop m).take 1).map W.str=[W.str t]↔row[m]? = aa t:=by
     rw[<-List.head?_drop];cases row.drop m with
     | nil=>exact⟨(λh=>nomatch h),λh=>nomatch h⟩
     | cons x l=>exact⟨λh=>by cases h;rfl,λh=>by cases h;rfl⟩
    refine nH 2 ∅ (λw hw=>?_) (λw hw=>?_) λc hc=>?_
    .let⟨x,J,rfl⟩:=Ap.mp (zQ hw);exact nN (a x J).asc
    .rw[Af.mp hw];exact nN (mP k).asc
    .have hc:c=ab↔row[m]? = aa t:=by
      rw[hc,<-at_,<-C];exact⟨λh=>W.rl.inj h,λh=>congrArg W.rl h⟩
     have st:∀e,pC S row t m e↔c=ab/\e=m+1:=λe=>by unfold pC;rw[Vf (by rw[hn];decide),hc]
     cases c with
     | true=>exact⟨by decide,by decide,small (show 1*1<=10000000 by decide),fin (xs:=[m+1]) d (λe=>by rw[st,Af];simp) (by simp) λe Y=>by rw[Af.mp Y];exact(Am.mp (hc.mp rfl)).1⟩
     | false=>exact⟨by decide,by decide,small (show 1*0<=10000000 by decide),fin (xs:=[]) d (λe=>by rw[st];simp) Dx λ_ h=>nomatch h⟩
   .have hn:isNameB t=ab:=by cases z:isNameB t;rw[z]at hn;cases hn;rfl
    refine⟨oV n,CI n (fin d (λe=>by unfold pC;rw[Vg hn]) (X _) λe Y=>Z _ e Y)⟩
  .rintro U V ⟨ms,s,H,rfl,rfl,P,q,v⟩;refine K _ _ ⟨ms,_,_,_,_,rfl,rfl,λe=>?_,q,v⟩;rw[P,Ab,Bp,Cb,ht];refine Iff.trans ⟨λ⟨m,O,L⟩=>⟨m,(Y m).mp O,L⟩,λ⟨m,O,L⟩=>⟨m,(Y m).mpr O,L⟩⟩ CG.symm
 .rintro U V ⟨es,u,Q,s,H,rfl,rfl,Y,hn,hl⟩;rw[Ab,Bp]at Y;exact⟨_,aP,r es Y hn⟩
theorem gE.cg{j a:aE->Nat->Prop}(h:gE rs row w S j)(k:∀r b,a r b->j r b):gE rs row w S a:=⟨h.sd,h.nd,h.ln,h.ks,h.ge,λz=>⟨(h.eq z).1,λr b q=>(h.eq z).2 r b (k r b q)⟩⟩
theorem gE.new{j:aE->Nat->Prop}(h:gE rs row w S j):gE rs row S S λ_ _=>False:=⟨h.sd,h.nd,h.ln,h.ks,Ai _,λ_=>⟨λ_=>rfl,λ_ _ z=>z.elim⟩⟩
def ziz(S:eW):W->W
 | .tup [.str t,.int b]=>.int ↥(gt S (t,b.toNat))
 | _=>.non
abbrev NR:aS:=sR 2 (bH vD (aA (bE (c7 (bK nT (cH 2)) (aV 0) eU (bH cL (aA (aG oN (cH 1) (cH 0)) aB)) [ae,aa 2])) aB))
theorem NS(hn:(S.map (·.1)).Nodup)(Y:e∈S):gt S (e.1.1,e.1.2)=e.2:=by
 unfold gt;rw[show(e.1.1,e.1.2)=e.1 from rfl,xG hn Y];rfl
theorem NT:∀S:eW,(S.map λe=>(↥e.2:Int)).sum=(eI S:Int)
 | []=>rfl
 | e::S=>by
  unfold eI;rw[Bd,Pe,Bd,Pe,Od,NT S];rfl
theorem NU(n:M p=aa (.dT (hJ S)))(hn:(S.map (·.1)).Nodup)(hl:↥S<=100000)(r:R (.int (eI S)) M):NR (a::b::aa (.ref p)::rest) M R:=by
 refine⟨p,hJ S,rfl,n,?_⟩;refine nJ (rest:=[aa (.ft (hJ S))]) (ziz S) (small (by unfold hJ;rw[Ab,Ab];lia)) (λ_ _=>trivial) (λw hw V C sb O=>?_) (aR.frz ⟨S.map λe=>(↥e.2:Int),?_,eI S,congrArg W.int (NT S),r⟩)
 .unfold hJ at hw;rw[Bm]at hw;let⟨e,Y,rfl⟩:=Ap.mp hw;refine⟨.rl (nW e.2),⟨[Sum.inr e.1.1,Sum.inl (e.1.2:Int)],rfl,?_⟩,?_⟩
  .unfold hJ;rw[nR (kk:=λk:Ay×Nat=>[Sum.inr k.1,Sum.inl (k.2:Int)]) CH S e.1,xG hn Y];rfl
  .have O:C (.int ↥(gt S (e.1.1,e.1.2))) V:=O;rw[NS hn Y]at O;show C (.int ↥(nW e.2)) V;rw[Ab];exact O
 .unfold hJ;rw[Bm,Bm,Bm];refine Dy λe Y=>?_;show W.int ↥(gt S (e.1.1,e.1.2))=_;rw[NS hn Y];rfl
theorem ziA(n:M p=aa (.dT (hJ S)))(hn:(S.map (·.1)).Nodup)(hl:↥S<=100000)(r:u D (a::b::aa (.ref p)::aa (.int (eI S))::rest) M):(aF (aN 3 NR) u) D (a::b::aa (.ref p)::c::rest) M:=NU (R:=λw I=>u D (a::b::aa (.ref p)::aa w::rest) I) n hn hl r
theorem ziB:bG CF zhT zhN:=by
 rintro _ M R ⟨rs,row,rfl,g,hr5,hrs,r⟩;have hf:=g.few;obtain⟨B,hB⟩:∃B,B=↥rs*(↥row+1)*(↥row+1):=⟨_,rfl⟩;have slen:∀{S0 S:eW} {dn:aE->Nat->Prop},gE rs row S0 S dn->↥S<=100000:=λh=>Ar h.few (Ar (Nat.mul_le_mul hf (Ee hr5)) ∅);refine λp N=>?_;refine AF (λm U V=>∃S v X u Q s H o9,U=[aa (a6 rs),aa (.rl (row.map W.str)),aa (.ref p),aa (.int v),X,u,Q,s,H,o9]/\V=put M p (.dT (hJ S))/\gE rs row S S (λ_ _=>False)/\(v<eI S\/∃S0,v=eI S0/\gE rs row S0 S λr b=>r∈rs/\b<=↥row)/\m=2*(B-eI S)+(if v<eI S then 1 else 0))
  ⟨_,[],-1,_,_,_,_,_,_,rfl,rfl,⟨(λ_ _ _ h=>nomatch h),Dx,λ_=>Dx,(λ_ h=>nomatch h),Ai _,λ_=>⟨λ_=>rfl,λ_ _ z=>z.elim⟩⟩,.inl ∅,rfl⟩ ?_
 rintro m U V ⟨S,v,X,u,Q,s,H,o9,rfl,rfl,I,P,rfl⟩ D K;refine NU aJ I.nd (slen I) (bS (b:=decide (v<(eI S:Int))) (λz=>?_) λz=>?_)
 .have z:=Vh z;rw[Vg z]at K;refine ziA aJ I.nd (slen I) ?_;refine gC (λi U V=>∃S1 X u Q s H o9,U=[aa (a6 rs),aa (.rl (row.map W.str)),aa (.ref p),aa (.int (eI S)),X,u,Q,s,H,o9]/\V=put M p (.dT (hJ S1))/\gE rs row S S1 λr b=>r∈rs.take i/\b<=↥row) ⟨S,_,_,_,_,_,_,rfl,rfl,I.cg λ_ _ h=>nomatch h.1⟩ ?_ ?_
  .rintro i w U V hw ⟨S1,X,u,Q,s,H,o9,rfl,rfl,d⟩ D1 hD1;rw[Av]at hw;let⟨ru,E,rfl⟩:=Az.mp hw;have P:=Ao E;have hl:↥(row.map W.str)=↥row:=Ab _;refine⟨rfl,rfl,_,rfl,by rw[hl];lia,by rw[hl];lia,?_⟩;refine gC (λj U V=>∃S2 s H o9,U=[aa (a6 rs),aa (.rl (row.map W.str)),aa (.ref p),aa (.int (eI S)),aa (.str ru.name),aa (.tup (ru.parts.map W.str)),aa (.int ru.cost),s,H,o9]/\V=put M p (.dT (hJ S2))/\gE rs row S S2 λr b=>(r∈rs.take i/\b<=↥row)\/(r=ru/\b<j)) ⟨S1,_,_,_,rfl,rfl,d.cg λ_ _ h=>h.elim id λh=>nomatch h.2⟩ ?_ ?_
   .rintro j w U V hw ⟨S2,s,H,o9,rfl,rfl,n⟩ D2 hD2;let⟨hj,rfl⟩:=qD hw;have hj:j<=↥row:=by rw[hl]at hj;lia
    rw[Md];refine⟨oV aJ,CI aJ ⟨p,S2,ru.parts,row,j,rfl,aJ,g.pt ru P,hr5,hrs,hj,g.prt ru P,λk e Y=>(n.sd k.1 k.2 e Y).2.1,n.ln,λes Y hn=>?_⟩⟩;have few:∀{l:↑Nat},l.Nodup->(∀e∈l,e<=↥row)->↥l<=6:=λ{l} O L=>by
     have:=len_sub (b:=Ci (↥row+1)) O λx J=>Ew.mpr (Mx (L x J));rw[Gm]at this;lia
    have fe:=few hn λe h=>(n.sd.en ((Y e).mp h) hj).2.1;have fo:=few (n.ln (ru.name,j)) λe h=>(n.sd _ _ e h).2.1;have I3:=n.step P (g.nm ru P).nm hj Y hn;refine NQ (by lia) (λ_=>trivial) ⟨small (by rw[Ab,Ab];have:=Fw (λe=>!decide (e∈gt S2 (ru.name,j))) es;lia),?_⟩;refine oR (k:=[Sum.inr ru.name,Sum.inl (j:Int)]) aJ (by have:=slen n;unfold hJ;rw[Ab];exact cS (by lia)) ?_;rw[cJ];refine hD2 _ _ ⟨_,_,_,_,rfl,?_,I3.cg λr b h=>h.elim (λh=>.inl (.inl h)) λh=>(Ni.mp h.2).elim (λz=>.inl (.inr ⟨h.1,z⟩)) λz=>.inr ⟨h.1,z⟩⟩;unfold hJ;rw[<-AK (kk:=λk:Ay×Nat=>[Sum.inr k.1,Sum.inl (k.2:Int)]) CH S2 (ru.name,j),<-Aw]
   .rintro U V ⟨S2,s,H,o9,rfl,rfl,n⟩;rw[sG,hl]at n;refine hD1 _ _ ⟨S2,_,_,_,_,_,_,rfl,rfl,n.cg λr b h=>?_⟩;let⟨O,L⟩:=h;rw[Cb,E]at O;rcases Ba.mp O with O|O
    .exact .inl ⟨O,L⟩
    .exact .inr ⟨Af.mp O,by lia⟩
  .rintro U V ⟨S1,X,u,Q,s,H,o9,rfl,rfl,d⟩;rw[Ab,Bp]at d;have b1:=d.bound;have b0:=I.bound;have ge:=d.ge;refine K _ _ _ ?_ ⟨S1,_,_,_,_,_,_,_,rfl,rfl,d.new,.inr ⟨S,rfl,d⟩,rfl⟩;rw[<-hB]at b1 b0;split<;>lia
 .have z:=of_decide_eq_false z;let⟨S0,rfl,I0⟩:=P.resolve_left z;have c:eI S=eI S0:=by have:=I0.ge;lia
  let⟨C,A⟩:=I0.eq c;have cl:xF rs row S:=λr T b G e hE=>by rw[C];exact A r b ⟨T,G⟩ e (CC C hE)
  let⟨r0,rs',F⟩:=Er g.ne;have n0:isNameB (f0 rs)=ab:=by let⟨q,Z,e⟩:=pA g.ne;rw[<-e];exact(g.nm q Z).nm
  refine⟨oV aJ,so.of (o:=bT (rs.map bD) 0) (a:=bD r0) (by rw[F];exact nK _ _) ?_⟩;refine CI (t:=r0.name) (b:=0) (R:=λy f=>L2.bX ac (.int ↥(row.map W.str)) y f (k7 R).rt) aJ ⟨rfl,NN _,_,Sub.new N,r _ ?_⟩;show inW (.int ↥(row.map W.str)) (nW (gt S (r0.name,0)))=ab↔_;rw[Ab,NO,decide_eq_true_iff,show r0.name=f0 rs by rw[F];rfl];exact zhk I.sd cl n0
theorem ziC{wl:↑Ay}{xs G:↑W}(h:Ey (λ_ y=>∃t∈wl,y=W.str t) xs G):∃row:↑Ay,G=row.map W.str/\↥row=↥xs/\∀t∈row,t∈wl:=by
 induction h with
 | nil=>exact⟨[],rfl,rfl,λ_ h=>nomatch h⟩
 | cons a _ E=>
  let⟨t,ht,rfl⟩:=a;let⟨row,rfl,e,h⟩:=E;exact⟨t::row,rfl,congrArg (· + 1) e,λu U=>(Au.mp U).elim (λz=>z▸ht) (h u)⟩
abbrev mQ(rows:↑(↑Ay)):↑W:=rows.map λrow=>.rl (row.map W.str)
def Short(row:↑Ay):Prop:=↥row<=5/\∀t∈row,Sh t
def xK(wl:↑Ay):W->Option W
 | .str p=>if isNameB p=ab\/p∈wl then ae else aa (.str p)
 | _=>ae
theorem ziD(h:w∈dH (x::l) (aa 1) hi):w∈l:=by
 unfold dH at h;rw[show(aa (1:Int))=aa ((1:Nat):Int) from rfl,HT.sIx_nat,Ob (by show 1<=↥l+1;lia:1<=↥(x::l))]at h;exact Ff h
theorem ziE:bG NA zh2 zhU:=by
 rintro _ M R ⟨rs,gs,zs,rfl,hz,hzl,g,hr,hgn,hgl,hgs,r⟩;refine gC (λi τ M'=>∃(wl:↑Ay) (o4 o5 o6:Option W),τ=[aa (a6 rs),aa (.rl (gs.map a6)),aa (.rl zs),aa (.rl (wl.map W.str)),o4,o5,o6,ae,ae,ae,ae,ae,ae,ae]/\M=M'/\(∀t∈wl,dW t)/\wl≠[]/\↥wl<=1+4*i) ⟨["zoe"],_,_,_,rfl,rfl,λt ht=>by rw[Af.mp ht];exact⟨by decide +kernel,by decide +kernel,by decide +kernel⟩,by simp,Ai _⟩ ?_ ?_
 .rintro i w τ M' hw ⟨wl,o4,o5,o6,rfl,rfl,h1,h2,h3⟩ D hD;rw[Av]at hw;let⟨ru,hru,rfl⟩:=Az.mp hw;have hm:=Ao hru;have h4:=g.prt ru hm;have hi:=(Am.mp hru).1;refine⟨rfl,rfl,?_⟩;refine rV (rest:=[aa (.rl (wl.map W.str))]) (xK wl) (small (by rw[Ab];lia)) (λ_ _=>trivial) (λw hw M' C D sb c1 c2=>?_) (aR.frz ?_)
  .let⟨p,hp,rfl⟩:=Ap.mp hw;refine⟨p,rfl,g.pt ru hm p hp,bS (b:=!isNameB p) (λy1=>⟨rfl,qB _,?_⟩) λy1=>c2 (Vg (.inl (by cases z:isNameB p;rw[z]at y1;cases y1;rfl)))⟩;show if (!inW (.str p) (wl.map W.str))=ab then _ else _;rw[sE];exact bS (λy2=>c1 _ (Vf λz=>z.elim (λz=>by rw[z]at y1;cases y1) λz=>by rw[Vi z]at y2;cases y2)) λy2=>c2 (Vg (.inr (Gq λz=>by rw[Vj z]at y2;cases y2)))
  .have key:∀ps:↑Ay,(∀p∈ps,c9 p\/dW p)->∃q:↑Ay,(ps.map W.str).filterMap (xK wl)=q.map W.str/\↥q<=↥ps/\∀t∈q,dW t:=by
    intro ps
    induction ps with
    | nil=>exact λ_=>⟨[],rfl,Ai _,λ_ h=>nomatch h⟩
    | cons p ps ih=>
     intro h;let⟨q,e,l,hq⟩:=ih λp hp=>h p (.tail _ hp);rw[Bd,Ea]
     by_cases z:isNameB p=ab\/p∈wl
     .refine⟨q,?_,My l,hq⟩;rw[show xK wl (.str p)=ae from Vg z];exact e
     .refine⟨p::q,?_,Ee l,λt ht=>(Au.mp ht).elim (λy=>y▸(h p (.head _)).resolve_left λy=>z (.inl y.nm)) (hq t)⟩;rw[show xK wl (.str p)=aa (.str p) from Vf z];exact congrArg _ e
   let⟨q,e,l,hq⟩:=key ru.parts (g.pt ru hm);rw[e];exact⟨small (by rw[Ab,Ab];lia),hD _ _ ⟨wl++q,_,_,_,by rw[Aw];rfl,rfl,λt ht=>(Ba.mp ht).elim (h1 t) (hq t),(λz=>h2 (Np.mp z).1),by rw[Ak];lia⟩⟩
 .rintro τ M' ⟨wl,o4,o5,o6,rfl,rfl,h1,h2,h3⟩;rw[Ab]at h3;have hwp:0<↥wl:=Ia.mpr h2;refine λq hq=>?_;refine gC (λi τ M'=>∃N rows o8 o9 o10 o11 o12 o13,τ=[aa (a6 rs),aa (.rl (gs.map a6)),aa (.rl zs),aa (.rl (wl.map W.str)),o4,o5,o6,aa (.ref q),o8,o9,o10,o11,o12,o13]/\M'=put N q (.lst (mQ rows))/\L2.Sub M N/\N q=ae/\(∀row∈rows,Short row)/\↥rows<=1+2*i) ⟨M,[[]],_,_,_,_,_,_,rfl,rfl,aP,hq,λrow h=>by rw[Af.mp h];exact⟨Cn _,λ_ h=>nomatch h⟩,Ai _⟩ ?_ ?_
  .rintro i w τ M' hw ⟨N,rows,o8,o9,o10,o11,o12,o13,rfl,rfl,sb,hN,hs,hrl⟩ D hD;let⟨c,rfl⟩:=hz w (Ao hw);have hi:=(Am.mp hw).1;have wl81:↥wl<=81:=by lia
   have hl:↥(wl.map W.str)=↥wl:=Ab _;refine⟨by decide,by decide,small (show 1*4<=10000000 by decide),small (show 1+4<=10000000 by decide),?_⟩;refine⟨c,[5,(↥(wl.map W.str):Int),(↥(wl.map W.str):Int),(↥(wl.map W.str):Int),(↥(wl.map W.str):Int)],rfl,by simp,λs hs=>?_,λds hd=>aR.frz ?_⟩
   .rw[hl]at hs;simp only[Au,Em,or_false]at hs;rcases hs with rfl|rfl|rfl|rfl|rfl<;>first|exact⟨by decide,by decide⟩|exact⟨by lia,Ny (by lia:_<=(100:Int)) ∅⟩
   obtain⟨x0,d2,rfl,b0,hd2⟩:∃x0 d2,ds=x0::d2/\Below x0 5/\Drawn d2 [(↥(wl.map W.str):Int),(↥(wl.map W.str):Int),(↥(wl.map W.str):Int),(↥(wl.map W.str):Int)]:=by
    cases hd with
    | cons a b=>exact⟨_,_,rfl,a,b⟩
   have hd3:=IE hd2 (s:=(↥(wl.map W.str):Int)) (by simp);have hdl:↥(x0::d2)=5:=↥hd;refine⟨fD aJ,so.of (o:=bT ((x0::d2).map W.int) 0) (a:=.int x0) (nK _ _) ?_⟩;refine rW (rest:=[aa (.rl (wl.map W.str))]) (λ_ y=>∃t∈wl,y=W.str t) (small (Ar u9 (by rw[Ab,hdl];decide))) (λ_ _=>trivial) (λw hw M' C sb h1=>?_) λys hys=>aR.frz ?_
   .let⟨d,hd,rfl⟩:=Ap.mp (ziD hw);let⟨e1,e2⟩:=hd3 d hd;rw[hl]at e2;let⟨t,e3,e4⟩:=sI e1 e2;exact so.of e3 (h1 _ ⟨t,e4,rfl⟩)
   let⟨row,rfl,rl1,rm⟩:=ziC hys;have rS:Short row:=⟨by rw[rl1];exact Ar u9 (by rw[Ab,hdl];exact Ai _),λt ht=>(h1 t (rm t ht)).sh⟩;refine⟨_,aJ,cS (by rw[Ab];lia),?_⟩;rw[cJ,show mQ rows++[W.rl (row.map W.str)]=mQ (rows++[row]) by unfold mQ;rw[Aw];rfl];have hs2:∀x∈rows++[row],Short x:=λx hx=>(Ba.mp hx).elim (hs x) λz=>by rw[Af.mp z];exact rS
   have rl2:↥(rows++[row])=↥rows+1:=Ak;generalize rows++[row]=rows2 at hs2 rl2;refine⟨c,rfl,λz=>?_⟩;have gl:↥(gs.map a6)=↥gs:=Ab _;have gp:0<↥gs:=Ia.mpr hgn;let⟨x,hx,hxm⟩:=G2 (xs:=gs.map a6) (i:=z) (n:=(↥(gs.map a6):Int)) rfl (by rw[gl];lia);let⟨tg,htg,rfl⟩:=Ap.mp hxm;let⟨tO,p,K,hp1,hpp,hK,hK2,hpK⟩:=hgs tg htg;let⟨r0,tg',e0⟩:=Er tO.ne;have a0:bT (tg.map bD) 0=aa (bD r0):=by rw[e0];exact nK _ _
   refine⟨by rw[gl];lia,so.of hx ⟨tg,rfl,tO,λch hc=>iO.frz (so.of a0 ⟨_,⟨.inr r0.name,rfl,rfl⟩,?_⟩)⟩⟩;show if (aQ (eX ch) (Sum.inr r0.name:aC)).isSome=ab then _ else _;rw[xH];refine bS (λy=>so.of a0 ⟨⟨by decide,by decide⟩,λs hsn=>?_⟩) λy=>hD _ _ ⟨N,rows2,_,_,_,_,_,_,rfl,rfl,sb,hN,hs2,by lia⟩;let⟨rank,k,hrk,hrL⟩:=gV.rank (Vh y);have cK:=Ar hc.few hK;have sq:q≠s:=λe=>by rw[<-e,aJ]at hsn;cases hsn
   have hNs:N s=ae:=by rw[aT (Bx sq)]at hsn;exact hsn
   have lv:j6 ↥ch 0 rank=6+↥ch:=rfl;refine⟨tg,ch,r0.name,s,_,0,rank,k,p,rfl,aJ,tO,hc,hrk,hp1,hpp,(show j6 ↥ch 0 rank<=30 from by rw[lv];lia),λw row a' b' htw hrow _=>⟨w,row,rfl,htw,Ar hrow (Ar (Lp hp1 (by rw[lv];lia)) hpK),?_⟩⟩;rw[cJ];have atq:put (put N q (.lst (mQ rows2))) s (.lst [.int a',.int b']) q=aa (.lst (mQ rows2)):=by rw[aT sq,aJ]
   refine⟨fD atq,_,atq,cS (by rw[Ab];lia),?_⟩;have e5:dH (row.map W.str) ae (aa 5)=(row.take 5).map W.str:=by
    unfold dH;rw[show(aa (5:Int))=aa ((5:Nat):Int) from rfl,HT.sIx_nat,HT.sIx_none,Oj,Sx,<-Pf,Ab];rcases Nat.le_total 5 ↥row with z|z
    .rw[Ob z]
    .rw[Nat.min_eq_right z,Bp,Ks z]
   rw[e5,oI sq,cJ,show mQ rows2++[W.rl ((row.take 5).map W.str)]=mQ (rows2++[row.take 5]) by unfold mQ;rw[Aw];rfl];refine hD _ _ ⟨put N s _,rows2++[row.take 5],_,_,_,_,_,_,rfl,rfl,sb.trans (Sub.new hNs),by rw[aT sq];exact hN,λx hx=>(Ba.mp hx).elim (hs2 x) λz=>?_,by rw[Ak,rl2];simp;lia⟩;rw[Af.mp z];exact⟨by rw[Ck];exact Lw _ _,λt ht=>htw.sh t (Ff ht)⟩
  .rintro τ M' ⟨N,rows,o8,o9,o10,o11,o12,o13,rfl,rfl,sb,hN,hs,hrl⟩;exact⟨_,Sub.put sb,r rows hs (by lia) q hq⟩
def hW(way:Int)(r:aE):aE:=if r.parts=[]/\0<way then⟨r.name,["zoe"],r.cost⟩ else r
theorem xM{way:Int}:(hW way r).name=r.name:=by unfold hW;split<;>rfl
theorem ziF{way:Int}(h:rs≠[]):f0 (hV rs way)=f0 rs:=by
 let⟨r,rs,rfl⟩:=Er h;exact xM
theorem NV:dW "zoe":=⟨by decide +kernel,by decide +kernel,by decide +kernel⟩
theorem ziG{way:Int}(g:mM rs):∀r∈hV rs way,c9 r.name/\(∀p∈r.parts,c9 p\/dW p)/\↥r.parts<=4:=λr T=>by
 let⟨q,Z,e⟩:=Ap.mp (show r∈rs.map (hW way) from T);rw[<-e];refine⟨by rw[xM];exact g.nm q Z,?_⟩;unfold hW;split
 .exact⟨λp N=>by rw[Af.mp N];exact .inr NV,(by decide:1<=4)⟩
 .exact⟨g.pt q Z,g.prt q Z⟩
def NW(F:Ay):W->Option W
 | .tup [a,.tup ps,b]=>if inW (.str F) ps=ab then aa (.tup [a,.tup ps,b]) else ae
 | _=>ae
theorem ziH:bG NB zh9 zh3:=by
 rintro _ M R ⟨rs,way,rfl,g,hl,r⟩;refine λp N=>?_;refine gC (λi U V=>∃f X u,U=[aa (a6 rs),aa (.int way),aa (.ref p),f,X,u]/\V=put M p (.lst ((hV (rs.take i) way).map bD))) ⟨_,_,_,rfl,rfl⟩ ?_ ?_
 .rintro i w U V hw ⟨f,X,u,rfl,rfl⟩ D K;rw[Av]at hw;let⟨ru,E,rfl⟩:=Az.mp hw;have P:=Ao E;have sh:∀t∈ru.parts,Sh t:=λt ht=>mP (g.pt ru P t ht);have e:hV (rs.take (i+1)) way=hV (rs.take i) way++[hW way ru]:=by
   unfold hV;rw[Cb,E,Aw];rfl
  have tl:↥((hV (rs.take i) way).map bD)<=20:=by
   unfold hV;rw[Ab,Ab,Ck];lia
  have app:∀{x:aE} {U:S3},x=hW way ru->U=[aa (a6 rs),aa (.int way),aa (.ref p),aa (.str x.name),aa (.tup (x.parts.map W.str)),aa (.int x.cost)]->(b7 (cR "list" dU (cH 2) (aA (a8 (aA (cH 3) (aA (cH 4) (aA (cH 5) aB)))) aB))) D U (put M p (.lst ((hV (rs.take i) way).map bD))):=λ{x U} ex s=>by
   subst s;refine⟨fD aJ,_,aJ,cS (by lia),?_⟩;rw[cJ];exact K _ _ ⟨_,_,_,rfl,by rw[e,Aw,ex];rfl⟩
  refine⟨rfl,rfl,nH 2 ∅ (nX sh) (nX (ps:=[]) (λt ht=>nomatch ht)) λc hc=>?_⟩;have hc:c=ab↔ru.parts=[]:=⟨λz=>sP (b:=[]) (W.tup.inj (hc.mp z)),λz=>hc.mpr (by rw[z];rfl)⟩;refine bS (b:=c) (λv=>bS (b:=decide (0<way)) (λY=>?_) λY=>?_) λv=>?_
  .exact app (x:=⟨ru.name,["zoe"],ru.cost⟩) (by unfold hW;rw[Vg ⟨hc.mp v,Vh Y⟩]) rfl
  .exact app (x:=ru) (by unfold hW;rw[Vf λz=>of_decide_eq_false Y z.2]) rfl
  .exact app (x:=ru) (by unfold hW;rw[Vf λz=>by rw[hc.mpr z.1]at v;cases v]) rfl
 .rintro U V ⟨f,X,u,rfl,rfl⟩;rw[Ab,Bp];obtain⟨T,I⟩:∃T,T=hV rs way:=⟨_,rfl⟩;rw[<-I];have ok:=ziG (way:=way) g;rw[<-I]at ok;have A:f0 T=f0 rs:=by rw[I];exact ziF g.ne
  have tl:↥T<=20:=by rw[I];unfold hV;rw[Ab];exact hl
  obtain⟨a,d,F⟩:∃a d,T=a::d:=Er (by rw[I];unfold hV;exact λz=>g.ne (List.map_eq_nil_iff.mp z));have Z:bT (T.map bD) 0=aa (bD a):=by rw[F];exact nK _ _
  have j:a.name=f0 rs:=by rw[<-A,F];rfl
  have no:¬(way=2/\∀r∈T,f0 rs∉r.parts)->i4 rs way=T:=λh=>by unfold i4;rw[<-I,Vf h,Ce]
  refine bS (b:=decide (way=2)) (λv=>⟨_,aJ,?_⟩) λv=>⟨_,aP,by have:=r p N;rw[no λz=>of_decide_eq_false v z.1]at this;exact this⟩
  refine rV (rest:=[aa (.ref p)]) (NW a.name) (small (by rw[Ab];lia)) (λV sb=>sb _ _ aJ) (λw hw V C D sb m S=>?_) (aR.frz ?_)
  .let⟨x,J,rfl⟩:=Ap.mp hw;refine kY (sb _ _ aJ) Z ⟨rfl,qB _,?_⟩;exact bS (b:=inW (.str a.name) (x.parts.map W.str)) (λy=>m _ (Vg y)) λy=>S (Vf (by rw[y];decide))
  .have pl:∀x∈T,Pl 3 (bD x):=λx J w hw=>by
    let⟨O,L,_⟩:=ok x J;simp only[Au,Em,or_false]at hw;rcases hw with rfl|rfl|rfl
    .exact nN O.asc
    .exact λw hw=>by
      let⟨t,ht,rfl⟩:=Ap.mp hw;exact nN (mP (L t ht)).asc
    .trivial
   refine nH 4 ∅ (λw hw=>?_) (λw hw=>nomatch hw) λc hc=>?_
   .let⟨z,hz,e⟩:=Ij.mp hw;let⟨x,J,rfl⟩:=Ap.mp hz;have e:(if inW (.str a.name) (x.parts.map W.str)=ab then aa (bD x) else ae)=aa w:=e;split at e
    .cases e;exact pl x J
    .cases e
   .have hc:c=ab↔∀x∈T,f0 rs∉x.parts:=by
     rw[hc,<-j];show W.rl _=W.rl []↔_;rw[W.rl.injEq,List.filterMap_eq_nil_iff];have q:∀x:aE,NW a.name (bD x)=ae↔a.name∉x.parts:=λx=>by
      show(if inW (.str a.name) (x.parts.map W.str)=ab then aa (bD x) else ae)=ae↔_;rw[sE]
      by_cases z:a.name∈x.parts
      .rw[Vi z,Vg rfl];exact⟨(λh=>nomatch h),λh=>absurd z h⟩
      .rw[Vj z,Vf ∅];exact⟨λ_=>z,λ_=>rfl⟩
     exact⟨λh x J=>(q x).mp (h _ (Ap.mpr ⟨x,J,rfl⟩)),λh w hw=>by
      let⟨x,J,rfl⟩:=Ap.mp hw;exact(q x).mpr (h x J)⟩
    refine bS (b:=c) (λY=>?_) λY=>⟨_,aP,by have:=r p N;rw[no λz=>by rw[hc.mpr z.2]at Y;cases Y]at this;exact this⟩
    refine⟨fD aJ,kY aJ Z ⟨_,aJ,cS (by rw[Ab];lia),_,aP,?_⟩⟩;rw[cJ];have:=r p N;rw[show i4 rs way=T++[⟨f0 rs,[],0⟩] by unfold i4;rw[<-I,Vg ⟨Vh v,hc.mp Y⟩],Aw,<-j]at this;exact this
structure Dr(hs ws:↑Ay)(rs:↑aE):Prop where
 ne:rs≠[]
 few:↥rs<=17
 h3:↥hs<=3
 w4:↥ws<=4
 hd:∀t∈hs,c9 t
 wd:∀t∈ws,dW t
 of:∀r∈rs,nM hs ws r
 cov:∀t∈hs,∃r∈rs,r.name=t
 sml:∃k,k<=7/\∀r∈rs.drop k,↥r.parts<=1
theorem NY(rs:↑aE):(namesOf rs).Nodup:=by
 have:∀(ts acc:↑Ay),acc.Nodup->(ts.foldl dA acc).Nodup:=by
  intro ts
  induction ts with
  | nil=>intro acc h;exact h
  | cons t ts E=>intro acc h;exact E _ (A1 h)
 exact this _ _ Dx
section
variable {hs ws:↑Ay}{rs:↑aE}
theorem Dr.hw(d:Dr hs ws rs)(T:r∈rs)(ht:t∈r.parts):c9 t\/dW t:=((d.of r T).parts t ht).elim (λz=>.inr (d.wd t z)) λz=>.inl (d.hd t z)
theorem Dr.nam(d:Dr hs ws rs):↥(namesOf rs)<=3:=Ar (len_sub (NY rs) λx J=>by
 let⟨r,T,rfl⟩:=jG.mp J;exact(d.of r T).name) d.h3
theorem Dr.own(d:Dr hs ws rs)(T:r∈rs)(ht:t∈r.parts):isNameB t=ownB rs t:=by
 rcases(d.of r T).parts t ht with z|z
 .have w:=d.wd t z;rw[yK w.ne w.sm];refine(Vj λh=>?_).symm;let⟨q,Z,e⟩:=jG.mp h;have:=(d.hd _ (d.of q Z).name).nm;rw[e,yK w.ne w.sm]at this;cases this
 .rw[(d.hd t z).nm];let⟨q,Z,rfl⟩:=d.cov t z;exact(lE Z).symm
theorem Dr.nmG(d:Dr hs ws rs):iE isNameB rs:=⟨λr T=>(d.hd _ (d.of r T).name).nm,λr T t ht=>d.own T ht⟩
theorem Dr.tgO(d:Dr hs ws rs):mM rs:=⟨d.ne,Ar d.few ∅,λr T=>d.hd _ (d.of r T).name,λr T t ht=>d.hw T ht,λr T=>(d.of r T).few⟩
theorem Dr.g60(d:Dr hs ws rs):iW rs:=by
 refine⟨d.ne,d.few,Ar d.nam ∅,λr T=>(d.of r T).few,⟨ws,by have:=d.w4;lia,λr T t ht S=>?_⟩,λr T=>(d.hd _ (d.of r T).name).sh,λr T t ht=>mP (d.hw T ht)⟩;rcases(d.of r T).parts t ht with z|z
 .exact z
 .let⟨q,Z,rfl⟩:=d.cov t z;rw[lE Z]at S;cases S
theorem Dr.okG(d:Dr hs ws rs):KY rs:=⟨d.ne,by have:=d.few;lia,λr T=>⟨(d.of r T).lo,λt ht=>⟨Ar (mP (d.hw T ht)).len ∅,λn=>by rw[d.own T ht]at n;exact Vh n⟩⟩⟩
theorem Dr.fewR(d:Dr hs ws rs):fY rs:=⟨Ar d.few ∅,λr T=>(d.of r T).few⟩
theorem Dr.ends(d:Dr hs ws rs):↥(cG rs)<=14:=by
 let⟨k,hk,h⟩:=d.sml;have J:=wA (ts:=iF rs) (acc:=[]);have m:iF (rs.drop k)=[]:=by
  unfold iF;rw[List.flatten_eq_nil_iff];intro l hl;let⟨r,T,rfl⟩:=Ap.mp hl;unfold gT;rw[Nat.sub_eq_zero_of_le (Ar (h r T) ∅)];rfl
 have a:=A5 (rs:=rs.take k) λr T=>(d.of r (Ff T)).few;have e:iF rs=iF (rs.take k)++iF (rs.drop k):=by
  unfold iF;rw[<-Jn,<-Aw,Hj]
 rw[Ck]at a;unfold cG;rw[Jy,e,m,Ce]at J;rw[e,m,Ce];lia
theorem Dr.taken(d:Dr hs ws rs)(hz:("zoe" : Ay)∈ws)(hf:↥rs<=16)(way:Int):Dr hs ws (i4 rs way):=by
 have a:=pA d.ne;have el:∀r∈i4 rs way,(∃q∈rs,r=hW way q)\/r=⟨f0 rs,[],0⟩:=λr T=>by
  rcases Ba.mp T with T|T
  .let⟨q,Z,e⟩:=Ap.mp T;exact .inl ⟨q,Z,e.symm⟩
  .split at T
   .exact .inr (Af.mp T)
   .cases T
 have tl:↥(hV rs way)=↥rs:=Ab _;refine⟨λe=>?_,?_,d.h3,d.w4,d.hd,d.wd,λr T=>?_,λt ht=>?_,?_⟩
 .have:=(Np.mp e).1;rw[<-Eo,tl,Eo]at this;exact d.ne this
 .unfold i4;rw[Ak,tl];split<;>simp<;>lia
 .rcases el r T with⟨q,Z,rfl⟩|rfl
  .have o:=d.of q Z;unfold hW;split
   .exact⟨o.name,λt ht=>.inl (by rw[Af.mp ht];exact hz),by show 1<=4;decide,o.lo,o.hi⟩
   .exact o
  .let⟨q,Z,e⟩:=a;exact⟨e▸(d.of q Z).name,(λt ht=>nomatch ht),Cn _,Tf _,by show(0:Int)<10 ^ 60;decide⟩
 .let⟨r,T,e⟩:=d.cov t ht;exact⟨hW way r,Be _ (Ap.mpr ⟨r,T,rfl⟩),xM.trans e⟩
 .let⟨k,hk,h⟩:=d.sml;refine⟨k,hk,λr T=>?_⟩;unfold i4 at T;rw[Ql]at T;rcases Ba.mp T with T|T
  .unfold hV at T;rw[<-Mz]at T;let⟨q,Z,e⟩:=Ap.mp T;rw[<-e];show(hW way q).parts.length<=1;unfold hW;split
   .exact Ai 1
   .exact h q Z
  .have T:=Ln T;split at T
   .rw[Af.mp T];exact Cn _
   .cases T
theorem ziI{way:Int}(h:rs≠[]):f0 (i4 rs way)=f0 rs:=by
 let⟨r,rs,rfl⟩:=Er h;exact xM
theorem ziJ{way:Int}(hw:0<way)(h:rs≠[]):xE (i4 rs way):=λr T N=>by
 rw[ziI h];rcases Ba.mp T with T|T
 .let⟨q,Z,e⟩:=Ap.mp T;have e:hW way q=r:=e;rw[<-e]at N;unfold hW at N;split at N
  .cases N
  .rename_i z;exact absurd ⟨N,hw⟩ z
 .split at T
  .rename_i z;rw[Af.mp T];refine⟨rfl,λq Z=>?_⟩;unfold i4 at Z;rw[Vg z]at Z;rcases Ba.mp Z with Z|Z
   .exact z.2 q Z
   .rw[Af.mp Z];exact λh=>nomatch h
  .cases T
end
section
variable {hs ws:↑Ay}{rs:↑aE}
theorem Dr.hn(d:Dr hs ws rs)(h:X∈namesOf rs):c9 X:=by
 let⟨r,T,rfl⟩:=jG.mp h;exact d.hd _ (d.of r T).name
theorem ziK{tl:↑aE}{l:↑Ay}(h:∀r∈tl,r.name∈l):↥(namesOf tl)<=↥l:=len_sub (NY tl) λx J=>by
 let⟨r,T,rfl⟩:=jG.mp J;exact h r T
def Lk(rs tl:↑aE):Prop:=Gw tl/\wN isNameB rs tl
theorem Dr.gw(d:Dr hs ws rs){tl:↑aE}{l:↑Ay}(hl:↥l<=2000)(j:tl≠[])(Y:↥tl<=2000)(s:∀r∈tl,c9 r.name/\r.name∈l)(k:∀r∈tl,∀p∈r.parts,c9 p\/dW p){p K:Nat}(N:∀r∈tl,↥r.parts<=p)(O:1<=p)(D:p<=4)(t:↥l<=K)(a:K<=20)(hpK:p ^ (6+K)<=2 ^ 23):Gw tl:=
 ⟨⟨j,Y,λr T=>(s r T).1,k,λr T=>Ar (N r T) D⟩,p,K,O,N,Ar (ziK λr T=>(s r T).2) t,a,hpK⟩
theorem Dr.self(d:Dr hs ws rs):Lk rs rs:=⟨d.gw (l:=namesOf rs) (p:=4) (K:=4) (by have:=d.nam;lia) d.ne (Ar d.few ∅) (λr T=>⟨d.hd _ (d.of r T).name,jG.mpr ⟨r,T,rfl⟩⟩) (λr T t ht=>d.hw T ht) (λr T=>(d.of r T).few) ∅ ∅ (by have:=d.nam;lia) ∅ ∅,λ_=>Rl⟩
theorem Dr.noE(d:Dr hs ws rs){D:↑Ay}{drop:Ay->Bool}{tl:↑aE}(H:gD rs D=D)(hd:∀t,drop t=ab↔d9 rs ac t)(h:wO isNameB rs D drop tl)(hl:↥tl<=2000):Lk rs tl:=by
 refine⟨?_,d.nmG.noE d.ne H hd h⟩;let⟨J,a,F⟩:=pA d.ne;have hf:f0 rs∈namesOf rs:=jG.mpr ⟨J,a,F⟩;have c:=d.nam;have key:∃m,tl≠[]/\∀r∈tl,c9 r.name/\r.name∈m::namesOf rs/\(∀p∈r.parts,c9 p\/dW p)/\↥r.parts<=4:=by
  have old:∀{m X:Ay},X∈namesOf rs->c9 X/\X∈m::namesOf rs:=λh=>⟨d.hn h,.tail _ h⟩
  have b:∀{pl:↑aE},(∀X l,(∃q∈pl,q.name=X/\q.parts=l)↔lK rs D drop X l)->∀m,∀r∈pl,c9 r.name/\r.name∈m::namesOf rs/\(∀p∈r.parts,c9 p\/dW p)/\↥r.parts<=4:=λN m r T=>by
   let⟨q,Z,e,k,_⟩:=(N r.name r.parts).mp ⟨r,T,rfl,rfl⟩;have:=old (m:=m) (jG.mpr ⟨q,Z,e⟩);exact⟨this.1,this.2,λp N=>d.hw Z (k.sub p N).1,Ar k.len (d.of q Z).few⟩
  rcases h with⟨_,_,rfl⟩|⟨pl,N,h⟩
  .refine⟨f0 rs,Ic _ _,λr T=>?_⟩;rw[Af.mp T];exact⟨d.hn hf,.head _,λp N=>by simp at N;rw[N];exact .inl (d.hn hf),(by decide:2<=4)⟩
  .rcases h with⟨_,rfl,h3⟩|⟨_,h⟩
   .refine⟨f0 rs,λz=>?_,b N _⟩;rw[z]at h3;have:=(d.hn hf).nm;rw[<-h3]at this;exact absurd this (by decide +kernel)
   .rcases h with rfl|⟨m,_,_,P,rfl⟩
    .refine⟨f0 rs,Ic _ _,λr T=>(Au.mp T).elim (λz=>?_) (b N _ r)⟩;rw[z];exact⟨d.hn hf,.head _,(λ_ h=>nomatch h),Cn _⟩
    .refine⟨m,Ic _ _,λr T=>(Au.mp T).elim (λz=>?_) λT=>(Au.mp T).elim (λz=>?_) (b N _ r)⟩
     .rw[z];exact⟨P,.head _,λp N=>by rw[Af.mp N];exact .inl (d.hn hf),(by decide:1<=4)⟩
     .rw[z];exact⟨P,.head _,(λ_ h=>nomatch h),Cn _⟩
 let⟨m,j,k⟩:=key;exact d.gw (l:=m::namesOf rs) (p:=4) (K:=4) (by simp;lia) j hl (λr T=>⟨(k r T).1,(k r T).2.1⟩) (λr T=>(k r T).2.2.1) (λr T=>(k r T).2.2.2) ∅ ∅ (by simp;lia) ∅ ∅
theorem Dr.noS(d:Dr hs ws rs){tl:↑aE}(h:(¬d9 rs ab (f0 rs)/\tl=sL (f0 rs))\/(f0 tl=f0 rs/\(∀X ps,X∈namesOf rs->iX rs X ps->∃q∈tl,q.name=X/\q.parts=ps)/\∀q∈tl,iX rs q.name q.parts/\q.name∈namesOf rs))(hl:↥tl<=2000):Lk rs tl:=by
 refine⟨?_,d.nmG.noS d.ne (h.imp_right λh=>⟨h.1,h.2.1,λq Z=>(h.2.2 q Z).1⟩)⟩;let⟨J,a,F⟩:=pA d.ne;have hf:f0 rs∈namesOf rs:=jG.mpr ⟨J,a,F⟩;have c:=d.nam;have key:tl≠[]/\∀r∈tl,r.name∈namesOf rs/\(∀p∈r.parts,c9 p\/dW p)/\↥r.parts<=4:=by
  rcases h with⟨_,rfl⟩|⟨O,_,h3⟩
  .refine⟨Ic _ _,λr T=>?_⟩;rw[Af.mp T];exact⟨hf,λp N=>by simp at N;rw[N];exact .inl (d.hn hf),(by decide:2<=4)⟩
  .refine⟨λz=>?_,λr T=>?_⟩
   .rw[z]at O;have:=(d.hn hf).nm;rw[<-O]at this;exact absurd this (by decide +kernel)
   .obtain⟨⟨q,Z,_,e,_⟩,hn⟩:=h3 r T;exact⟨hn,λp N=>d.hw Z (e▸N),e▸(d.of q Z).few⟩
 exact d.gw (l:=namesOf rs) (p:=4) (K:=4) (by lia) key.1 hl (λr T=>⟨d.hn (key.2 r T).1,(key.2 r T).1⟩) (λr T=>(key.2 r T).2.1) (λr T=>(key.2 r T).2.2) ∅ ∅ (by lia) ∅ ∅
theorem Dr.two(d:Dr hs ws rs){l:↑(NP×W)}(h:Ex [] 180 (λx=>BB rs x.1 x.2) l)(G:Hd (f0 rs) True l):Lk rs (dQ l):=by
 have T:=h.rs;refine⟨?_,d.nmG.tws d.ne d.fewR (λi hi=>(wL hi).nm) G.f0 T⟩;have c:=d.nam;have el:=d.ends;have F:↥l<=0+180:=h.len;have S:=d.fewR.len;have sm:=d.fewR.sum;have j:∀{e:↑Ay},e∈cG rs->c9 (fF rs e)/\fF rs e∈jK rs:=λY=>by
  have O:=(wI d.fewR Y).2;let⟨_,i,hi,e⟩:=A7 O;exact⟨e▸wL (by lia),O⟩
 have sp:∀{ps:↑Ay},(∀p∈ps,c9 p\/dW p)->(2<↥ps->ps.drop 1∈cG rs)->∀p∈fG rs ps,c9 p\/dW p:=λ{ps} O L p N=>by
  by_cases z:↥ps<=2
  .unfold fG at N;rw[Vg z]at N;exact O p N
  .let⟨x,D,A⟩:=CA (rs:=rs) z;rw[A]at N;rcases Au.mp N with rfl|N
   .exact O p (by rw[D];exact .head _)
   .rw[Af.mp N];exact .inl (j (L (Qt z))).1
 have key:∀r∈dQ l,(c9 r.name/\r.name∈namesOf rs++jK rs)/\(∀p∈r.parts,c9 p\/dW p)/\↥r.parts<=2:=λr b=>by
  rcases(T r.name r.parts).mp ⟨r,b,rfl,rfl⟩ with⟨q,Z,D,A⟩|⟨e,Y,D,A⟩
  .have:=jG.mpr ⟨q,Z,D⟩;exact⟨⟨d.hn this,Be _ this⟩,A▸sp (λp N=>d.hw Z N) λh=>wC Z h,A▸wJ rs q.parts⟩
  .refine⟨⟨D▸(j Y).1,Bi _ (D▸(j Y).2)⟩,A▸sp (λp N=>?_) λh=>wF Y h,A▸wJ rs e⟩;let⟨q,Z,k,_,rfl⟩:=wB.mp Y;exact d.hw Z (Ln N)
 have a:↥(namesOf rs++jK rs)<=17:=by rw[Ak,S];lia
 exact d.gw (l:=namesOf rs++jK rs) (p:=2) (K:=17) (by lia) (λz=>by let⟨Q,t,e,_⟩:=G trivial;rw[e]at z;cases z) (by unfold dQ;rw[Ab];lia) (λr T=>(key r T).1) (λr T=>(key r T).2.1) (λr T=>(key r T).2.2) ∅ ∅ a ∅ ∅
end
theorem ziL{l:↑aE}{M:Mm}(g:mM l):Pl 4 (cZ M (a6 l)):=λw hw=>by
 let⟨q,hq,rfl⟩:=Ap.mp hw;intro w hw;simp only[Au,Em,or_false]at hw;rcases hw with rfl|rfl|rfl
 .exact nN (g.nm q hq).asc
 .exact λw hw=>by
   let⟨t,ht,rfl⟩:=Ap.mp hw;exact nN (mP (g.pt q hq t ht)).asc
 .trivial
theorem NZ{l:↑(NP×W)}{M:Mm}{R:K3}(h:∀M',R (a6 (dQ l)) M'):qG l M λw M1=>vC (.int 0) [] M1 λy M2=>oN w y M2 λx M3=>frz x M3 R:=λp q hp hq ne=>by
 show i8 p _ R;unfold i8;exact .inl ⟨_,by rw[aT ne,aJ],h _⟩
theorem ziM:bG rR zii zia:=by
 rintro _ M R ⟨ns,rfl,hl,hM,r⟩;have hi:=L2.ints_map ns;have b3:∀s∈[(3:Int)],0<s/\s<=10 ^ 59:=λs hs=>by rw[Af.mp hs];decide
 have one:∀{ds:↑Int},Drawn ds [3]->∃d,ds=[d]/\Below d 3:=λh=>by
  cases h with
  | cons a b=>cases b;exact⟨_,rfl,a⟩
 refine⟨_,0,.inl rfl,hi,by decide,λc=>⟨c,[3],rfl,by decide,b3,λds hds=>aR.frz ?_⟩⟩;let⟨d,rfl,hd1,hd2⟩:=one hds;have hz:↥(dH (ns.map W.int) (aa 1) (aa 8))<=7:=zR (S:=ns.map W.int) (i:=1) (j:=8) ∅ ∅;refine so.of (iL (j:=0) rfl) ⟨_,1+d,4,rfl,hi.cut _ _,by lia,by lia,by lia,by decide,by decide,λrs0 gr hpm ⟨hs,wds,q1,q2,q3,q4,q5,q6,q7,k,q8,q9⟩=>aR.frz ?_⟩;have dr0:Dr hs (wds++[("zoe" : Ay)]) rs0:=by
  refine⟨gr.ne,by lia,by lia,by rw[Ak,q2];decide,q3,λt ht=>?_,λr hr=>?_,q6,k,by lia,q9⟩
  .rcases Ba.mp ht with h|h
   .exact q4 t h
   .rw[Af.mp h];exact NV
  .have o:=q5 r hr;exact⟨o.name,λt ht=>(o.parts t ht).imp (λz=>Be _ z) id,o.few,o.lo,o.hi⟩
 refine⟨_,9,.inl rfl,hi,by decide,λc2=>⟨c2,[3],rfl,by decide,b3,λds2 hds2=>aR.frz ?_⟩⟩;let⟨way,rfl,hw1,hw2⟩:=one hds2;refine so.of (iL (j:=0) rfl) ⟨rs0,way,rfl,dr0.tgO,by lia,aR.frz ?_⟩;have dr:=dr0.taken (Bi _ (.head _)) (by lia) way;have fu:0<way->xE (i4 rs0 way):=λh=>ziJ h gr.ne;generalize i4 rs0 way=rs at dr fu;refine⟨rs,rfl,dr.okG,aR.frz ?_⟩;have fin:∀(a:An) (ls:↑(↑aE)) (N:Mm),N a=aa (.lst (ls.map a6))->(∀l∈ls,Lk rs l)->↥ls<=3->(aF NJ NK) (k7 R) [aa (.sc (ns.map W.int)),aa (a6 rs),aa (.int way),aa (a6 rs),aa (.ref a),ae,ae,ae] N:=by
  intro a ls N hN mS hlen;have hf:=dr.few;have hz2:↥(dH (ns.map W.int) (aa 10) (aa 12))<=2:=zR (S:=ns.map W.int) (i:=10) (j:=12) ∅ ∅;refine⟨_,hN,small (by rw[Ab];show 1+_<=_;lia),rs,rs::ls,_,rfl,hi.cut _ _,by lia,dr.tgO,by lia,Ic _ _,by show _+1<=_;lia,λg hg=>(Au.mp hg).elim (λz=>z▸dr.self.1) λz=>(mS g z).1,λrows hrows _=>aR.frz ?_⟩;refine gC (λi τ M'=>∃o5 o6 o7,τ=[aa (.sc (ns.map W.int)),aa (a6 rs),aa (.int way),aa (a6 rs),aa (.ref a),o5,o6,o7]/\N=M') ⟨_,_,_,rfl,rfl⟩ ?_ ?_
  .rintro i w τ M' hw ⟨o5,o6,o7,rfl,rfl⟩ D hD;rw[Av]at hw;let⟨row,hrow,rfl⟩:=Az.mp hw;let⟨h5,hsh⟩:=hrows row (Ao hrow);refine⟨rs,row,rfl,dr.tgO,h5,hsh,λb hb=>⟨_,hN,uU (λi τ M'=>∃o7,τ=[aa (.sc (ns.map W.int)),aa (a6 rs),aa (.int way),aa (a6 rs),aa (.ref a),aa (.rl (row.map W.str)),aa (.bl b),o7]/\N=M') ⟨_,rfl,rfl⟩ (λ_ _ _ _ z1=>by let⟨_,_,e⟩:=z1;exact e▸hN) ?_ ?_⟩⟩
   .rintro i w τ M' hw ⟨o7,rfl,rfl⟩;rw[Av]at hw;let⟨l,hl,rfl⟩:=Az.mp hw;have lk:=mS l (Ao hl);refine⟨l,row,rfl,lk.1.1,h5,hsh,λb2 hb2=>bS (b:=!decide (b2=b)) (λy=>?_) λy=>⟨_,aP,_,rfl,rfl⟩⟩;have:b2=b:=by rw[Dw,hb2,hb];exact lk.2 row
    rw[Vi this]at y;cases y
   .rintro τ M' ⟨o7,rfl,rfl⟩;exact hD _ _ ⟨_,_,_,rfl,rfl⟩
  .rintro τ M' ⟨o5,o6,o7,rfl,rfl⟩;exact Y2 (neg:=ac) 4 ∅ (ziL dr.tgO) rfl ⟨_,aP,r _⟩
 refine⟨rs,rfl,dr.g60,λl1 D drop hD hdr hE hl1=>NZ λM1=>⟨rs,rfl,dr.fewR,dr.ne,λl2 hE2 hd2=>NZ λM2 a ha=>?_⟩⟩;have k1:=dr.noE hD hdr hE (by unfold dQ;rw[Ab];exact hl1);have k2:=dr.two hE2 hd2;refine bS (b:=decide (0<way)) (λy=>?_) λy=>fin a [dQ l1,dQ l2] _ aJ (λl hl=>by
  simp only[Au,Em,or_false]at hl;rcases hl with rfl|rfl<;>assumption) (by decide:2<=3)
 refine⟨fD aJ,rs,rfl,dr.g60,fu (Vh y),λl3 hS hl3 p q hp hq ne=>?_⟩;have k3:=dr.noS hS (by unfold dQ;rw[Ab];exact hl3);have hpa:a≠p:=λe=>by rw[<-e,aJ]at hp;cases hp
 have hqa:a≠q:=λe=>by rw[<-e,aJ]at hq;cases hq
 show i8 p _ _;unfold i8;refine .inl ⟨_,by rw[aT ne,aJ],?_⟩;have at_:del (put (put (put M2 a (.lst [a6 (dQ l1),a6 (dQ l2)])) p (.lst (dQ l3 |>.map bD))) q (.lst (l3.map λz=>z.2))) p a=aa (.lst [a6 (dQ l1),a6 (dQ l2)]):=by
  rw[jR hpa,aT hqa,aT hpa,aJ]
 refine⟨_,at_,cS (by show 2<10000000;decide),?_⟩;exact fin a [dQ l1,dQ l2,dQ l3] _ aJ (λl hl=>by
  simp only[Au,Em,or_false]at hl;rcases hl with rfl|rfl|rfl<;>assumption) (by decide:3<=3)
structure Tx(mg:Ay->Option Ae):Prop where
 c_FIGURED_NAMES:∃t,mg "FIGURED_NAMES" = aa (.int 10000 t)
 c_FIGURES:∃t,mg "FIGURES" = aa (.str "0123456789" t)
 c_GREAT_LETTERS:∃t,mg "GREAT_LETTERS" = aa (.str "ABCDEFGHIJKLMNOPQRSTUVWXYZ" t)
 c_WHOLE:∃t,mg "WHOLE" = aa (.str "whole" t)
 all_:mg "all" = ae
 any_:mg "any" = ae
 dict_:mg "dict" = ae
 enumerate_:mg "enumerate" = ae
 int_:mg "int" = ae
 isinstance_:mg "isinstance" = ae
 len_:mg "len" = ae
 list_:mg "list" = ae
 range_:mg "range" = ae
 reversed_:mg "reversed" = ae
 sorted_:mg "sorted" = ae
 str_:mg "str" = ae
 sum_:mg "sum" = ae
 tuple_:mg "tuple" = ae
 zip_:mg "zip" = ae
structure Kc(K:Ac)(mg:Ay->Option Ae)(C:Cc):Prop where
 cls_Queue:gG K C.q
 at__Queue:mg "Queue" = aa (.ref C.q)
 cls_Search:gG K C.s
 at__Search:mg "Search" = aa (.ref C.s)
 cls_Plainer:gG K C.p
 at__Plainer:mg "Plainer" = aa (.ref C.p)
 na_costs:fH K C.q "costs"
 na_waiting:fH K C.q "waiting"
 na_grammar:fH K C.s "grammar"
 na_own:fH K C.s "own"
 na_steps:fH K C.s "steps"
 na_queue:fH K C.s "queue"
 na_reached:fH K C.s "reached"
 na_best:fH K C.s "best"
 na_ends:fH K C.s "ends"
 na_begun:fH K C.s "begun"
 na_backs:fH K C.p "backs"
structure Al(K:Ac)(mg:Ay->Option Ae)(C:Cc)(fa:Nat->An)(fb:Nat->Fc):Prop extends Tx mg,Kc K mg C where
 x0:Df K mg "made_of" (top 6) ["text","signs"] (fa 0) (fb 0)
 x1:Df K mg "is_name" (top 7) ["part"] (fa 1) (fb 1)
 x2:Df K mg "names" (top 8) ["grammar"] (fa 2) (fb 2)
 x3:Df K mg "first_name" (top 9) ["grammar"] (fa 3) (fb 3)
 x4:Df K mg "rules_of" (top 10) ["grammar","name"] (fa 4) (fb 4)
 x5:Df K mg "check_rule" (top 11) ["rule","known"] (fa 5) (fb 5)
 x6:Df K mg "grammar_of" (top 12) ["rules"] (fa 6) (fb 6)
 x7:Df K mg "marks" (top 14) ["things"] (fa 7) (fb 7)
 x8:Df K mg "places_of" (top 15) ["row"] (fa 8) (fb 8)
 x9:Df K mg "row_steps" (top 16) ["row"] (fa 9) (fb 9)
 x10:Df K mg "part_facts" (top 17) ["own","parts","cut"] (fa 10) (fb 10)
 x11:Di K C.q "__init__" "Queue.__init__" (dS (top 19) 0) ["self"] (fa 11) (fb 11)
 x12:Dm K C.q "is_done" "Queue.is_done" (dS (top 19) 1) ["self"] (fa 12) (fb 12)
 x13:Dm K C.q "place_of" "Queue.place_of" (dS (top 19) 3) ["self","cost"] (fa 13) (fb 13)
 x14:Dm K C.q "put" "Queue.put" (dS (top 19) 2) ["self","cost","thing"] (fa 14) (fb 14)
 x15:Dm K C.q "take" "Queue.take" (dS (top 19) 4) ["self"] (fa 15) (fb 15)
 x16:Df K mg "added" (top 21) ["cost","other"] (fa 16) (fb 16)
 x17:Di K C.s "__init__" "Search.__init__" (dS (top 22) 0) ["self","grammar","steps"] (fa 17) (fb 17)
 x18:Dm K C.s "reach" "Search.reach" (dS (top 22) 1) ["self","number","cut","cost"] (fa 18) (fb 18)
 x19:Dm K C.s "settle" "Search.settle" (dS (top 22) 4) ["self","number","cut","cost"] (fa 19) (fb 19)
 x20:Dm K C.s "step_by_name" "Search.step_by_name" (dS (top 22) 3) ["self","number","cut","cost","key"] (fa 20) (fb 20)
 x21:Dm K C.s "take_next" "Search.take_next" (dS (top 22) 2) ["self"] (fa 21) (fb 21)
 x22:Df K mg "least_trees" (top 23) ["grammar","places","steps","weights"] (fa 22) (fb 22)
 x23:Df K mg "facts_within" (top 24) ["grammar","best","top"] (fa 23) (fb 23)
 x24:Df K mg "knot_of" (top 27) ["number","children"] (fa 24) (fb 24)
 x25:Df K mg "same_word" (top 26) ["word","begin","end"] (fa 25) (fb 25)
 x26:Df K mg "made_of_best" (top 25) ["grammar","best","top","of_word","of_rule"] (fa 26) (fb 26)
 x27:Df K mg "best_tree" (top 28) ["grammar","best","top"] (fa 27) (fb 27)
 x28:Df K mg "row_trees" (top 30) ["grammar","row","weights"] (fa 28) (fb 28)
 x29:Df K mg "no_weights" (top 31) ["grammar"] (fa 29) (fb 29)
 x30:Df K mg "words_of" (top 33) ["grammar"] (fa 30) (fb 30)
 x31:Df K mg "shortest_lengths" (top 34) ["grammar"] (fa 31) (fb 31)
 x32:Df K mg "made_names" (top 38) ["old","count"] (fa 32) (fb 32)
 x33:Df K mg "slots" (top 39) ["parts"] (fa 33) (fb 33)
 x34:Di K C.p "__init__" "Plainer.__init__" (dS (top 40) 0) ["self"] (fa 34) (fb 34)
 x35:Dm K C.p "put_rule" "Plainer.put_rule" (dS (top 40) 1) ["self","name","parts","pieces"] (fa 35) (fb 35)
 x36:Dm K C.p "is_part" "Plainer.is_part" (dS (top 40) 2) ["self","name"] (fa 36) (fb 36)
 x37:Dm K C.p "grammar_and_backs" "Plainer.grammar_and_backs" (dS (top 40) 3) ["self"] (fa 37) (fb 37)
 x38:Df K mg "nothing_read" (top 41) ["grammar"] (fa 38) (fb 38)
 x39:Df K mg "empty_trees" (top 42) ["grammar"] (fa 39) (fb 39)
 x40:Df K mg "wordy_names" (top 43) ["grammar"] (fa 40) (fb 40)
 x41:Df K mg "thinned" (top 44) ["parts","own","wordy","empties"] (fa 41) (fb 41)
 x42:Df K mg "put_thinned" (top 45) ["plain","grammar","name","wordy","empties"] (fa 42) (fb 42)
 x43:Df K mg "no_empty" (top 46) ["grammar"] (fa 43) (fb 43)
 x44:Df K mg "check_no_empty" (top 47) ["grammar"] (fa 44) (fb 44)
 x45:Df K mg "is_single" (top 48) ["own","rule"] (fa 45) (fb 45)
 x46:Df K mg "single_chains" (top 49) ["grammar","own","name"] (fa 46) (fb 46)
 x47:Df K mg "chain_pieces" (top 50) ["chain","number","parts"] (fa 47) (fb 47)
 x48:Df K mg "put_chained" (top 51) ["plain","grammar","name","fruitful"] (fa 48) (fb 48)
 x49:Df K mg "no_single" (top 52) ["grammar"] (fa 49) (fb 49)
 x50:Df K mg "long_ends" (top 53) ["grammar"] (fa 50) (fb 50)
 x51:Df K mg "shortened" (top 54) ["parts","made"] (fa 51) (fb 51)
 x52:Df K mg "twos" (top 55) ["grammar"] (fa 52) (fb 52)
 x53:Df K mg "_law_cell_at" (top 57) ["script","k"] (fa 53) (fb 53)
 x54:Df K mg "_law_stir" (top 58) ["cell","k"] (fa 54) (fb 54)
 x55:Df K mg "_law_drawn" (top 59) ["cell","sizes"] (fa 55) (fb 55)
 x56:Df K mg "_law_unlike" (top 60) ["number","many","great"] (fa 56) (fb 56)
 x57:Df K mg "_law_rule" (top 61) ["cell","heads","words","most"] (fa 57) (fb 57)
 x58:Df K mg "_law_rules" (top 62) ["cells","many","most"] (fa 58) (fb 58)
 x59:Df K mg "_law_is_name" (top 63) ["part"] (fa 59) (fb 59)
 x60:Df K mg "_law_all_in" (top 64) ["parts","chosen"] (fa 60) (fb 60)
 x61:Df K mg "_law_chosen" (top 65) ["rules"] (fa 61) (fb 61)
 x62:Df K mg "_law_grow" (top 66) ["rules","chosen","name","state"] (fa 62) (fb 62)
 x63:Df K mg "_law_number" (top 67) ["cell"] (fa 63) (fb 63)
 x64:Df K mg "_law_words" (top 68) ["tree"] (fa 64) (fb 64)
 x65:Df K mg "_law_ends" (top 69) ["spans","parts","row","begin"] (fa 65) (fb 65)
 x66:Df K mg "_law_reads" (top 70) ["rules","row"] (fa 66) (fb 66)
 x67:Df K mg "_law_taken" (top 71) ["rules","way"] (fa 67) (fb 67)
 x68:Df K mg "_law_rows" (top 72) ["rules","some","cells"] (fa 68) (fb 68)
 x69:Df K mg "law" (top 73) ["script"] (fa 69) (fb 69)
 f_same_word:C.f=fa 25
 f_knot_of:C.g=fa 24
theorem bJ{K:Ac}{x q:Ay}{st:Jl}{f:An}{ps:↑Ay}{fd:Fc}{N:↑Ay}{sp:aY}{rd:aD}(P:Bc)(w:Bo)(mg:Ay->Option Ae)(base:Ds)(k:Nat)(F:jO K x q st f fd)(b:Binds K fd ps [])(good:bG sp rd N)(S:mU N ps (dO st):=by exact qH)(tm:∀{cdv:Ae} {A:Cs} {outer:↑Ub} {s:Aj} {H:Hp} {E:XK},cP k (A.deeper (Li q (dO st) ⇑s f cdv))->(A.deeper (Li q (dO st) ⇑s f cdv)).units+1<Fd->N.Nodup->jS (kN eQ P w K mg base N q (dO st) f cdv A outer s H E).nox (gF st) rd:=by intro _ _ _ _ _ _ hr hu nd;walk_at "t")(len:∀ws M R,sp ws M R->↥ws=↥ps:=by intro _ _ _ h;repeat (first|(let⟨rfl,_⟩:=h;exact rfl)|let⟨_,h⟩:=h)):i6 P w K mg base eQ (k+1) f fd ps (fM K sp):=LG P w mg base k F b S good tm len
section
variable {P:Bc}{w:Bo}{K:Ac}{mg:Ay->Option Ae}{base:Ds}{C:Cc}{fa:Nat->An}{fb:Nat->Fc}(Y:Al K mg C fa fb)
seal L2.PE L2.PA L2.PS L2.fT L2.PT L2.PG L2.PI L2.PO
set_option hygiene false in
local macro_rules | `(tactic| walk_at "t") => `(tactic| repeat' first
 | (show fT _ _ _;first|refine kF ?_|refine jT ?_ ?_|exact uP)
 | (show PA _ _ _;first|refine eC ?_ ?_|exact e8)
 | (show PE _ _ (up _ (bE _));refine WT ?_)
 | (show PE _ _ (up _ (sH _));refine zcY ?_)
 | (show PE _ _ (up _ (B0 _ _ _ _));refine zgq ?_)
 | (show PE _ _ (up _ (sR _ _));refine zhn ?_)
 | (show PE _ (.Name _ _) _;first|exact v _|exact LJ Y.f_knot_of Y.x24|exact LJ Y.f_same_word Y.x25|exact Y.c_FIGURED_NAMES.elim λ_ h=>rA (y:=V.int 10000) (by rfl) h ⟨_,rfl⟩ (λ_ _=>.int _)|exact Y.c_FIGURES.elim λ_ h=>rA (y:=V.str "0123456789") (by rfl) h ⟨_,rfl⟩ (λ_ _=>.str _)|exact Y.c_GREAT_LETTERS.elim λ_ h=>rA (y:=V.str "ABCDEFGHIJKLMNOPQRSTUVWXYZ") (by rfl) h ⟨_,rfl⟩ (λ_ _=>.str _)|exact Y.c_WHOLE.elim λ_ h=>rA (y:=V.str "whole") (by rfl) h ⟨_,rfl⟩ (λ_ _=>.str _))
 | (show PE _ (.Constant _ _ _) _;first|exact i9|exact WR|exact WQ)
 | (show PE _ (.Subscript _ (.Slice _ _ _ _) _) _;refine YY ?_ ?_ ?_)
 | (show PE _ (.Subscript _ _ _) _;refine iS hu ?_ ?_)
 | (show PE _ (.Tuple _ _ _) _;refine FC ?_)
 | (show PE _ (.List _ _) _;first|refine zH ?_|refine yT ?_)
 | (show PE _ (.Dict _ _ _) _;first|exact X5|exact X6|exact Z6 (tl:=[0])|refine ze0 ?_ ?_|refine zeI hu ?_ ?_)
 | (show PE _ (.BinOp _ _ _ _) _;refine rC (by first|exact FH|exact uZ|exact za6|exact zeX|exact XC|exact FI|exact FJ|exact YV|exact za7|exact XA|exact XB|exact W9) ?_ ?_)
 | (show PE _ (.UnaryOp _ _ _) _;refine WW XF ?_)
 | (show PE _ (.Compare _ _ _ _) _;refine WV (by first|exact yX hr.units|exact HS hu|exact F7 hu|exact HR hu|exact FX hr.units|exact F8 hu|exact FR|exact FQ|exact FP|exact yV) ?_ ?_)
 | (show PE _ (.BoolOp _ _ _) _;first|refine W0 ?_|refine v_and ?_ ?_|refine v_or ?_ ?_)
 | (show PE _ (.IfExp _ _ _ _) _;refine W4 ?_ ?_ ?_)
 | (show PE _ (.Attribute _ _ _) _;refine ZR (by first|exact Y.cls_Plainer|exact Y.cls_Queue|exact Y.cls_Search) (by first|exact Y.na_backs|exact Y.na_begun|exact Y.na_best|exact Y.na_costs|exact Y.na_ends|exact Y.na_grammar|exact Y.na_own|exact Y.na_queue|exact Y.na_reached|exact Y.na_steps|exact Y.na_waiting) ?_)
 | (show PE _ (.ListComp _ _ _ _) _;first|refine fA (hj:=by rfl) ["sign","signs"] [ae,aa 1] ?_ (λB=>by first|exact cT|exact jE rfl (eG cT (eG cT jD))) (λB=>?_) λB=>?_|refine fA ["number","rule","name"] [ae,ae,aa 1] ?_ (λB=>?_) (λB=>?_) λB=>?_|refine fA (hj:=by rfl) ["thing"] [ae] ?_ (λB=>by first|exact cT|exact jE rfl (eG cT (eG cT jD))) (λB=>?_) λB=>?_|refine fA ["place","word"] [ae,ae] ?_ (λB=>?_) (λB=>?_) λB=>?_|refine fA ["k","part","own","cut"] [ae,ae,aa 0,aa 2] ?_ (λB=>?_) (λB=>?_) λB=>?_|refine fA ["fact","found"] [ae,aa 4] ?_ (λB=>?_) (λB=>?_) λB=>?_|refine fA (hj:=by rfl) ["rule"] [ae] ?_ (λB=>by first|exact cT|exact jE rfl (eG cT (eG cT jD))) (λB=>?_) λB=>?_|refine fA (hj:=by rfl) ["word"] [ae] ?_ (λB=>by first|exact cT|exact jE rfl (eG cT (eG cT jD))) (λB=>?_) λB=>?_|refine fA (hj:=by rfl) ["fact","best"] [ae,aa 2] ?_ (λB=>by first|exact cT|exact jE rfl (eG cT (eG cT jD))) (λB=>?_) λB=>?_|refine fA (hj:=by rfl) ["rule","name"] [ae,aa 1] ?_ (λB=>by first|exact cT|exact jE rfl (eG cT (eG cT jD))) (λB=>?_) λB=>?_|refine fA ["fact","grammar","best"] [ae,aa 0,aa 1] ?_ (λB=>?_) (λB=>?_) λB=>?_|refine fA ["part","fruitful","own"] [ae,aa 1,aa 2] ?_ (λB=>?_) (λB=>?_) λB=>?_|refine fA ["part","wordy","own"] [ae,aa 4,aa 1] ?_ (λB=>?_) (λB=>?_) λB=>?_|refine fA (hj:=by rfl) ["rule","first"] [ae,aa 1] ?_ (λB=>by first|exact cT|exact jE rfl (eG cT (eG cT jD))) (λB=>?_) λB=>?_|refine fA ["part","fruitful","own"] [ae,aa 3,aa 4] ?_ (λB=>?_) (λB=>?_) λB=>?_|refine fA (hj:=by rfl) ["part","chosen"] [ae,aa 1] ?_ (λB=>by first|exact cT|exact jE rfl (eG cT (eG cT jD))) (λB=>?_) λB=>?_|refine fA ["one","more"] [ae,aa 6] ?_ (λB=>?_) (λB=>?_) λB=>?_|refine fA (hj:=by rfl) ["key","spans"] [ae,aa 2] ?_ (λB=>by first|exact cT|exact jE rfl (eG cT (eG cT jD))) (λB=>?_) λB=>?_|refine fA ["one","old"] [ae,aa 8] ?_ (λB=>?_) (λB=>?_) λB=>?_|refine fA (hj:=by rfl) ["rule","longer"] [ae,aa 2] ?_ (λB=>by first|exact cT|exact jE rfl (eG cT (eG cT jD))) (λB=>?_) λB=>?_|refine fA (hj:=by rfl) ["part","words"] [ae,aa 3] ?_ (λB=>by first|exact cT|exact jE rfl (eG cT (eG cT jD))) (λB=>?_) λB=>?_|refine fA (hj:=by rfl) ["one","words"] [ae,aa 3] ?_ (λB=>by first|exact cT|exact jE rfl (eG cT (eG cT jD))) (λB=>?_) λB=>?_)
 | (show PE _ (.Call (.Name _ _) _ _ _) _;first|refine bV (ziN Y) Y.x0 hr ?_|refine bV (ziO Y) Y.x1 hr ?_|refine bV (ziP Y) Y.x2 hr ?_|refine bV (ziS Y) Y.x5 hr ?_|refine bV (ziU Y) Y.x7 hr ?_|refine bV (zi3 Y) Y.x16 hr ?_|refine bV (ziX Y) Y.x10 hr ?_|refine bV (zja Y) Y.x23 hr ?_|refine bV (zjd Y) Y.x26 hr ?_|refine bV (zi9 Y) Y.x22 hr ?_|refine bV (ziV Y) Y.x8 hr ?_|refine bV (ziW Y) Y.x9 hr ?_|refine bV (zjh Y) Y.x30 hr ?_|refine bV (zjg Y) Y.x29 hr ?_|refine bV (ziQ Y) Y.x3 hr ?_|refine bV (zjf Y) Y.x28 hr ?_|refine bV (zje Y) Y.x27 hr ?_|refine bV (zji Y) Y.x31 hr ?_|refine bV (ziR Y) Y.x4 hr ?_|refine bV (zjs Y) Y.x41 hr ?_|refine bV (zjr Y) Y.x40 hr ?_|refine bV (zjq Y) Y.x39 hr ?_|refine bV (zjp Y) Y.x38 hr ?_|refine bV (zjt Y) Y.x42 hr ?_|refine bV (zjj Y) Y.x32 hr ?_|refine bV (zjw Y) Y.x45 hr ?_|refine bV (zjk Y) Y.x33 hr ?_|refine bV (zjx Y) Y.x46 hr ?_|refine bV (zjy Y) Y.x47 hr ?_|refine bV (zjv Y) Y.x44 hr ?_|refine bV (zjz Y) Y.x48 hr ?_|refine bV (zjB Y) Y.x50 hr ?_|refine bV (zjC Y) Y.x51 hr ?_|refine bV (zjF Y) Y.x54 hr ?_|refine bV (zjG Y) Y.x55 hr ?_|refine bV (zjE Y) Y.x53 hr ?_|refine bV (zjH Y) Y.x56 hr ?_|refine bV (zjI Y) Y.x57 hr ?_|refine bV (N0 Y) Y.x59 hr ?_|refine bV (N1 Y) Y.x60 hr ?_|refine bV (zjO Y) Y.x65 hr ?_|refine bV (zjM Y) Y.x63 hr ?_|refine bV (zjK Y) Y.x61 hr ?_|refine bV (zjN Y) Y.x64 hr ?_|refine bV (zjL Y) Y.x62 hr ?_|refine bV (zjJ Y) Y.x58 hr ?_|refine bV (zjQ Y) Y.x67 hr ?_|refine bV (ziT Y) Y.x6 hr ?_|refine bV (zju Y) Y.x43 hr ?_|refine bV (zjD Y) Y.x52 hr ?_|refine bV (zjA Y) Y.x49 hr ?_|refine bV (zjR Y) Y.x68 hr ?_|refine bV (zjP Y) Y.x66 hr ?_|refine kU (X3 rfl) (by rfl) Y.all_ Y7 ?_|refine kU (ZE rfl) (by rfl) Y.any_ Y8 ?_|refine kU (ZK rfl) (by rfl) Y.sorted_ ZA ?_|refine kU (ZG rfl) (by rfl) Y.sum_ Y9 ?_|refine kU GP (by rfl) Y.isinstance_ G1 ?_|refine kU uK (by rfl) Y.len_ u5 ?_|refine kC (ZP rfl) (by rfl) Y.dict_ zP ?_|refine kC (ZQ rfl) (by rfl) Y.dict_ zP ?_|refine kC (zc3 rfl (zZ hr)) (by rfl) Y.dict_ zP ?_|refine kC (GA rfl) (by rfl) Y.list_ u6 ?_|refine kC (YW rfl) (by rfl) Y.list_ u6 ?_|refine kC (zac (tl:=[0]) rfl) (by rfl) Y.list_ u6 ?_|refine kC (zah rfl) (by rfl) Y.list_ u6 ?_|refine kC zfF (by rfl) Y.int_ Y6 ?_|refine kC X2 (by rfl) Y.str_ G0 ?_|refine kC GB (by rfl) Y.tuple_ GZ ?_|refine LI (i:=3) Y.f_same_word (zjc Y) hr Y.x25.fn.kp Y.x25.bi ?_|refine LI (i:=4) Y.f_knot_of (zjb Y) hr Y.x24.fn.kp Y.x24.bi ?_|exact G9 Y.x11.mak (ziY Y) (hr.mono ∅) (by rfl) Y.at__Queue Y.x11.bi|exact G9 Y.x34.mak (zjl Y) (hr.mono ∅) (by rfl) Y.at__Plainer Y.x34.bi|refine ZU Y.x17.mak (zi4 Y) (hr.mono ∅) (by rfl) Y.at__Search Y.x17.bi ?_|refine zfD (by rfl) Y.list_ (by rfl) Y.range_ ?_|refine zag (by rfl) Y.tuple_ (by rfl) Y.range_ ?_|refine zaq (zZ hr) (by rfl) Y.dict_ (by rfl) Y.zip_ ?_)
 | (show PE _ (.Call (.Attribute _ _ _) _ _ _) _;first|refine oT Y.cls_Queue Y.x13.me (zi0 Y) (hr.mono ∅) Y.x13.bi ?_ ?_|refine oT Y.cls_Queue Y.x14.me (zi1 Y) (hr.mono ∅) Y.x14.bi ?_ ?_|refine oT Y.cls_Search Y.x18.me (zi5 Y) (hr.mono ∅) Y.x18.bi ?_ ?_|refine oT Y.cls_Search Y.x19.me (zi6 Y) (hr.mono ∅) Y.x19.bi ?_ ?_|refine oT Y.cls_Search Y.x20.me (zi7 Y) (hr.mono ∅) Y.x20.bi ?_ ?_|refine oT Y.cls_Plainer Y.x35.me (zjm Y) (hr.mono ∅) Y.x35.bi ?_ ?_|refine oT Y.cls_Plainer Y.x36.me (zjn Y) (hr.mono ∅) Y.x36.bi ?_ ?_|refine vE Y.cls_Queue Y.x15.me (zi2 Y) (hr.mono ∅) Y.x15.bi ?_|refine vE Y.cls_Queue Y.x12.me (ziZ Y) (hr.mono ∅) Y.x12.bi ?_|refine vE Y.cls_Search Y.x21.me (zi8 Y) (hr.mono ∅) Y.x21.bi ?_|refine vE Y.cls_Plainer Y.x37.me (zjo Y) (hr.mono ∅) Y.x37.bi ?_|refine kW F.plainAttrs_dict F.slot_dict_get F.type_dict_get (ZY hu) ?_ ?_|refine kW F.plainAttrs_dict F.slot_dict_pop F.type_dict_pop (Z1 hu) ?_ ?_|refine kW F.plainAttrs_dict F.slot_dict_setdefault F.type_dict_setdefault (ZZ hu) ?_ ?_|refine kW F.plainAttrs_list F.slot_list_append F.type_list_append uN ?_ ?_|refine kW F.plainAttrs_list F.slot_list_insert F.type_list_insert zau ?_ ?_|refine kW F.plainAttrs_list F.slot_list_pop F.type_list_pop zeY ?_ ?_|refine kW F.plainAttrs_str F.slot_str_partition F.type_str_partition m_partition ?_ ?_|refine FG F.plainAttrs_list F.slot_list_pop F.type_list_pop X4 ?_|refine FG F.plainAttrs_str F.slot_str_upper F.type_str_upper m_upper ?_|refine Z9 (zZ hr) ?_ ?_ ?_|refine zab ?_)
 | (show PS _ (.Assign [.Name _ _] (.ListComp _ _ _ _) _) _;first|refine zJ nd ["rule","fruitful","own"] [ae,aa 2,aa 1] ?_ (λB=>?_) (λB=>?_) λB=>?_|refine zJ nd ["some","pieces","part","wordy","own"] [ae,ae,aa 5,aa 2,aa 1] ?_ (λB=>?_) (λB=>?_) λB=>?_|refine zJ nd ["some","pieces","part","empties"] [ae,ae,aa 5,aa 3] ?_ (λB=>?_) (λB=>?_) λB=>?_|refine YQ nd ["cell","heads","words","most"] [ae,aa 5,aa 6,aa 2] ?_ (λB=>?_) (λB=>?_) λB=>?_)
 | (show PS _ (.Assign [.Name _ _] _ _) _;refine oO nd ?_)
 | (show PS _ (.Assign [.Attribute _ _ _] _ _) _;refine ZS (by first|exact Y.cls_Plainer|exact Y.cls_Queue|exact Y.cls_Search) (by first|exact Y.na_backs|exact Y.na_begun|exact Y.na_best|exact Y.na_costs|exact Y.na_ends|exact Y.na_grammar|exact Y.na_own|exact Y.na_queue|exact Y.na_reached|exact Y.na_steps|exact Y.na_waiting) ?_ ?_)
 | (show PS _ (.Assign _ _ _) _;refine zA ?_ ?_)
 | (show PS _ (.If _ _ _ _) _;refine rP ?_ ?_ ?_)
 | (show PS _ (.For _ _ _ _ _) _;first|refine uS Lb rfl ?_ ?_ ?_|refine s_fzL ?_)
 | (show PS _ (.While _ _ _ _) _;refine YC Lb ?_ ?_)
 | (show PS _ (.Expr _ _) _;refine uQ ?_)
 | (show PS _ (.Return _ _) _;first|refine uR ?_|exact YA)
 | exact YB
 | (show PT _ (.Compare _ _ _ _) _;refine yP (by first|exact yX hr.units|exact HS hu|exact F7 hu|exact HR hu|exact FX hr.units|exact F8 hu|exact FR|exact FQ|exact FP|exact yV) ?_ ?_)
 | (show PT _ (.BoolOp _ _ _) _;refine PW.pt ?_)
 | (show PT _ (.UnaryOp _ _ _) _;refine WZ ?_)
 | (show PT _ _ _;refine uC ?_)
 | (show PW _ _ _;first|refine E9 ?_|refine WX ?_|refine FA ?_ ?_|refine WY ?_ ?_)
 | (show PG _ (.Name _ _) _;first|exact rN nd|exact cT)
 | (show PG _ (.Tuple _ _ _) _;refine jE rfl ?_)
 | (show PG _ _ _;refine w_sub hu ?_ ?_)
 | (show i5 _ _ _;first|refine eG ?_ ?_|exact jD)
 | (show iM _ _ _;first|exact YN|refine YO ?_)
 | (show PO _ _ _;first|exact XT|refine XU ?_)
 | (show PI _ _ _ _;first|refine GI (by rfl) Y.range_ ?_|refine YM (by rfl) Y.range_ ?_|refine ZF (by rfl) Y.enumerate_ ?_|refine zeN (by rfl) Y.enumerate_ ?_|refine zeZ (by rfl) Y.reversed_ ?_|refine zeS ?_|refine zD ?_|refine YL ?_|refine zc2 ?_|refine zgp ?_))
def ziN:=bJ P w mg base 0 Y.x0.fn Y.x0.bi zbY
def ziO:=bJ P w mg base 1 Y.x1.fn Y.x1.bi zb1
def ziP:=bJ P w mg base 0 Y.x2.fn Y.x2.bi zb2
def ziQ:=bJ P w mg base 0 Y.x3.fn Y.x3.bi zb3
def ziR:=bJ P w mg base 0 Y.x4.fn Y.x4.bi zft
def ziS:=bJ P w mg base 2 Y.x5.fn Y.x5.bi zb4
def ziT:=bJ P w mg base 3 Y.x6.fn Y.x6.bi zet
def ziU:=bJ P w mg base 0 Y.x7.fn Y.x7.bi zcL
def ziV:=bJ P w mg base 0 Y.x8.fn Y.x8.bi zfK
def ziW:=bJ P w mg base 0 Y.x9.fn Y.x9.bi zfM
def ziX:=bJ P w mg base 0 Y.x10.fn Y.x10.bi zge
def ziY:=bJ P w mg base 0 Y.x11.fn Y.x11.bi zaZ
def ziZ:=bJ P w mg base 0 Y.x12.fn Y.x12.bi zaY
def zi0:=bJ P w mg base 0 Y.x13.fn Y.x13.bi za0
def zi1:=bJ P w mg base 1 Y.x14.fn Y.x14.bi za1
def zi2:=bJ P w mg base 0 Y.x15.fn Y.x15.bi za2
def zi3:=bJ P w mg base 0 Y.x16.fn Y.x16.bi zcM
def zi4:=bJ P w mg base 2 Y.x17.fn Y.x17.bi zcU
def zi5:=bJ P w mg base 2 Y.x18.fn Y.x18.bi zcN
def zi6:=bJ P w mg base 3 Y.x19.fn Y.x19.bi zcR
def zi7:=bJ P w mg base 3 Y.x20.fn Y.x20.bi zcO
def zi8:=bJ P w mg base 4 Y.x21.fn Y.x21.bi zcS
def zi9:=bJ P w mg base 5 Y.x22.fn Y.x22.bi zcV
def zja:=bJ P w mg base 1 Y.x23.fn Y.x23.bi zgh
def zjb:=bJ P w mg base 0 Y.x24.fn Y.x24.bi zga
def zjc:=bJ P w mg base 0 Y.x25.fn Y.x25.bi zf9
def zjd:=bJ P w mg base 2 Y.x26.fn Y.x26.bi zgl
def zje:=bJ P w mg base 3 Y.x27.fn Y.x27.bi zgb
def zjf:=bJ P w mg base 6 Y.x28.fn Y.x28.bi zgX
def zjg:=bJ P w mg base 0 Y.x29.fn Y.x29.bi zdA
def zjh:=bJ P w mg base 1 Y.x30.fn Y.x30.bi zdN
def zji:=bJ P w mg base 6 Y.x31.fn Y.x31.bi zdQ
def zjj:=bJ P w mg base 1 Y.x32.fn Y.x32.bi zeu
def zjk:=bJ P w mg base 0 Y.x33.fn Y.x33.bi zev
def zjl:=bJ P w mg base 0 Y.x34.fn Y.x34.bi zew
def zjm:=bJ P w mg base 0 Y.x35.fn Y.x35.bi zex
def zjn:=bJ P w mg base 0 Y.x36.fn Y.x36.bi zgt
def zjo:=bJ P w mg base 0 Y.x37.fn Y.x37.bi zey
def zjp:=bJ P w mg base 2 Y.x38.fn Y.x38.bi zfA
def zjq:=bJ P w mg base 7 Y.x39.fn Y.x39.bi zgY
def zjr:=bJ P w mg base 7 Y.x40.fn Y.x40.bi zg1
def zjs:=bJ P w mg base 0 Y.x41.fn Y.x41.bi zg4
def zjt:=bJ P w mg base 1 Y.x42.fn Y.x42.bi zg5
def zju:=bJ P w mg base 8 Y.x43.fn Y.x43.bi zg7
def zjv:=bJ P w mg base 1 Y.x44.fn Y.x44.bi zhf
def zjw:=bJ P w mg base 0 Y.x45.fn Y.x45.bi zfu
def zjx:=bJ P w mg base 1 Y.x46.fn Y.x46.bi zfy
def zjy:=bJ P w mg base 1 Y.x47.fn Y.x47.bi zfv
def zjz:=bJ P w mg base 2 Y.x48.fn Y.x48.bi zfz
def zjA:=bJ P w mg base 7 Y.x49.fn Y.x49.bi zhg
def zjB:=bJ P w mg base 0 Y.x50.fn Y.x50.bi zeE
def zjC:=bJ P w mg base 0 Y.x51.fn Y.x51.bi zeD
def zjD:=bJ P w mg base 2 Y.x52.fn Y.x52.bi zeF
def zjE:=LG (len:=zbX) P w mg base 0 Y.x53.fn Y.x53.bi qH zb5 λhr hu nd=>by walk_at "t"
def zjF:=bJ P w mg base 0 Y.x54.fn Y.x54.bi zb6
def zjG:=bJ P w mg base 1 Y.x55.fn Y.x55.bi zdb
def zjH:=bJ P w mg base 0 Y.x56.fn Y.x56.bi zdc
def zjI:=bJ P w mg base 2 Y.x57.fn Y.x57.bi zdf
def zjJ:=bJ P w mg base 3 Y.x58.fn Y.x58.bi zdg
def N0:=bJ P w mg base 0 Y.x59.fn Y.x59.bi zik
def N1:=bJ P w mg base 1 Y.x60.fn Y.x60.bi zil
def zjK:=bJ P w mg base 2 Y.x61.fn Y.x61.bi zio
theorem N2(Y:Al K mg C fa fb):∀n,i6 P w K mg base eQ (3+n) (fa 62) (fb 62) ["rules","chosen","name","state"] (fM K (mN n))
 | 0=>uX (k:=2) Y.x62.fn (qH (N:=NC)) (λ_ _ _ h=>h.elim) λ_ _ _ _ _ _ _ _ _ _ h=>h.elim
 | n+1=>LF P w mg base (3+n) Y.x62.fn Y.x62.bi qH (ziw (n+1)) ziv λhr hu nd=>(jT (oO (i:=4) nd (iS hu (v 1) (v 2)))
   (jT (rP (yP yV (iS hu (v 3) i9) i9)
    (jT (oO (i:=5) nd (yT e8))
   (jT (uS Lb rfl (GI (by rfl) Y.range_ (eC (kU uK (by rfl) Y.len_ u5 (eC (v 0) e8)) e8)) (rN (i:=6) nd)
    (kF (rP (PW.pt (FA (yP (yX hr.units) (iS hu (iS hu (v 0) (v 6)) i9) (v 2)) (E9 (uC (rE (N1 Y) (hr.mono (by lia)) (by rfl) Y.x60.at_ Y.x60.fn.kp Y.x60.bi (eC (iS hu (iS hu (v 0) (v 6)) i9) (eC (v 1) e8)))))))
    (kF (uQ (kW F.plainAttrs_list F.slot_list_append F.type_list_append uN (v 5) (eC (v 6) e8))))
    uP)))
   (jT (oO (i:=4) nd (iS hu (v 5) (rC FJ (iS hu (v 3) i9) (kU uK (by rfl) Y.len_ u5 (eC (v 5) e8)))))
   (kF (zA (rC FI (iS hu (v 3) i9) (kU uK (by rfl) Y.len_ u5 (eC (v 5) e8))) (w_sub hu (v 3) i9))))))
    uP)
   (jT (zA (rC uZ (iS hu (v 3) i9) i9) (w_sub hu (v 3) i9))
   (jT (oO (i:=7) nd (yT e8))
   (jT (uS Lb rfl (zD (iS hu (iS hu (v 0) (v 4)) i9)) (rN (i:=8) nd)
    (kF (rP (uC (rE (N0 Y) (hr.mono (by lia)) (by rfl) Y.x59.at_ Y.x59.fn.kp Y.x59.bi (eC (v 8) e8)))
    (kF (uQ (kW F.plainAttrs_list F.slot_list_append F.type_list_append uN (v 7) (eC (rE (N2 Y n) (hr.mono (by lia)) (by rfl) Y.x62.at_ Y.x62.fn.kp Y.x62.bi (eC (v 0) (eC (v 1) (eC (v 8) (eC (v 3) e8))))) e8))))
    (kF (uQ (kW F.plainAttrs_list F.slot_list_append F.type_list_append uN (v 7) (eC (v 8) e8)))))))
   (kF (uR (FC (eC (v 4) (eC (kC GB (by rfl) Y.tuple_ GZ (eC (v 7) e8)) e8))))))))))
def zjL:=N2 (P:=P) (w:=w) (base:=base) Y 30
def zjM:=bJ P w mg base 1 Y.x63.fn Y.x63.bi zim
theorem N3(Y:Al K mg C fa fb):∀n,i6 P w K mg base eQ (1+n) (fa 64) (fb 64) ["tree"] (fM K (sU n))
 | 0=>uX (k:=0) Y.x64.fn (qH (N:=NI)) (λ_ _ _ h=>h.elim) λ_ _ _ _ _ _ _ _ _ _ h=>h.elim
 | n+1=>LF P w mg base (1+n) Y.x64.fn Y.x64.bi qH (zix (n+1)) zit λhr hu nd=>(jT (rP (uC (kU GP (by rfl) Y.isinstance_ G1 (eC (v 0) (eC (WS (by rfl) Y.str_ G0 (y:=.ty "str") rfl (λ_ _=>.ty _)) e8))))
    (kF (uR (zH (eC (v 0) e8))))
    uP)
   (jT (oO (i:=1) nd (zH e8))
   (jT (uS Lb rfl (zD (iS hu (v 0) i9)) (rN (i:=2) nd)
    (kF (oO (i:=1) nd (rC uZ (v 1) (rE (N3 Y n) (hr.mono (by lia)) (by rfl) Y.x64.at_ Y.x64.fn.kp Y.x64.bi (eC (v 2) e8))))))
   (kF (uR (v 1))))))
def zjN:=N3 (P:=P) (w:=w) (base:=base) Y 31
def zjO:=bJ P w mg base 1 Y.x65.fn Y.x65.bi ziy
def zjP:=bJ P w mg base 2 Y.x66.fn Y.x66.bi ziB
def zjQ:=bJ P w mg base 0 Y.x67.fn Y.x67.bi ziH
def zjR:=bJ P w mg base 33 Y.x68.fn Y.x68.bi ziE
def zjS:=bJ P w mg base 34 Y.x69.fn Y.x69.bi ziM
end
section
variable {w:Bo}{h:Ds}{mg:Ay->Option Ae}
theorem nA{K:Ac}{C:An}{f:Ay}(h:Fe K (.ref C) f=aa ae:=by kernel_rfl):fH K C f:=h
theorem mv{x:Ay}{v:Ae}(X:(hpK w.params).In h)(G:h.Ns Ec mg)(e:Rq (hpK w.params) Ec x=aa (aa v):=by kernel_rfl):mg x=aa v:=Jm X G e
theorem mn{x:Ay}(X:(hpK w.params).In h)(G:h.Ns Ec mg)(e:Rq (hpK w.params) Ec x=aa ae:=by kernel_rfl):mg x=ae:=PySem.W.mg_none_of X G e
theorem zjT(X:(hpK w.params).In h)(G:h.Ns Ec mg):Tx mg:=⟨⟨583,Jm (v:=.int 10000 583) X G (by kernel_rfl)⟩,⟨227,Jm (v:=.str "0123456789" 227) X G (by kernel_rfl)⟩,⟨225,Jm (v:=.str "ABCDEFGHIJKLMNOPQRSTUVWXYZ" 225) X G (by kernel_rfl)⟩,⟨581,Jm (v:=.str "whole" 581) X G (by kernel_rfl)⟩,mn X G,mn X G,mn X G,mn X G,mn X G,mn X G,mn X G,mn X G,mn X G,mn X G,mn X G,mn X G,mn X G,mn X G,mn X G⟩
theorem zjU(X:(hpK w.params).In h)(G:h.Ns Ec mg):Kc (hpK w.params) mg ⟨151,207,237,244,325,0,0,0,0⟩:=⟨⟨by kernel_rfl,by kernel_rfl,by kernel_rfl,by kernel_rfl⟩,mv X G,⟨by kernel_rfl,by kernel_rfl,by kernel_rfl,by kernel_rfl⟩,mv X G,⟨by kernel_rfl,by kernel_rfl,by kernel_rfl,by kernel_rfl⟩,mv X G,nA,nA,nA,nA,nA,nA,nA,nA,nA,nA,nA⟩
def N4(i:Nat):Fc:=(dL i).fd
theorem zjV(X:(hpK w.params).In h)(G:h.Ns Ec mg):Al (hpK w.params) mg ⟨151,207,237,244,325,0,0,0,0⟩ CJ N4:=by
 refine⟨zjT X G,zjU X G,?_,?_,?_,?_,?_,?_,?_,?_,?_,?_,?_,?_,?_,?_,?_,?_,?_,?_,?_,?_,?_,?_,?_,?_,?_,?_,?_,?_,?_,?_,?_,?_,?_,?_,?_,?_,?_,?_,?_,?_,?_,?_,?_,?_,?_,?_,?_,?_,?_,?_,?_,?_,?_,?_,?_,?_,?_,?_,?_,?_,?_,?_,?_,?_,?_,?_,?_,?_,?_,?_,rfl,rfl⟩<;>first|exact dF X G|exact dM|exact dI
end
theorem zjW{l:Qa}{w:Bo}{h:Ds}{mg:Ay->Option Ae}{fa:An}(X:(hpK w.params).In h)(G:h.Ns Ec mg)(hfa:mg "law" = aa (.ref fa)):
  ∃fd:Fc,(∀(s:Aj) (v:Ae),Ss s fd ⟨[v],[]⟩ [("script",v)])/\∀base:Ds,(hpK w.params).In base->base.Ns Ec mg->i6 l.prog w (hpK w.params) mg base eQ 35 fa fd ["script"] (fM (hpK w.params) rR):=by
 have e:=hfa.symm.trans (Jm (v:=.ref 531) X G (by kernel_rfl));cases e;exact⟨N4 69,λs v=>.of_eq rfl,λbase _ _=>zjS (zjV X G)⟩
theorem zjX{l:Qa}{q:Bc}{loose:↑Ay}{XP:(Ay->Option Ae)->Ds->Prop}{YP:Bo->Ds->Prop}{d:DefRec}{K:Rr->Ac}(hn:l.most=aa 63)(hdf:d.params.defaults=[])(hY:∀(w:Bo) (h:Ds),YP w h->(K w.params).In h)(F:∀(w:Bo) (mg:Ay->Option Ae) (fa:An) (h:Ds),(K w.params).In h->h.Ns Ec mg->mg d.name=aa (.ref fa)->
   ∃fd:Fc,(∀(s:Aj) (u:Ae),Ss s fd ⟨[u],[]⟩ [("script",u)])/\∀base:Ds,(K w.params).In base->base.Ns Ec mg->i6 l.prog w (K w.params) mg base eQ 35 fa fd ["script"] (fM (K w.params) rR)):
  PySem.W.WalkO q loose XP YP l.row.toRowW d [] (λf vs=>Td f vs):=
 L2.U6 (n:=63) (k:=35) (x:="script") (CX:=λ_=>eQ) (sp:=λw=>fM (K w.params) rR) hn ∅ hdf ⟨rfl,by decide,by decide⟩ hY F (λ_ _ a ns hl ho hS=>YR hl ho hS) λ_ _ _ _ _ z=>z
end L2
open PySem PySem.W PyProof.Rows
set_option maxRecDepth 100000 in
set_option maxHeartbeats 0 in
theorem PySem.Challenge.cw_readgrove_k64_whole_rows_as_ahead_holds : PySem.Challenge.rw_readgrove_k64_whole_rows_as_ahead.Holds := by
 w_on; refine PySem.W.holds_law L2.sX λsaid => ?_
 refine PySem.W.holds_open (r := Vk.row) (q := L2.qv) (loose := []) (N := 6656)
  (Xt := λs => xlAt L2.qv [] s&&recOk (Pw (Nu Vk.row)) s)
  (XP := XL L2.qv []) (Yf := L2.hk.obs) (Ya := L2.hk.val) (YP := L2.hk.says) ?hl L2.hk.of L2.hk.keeps
  (λs e => xl_of s (Bool.and_eq_true_iff.mp e).1) XL.keeps (by rfl) (by rfl) (by rfl) (λs e => recFacts_of (Bool.and_eq_true_iff.mp e).2)
  (by rfl) (by assumption) (by decide +kernel) ⟨rfl, rfl, rfl, rfl, rfl, by decide +kernel⟩ ?hw ?hc
 case hw => w_witness2
 case hc => exact L2.zjX (l := Vk) rfl rfl (λw h Y => PySem.W.kIn_of Y) (λw mg fa h KX G hmg => L2.zjW KX G hmg)
 case hl => exact L2.OA
