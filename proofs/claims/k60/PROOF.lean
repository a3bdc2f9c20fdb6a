import PyProof.Rows.All
import KE.KDictOf
import KE.KEqDict
import KE.KFromBytes
import KE.KIntText
import KE.KIsAll
import KE.KItemsList
import KE.KPairComp
import KE.KRevIter
import KE.KSortTup
import PySem.Challenge.RW_readgrove_k60_without_empty_rules
open PySem renaming wpAny_bind->Aa,Value->Ae,wpAny_pure->Af,Shared->Ah,sizeLine->An,Program->Ax,wpAny->Bh,FuncData->Bi,starEach->Bk,World->Bl,model->Bu,compareOp->Co,Around->Cs,bootBuiltins->Cy,wpAny_holding->Dd,wpAny_newObj_type->De,wpAny_call_entry->Dl,DictEntry->Dn,binaryOp->Dr,mainGlobals->Ee,sysModules->Ep,Paired->Es,cLine->Eu,tupleKind_room_in1->Fb,wpAny_callSpecial?_slot->Fe,wpAny_dictEntries->Fh,foldedSetIterable->Fi,wpAny_notOrdered_dict->Fo,wpAny_Call_Name_kw->Fs,attributeBase->Ft,backTo->Fv,wpAny_truthy_bool->Fx,tupleKind->Fy,wpAny_tupleItemsOf->Gr,assignEach->Gs,mem_of_lookup->Hb,wpAny_isInstance->Hf,wpAny_typeNameOfWhole_valiter->Hj,wpAny_typeNameOfWhole_keyiter->Hk,wpAny_rule->Hm,wpAny_passesOwn->Ho,swapsWith->Hq,behindInMarks->Hr,isSubtype_tuple_tuple->Hv,wpAny_pyIter_list->Hx,holding->Hy,wpAny_mono->Ik,NameKind->Il,wpAny_forIn_list->Ir,call_meetsIn->Iu,pyNext->Iy,wpAny_typeNameOf_valiter->Je,wpAny_typeNameOf_keyiter->Jf,Scope->Jg,wpAny_dictEpoch->Ji,rawInt->Jm,wpAny_field->Jq,keywordEach->Jr,wpAny_setField->Jv,wpAny_seqItems->Jw,firstArgMember->Jx,atKey->Ke,wpAny_eqBool_int->Kg,call_meets->Kh,strLen_append->Kj,sliceBounds->Kl,wpAny_specialOf->Kr,size_of_entries->Ks,wpAny_richCompare_same_room->Ky,codeAny->Kz,wpAny_pyIter_tuple->Lf,PyData->Li,Expr->Lm,wpAny_pyIter_enum->Lu,storedH->Lv,sizeLine_eq->Lw,Builtin->Ly,assign->Ma,backToKw->Mi,wpAny_typeOf->Mu,PlainAttrs->Mw,wpAny_execs_nil->Mz,letOwnedTupleGo->Na,codeAny_builtin->Nb,wpAny_isOneOf_valiter->Nd,wpAny_pyIter_keyiter->Nj,wpAny_fieldsOf->Nk,standAt->Nl,getMethod->Nm,Keyword->Nn,wpAny_standAt->Np,wpAny_attempt->Nq,plainId_quiet->Nr
open List renaming length_map->Ab,mem_singleton->Aj,length_append->Ak,mem_map->Am,getElem?_eq_some_iff->Ap,mem_cons_of_mem->Ar,mem_of_getElem?->Au,getElem?_map->Av,map_cons->Aw,mem_cons_self->Az,mem_cons->Ba,map_append->Bb,size_toArray->Bf,mem_append->Bg,getElem?_eq_getElem->Bj,map_map->Bo,length_singleton->Bp,length_cons->Br,mem_append_left->Bs,replicate->Bv,mem_append_right->Ca,lookup->Cb,take_length->Cd,length_take->Ce,foldl_cons->Cm,range->Cr,take_add_one->Cu,nodup_cons->Cz,mem_filter->Dj,nodup_append->Dk,find?_cons->Du,filter_cons->Dw,append_assoc->Dx,lookup_cons->Ea,replicate_succ->Eb,length->Ec,filterMap_cons->Ed,mem_flatMap->Ef,length_pos_iff->Eh,foldl_append->Ei,nodup_nil->Em,any_cons->Eo,mem_zipIdx_iff_getElem?->Ew,getElem?_cons_succ->Ez,map_congr_left->Ff,eq_nil_or_concat->Fj,concat_eq_append->Fl,nil_append->Fu,take_of_length_le->Fz,mem_nil_iff->Gb,all_eq_true->Gd,mem_range->Gg,getD_eq_getElem?_getD->Gh,getLastD_eq_getLast?->Gn,getElem?_eq_none_iff->Gp,drop_eq_getElem_cons->Gq,append_nil->Gv,mem_of_mem_take->Gx,length_range->Gy,flatten_cons->Gz,length_eq_zero_iff->Hd,getElem?_append_right->Ht,map_nil->Hz,length_drop->Ia,any_eq_true->Ib,map_eq_nil_iff->Ij,all_cons->Iq,filterMap_map->Iw,length_filter_le->Js,nodup_iff_pairwise_ne->Km,mem_filterMap->Kn,map->Ko,pairwise_iff_getElem->Kw,getElem?_append_left->Kx,flatMap_cons->Lc,getElem_mem->Lk,any_map->Lx,map_const'->Me,take_append_drop->Mg,length_replicate->Mh,getElem?_of_mem->Mp,mem_map_of_mem->Nc
open PySem.W renaming Frag->Ac,findIn->Cg,kia_one->Ej,fnOf->Ek,keepIn->Fc,emptyDict->Fd,instObj->Gm,mg_of->Gu,kitOne->Iz,codeIn->Ja,callWith_K->Ki,plainGet->La,isFn->Lg,lookIn->Mb,plainGet_of->Mj
open Nat renaming le_refl->Ag,le_trans->Ay,ne_of_lt->Bn,zero_le->Bw,lt_of_lt_of_le->Cf,le_of_eq->Fp,ne_of_gt->Ga,lt_of_le_of_lt->Gj,toDigits->Ha,lt_irrefl->Hl,lt_trans->Ih,exists_eq_add_of_le->Jd,lt_of_succ_lt->Jn,le_of_lt->Jo,lt_succ_self->Jz,toDigits_of_lt_base->Lp,zero_add->Mc,succ_mul->Md,min_le_left->Mf,add_le_add_left->Nf,add_assoc->Ni
open PySem.Heap renaming get?_push_of_some->Ai,get?_push_size->Bc,lt_size->Be,SameBut->Ex,size_push->Fq,get?_update_self->Gk,get?_update_other->Jl,ExtBut->Mq
open Bool renaming false_ne_true->Ao,and_eq_true->Cq,false_eq_true->Dq,eq_iff_iff->Dv,not_true->Hi,not_not->Ie,not_false->Kq,false_and->Ms
open Option renaming map_eq_some_iff->Bd,isSome_iff_exists->Fm,isSome_map->Jc,map_some->Lo
open PySem.PassesOwn renaming never->Bq
open PySem.Str renaming ofString->Bx
open Ne renaming symm->Bz
open Option.some renaming inj->Ci,injEq->Ge
open PySem.F renaming plainAttrs_list->Cj,slot_list_append->Cv,type_list_append->Dh,slot_dict_valueiterator_next->Eg,slot_dict_keyiterator_next->Er,plainAttrs_dict->Hu,slot_tuple_iterator_next->Ii,slot_tuple_hash->Im,entry_dict_get->Jb,slot_tuple_eq->Jj,slot_dict_get->Jk,slot_dict_setdefault->Jy,args_tuple_add_2->Ku,entry_tuple_add->Lb,slot_tuple_add->Lh,slot_list_getattribute->Lr,slot_list_pop->Mr,slot_str_partition->Ng
open Prod renaming fst->Ck,snd->Gw,ext->Lj
open PySem.Txt renaming partition->Cp,mul->Hc
open List.cons renaming injEq->Ct
open PySem.Paired renaming length->Cw
open Int renaming toNat_natCast->Dc,emod_lt_of_pos->Dz,emod_nonneg->Ey,le_refl->Ld,eq_ofNat_of_zero_le->Lq
open Prod.mk renaming injEq->Dg,inj->Fn
open PySem.Builtin.Tuple renaming tupleHashOf->Ds,tupleExact->Hn
open PySem.Heap.SameBut renaming update->Dy
open PyProof.Rows renaming callWith_type1->El,slot_tuple_getitem->Ip,envOfC->Lz,AllBare->My
open PySem.Builtin.Dict_items renaming ownsTuple->Fg
open Array renaming length_toList->Fw,getElem?_toList->Gi,toArray_toList->Kb,getElem?_eq_getElem->Kv,getElem?_eq_none->Ls,toList_append->Mx
open False renaming elim->Gf
open PySem.Builtin.SmallTypes renaming nextOf->He
open PySem.Obj renaming data_mapFields->Hg,data_mapDictKeys->Kd,isFreed_of_fields->Ml,mapFields->Nh
open PySem.Builtin.Slice renaming slicePlaces->Hh,sliceAdjust->Ka
open PySem.PyData renaming depth->Hs,eqv->Kk,eqvAll->Mv
open PySem.Builtin.Dict renaming updateFrom->Hw,showsAll->Iv,keyAndDefault->Jt
open PySem.Builtin.Str renaming occurrences->Ic
open PySem.AutoSeq1 renaming wpAny_loadPart'->Ig
open PySem.Calls renaming callWith_builtin->Jh
open Function renaming comp->Jp
open PySem.Around renaming under_plainId->Ju
open PySem.Builtin.List renaming listTooLong->Kf
open Sum.inl renaming injEq->Kt
open PySem.Walks renaming list->Ll
open Sum.inr renaming injEq->Mo
set_option Elab.async false
set_option compiler.extract_closed false
set_option bootstrap.genMatcherCode false
set_option linter.all false
noncomputable section
set_option genSizeOf false
set_option maxRecDepth 100000
namespace L2
open PySem PySem.Spec PyProof.Rows
def iY(s:Stmt)(j:Nat):Stmt:=match s with
 | .ClassDef _ _ _ body _ _ _ _ _ _ _=>body.getD j (.Pass ⟨0,0,0,0⟩)
 | _=>.Pass ⟨0,0,0,0⟩
def jP(s:Stmt):Arguments:=match s with
 | .FunctionDef _ a _ _ _ _ _ _ _ _=>a
 | _=>{posonlyargs:=[],args:=[],vararg:=none,kwonlyargs:=[],kw_defaults:=[],kwarg:=none,defaults:=[]}
def iL(s:Stmt):List Stmt:=match s with
 | .FunctionDef _ _ b _ _ _ _ _ _ _=>b
 | _=>[]
def fD(s:Stmt):Jg:=match s with
 | .FunctionDef _ _ _ _ _ _ sc _ _ _=>sc
 | _=>{kind:=.function,names:=[],isGenerator:=false,isCoroutine:=false}
end L2
namespace Rg
open PySem PySem.Spec PyProof.Rows L2
def aP(i:Nat):Stmt:=PySem.Challenge.pw_readgrove_k60_without_empty_rules.main.body.getD i (.Pass ⟨0,0,0,0⟩)
abbrev DV:Stmt:=aP 6
abbrev DW:Stmt:=aP 7
abbrev DX:Stmt:=aP 8
abbrev DY:Stmt:=aP 9
abbrev DZ:Stmt:=aP 10
abbrev D0:Stmt:=aP 11
abbrev D1:Stmt:=aP 12
abbrev D2:Stmt:=aP 14
abbrev D4:Stmt:=aP 15
abbrev D5:Stmt:=aP 16
abbrev D6:Stmt:=aP 17
abbrev D7:Stmt:=iY (aP 19) 0
abbrev D8:Stmt:=iY (aP 19) 1
abbrev D9:Stmt:=iY (aP 19) 2
abbrev EA:Stmt:=iY (aP 19) 3
abbrev EB:Stmt:=iY (aP 19) 4
abbrev EC:Stmt:=aP 21
abbrev ED:Stmt:=iY (aP 22) 0
abbrev EE:Stmt:=iY (aP 22) 1
abbrev EF:Stmt:=iY (aP 22) 2
abbrev EG:Stmt:=iY (aP 22) 3
abbrev EH:Stmt:=iY (aP 22) 4
abbrev EI:Stmt:=aP 23
abbrev EJ:Stmt:=aP 24
abbrev EK:Stmt:=aP 25
abbrev EL:Stmt:=aP 26
abbrev EM:Stmt:=aP 27
abbrev EN:Stmt:=aP 28
abbrev EO:Stmt:=aP 30
abbrev ER:Stmt:=aP 31
abbrev ES:Stmt:=aP 33
abbrev ET:Stmt:=aP 34
abbrev EU:Stmt:=aP 38
abbrev EV:Stmt:=iY (aP 39) 0
abbrev EW:Stmt:=iY (aP 39) 1
abbrev EX:Stmt:=iY (aP 39) 2
abbrev EY:Stmt:=iY (aP 39) 3
abbrev EZ:Stmt:=aP 40
abbrev E1:Stmt:=aP 41
abbrev E2:Stmt:=aP 42
abbrev E4:Stmt:=aP 43
abbrev E5:Stmt:=aP 44
abbrev E6:Stmt:=aP 45
abbrev E7:Stmt:=aP 47
abbrev E8:Stmt:=aP 48
abbrev E9:Stmt:=aP 49
abbrev FA:Stmt:=aP 50
abbrev FC:Stmt:=aP 51
abbrev FD:Stmt:=aP 52
abbrev FE:Stmt:=aP 53
abbrev FF:Stmt:=aP 54
abbrev FG:Stmt:=aP 55
abbrev FH:Stmt:=aP 56
abbrev FI:Stmt:=aP 57
def en(P:Params)(x:String)(t:Tok)(v:Ae):Dn:=⟨PyData.keyHash P (Bx x),.str (Bx x) t,v⟩
abbrev sT(x:String)(t:Tok):Ae:=.str (Bx x) t
abbrev cO(x:String)(a:Tok)(q:String)(b c:Tok)(l n:Int)(r:Addr)(u v w y z:Ae)(k:Int)(d:Tok):Obj:=⟨.type "code",none,.fields #[sT x a,sT q b,sT "/claim/cut.py" c,.int l 0,.int n 0,.int 0 0,.int 0 0,.int 3 0,.ref r,.bool true,.int 181 0,u,v,w,y,z,.int k 0,.int l 0,sT "/claim/cut.py" d],#[]⟩
abbrev fO(x q:Str)(s:Stmt)(m c:Ae):Bi:=Ek x q (jP s) (iL s) (fD s) .none .none .none m none c .none
abbrev FJ:Bi:=fO "made_of" "made_of" DV (sT "readgrove.grammars" 223) (.ref 43)
abbrev FK:Bi:=fO "is_name" "is_name" DW (sT "readgrove.grammars" 223) (.ref 50)
abbrev FL:Bi:=fO "names" "names" DX (sT "readgrove.grammars" 223) (.ref 57)
abbrev FN:Bi:=fO "first_name" "first_name" DY (sT "readgrove.grammars" 223) (.ref 64)
abbrev FO:Bi:=fO "rules_of" "rules_of" DZ (sT "readgrove.grammars" 223) (.ref 69)
abbrev FP:Bi:=fO "check_rule" "check_rule" D0 (sT "readgrove.grammars" 223) (.ref 76)
abbrev FQ:Bi:=fO "grammar_of" "grammar_of" D1 (sT "readgrove.grammars" 223) (.ref 83)
abbrev FR:Bi:=fO "marks" "marks" D2 (sT "readgrove.covers" 284) (.ref 88)
abbrev FT:Bi:=fO "places_of" "places_of" D4 (sT "readgrove.covers" 284) (.ref 95)
abbrev FU:Bi:=fO "row_steps" "row_steps" D5 (sT "readgrove.covers" 284) (.ref 100)
abbrev FV:Bi:=fO "part_facts" "part_facts" D6 (sT "readgrove.covers" 284) (.ref 105)
abbrev FX:Bi:=fO "__init__" "Queue.__init__" D7 (sT "readgrove.queues" 311) (.ref 119)
abbrev FY:Bi:=fO "is_done" "Queue.is_done" D8 (sT "readgrove.queues" 311) (.ref 126)
abbrev FZ:Bi:=fO "put" "Queue.put" D9 (sT "readgrove.queues" 311) (.ref 133)
abbrev F0:Bi:=fO "place_of" "Queue.place_of" EA (sT "readgrove.queues" 311) (.ref 140)
abbrev F1:Bi:=fO "take" "Queue.take" EB (sT "readgrove.queues" 311) (.ref 147)
abbrev F5:Bi:=fO "added" "added" EC (sT "readgrove.leasts" 379) (.ref 161)
abbrev F6:Bi:=fO "__init__" "Search.__init__" ED (sT "readgrove.leasts" 379) (.ref 175)
abbrev F7:Bi:=fO "reach" "Search.reach" EE (sT "readgrove.leasts" 379) (.ref 182)
abbrev F8:Bi:=fO "take_next" "Search.take_next" EF (sT "readgrove.leasts" 379) (.ref 189)
abbrev F9:Bi:=fO "step_by_name" "Search.step_by_name" EG (sT "readgrove.leasts" 379) (.ref 196)
abbrev GA:Bi:=fO "settle" "Search.settle" EH (sT "readgrove.leasts" 379) (.ref 203)
abbrev GB:Bi:=fO "least_trees" "least_trees" EI (sT "readgrove.leasts" 379) (.ref 217)
abbrev GC:Bi:=fO "facts_within" "facts_within" EJ (sT "readgrove.leasts" 379) (.ref 222)
abbrev GD:Bi:=fO "made_of_best" "made_of_best" EK (sT "readgrove.leasts" 379) (.ref 229)
abbrev GF:Bi:=fO "same_word" "same_word" EL (sT "readgrove.leasts" 379) (.ref 236)
abbrev GG:Bi:=fO "knot_of" "knot_of" EM (sT "readgrove.leasts" 379) (.ref 243)
abbrev GH:Bi:=fO "best_tree" "best_tree" EN (sT "readgrove.leasts" 379) (.ref 250)
abbrev GJ:Bi:=fO "row_trees" "row_trees" EO (sT "readgrove.spans" 543) (.ref 257)
abbrev GK:Bi:=fO "no_weights" "no_weights" ER (sT "readgrove.spans" 543) (.ref 262)
abbrev GN:Bi:=fO "words_of" "words_of" ES (sT "readgrove.nexts" 560) (.ref 269)
abbrev GO:Bi:=fO "shortest_lengths" "shortest_lengths" ET (sT "readgrove.nexts" 560) (.ref 274)
abbrev GP:Bi:=fO "made_names" "made_names" EU (sT "readgrove.plainer" 579) (.ref 281)
abbrev GQ:Bi:=fO "__init__" "Plainer.__init__" EV (sT "readgrove.plainer" 579) (.ref 295)
abbrev GR:Bi:=fO "put_rule" "Plainer.put_rule" EW (sT "readgrove.plainer" 579) (.ref 302)
abbrev GS:Bi:=fO "is_part" "Plainer.is_part" EX (sT "readgrove.plainer" 579) (.ref 307)
abbrev GU:Bi:=fO "grammar_and_backs" "Plainer.grammar_and_backs" EY (sT "readgrove.plainer" 579) (.ref 314)
abbrev GV:Bi:=fO "nothing_read" "nothing_read" EZ (sT "readgrove.plainer" 579) (.ref 328)
abbrev GW:Bi:=fO "empty_trees" "empty_trees" E1 (sT "readgrove.plainer" 579) (.ref 333)
abbrev GX:Bi:=fO "wordy_names" "wordy_names" E2 (sT "readgrove.plainer" 579) (.ref 338)
abbrev GY:Bi:=fO "thinned" "thinned" E4 (sT "readgrove.plainer" 579) (.ref 343)
abbrev GZ:Bi:=fO "put_thinned" "put_thinned" E5 (sT "readgrove.plainer" 579) (.ref 350)
abbrev G0:Bi:=fO "no_empty" "no_empty" E6 (sT "readgrove.plainer" 579) (.ref 357)
abbrev G1:Bi:=fO "_law_cell_at" "_law_cell_at" E7 (sT "law_readgrove_k60_without_empty_rules" 706) (.ref 364)
abbrev G2:Bi:=fO "_law_stir" "_law_stir" E8 (sT "law_readgrove_k60_without_empty_rules" 706) (.ref 371)
abbrev G3:Bi:=fO "_law_drawn" "_law_drawn" E9 (sT "law_readgrove_k60_without_empty_rules" 706) (.ref 378)
abbrev G4:Bi:=fO "_law_unlike" "_law_unlike" FA (sT "law_readgrove_k60_without_empty_rules" 706) (.ref 385)
abbrev G5:Bi:=fO "_law_rule" "_law_rule" FC (sT "law_readgrove_k60_without_empty_rules" 706) (.ref 392)
abbrev G6:Bi:=fO "_law_rules" "_law_rules" FD (sT "law_readgrove_k60_without_empty_rules" 706) (.ref 397)
abbrev G7:Bi:=fO "_law_is_name" "_law_is_name" FE (sT "law_readgrove_k60_without_empty_rules" 706) (.ref 404)
abbrev G8:Bi:=fO "_law_costless" "_law_costless" FF (sT "law_readgrove_k60_without_empty_rules" 706) (.ref 409)
abbrev G9:Bi:=fO "_law_new_names" "_law_new_names" FG (sT "law_readgrove_k60_without_empty_rules" 706) (.ref 414)
abbrev HA:Bi:=fO "_law_empty_right" "_law_empty_right" FH (sT "law_readgrove_k60_without_empty_rules" 706) (.ref 419)
abbrev tU:Bi:=fO "law" "law" FI (sT "law_readgrove_k60_without_empty_rules" 706) (.ref 424)
def hpK:Params->Ac:=λP=>[(nat_lit 3,⟨(.type "dict"),none,.dict [en P "__name__" 165 (sT "law_readgrove_k60_without_empty_rules" 706),en P "__doc__" 166 .none,en P "__package__" 167 .none,en P "__loader__" 168 (.builtin "__main__.__loader__#opaque"),en P "__spec__" 169 .none,en P "__annotations__" 170 (.ref 6),en P "__builtins__" 171 (.ref 4),en P "__file__" 173 (sT "/claim/cut.py" 172),en P "__cached__" 174 .none,en P "GroveError" 206 (.ref 24),en P "NoGrammar" 222 (.ref 37),en P "GREAT_LETTERS" 226 (sT "ABCDEFGHIJKLMNOPQRSTUVWXYZ" 225),en P "FIGURES" 228 (sT "0123456789" 227),en P "made_of" 234 (.ref 44),en P "is_name" 243 (.ref 51),en P "names" 252 (.ref 58),en P "first_name" 259 (.ref 65),en P "rules_of" 265 (.ref 70),en P "check_rule" 274 (.ref 77),en P "grammar_of" 283 (.ref 84),en P "marks" 291 (.ref 89),en P "places_of" 298 (.ref 96),en P "row_steps" 304 (.ref 101),en P "part_facts" 310 (.ref 106),en P "Queue" 378 (.ref 151),en P "added" 388 (.ref 162),en P "Search" 478 (.ref 207),en P "least_trees" 491 (.ref 218),en P "facts_within" 497 (.ref 223),en P "made_of_best" 516 (.ref 230),en P "same_word" 525 (.ref 237),en P "knot_of" 533 (.ref 244),en P "best_tree" 542 (.ref 251),en P "row_trees" 553 (.ref 258),en P "no_weights" 559 (.ref 263),en P "words_of" 572 (.ref 270),en P "shortest_lengths" 578 (.ref 275),en P "WHOLE" 582 (sT "whole" 581),en P "FIGURED_NAMES" 584 (.int 10000 583),en P "made_names" 596 (.ref 282),en P "Plainer" 647 (.ref 318),en P "nothing_read" 656 (.ref 329),en P "empty_trees" 662 (.ref 334),en P "wordy_names" 668 (.ref 339),en P "thinned" 674 (.ref 344),en P "put_thinned" 689 (.ref 351),en P "no_empty" 705 (.ref 358),en P "_law_cell_at" 715 (.ref 365),en P "_law_stir" 724 (.ref 372),en P "_law_drawn" 735 (.ref 379),en P "_law_unlike" 752 (.ref 386),en P "_law_rule" 765 (.ref 393),en P "_law_rules" 771 (.ref 398),en P "_law_is_name" 778 (.ref 405),en P "_law_costless" 784 (.ref 410),en P "_law_new_names" 790 (.ref 415),en P "_law_empty_right" 796 (.ref 420),en P "law" 802 (.ref 425)].toArray 58,#[]⟩),
 (nat_lit 23,⟨(.type "dict"),none,.dict [en P "__module__" 196 (sT "readgrove.errors" 187),en P "__firstlineno__" 200 (.int 2 199),en P "__static_attributes__" 201 (.ref 22),en P "__weakref__" 203 (.ref 25),en P "__doc__" 204 .none].toArray 3,#[]⟩),
 (nat_lit 24,⟨(.type "type"),none,.cls ⟨(Bx "GroveError"),[(.type "ValueError")],[(.ref 24),(.type "ValueError"),(.type "Exception"),(.type "BaseException"),(.type "object")],23,(Bx "GroveError"),true,[],[(.ref 37)],false,none,false⟩,#[some (.ref 15),none,some (sT "GroveError" 189),some (sT "GroveError" 197),some (.builtin "ValueError.__new__"),some (.bool true)]⟩),
 (nat_lit 36,⟨(.type "dict"),none,.dict [en P "__module__" 214 (sT "readgrove.errors" 187),en P "__firstlineno__" 218 (.int 4 217),en P "__static_attributes__" 219 (.ref 35),en P "__doc__" 220 .none].toArray 2,#[]⟩),
 (nat_lit 37,⟨(.type "type"),none,.cls ⟨(Bx "NoGrammar"),[(.ref 24)],[(.ref 37),(.ref 24),(.type "ValueError"),(.type "Exception"),(.type "BaseException"),(.type "object")],36,(Bx "NoGrammar"),true,[],[],false,none,false⟩,#[some (.ref 28),none,some (sT "NoGrammar" 207),some (sT "NoGrammar" 215),some (.builtin "ValueError.__new__"),some (.bool true)]⟩),
 (nat_lit 43,cO "made_of" 229 "made_of" 230 231 9 2 40 (.ref 41) .none .none .none (.ref 42) 232 233),
 (nat_lit 44,⟨(.type "function"),none,.func FJ,#[]⟩),
 (nat_lit 50,cO "is_name" 235 "is_name" 236 237 11 1 45 (.ref 46) .none (.ref 47) (.ref 48) (.ref 49) 241 242),
 (nat_lit 51,⟨(.type "function"),none,.func FK,#[]⟩),
 (nat_lit 57,cO "names" 244 "names" 245 246 15 1 52 (.ref 53) .none (.ref 54) (.ref 55) (.ref 56) 250 251),
 (nat_lit 58,⟨(.type "function"),none,.func FL,#[]⟩),
 (nat_lit 64,cO "first_name" 253 "first_name" 254 255 20 1 59 (.ref 60) .none (.ref 61) (.ref 62) (.ref 63) 257 258),
 (nat_lit 65,⟨(.type "function"),none,.func FN,#[]⟩),
 (nat_lit 69,cO "rules_of" 260 "rules_of" 261 262 22 2 66 (.ref 67) .none .none .none (.ref 68) 263 264),
 (nat_lit 70,⟨(.type "function"),none,.func FO,#[]⟩),
 (nat_lit 76,cO "check_rule" 266 "check_rule" 267 268 24 2 71 (.ref 72) .none (.ref 73) (.ref 74) (.ref 75) 272 273),
 (nat_lit 77,⟨(.type "function"),none,.func FP,#[]⟩),
 (nat_lit 83,cO "grammar_of" 275 "grammar_of" 276 277 30 1 78 (.ref 79) .none (.ref 80) (.ref 81) (.ref 82) 281 282),
 (nat_lit 84,⟨(.type "function"),none,.func FQ,#[]⟩),
 (nat_lit 88,cO "marks" 286 "marks" 287 288 38 1 85 (.ref 86) .none .none .none (.ref 87) 289 290),
 (nat_lit 89,⟨(.type "function"),none,.func FR,#[]⟩),
 (nat_lit 95,cO "places_of" 292 "places_of" 293 294 40 1 90 (.ref 91) .none (.ref 92) (.ref 93) (.ref 94) 296 297),
 (nat_lit 96,⟨(.type "function"),none,.func FT,#[]⟩),
 (nat_lit 100,cO "row_steps" 299 "row_steps" 300 301 42 1 97 (.ref 98) .none .none .none (.ref 99) 302 303),
 (nat_lit 101,⟨(.type "function"),none,.func FU,#[]⟩),
 (nat_lit 105,cO "part_facts" 305 "part_facts" 306 307 44 3 102 (.ref 103) .none .none .none (.ref 104) 308 309),
 (nat_lit 106,⟨(.type "function"),none,.func FV,#[]⟩),
 (nat_lit 119,cO "__init__" 325 "Queue.__init__" 326 327 49 1 114 (.ref 115) .none (.ref 116) (.ref 117) (.ref 118) 329 330),
 (nat_lit 120,⟨(.type "function"),none,.func FX,#[]⟩),
 (nat_lit 126,cO "is_done" 332 "Queue.is_done" 333 334 53 1 121 (.ref 122) .none (.ref 123) (.ref 124) (.ref 125) 336 337),
 (nat_lit 127,⟨(.type "function"),none,.func FY,#[]⟩),
 (nat_lit 133,cO "put" 339 "Queue.put" 340 341 56 3 128 (.ref 129) .none (.ref 130) (.ref 131) (.ref 132) 345 346),
 (nat_lit 134,⟨(.type "function"),none,.func FZ,#[]⟩),
 (nat_lit 140,cO "place_of" 348 "Queue.place_of" 349 350 62 2 135 (.ref 136) .none (.ref 137) (.ref 138) (.ref 139) 356 357),
 (nat_lit 141,⟨(.type "function"),none,.func F0,#[]⟩),
 (nat_lit 147,cO "take" 359 "Queue.take" 360 361 73 1 142 (.ref 143) .none (.ref 144) (.ref 145) (.ref 146) 366 367),
 (nat_lit 148,⟨(.type "function"),none,.func F1,#[]⟩),
 (nat_lit 150,⟨(.type "dict"),none,.dict [en P "__module__" 320 (sT "readgrove.queues" 311),en P "__firstlineno__" 324 (.int 47 323),en P "__init__" 331 (.ref 120),en P "is_done" 338 (.ref 127),en P "put" 347 (.ref 134),en P "place_of" 358 (.ref 141),en P "take" 368 (.ref 148),en P "__static_attributes__" 371 (.ref 149),en P "__dict__" 373 (.ref 152),en P "__weakref__" 375 (.ref 153),en P "__doc__" 376 .none].toArray 4,#[]⟩),
 (nat_lit 151,⟨(.type "type"),none,.cls ⟨(Bx "Queue"),[(.type "object")],[(.ref 151),(.type "object")],150,(Bx "Queue"),true,[],[],false,none,false⟩,#[none,none,some (sT "Queue" 313),some (sT "Queue" 321),some (.builtin "object.__new__"),some (.bool true)]⟩),
 (nat_lit 161,cO "added" 381 "added" 382 383 82 2 156 (.ref 157) .none (.ref 158) (.ref 159) (.ref 160) 386 387),
 (nat_lit 162,⟨(.type "function"),none,.func F5,#[]⟩),
 (nat_lit 175,cO "__init__" 401 "Search.__init__" 402 403 86 3 170 (.ref 171) .none (.ref 172) (.ref 173) (.ref 174) 407 408),
 (nat_lit 176,⟨(.type "function"),none,.func F6,#[]⟩),
 (nat_lit 182,cO "reach" 410 "Search.reach" 411 412 96 4 177 (.ref 178) .none (.ref 179) (.ref 180) (.ref 181) 418 419),
 (nat_lit 183,⟨(.type "function"),none,.func F7,#[]⟩),
 (nat_lit 189,cO "take_next" 421 "Search.take_next" 422 423 102 1 184 (.ref 185) .none (.ref 186) (.ref 187) (.ref 188) 432 433),
 (nat_lit 190,⟨(.type "function"),none,.func F8,#[]⟩),
 (nat_lit 196,cO "step_by_name" 435 "Search.step_by_name" 436 437 118 5 191 (.ref 192) .none (.ref 193) (.ref 194) (.ref 195) 445 446),
 (nat_lit 197,⟨(.type "function"),none,.func F9,#[]⟩),
 (nat_lit 203,cO "settle" 448 "Search.settle" 449 450 123 4 198 (.ref 199) .none (.ref 200) (.ref 201) (.ref 202) 460 461),
 (nat_lit 204,⟨(.type "function"),none,.func GA,#[]⟩),
 (nat_lit 206,⟨(.type "dict"),none,.dict [en P "__module__" 396 (sT "readgrove.leasts" 379),en P "__firstlineno__" 400 (.int 84 399),en P "__init__" 409 (.ref 176),en P "reach" 420 (.ref 183),en P "take_next" 434 (.ref 190),en P "step_by_name" 447 (.ref 197),en P "settle" 462 (.ref 204),en P "__static_attributes__" 471 (.ref 205),en P "__dict__" 473 (.ref 208),en P "__weakref__" 475 (.ref 209),en P "__doc__" 476 .none].toArray 4,#[]⟩),
 (nat_lit 207,⟨(.type "type"),none,.cls ⟨(Bx "Search"),[(.type "object")],[(.ref 207),(.type "object")],206,(Bx "Search"),true,[],[],false,none,false⟩,#[none,none,some (sT "Search" 389),some (sT "Search" 397),some (.builtin "object.__new__"),some (.bool true)]⟩),
 (nat_lit 217,cO "least_trees" 479 "least_trees" 480 481 132 4 212 (.ref 213) .none (.ref 214) (.ref 215) (.ref 216) 489 490),
 (nat_lit 218,⟨(.type "function"),none,.func GB,#[]⟩),
 (nat_lit 222,cO "facts_within" 492 "facts_within" 493 494 140 3 219 (.ref 220) .none .none .none (.ref 221) 495 496),
 (nat_lit 223,⟨(.type "function"),none,.func GC,#[]⟩),
 (nat_lit 229,cO "made_of_best" 498 "made_of_best" 499 500 151 5 224 (.ref 225) .none (.ref 226) (.ref 227) (.ref 228) 514 515),
 (nat_lit 230,⟨(.type "function"),none,.func GD,#[]⟩),
 (nat_lit 236,cO "same_word" 517 "same_word" 518 519 165 3 231 (.ref 232) .none (.ref 233) (.ref 234) (.ref 235) 523 524),
 (nat_lit 237,⟨(.type "function"),none,.func GF,#[]⟩),
 (nat_lit 243,cO "knot_of" 526 "knot_of" 527 528 167 2 238 (.ref 239) .none (.ref 240) (.ref 241) (.ref 242) 531 532),
 (nat_lit 244,⟨(.type "function"),none,.func GG,#[]⟩),
 (nat_lit 250,cO "best_tree" 534 "best_tree" 535 536 169 3 245 (.ref 246) .none (.ref 247) (.ref 248) (.ref 249) 540 541),
 (nat_lit 251,⟨(.type "function"),none,.func GH,#[]⟩),
 (nat_lit 257,cO "row_trees" 545 "row_trees" 546 547 172 3 252 (.ref 253) .none (.ref 254) (.ref 255) (.ref 256) 551 552),
 (nat_lit 258,⟨(.type "function"),none,.func GJ,#[]⟩),
 (nat_lit 262,cO "no_weights" 554 "no_weights" 555 556 174 1 259 (.ref 260) .none .none .none (.ref 261) 557 558),
 (nat_lit 263,⟨(.type "function"),none,.func GK,#[]⟩),
 (nat_lit 269,cO "words_of" 562 "words_of" 563 564 177 1 264 (.ref 265) .none (.ref 266) (.ref 267) (.ref 268) 570 571),
 (nat_lit 270,⟨(.type "function"),none,.func GN,#[]⟩),
 (nat_lit 274,cO "shortest_lengths" 573 "shortest_lengths" 574 575 185 1 271 (.ref 272) .none .none .none (.ref 273) 576 577),
 (nat_lit 275,⟨(.type "function"),none,.func GO,#[]⟩),
 (nat_lit 281,cO "made_names" 585 "made_names" 586 587 192 2 276 (.ref 277) .none (.ref 278) (.ref 279) (.ref 280) 594 595),
 (nat_lit 282,⟨(.type "function"),none,.func GP,#[]⟩),
 (nat_lit 295,cO "__init__" 609 "Plainer.__init__" 610 611 204 1 290 (.ref 291) .none (.ref 292) (.ref 293) (.ref 294) 613 614),
 (nat_lit 296,⟨(.type "function"),none,.func GQ,#[]⟩),
 (nat_lit 302,cO "put_rule" 616 "Plainer.put_rule" 617 618 207 4 297 (.ref 298) .none (.ref 299) (.ref 300) (.ref 301) 623 624),
 (nat_lit 303,⟨(.type "function"),none,.func GR,#[]⟩),
 (nat_lit 307,cO "is_part" 626 "Plainer.is_part" 627 628 210 2 304 (.ref 305) .none .none .none (.ref 306) 629 630),
 (nat_lit 308,⟨(.type "function"),none,.func GS,#[]⟩),
 (nat_lit 314,cO "grammar_and_backs" 632 "Plainer.grammar_and_backs" 633 634 213 1 309 (.ref 310) .none (.ref 311) (.ref 312) (.ref 313) 636 637),
 (nat_lit 315,⟨(.type "function"),none,.func GU,#[]⟩),
 (nat_lit 317,⟨(.type "dict"),none,.dict [en P "__module__" 604 (sT "readgrove.plainer" 579),en P "__firstlineno__" 608 (.int 202 607),en P "__init__" 615 (.ref 296),en P "put_rule" 625 (.ref 303),en P "is_part" 631 (.ref 308),en P "grammar_and_backs" 638 (.ref 315),en P "__static_attributes__" 640 (.ref 316),en P "__dict__" 642 (.ref 319),en P "__weakref__" 644 (.ref 320),en P "__doc__" 645 .none].toArray 4,#[]⟩),
 (nat_lit 318,⟨(.type "type"),none,.cls ⟨(Bx "Plainer"),[(.type "object")],[(.ref 318),(.type "object")],317,(Bx "Plainer"),true,[],[],false,none,false⟩,#[none,none,some (sT "Plainer" 597),some (sT "Plainer" 605),some (.builtin "object.__new__"),some (.bool true)]⟩),
 (nat_lit 328,cO "nothing_read" 648 "nothing_read" 649 650 215 1 323 (.ref 324) .none (.ref 325) (.ref 326) (.ref 327) 654 655),
 (nat_lit 329,⟨(.type "function"),none,.func GV,#[]⟩),
 (nat_lit 333,cO "empty_trees" 657 "empty_trees" 658 659 220 1 330 (.ref 331) .none .none .none (.ref 332) 660 661),
 (nat_lit 334,⟨(.type "function"),none,.func GW,#[]⟩),
 (nat_lit 338,cO "wordy_names" 663 "wordy_names" 664 665 223 1 335 (.ref 336) .none .none .none (.ref 337) 666 667),
 (nat_lit 339,⟨(.type "function"),none,.func GX,#[]⟩),
 (nat_lit 343,cO "thinned" 669 "thinned" 670 671 235 4 340 (.ref 341) .none .none .none (.ref 342) 672 673),
 (nat_lit 344,⟨(.type "function"),none,.func GY,#[]⟩),
 (nat_lit 350,cO "put_thinned" 675 "put_thinned" 676 677 242 5 345 (.ref 346) .none (.ref 347) (.ref 348) (.ref 349) 687 688),
 (nat_lit 351,⟨(.type "function"),none,.func GZ,#[]⟩),
 (nat_lit 357,cO "no_empty" 690 "no_empty" 691 692 248 1 352 (.ref 353) .none (.ref 354) (.ref 355) (.ref 356) 703 704),
 (nat_lit 358,⟨(.type "function"),none,.func G0,#[]⟩),
 (nat_lit 364,cO "_law_cell_at" 708 "_law_cell_at" 709 710 268 2 359 (.ref 360) .none (.ref 361) (.ref 362) (.ref 363) 713 714),
 (nat_lit 365,⟨(.type "function"),none,.func G1,#[]⟩),
 (nat_lit 371,cO "_law_stir" 716 "_law_stir" 717 718 272 2 366 (.ref 367) .none (.ref 368) (.ref 369) (.ref 370) 722 723),
 (nat_lit 372,⟨(.type "function"),none,.func G2,#[]⟩),
 (nat_lit 378,cO "_law_drawn" 725 "_law_drawn" 726 727 276 2 373 (.ref 374) .none (.ref 375) (.ref 376) (.ref 377) 733 734),
 (nat_lit 379,⟨(.type "function"),none,.func G3,#[]⟩),
 (nat_lit 385,cO "_law_unlike" 736 "_law_unlike" 737 738 286 3 380 (.ref 381) .none (.ref 382) (.ref 383) (.ref 384) 750 751),
 (nat_lit 386,⟨(.type "function"),none,.func G4,#[]⟩),
 (nat_lit 392,cO "_law_rule" 753 "_law_rule" 754 755 301 4 387 (.ref 388) .none (.ref 389) (.ref 390) (.ref 391) 763 764),
 (nat_lit 393,⟨(.type "function"),none,.func G5,#[]⟩),
 (nat_lit 397,cO "_law_rules" 766 "_law_rules" 767 768 310 3 394 (.ref 395) .none .none .none (.ref 396) 769 770),
 (nat_lit 398,⟨(.type "function"),none,.func G6,#[]⟩),
 (nat_lit 404,cO "_law_is_name" 772 "_law_is_name" 773 774 319 1 399 (.ref 400) .none (.ref 401) (.ref 402) (.ref 403) 776 777),
 (nat_lit 405,⟨(.type "function"),none,.func G7,#[]⟩),
 (nat_lit 409,cO "_law_costless" 779 "_law_costless" 780 781 321 1 406 (.ref 407) .none .none .none (.ref 408) 782 783),
 (nat_lit 410,⟨(.type "function"),none,.func G8,#[]⟩),
 (nat_lit 414,cO "_law_new_names" 785 "_law_new_names" 786 787 332 2 411 (.ref 412) .none .none .none (.ref 413) 788 789),
 (nat_lit 415,⟨(.type "function"),none,.func G9,#[]⟩),
 (nat_lit 419,cO "_law_empty_right" 791 "_law_empty_right" 792 793 341 1 416 (.ref 417) .none .none .none (.ref 418) 794 795),
 (nat_lit 420,⟨(.type "function"),none,.func HA,#[]⟩),
 (nat_lit 424,cO "law" 797 "law" 798 799 348 1 421 (.ref 422) .none .none .none (.ref 423) 800 801),
 (nat_lit 425,⟨(.type "function"),none,.func tU,#[]⟩)]
def QV:List Addr:=[nat_lit 3,nat_lit 23,nat_lit 24,nat_lit 36,nat_lit 37,nat_lit 43,nat_lit 44,nat_lit 50,nat_lit 51,nat_lit 57,nat_lit 58,nat_lit 64,nat_lit 65,nat_lit 69,nat_lit 70,nat_lit 76,nat_lit 77,nat_lit 83,nat_lit 84,nat_lit 88,nat_lit 89,nat_lit 95,nat_lit 96,nat_lit 100,nat_lit 101,nat_lit 105,nat_lit 106,nat_lit 119,nat_lit 120,nat_lit 126,nat_lit 127,nat_lit 133,nat_lit 134,nat_lit 140,nat_lit 141,nat_lit 147,nat_lit 148,nat_lit 150,nat_lit 151,nat_lit 161,nat_lit 162,nat_lit 175,nat_lit 176,nat_lit 182,nat_lit 183,nat_lit 189,nat_lit 190,nat_lit 196,nat_lit 197,nat_lit 203,nat_lit 204,nat_lit 206,nat_lit 207,nat_lit 217,nat_lit 218,nat_lit 222,nat_lit 223,nat_lit 229,nat_lit 230,nat_lit 236,nat_lit 237,nat_lit 243,nat_lit 244,nat_lit 250,nat_lit 251,nat_lit 257,nat_lit 258,nat_lit 262,nat_lit 263,nat_lit 269,nat_lit 270,nat_lit 274,nat_lit 275,nat_lit 281,nat_lit 282,nat_lit 295,nat_lit 296,nat_lit 302,nat_lit 303,nat_lit 307,nat_lit 308,nat_lit 314,nat_lit 315,nat_lit 317,nat_lit 318,nat_lit 328,nat_lit 329,nat_lit 333,nat_lit 334,nat_lit 338,nat_lit 339,nat_lit 343,nat_lit 344,nat_lit 350,nat_lit 351,nat_lit 357,nat_lit 358,nat_lit 364,nat_lit 365,nat_lit 371,nat_lit 372,nat_lit 378,nat_lit 379,nat_lit 385,nat_lit 386,nat_lit 392,nat_lit 393,nat_lit 397,nat_lit 398,nat_lit 404,nat_lit 405,nat_lit 409,nat_lit 410,nat_lit 414,nat_lit 415,nat_lit 419,nat_lit 420,nat_lit 424,nat_lit 425]
def qv:Ax:={PySem.Challenge.pw_readgrove_k60_without_empty_rules with main:={PySem.Challenge.pw_readgrove_k60_without_empty_rules.main with body:=[aP 1,aP 2,aP 4,aP 5,aP 6,aP 7,aP 8,aP 9,aP 10,aP 11,aP 12,aP 14,aP 15,aP 16,aP 17,aP 19,aP 21,aP 22,aP 23,aP 24,aP 25,aP 26,aP 27,aP 28,aP 30,aP 31,aP 33,aP 34,aP 36,aP 37,aP 38,aP 39,aP 40,aP 41,aP 42,aP 43,aP 44,aP 45,aP 47,aP 48,aP 49,aP 50,aP 51,aP 52,aP 53,aP 54,aP 55,aP 56,aP 57]}}
def hk:PySem.W.Hook:=PySem.W.kHook hpK QV (λ_=>by kernel_rfl)
theorem HB{σ α β:Type}{o:Option σ}{f:σ->α}{g:σ->β}{a:α}{b:β}(h:o.map f=some a)(k:o.map g=some b):o.map (λs=>(f s,g s))=some (a,b):=by
 cases o with
 | none=>cases h
 | some s=>cases h;cases k;rfl
set_option maxHeartbeats 0 in
open PySem.W in
theorem HC(w:Bl):(openEnds treeTable PySem.Challenge.rw_readgrove_k60_without_empty_rules.row.prog w 5648).map hk.obs=some (hk.val w):=by kernel_rfl
open PySem.W in
abbrev rNx(w:Bl):=openEnds treeTable PySem.Challenge.rw_readgrove_k60_without_empty_rules.row.prog w 5648
open PySem.W in
abbrev sNx:=λs=>openSeen qv [] (importedModules PySem.Challenge.rw_readgrove_k60_without_empty_rules.row.prog.main.body) (λs=>xlAt qv [] s&&recOk (RowW.records (OpenRow.toRowW PySem.Challenge.rw_readgrove_k60_without_empty_rules.row)) s) true s
set_option maxHeartbeats 0 in
open PySem.W in
theorem hsA(w:Bl):(rNx w).map (λs=>(sNx s).1)=some (openGood qv []).1:=by kernel_rfl
set_option maxHeartbeats 0 in
open PySem.W in
theorem hsB(w:Bl):(rNx w).map (λs=>((sNx s).2.1,(sNx s).2.2.1,(sNx s).2.2.2.1))=some ((openGood qv []).2.1,(openGood qv []).2.2.1,(openGood qv []).2.2.2.1):=by kernel_rfl
set_option maxHeartbeats 0 in
open PySem.W in
theorem hsC(w:Bl):(rNx w).map (λs=>(sNx s).2.2.2.2)=some (openGood qv []).2.2.2.2:=by kernel_rfl
theorem hlR{σ α β γ δ ε:Type}{o:Option σ}{e:σ->ε}{f:σ->α}{g:σ->β}{h:σ->γ}{k:σ->δ}{u:ε}{a:α}{b:β}{c:γ}{d:δ}(v:o.map e=some u)(x:o.map (λs=>(f s,g s,h s))=some (a,b,c))(z:o.map k=some d):o.map (λs=>(e s,f s,g s,h s,k s))=some (u,a,b,c,d):=by
 cases o with
 | none=>cases v
 | some s=>cases v;cases x;cases z;rfl
open PySem.W in
theorem mE(w:Bl):(openEnds treeTable PySem.Challenge.rw_readgrove_k60_without_empty_rules.row.prog w 5648).map (λs=>openSeen qv [] (importedModules PySem.Challenge.rw_readgrove_k60_without_empty_rules.row.prog.main.body) (λs=>xlAt qv [] s&&recOk (RowW.records (OpenRow.toRowW PySem.Challenge.rw_readgrove_k60_without_empty_rules.row)) s) true s)=some (openGood qv []):=hlR (e:=λs=>(sNx s).1) (f:=λs=>(sNx s).2.1) (g:=λs=>(sNx s).2.2.1) (h:=λs=>(sNx s).2.2.2.1) (k:=λs=>(sNx s).2.2.2.2) (hsA w) (hsB w) (hsC w)
set_option maxHeartbeats 0 in
theorem tV:PySem.Challenge.rw_readgrove_k60_without_empty_rules.wellSaid=true:=by kernel_rfl
open PySem.W in
theorem QW:LeftO PySem.Challenge.rw_readgrove_k60_without_empty_rules.row.prog qv [] (λs=>xlAt qv [] s&&recOk (RowW.records (OpenRow.toRowW PySem.Challenge.rw_readgrove_k60_without_empty_rules.row)) s) hk.obs hk.val 5648:=λw=>HB (mE w) (HC w)
end Rg
namespace L2
open PySem PySem.Spec PyProof.Rows
abbrev aF:=Sum Int Str
def n6:aF->Ae->Bool
 | .inl k,v=>Value.isInt k v
 | .inr x,v=>Value.isStrOf x v
def QX(w:Bl):aF->Int
 | .inl k=>hashInt k
 | .inr x=>hashStr w x
theorem kU:∀{k:aF} {v:Ae},n6 k v=true->(∃i t,k=Sum.inl i/\v=Value.int i t)\/(∃x t,k=Sum.inr x/\v=Value.str x t)
 | .inl i,v,h=>by
  obtain⟨t,e⟩:=Value.isInt_shape (k:=i) (v:=v) h;exact .inl ⟨i,t,rfl,e⟩
 | .inr x,v,h=>by
  obtain⟨t,e⟩:=Value.isStrOf_shape (x:=x) (v:=v) h;exact .inr ⟨x,t,rfl,e⟩
theorem QY(i:Int)(t:Tok):n6 (.inl i) (.int i t)=true:=by simp[n6,Value.isInt]
theorem QZ(x:Str)(t:Tok):n6 (.inr x) (.str x t)=true:=by simp[n6,Value.isStrOf]
theorem Q0(a b:Int):decide ((Sum.inl a:aF)=Sum.inl b)=(a==b):=by
 by_cases e:a=b
 .subst e;simp
 .have h:¬(Sum.inl a:aF)=Sum.inl b:=λq=>e (Sum.inl.inj q);rw[decide_eq_false h];exact(beq_eq_false_iff_ne.mpr e).symm
theorem Q1(a b:Str):decide ((Sum.inr a:aF)=Sum.inr b)=decide (a=b):=by
 by_cases e:a=b
 .subst e;simp
 .have h:¬(Sum.inr a:aF)=Sum.inr b:=λq=>e (Sum.inr.inj q);rw[decide_eq_false h,decide_eq_false e]
theorem Q2(a:Int)(b:Str):decide ((Sum.inl a:aF)=Sum.inr b)=false:=decide_eq_false (λq=>nomatch q)
theorem Q3(a:Str)(b:Int):decide ((Sum.inr a:aF)=Sum.inl b)=false:=decide_eq_false (λq=>nomatch q)
def b7(prog:Ax)(w:Bl):PySem.KeyKind prog w aF where
 is:=n6
 hash:=QX w
 inj:=λv a b ha hb=>by
  rcases kU ha with⟨i,t,rfl,rfl⟩|⟨x,t,rfl,rfl⟩
  .rcases kU hb with⟨j,u,rfl,e⟩|⟨y,u,rfl,e⟩
   .injection e with e1 _;rw[e1]
   .exact nomatch e
  .rcases kU hb with⟨j,u,rfl,e⟩|⟨y,u,rfl,e⟩
   .exact nomatch e
   .injection e with e1 _;rw[e1]
 byValue:=λk v h=>by
  rcases kU h with⟨i,t,rfl,rfl⟩|⟨x,t,rfl,rfl⟩<;>rfl
 pyHash:=λhv h=>by
  rcases kU hv with⟨i,t,rfl,rfl⟩|⟨x,t,rfl,rfl⟩
  .exact wpAny_pyHash_int h
  .exact wpAny_pyHash_str h
 eqBool:=λhu hv h=>by
  rcases kU hu with⟨i,t,rfl,rfl⟩|⟨x,t,rfl,rfl⟩
  .rcases kU hv with⟨j,u,rfl,rfl⟩|⟨y,u,rfl,rfl⟩
   .rw[Q0]at h;exact Kg h
   .rw[Q2]at h;exact SeqAt.EqAt.int_str i t y u _ _ _ _ h
  .rcases kU hv with⟨j,u,rfl,rfl⟩|⟨y,u,rfl,rfl⟩
   .rw[Q3]at h;exact SeqAt.EqAt.str_int x t j u _ _ _ _ h
   .rw[Q1]at h;exact wpAny_eqBool_str h
 «strs»:=λk x t v h=>by
  rcases kU h with⟨i,u,rfl,e⟩|⟨y,u,rfl,e⟩
  .exact nomatch e
  .injection e with e1 _;subst e1;cases v<;>rfl
theorem Q4(prog:Ax)(w:Bl)(i:Int)(t:Tok):(b7 prog w).is (.inl i) (.int i t)=true:=QY i t
theorem Q5(prog:Ax)(w:Bl)(x:Str)(t:Tok):(b7 prog w).is (.inr x) (.str x t)=true:=QZ x t
inductive V where
 | non|bl (b:Bool)|int (i:Int)|str (x:Str)|byt (b:Array UInt8)|flt (b:UInt64)|ref (a:Addr)|ty (n:String)
 deriving DecidableEq
def RelV:V->Ae->Prop
 | .non,u=>u=Value.none
 | .bl b,u=>u=Value.bool b
 | .int i,u=>∃t,u=Value.int i t
 | .str x,u=>∃t,u=Value.str x t
 | .byt b,u=>∃t,u=Value.bytes b t
 | .flt b,u=>∃t,u=Value.float b t
 | .ref a,u=>u=Value.ref a
 | .ty n,u=>u=Value.type n
abbrev a7:List V->List Ae->Prop:=Es RelV
theorem a7.length{xs:List V}{us:List Ae}(r:a7 xs us):xs.length=us.length:=Cw r
theorem a7.get:∀{xs:List V} {us:List Ae} {i:Nat} {x:V},a7 xs us->xs[i]? = some x->∃u,us[i]? = some u/\RelV x u
 | _,_,_,_,.nil,e=>by simp at e
 | _,_,0,_,.cons r _,e=>by simp at e;subst e;exact⟨_,rfl,r⟩
 | _,_,i+1,x,.cons _ t,e=>by
  obtain⟨u,h1,h2⟩:=a7.get (i:=i) (x:=x) t (by simpa using e);exact⟨u,by simpa using h1,h2⟩
theorem a7.set{x:V}{u:Ae}(r:RelV x u):∀{xs:List V} {us:List Ae} (i:Nat),a7 xs us->a7 (xs.set i x) (us.set i u)
 | _,_,_,.nil=>.nil
 | _,_,0,.cons _ t=>.cons r t
 | _,_,i+1,.cons q t=>.cons q (a7.set r i t)
theorem a7.append:∀{xs ys:List V} {us ws:List Ae},a7 xs us->a7 ys ws->a7 (xs++ys) (us++ws)
 | _,_,_,_,.nil,s=>s
 | _,_,_,_,.cons r t,s=>.cons r (a7.append t s)
theorem a7.take:∀{xs:List V} {us:List Ae} (n:Nat),a7 xs us->a7 (xs.take n) (us.take n)
 | _,_,0,_=>.nil
 | _,_,_+1,.nil=>.nil
 | _,_,n+1,.cons r t=>.cons r (a7.take n t)
theorem a7.drop:∀{xs:List V} {us:List Ae} (n:Nat),a7 xs us->a7 (xs.drop n) (us.drop n)
 | _,_,0,r=>r
 | _,_,_+1,.nil=>.nil
 | _,_,n+1,.cons _ t=>a7.drop n t
def fY:Option V->Option Ae->Prop
 | some v,some u=>RelV v u
 | none,none=>True
 | _,_=>False
def KV{κ:Type}:List (κ×V)->List (κ×Ae)->Prop:=Es λ(p:κ×V) (q:κ×Ae)=>p.1=q.1/\RelV p.2 q.2
def kV:aF->V
 | .inl i=>.int i
 | .inr x=>.str x
inductive HO where
 | lst (xs:List V)
 | tup (xs:List V)
 | dK (kvs:List (aF×V))|dT (kvs:List (List aF×V))
 | set (S:Int->Bool) (n:Nat)
 | ins (C dx:Addr) (fs:List (Str×V))
 | own (x:Addr)
 | xd (fs:List (Str×V))
 | met (f x:Addr)
 | rng (lo hi:Int)
 | frz (o:Obj) (u:HO)
 | tbl (ps:Array Ae)
 | ext (φ:Heap->Prop)
abbrev Hp:=Addr->Option HO
def aT(H:Hp)(a:Addr)(o:HO):Hp:=λb=>if b=a then some o else H b
theorem cU{H:Hp}{a:Addr}{o:HO}:aT H a o a=some o:=by unfold aT;rw[if_pos rfl]
theorem bD{H:Hp}{a b:Addr}{o:HO}(h:b≠a):aT H a o b=H b:=by unfold aT;rw[if_neg h]
theorem tW{H:Hp}{a b:Addr}{o u:HO}(h:H a=some o)(h':H b=some u)(d:o≠u):a≠b:=by
 intro e;subst e;rw[h]at h';exact d (Ci h')
theorem fP{H:Hp}{a b:Addr}{o:HO}(h:H a=some o)(h':H b=none):a≠b:=by
 intro e;subst e;rw[h]at h';cases h'
section
variable (P:Ax)(w:Bl)
def cC(H:Hp)(h:Heap)(a:Addr):HO->Prop
 | .lst xs=>xs.length<=An/\∃(its:List Ae) (n:Nat),a7 xs its/\h.get? a=some {cls:=.type "list",data:=.seq its.toArray n}
 | .tup xs=>xs.length<=An/\∃its:List Ae,a7 xs its/\IsTup h a its.toArray
 | .dK kvs=>kvs.length<=An/\(a==Ep)=false/\∃vs,KV kvs vs/\h.DictOf (b7 P w) a vs
 | .dT kvs=>kvs.length<=An/\(a==Ep)=false/\∃xs:List (List aF×Addr×Ae),
   Es (λ(p:List aF×V) (q:List aF×Addr×Ae)=>p.1=q.1/\H q.2.1=some (.tup (p.1.map kV))/\RelV p.2 q.2.2) kvs xs/\
   ∃o es ep,h.get? a=some o/\o.ExactDict/\o.data=.dict es ep/\es.toList=xs.map (entryOfKey (Fy (b7 P w)))/\(xs.map (·.1)).Nodup
 | .set S n=>h.SetOf (intKind P w) a S n
 | .ins C dx fs=>H dx=some (.own a)/\fs.length<=1000/\dx≠a/\h.get? a=some (Gm C dx)/\
   ∃mA,h.Ns1 dx mA/\(∀f,fY (fs.lookup f) (mA f))/\PySem.Within mA (fs.map (·.1))
 | .own _=>∃o,h.get? a=some o
 | .xd fs=>∃mA,h.Ns1 a mA/\∀f,fY (fs.lookup f) (mA f)
 | .rng lo hi=>∃t u v,h.get? a=some {cls:=.type "range",data:=.fields #[.int lo t,.int hi u,.int 1 v]}
 | .frz o u=>h.get? a=some o/\cC H h a u
 | .tbl ps=>h.get? a=some {cls:=.none,data:=.fields ps}
 | .met f x=>h.get? a=some (PySem.W.methodObj (.ref f) (.ref x))
 | .ext φ=>φ h/\(∃o,h.get? a=some o)/\∀h1 h2:Heap,φ h1->(∀o,h1.get? a=some o->h2.get? a=some o)->φ h2
def c9(H:Hp)(h:Heap):Prop:=∀a o,H a=some o->cC P w H h a o
end
section
variable {P:Ax}{w:Bl}{H H':Hp}{h h':Heap}{a:Addr}{o:HO}
theorem cC.lt(x:cC P w H h a o):a<h.objs.size:=by
 cases o with
 | lst xs=>obtain⟨_,_,_,_,e⟩:=x;exact Be e
 | tup xs=>obtain⟨_,_,_,p⟩:=x;exact p.lt
 | dK kvs=>obtain⟨_,_,_,_,o,_,_,e,_⟩:=x;exact Be e
 | dT kvs=>obtain⟨_,_,_,_,o,_,_,e,_⟩:=x;exact Be e
 | set S n=>obtain⟨o,_,_,_,e,_⟩:=x;exact Be e
 | ins C dx fs=>obtain⟨_,_,_,e,_⟩:=x;exact Be e
 | own y=>obtain⟨_,e⟩:=x;exact Be e
 | xd fs=>obtain⟨_,⟨_,_,_,e,_⟩,_⟩:=x;exact Be e
 | rng lo hi=>obtain⟨_,_,_,e⟩:=x;exact Be e
 | frz ob u=>obtain⟨e,_⟩:=x;exact Be e
 | tbl ps=>exact Be (show h.get? a=some _ from x)
 | met f y=>exact Be (show h.get? a=some _ from x)
 | ext φ=>obtain⟨_,⟨_,e⟩,_⟩:=x;exact Be e
theorem Paired.mapP{α β:Type}{F G:α->β->Prop}:∀{l₁:List α} {l₂:List β},Es F l₁ l₂->(∀a b,F a b->G a b)->Es G l₁ l₂
 | _,_,.nil,_=>.nil
 | _,_,.cons r t,f=>.cons (f _ _ r) (Paired.mapP t f)
theorem cC.stay(x:cC P w H h a o)(k:∀b u,(b=a\/H b=some (.own a))->h.get? b=some u->h'.get? b=some u)(ho:∀b,H b=some (.own a)->H' b=some (.own a))(ht:∀b xs,H b=some (.tup xs)->H' b=some (.tup xs)):cC P w H' h' a o:=by
 induction o with
 | lst xs=>obtain⟨z,its,n,r,e⟩:=x;exact⟨z,its,n,r,k _ _ (.inl rfl) e⟩
 | tup xs=>obtain⟨z,its,r,ob,e,c⟩:=x;exact⟨z,its,r,ob,k _ _ (.inl rfl) e,c⟩
 | dK kvs=>obtain⟨z,y,vs,r,ob,es,ep,e,c⟩:=x;exact⟨z,y,vs,r,ob,es,ep,k _ _ (.inl rfl) e,c⟩
 | dT kvs=>
  obtain⟨z,y,xs,r,ob,es,ep,e,c⟩:=x;exact⟨z,y,xs,Paired.mapP r λp q z=>⟨z.1,ht _ _ z.2.1,z.2.2⟩,ob,es,ep,k _ _ (.inl rfl) e,c⟩
 | set S n=>obtain⟨ob,es,ep,t,e,c⟩:=x;exact⟨ob,es,ep,t,k _ _ (.inl rfl) e,c⟩
 | ins C dx fs=>
  obtain⟨d,z,ne,e,mA,⟨od,es,ep,e2,c⟩,r⟩:=x;exact⟨ho _ d,z,ne,k _ _ (.inl rfl) e,mA,⟨od,es,ep,k _ _ (.inr d) e2,c⟩,r⟩
 | own y=>obtain⟨ob,e⟩:=x;exact⟨ob,k _ _ (.inl rfl) e⟩
 | xd fs=>obtain⟨mA,⟨od,es,ep,e,c⟩,r⟩:=x;exact⟨mA,⟨od,es,ep,k _ _ (.inl rfl) e,c⟩,r⟩
 | rng lo hi=>obtain⟨t,u,v,e⟩:=x;exact⟨t,u,v,k _ _ (.inl rfl) e⟩
 | frz ob u ih=>obtain⟨e,q⟩:=x;exact⟨k _ _ (.inl rfl) e,ih q⟩
 | tbl ps=>
  have e:h.get? a=some {cls:=.none,data:=.fields ps}:=x;show h'.get? a=some {cls:=.none,data:=.fields ps};exact k a _ (.inl rfl) e
 | met f y=>
  have e:h.get? a=some (PySem.W.methodObj (.ref f) (.ref y)):=x;show h'.get? a=some (PySem.W.methodObj (.ref f) (.ref y));exact k a _ (.inl rfl) e
 | ext φ=>obtain⟨p,⟨o,e⟩,st⟩:=x;exact⟨st _ _ p λo q=>k _ _ (.inl rfl) q,⟨o,k _ _ (.inl rfl) e⟩,st⟩
theorem c9.lt(x:c9 P w H h)(e:H a=some o):a<h.objs.size:=(x a o e).lt
theorem c9.fresh(x:c9 P w H h)(e:h.objs.size<=a):H a=none:=by
 cases q:H a with
 | none=>rfl
 | some u=>exact absurd (Cf (x.lt q) e) (Hl _)
theorem c9.kept(x:c9 P w H h)(k:∀b u,h.get? b=some u->h'.get? b=some u):c9 P w H h':=λa o e=>
 (x a o e).stay (λb u _ q=>k b u q) (λ_ q=>q) λ_ _ q=>q
theorem c9.laid(x:c9 P w H h)(k:∀b u,h.get? b=some u->h'.get? b=some u)(hp:h.objs.size<=a)(new:cC P w (aT H a o) h' a o):c9 P w (aT H a o) h':=λb u e=>by
 have hn:=x.fresh hp
 by_cases hb:b=a
 .subst hb;rw[cU]at e;cases e;exact new
 .rw[bD hb]at e;exact(x b u e).stay (λc v _ q=>k c v q) (λc q=>by rw[bD (fP q hn)];exact q) λc xs q=>by rw[bD (fP q hn)];exact q
end
def Rd(H:Hp)(a:Addr)(u:HO):Prop:=H a=some u\/∃o,H a=some (.frz o u)
theorem Rd.ok{P:Ax}{w:Bl}{H:Hp}{h:Heap}{a:Addr}{u:HO}(r:Rd H a u)(x:c9 P w H h):cC P w H h a u:=by
 rcases r with r|⟨o,r⟩
 .exact x a u r
 .obtain⟨_,q⟩:=x a _ r;exact q
def rO:Option HO->Prop
 | some (.lst _)=>True
 | some (.dK _)=>True
 | some (.dT _)=>True
 | some (.set _ _)=>True
 | some (.ins _ _ _)=>True
 | some (.ext _)=>True
 | _=>False
section
variable {P:Ax}{w:Bl}{H:Hp}{h h':Heap}{x e:Addr}{o':HO}
theorem c9.write(ok:c9 P w H h)(i:rO (H x))(m:e=x\/H e=some (.own x))(k:∀b u,b≠e->h.get? b=some u->h'.get? b=some u)(j:∃u,h'.get? e=some u)(new:cC P w (aT H x o') h' x o'):c9 P w (aT H x o') h':=λb u q=>by
 have d:∀c y,H c=some (.own y)->c≠x:=λc y r z=>by subst z;rw[r]at i;exact i
 have f:∀c xs,H c=some (.tup xs)->c≠x:=λc xs r z=>by subst z;rw[r]at i;exact i
 by_cases g:b=x
 .subst g;rw[cU]at q;cases q;exact new
 .rw[bD g]at q
  by_cases a:b=e
  .have l:H b=some (.own x):=by
    rcases m with z|z
    .exact absurd (a.trans z) g
    .rw[a];exact z
   rw[q]at l;cases l;obtain⟨v,n⟩:=j;exact⟨v,by rw[a];exact n⟩
  .refine(ok b u q).stay (λc v hc r=>k c v ?_ r) (λc r=>by rw[bD (d c b r)];exact r) λc xs r=>by rw[bD (f c xs r)];exact r
   rcases hc with rfl|hc
   .exact a
   .rintro rfl;rcases m with z|z
    .exact d c b hc z
    .rw[hc]at z;cases z;exact g rfl
end
structure Un(fs ex:List Addr)(H H':Hp)(h h':Heap):Prop where
 keep:∀b o,h.get? b=some o->H b=none->b∉fs->b∉ex->h'.get? b=some o
 slot:∀b o,h.get? b=some o->H b=none->b∈fs->b∉ex->∃sl,h'.get? b=some {o with slots:=sl}
 free:∀b o,h.get? b=some o->H b=none->b∉ex->H' b=none
 there:∀b o,h.get? b=some o->b∉ex->∃o',h'.get? b=some o'
 tups:∀b xs,H b=some (.tup xs)->H' b=some (.tup xs)
 frzs:∀b o u,H b=some (.frz o u)->H' b=some (.frz o u)
 tbls:∀b ps,H b=some (.tbl ps)->∃more,H' b=some (.tbl (ps++more))
section
variable {fs fs' ex ex':List Addr}{H H1 H2:Hp}{h h1 h2 h':Heap}{a x e:Addr}{o:HO}
theorem Un.any(u:Un fs ex H H1 h h1)(q:h.get? b=some ob)(n:H b=none)(c:b∉ex):∃sl,h1.get? b=some {ob with slots:=sl}:=by
 by_cases a:b∈fs
 .exact u.slot b ob q n a c
 .exact⟨ob.slots,u.keep b ob q n a c⟩
theorem Un.kept(k:∀b u,h.get? b=some u->h'.get? b=some u):Un fs ex H H h h':=
 ⟨λb ob q _ _ _=>k b ob q,λb ob q _ _ _=>⟨ob.slots,k b ob q⟩,λ_ _ _ n _=>n,λb ob q _=>⟨ob,k b ob q⟩,λ_ _ q=>q,λ_ _ _ q=>q,λ_ ps q=>⟨#[],by rw[q];simp⟩⟩
theorem Un.refl:Un fs ex H H h h:=Un.kept λ_ _ q=>q
theorem Un.laid(k:∀b u,h.get? b=some u->h'.get? b=some u)(d:h.objs.size<=a)(c:H a=none):Un fs ex H (aT H a o) h h' where
 keep:=λb u q _ _ _=>k b u q
 slot:=λb u q _ _ _=>⟨u.slots,k b u q⟩
 free:=λb u q n _=>by rw[bD (Bn (Cf (Be q) d))];exact n
 there:=λb u q _=>⟨u,k b u q⟩
 tups:=λb xs q=>by rw[bD (fP q c)];exact q
 frzs:=λb u xs q=>by rw[bD (fP q c)];exact q
 tbls:=λb ps q=>⟨#[],by rw[bD (fP q c),q];simp⟩
theorem Un.write(c:rO (H x))(j:e=x\/H e=some (.own x))(k:∀b u,b≠e->h.get? b=some u->h'.get? b=some u)(d:∃u,h'.get? e=some u):Un fs ex H (aT H x o) h h':=by
 have g:∀b,H b=none->b≠x:=λb n z=>by subst z;rw[n]at c;exact c
 have i:∀b,H b=none->b≠e:=λb n z=>by
  subst z;rcases j with r|r
  .exact g b n r
  .rw[n]at r;cases r
 have f:∀b u,H b=some u->¬rO (some u)->b≠x:=λb u q nm z=>by subst z;rw[q]at c;exact nm c
 refine⟨λb u q n _ _=>k b u (i b n) q,λb u q n _ _=>⟨u.slots,k b u (i b n) q⟩,λb u q n _=>by rw[bD (g b n)];exact n,λb u q _=>?_,
  λb xs q=>by rw[bD (f b _ q λz=>z)];exact q,λb u xs q=>by rw[bD (f b _ q λz=>z)];exact q,λb ps q=>⟨#[],by rw[bD (f b _ q λz=>z),q];simp⟩⟩
 by_cases a:b=e
 .subst a;exact d
 .exact⟨u,k b u a q⟩
end
def tX(h:Heap)(H:Hp):List Addr:=(Cr h.objs.size).filter λa=>(H a).isSome
def mF(h:Heap)(H:Hp):Heap:=PySem.W.hideAll h (tX h H)
theorem Q6(h:Heap)(H:Hp):(mF h H).objs.size=h.objs.size:=PySem.W.hideAll_size _ _
theorem Q7(e:h.get? b=some o)(n:H b=none):(mF h H).get? b=some o:=
 PySem.W.hideAll_get _ e λa=>by
  have q:(H b).isSome=true:=(Dj.mp a).2;rw[n]at q;simp at q
theorem Q8(e:(mF h H).get? b=some o):h.get? b=some o/\H b=none:=by
 have a:h.get? b=some o:=PySem.W.of_hideAll (tX h H) e;refine⟨a,?_⟩;cases q:H b with
 | none=>rfl
 | some x=>
  have c:b∈tX h H:=Dj.mpr ⟨Gg.mpr (Be a),by simp[q]⟩;have z:(mF h H).get? b=none:=PySem.W.hideAll_none (tX h H) c;rw[z]at e;cases e
structure Mod(K:Ac)(mg:Str->Option Ae)(base:Heap):Prop where
 kin:K.In base
 glob:base.Ns Ee mg
 blt:∃mb,base.Ns builtinsNs mb/\∀x:Str,x≠"__name__"->mb x=Cy x
 nolimit:base.NoLimit
structure Cx where
 prog:Ax
 w:Bl
 K:Ac
 mg:Str->Option Ae
 base:Heap
 A:Cs
 N:List Str
 s₀:Ah
 H₀:Hp
 env:Env
 outer:List Env
 stack:List Env
 ex:List Addr
 fn:Str->Bool
 calm:Bool
 pn:List (Addr×Obj)
 xe:Ae->Ah->Prop
def iZ(l:List Env):List Addr:=l.filterMap (·.frame)
abbrev Cx.fs(X:Cx):List Addr:=iZ X.outer
def tY(sc:Jg)(x:Str):Prop:=sc.names.lookup x=some .local\/sc.names.lookup x=some .cell\/sc.names.lookup x=some .free
def Loc(sc:Jg)(x:Str):Prop:=sc.names.lookup x=some .local\/sc.names.lookup x=some .cell
def Look(env:Env)(h:Heap)(m:Str->Option Ae)(x:Str)(u:Ae):Prop:=
 (env.kindOf x=some .local/\m x=some u)\/((env.kindOf x=some .cell\/env.kindOf x=some .free)/\∃c,env.cells.lookup x=some c/\h.IsCell c (some u))
structure Cx.Ok(X:Cx):Prop where
 mod:Mod X.K X.mg X.base
 kind:X.env.scope.kind=.function
 glob:X.env.globals=Ee
 blt:X.env.builtins=builtinsNs
 above:X.s₀.heap.objs.size<=X.env.locals
 inj:∀x y c,X.env.cells.lookup x=some c->X.env.cells.lookup y=some c->x=y
 has:∀x,(X.env.kindOf x=some .cell\/X.env.kindOf x=some .free)->∃c,X.env.cells.lookup x=some c
 cab:∀x c,X.fn x=true->X.env.cells.lookup x=some c->X.s₀.heap.objs.size<=c
 hd:X.calm=true->X.A.handled=none
 frames:X.A.frames=some X.stack
 stk:X.stack=X.outer\/(X.stack=X.env::X.outer/\X.env.frame=some X.env.locals)
 exf:∀b∈X.ex,b≠X.env.locals/\∀x c,X.env.cells.lookup x=some c->c≠b
 bs:∀b o,X.base.get? b=some o->X.s₀.heap.get? b=some o/\X.H₀ b=none
 bsz:X.base.objs.size<=X.s₀.heap.objs.size
 noex:∀b o,X.base.get? b=some o->b∉X.ex
 exfs:∀b∈X.ex,b∉X.fs
 funs:X.s₀.heap.FunFrames X.base X.outer
 frf:∀b∈X.fs,X.H₀ b=none
structure Inv(X:Cx)(pins:List (Addr×Obj))(σ:List (Option V))(H:Hp)(s:Ah):Prop where
 ok:X.Ok
 os:s.os=X.s₀.os
 bare:My s.gens
 base:Un X.fs X.ex X.H₀ H X.s₀.heap s.heap
 loc:∃m,s.heap.Ns X.env.locals m/\∀(i:Nat) (x:Str) (v:V),X.N[i]? = some x->σ[i]? = some (some v)->tY X.env.scope x->∃u,RelV v u/\Look X.env s.heap m x u
 cell:∀x c,X.env.cells.lookup x=some c->∃v,s.heap.IsCell c v
 free:H X.env.locals=none
 freeC:∀x c,X.env.cells.lookup x=some c->H c=none
 pin:∀p∈X.pn++pins,s.heap.get? p.1=some p.2/\H p.1=none/\p.1≠X.env.locals/\p.1∉X.fs/\∀v,p.2.data≠.cell v
 hok:c9 X.prog X.w H s.heap
 len:σ.length=X.N.length
section
variable {X:Cx}{pins:List (Addr×Obj)}{σ:List (Option V)}{H H':Hp}{s:Ah}{h':Heap}
theorem Cx.Ok.nofr(ok:X.Ok)(e:X.base.get? b=some o):b∉X.fs:=λa=>by
 have:=(ok.funs.mem a).1;rw[e]at this;cases this
theorem Inv.bs(I:Inv X pins σ H s):∀b o,X.base.get? b=some o->s.heap.get? b=some o/\H b=none:=λb o e=>
 ⟨I.base.keep b o (I.ok.bs b o e).1 (I.ok.bs b o e).2 (I.ok.nofr e) (I.ok.noex b o e),I.base.free b o (I.ok.bs b o e).1 (I.ok.bs b o e).2 (I.ok.noex b o e)⟩
theorem Inv.bk(I:Inv X pins σ H s):∀b o,X.base.get? b=some o->s.heap.get? b=some o:=λb o e=>(I.bs b o e).1
theorem Inv.mod(I:Inv X pins σ H s):Mod X.K X.mg X.base:=I.ok.mod
theorem Inv.kIn(I:Inv X pins σ H s):X.K.In s.heap:=I.ok.mod.kin.keeps I.bk
theorem Inv.lt(I:Inv X pins σ H s):X.env.locals<s.heap.objs.size:=let ⟨_,hn,_⟩:=I.loc;hn.lt
theorem Inv.sz(I:Inv X pins σ H s):X.s₀.heap.objs.size<=s.heap.objs.size:=Ay I.ok.above (Jo I.lt)
theorem Inv.nofs(I:Inv X pins σ H s)(h:s.heap.objs.size<=a):a∉X.fs:=λb=>by
 obtain⟨_,o,c,_⟩:=I.ok.funs.mem b;exact absurd (Cf (Be c) (Ay I.sz h)) (Hl _)
theorem Inv.cne(I:Inv X pins σ H s):∀x c,X.env.cells.lookup x=some c->c≠X.env.locals:=λx c e z=>by
 obtain⟨v,o,d,hd⟩:=I.cell x c e;obtain⟨m,⟨o',es,ep,b,a,_⟩,_⟩:=I.loc;rw[z,b]at d;cases d;rw[a]at hd;cases hd
theorem Inv.funs(I:Inv X pins σ H s):s.heap.FunFrames X.base X.outer:=by
 have all:∀(l:List Env),(∀b∈iZ l,b∈X.fs)->X.s₀.heap.FunFrames X.base l->s.heap.FunFrames X.base l:=by
  intro l
  induction l with
  | nil=>intro _ _;trivial
  | cons env r h=>
   intro d hl;obtain⟨hk,⟨L,o,hf,f,g,hd⟩,i⟩:=hl;have a:L∈X.fs:=d L (by unfold iZ;rw[Ed,hf];exact Az);obtain⟨sl,e⟩:=I.base.slot L o g (I.ok.frf L a) a λz=>I.ok.exfs L z a;exact⟨hk,⟨L,_,hf,f,e,hd⟩,h (λb c=>d b (by unfold iZ;rw[Ed,hf];exact Ar _ c)) i⟩
 exact all X.outer (λ_ c=>c) I.ok.funs
theorem Inv.stack(I:Inv X pins σ H s):s.heap.FunFrames X.base X.stack:=by
 rcases I.ok.stk with e|⟨e,hf⟩
 .rw[e];exact I.funs
 .rw[e];obtain⟨m,a,_⟩:=I.loc;refine .cons (by rw[I.ok.kind];decide) hf a ?_ I.funs;exact Heap.get?_none_of_le (Ay I.ok.bsz I.ok.above)
theorem Inv.stkSub(I:Inv X pins σ H s):∀b∈iZ X.stack,b∈X.env.locals::X.fs:=λb a=>by
 rcases I.ok.stk with e|⟨e,hf⟩
 .rw[e]at a;exact Ar _ a
 .rw[e]at a;unfold iZ at a;rw[Ed,hf]at a;exact a
theorem Inv.stkFree(I:Inv X pins σ H s):∀b∈iZ X.stack,H b=none:=λb a=>by
 rcases Ba.mp (I.stkSub b a) with e|a
 .rw[e];exact I.free
 .obtain⟨_,o,c,_⟩:=I.ok.funs.mem a;exact I.base.free b o c (I.ok.frf b a) λz=>I.ok.exfs b z a
theorem Inv.step{g':Array GenState}{t':Nat}{d':Drawn}{ch:List Addr}(I:Inv X pins σ H s)(h:∀b∈ch,(b∈X.ex\/X.s₀.heap.objs.size<=b)/\b≠X.env.locals/\(∀x c,X.env.cells.lookup x=some c->c≠b)/\∀p∈X.pn++pins,p.1≠b)(keep:∀b o,b≠X.env.locals->b∉X.fs->b∉ch->s.heap.get? b=some o->H b=none->h'.get? b=some o)(slot:∀b o,b≠X.env.locals->b∈X.fs->b∉ch->s.heap.get? b=some o->H b=none->∃sl,h'.get? b=some {o with slots:=sl})(free:∀b o,b∉ch->s.heap.get? b=some o->H b=none->H' b=none)(there:∀b o,b∉ch->s.heap.get? b=some o->∃o',h'.get? b=some o')(tups:∀b xs,H b=some (.tup xs)->H' b=some (.tup xs))(frzs:∀b o u,H b=some (.frz o u)->H' b=some (.frz o u))(tbls:∀b ps,H b=some (.tbl ps)->∃more,H' b=some (.tbl (ps++more)))(ns:∀m,s.heap.Ns X.env.locals m->h'.Ns X.env.locals m)(hok:c9 X.prog X.w H' h')(K:My g'):
  Inv X pins σ H' {s with heap:=h',gens:=g',drawn:=d',toks:=t'}:=by
 have B:∀b o,X.s₀.heap.get? b=some o->b≠X.env.locals:=λb o e=>Bn (Cf (Be e) I.ok.above);have j:∀b o,X.s₀.heap.get? b=some o->b∉X.ex->b∉ch:=λb o e a y=>by
  rcases(h b y).1 with z|z
  .exact a z
  .exact absurd (Cf (Be e) z) (Hl _)
 have f:∀x c,X.env.cells.lookup x=some c->∀v,s.heap.IsCell c v->h'.IsCell c v:=λx c e v ⟨o,A,hd⟩=>by
  have g:c∉ch:=λz=>(h c z).2.2.1 x c e rfl
  by_cases hc:c∈X.fs
  .obtain⟨sl,q⟩:=slot c o (I.cne x c e) hc g A (I.freeC x c e);exact⟨_,q,hd⟩
  .exact⟨o,keep c o (I.cne x c e) hc g A (I.freeC x c e),hd⟩
 refine⟨I.ok,I.os,K,⟨λb o e n y a=>?_,λb o e n y a=>?_,λb o e n a=>?_,λb o e a=>?_,λb xs e=>tups b xs (I.base.tups b xs e),λb o xs e=>frzs b o xs (I.base.frzs b o xs e),λb ps e=>?_⟩,?_,λx c e=>?_,?_,λx c e=>?_,λp F=>?_,hok,I.len⟩
 .exact keep b o (B b o e) y (j b o e a) (I.base.keep b o e n y a) (I.base.free b o e n a)
 .obtain⟨sl,t⟩:=I.base.slot b o e n y a;obtain⟨D,C⟩:=slot b _ (B b o e) y (j b o e a) t (I.base.free b o e n a);exact⟨D,C⟩
 .obtain⟨o',t⟩:=I.base.there b o e a;exact free b o' (j b o e a) t (I.base.free b o e n a)
 .obtain⟨o',t⟩:=I.base.there b o e a;exact there b o' (j b o e a) t
 .obtain⟨G,t⟩:=I.base.tbls b ps e;obtain⟨M,C⟩:=tbls b _ t;exact⟨G++M,by rw[C,Array.append_assoc]⟩
 .obtain⟨m,J,hl⟩:=I.loc;refine⟨m,ns m J,λi x v t C L=>?_⟩;obtain⟨u,r,l⟩:=hl i x v t C L;refine⟨u,r,?_⟩;rcases l with l|⟨k,c,e,z⟩
  .exact .inl l
  .exact .inr ⟨k,c,e,f x c e _ z⟩
 .obtain⟨v,z⟩:=I.cell x c e;exact⟨v,f x c e v z⟩
 .obtain⟨m,⟨o,_,_,A,_⟩,_⟩:=I.loc;exact free _ o (λz=>(h _ z).2.1 rfl) A I.free
 .obtain⟨v,o,A,hd⟩:=I.cell x c e;exact free c o (λz=>(h c z).2.2.1 x c e rfl) A (I.freeC x c e)
 .obtain⟨e,n,ne,E,d⟩:=I.pin p F;have g:p.1∉ch:=λz=>(h p.1 z).2.2.2 p F rfl;exact⟨keep p.1 p.2 ne E g e n,free p.1 p.2 g e n,ne,E,d⟩
theorem Inv.un{t':Nat}(I:Inv X pins σ H s)(u:Un X.fs [] H H' s.heap h')(hok:c9 X.prog X.w H' h'):Inv X pins σ H' {s with heap:=h',toks:=t'}:=by
 obtain⟨m,⟨o,es,ep,g,r⟩,_⟩:=id I.loc;obtain⟨sl,h⟩:=u.any g I.free (by simp);exact I.step (g':=s.gens) (d':=s.drawn) (ch:=[]) (λ_ z=>nomatch z) (λb o _ c _ e n=>u.keep b o e n c (by simp)) (λb o _ c _ e n=>u.slot b o e n c (by simp)) (λb o _ e n=>u.free b o e n (by simp)) (λb o _ e=>u.there b o e (by simp)) u.tups u.frzs u.tbls (λk i=>by
  obtain⟨o',d,f,a,j⟩:=i;rw[g]at a;cases a;exact⟨_,d,f,h,j⟩) hok I.bare
theorem Inv.call{g':Array GenState}{t':Nat}{d':Drawn}{ch:List Addr}(I:Inv X pins σ H s)(u:Un (iZ X.stack) ch H H' s.heap h')(hok:c9 X.prog X.w H' h')(q:My g')(d:∀b∈ch,(b∈X.ex\/X.s₀.heap.objs.size<=b)/\b≠X.env.locals/\(∀x c,X.env.cells.lookup x=some c->c≠b)/\∀p∈X.pn++pins,p.1≠b):
  Inv X pins σ H' {s with heap:=h',gens:=g',drawn:=d',toks:=t'}:=by
 obtain⟨m,⟨o,es,ep,i,r⟩,_⟩:=id I.loc;obtain⟨sl,g⟩:=u.any i I.free λz=>(d _ z).2.1 rfl;exact I.step (ch:=ch) d (λb o g j hc e n=>u.keep b o e n (λz=>(Ba.mp (I.stkSub b z)).elim g j) hc) (λb o _ _ hc e n=>u.any e n hc) (λb o hc e n=>u.free b o e n hc) (λb o hc e=>u.there b o e hc) u.tups u.frzs u.tbls (λt k=>by
  obtain⟨o',f,h,a,l⟩:=k;rw[i]at a;cases a;exact⟨_,f,h,g,l⟩) hok q
theorem Inv.turned{t':Nat}{a:Addr}(I:Inv X pins σ H s)(k:∀b o,b≠a->s.heap.get? b=some o->h'.get? b=some o)(g:H a=none)(f:a≠X.env.locals)(h1:a∈X.ex\/X.s₀.heap.objs.size<=a)(h2:∀x c,X.env.cells.lookup x=some c->c≠a)(i:∀p∈X.pn++pins,p.1≠a):Inv X pins σ H {s with heap:=h',toks:=t'}:=by
 have d:∀b u,H b=some u->b≠a:=λb u e z=>by rw[z,g]at e;cases e
 refine I.step (g':=s.gens) (d':=s.drawn) (ch:=[a]) (λb h=>?_) (λb o _ _ hc e _=>k b o (λz=>hc (by simp[z])) e) (λb o _ _ hc e _=>⟨o.slots,k b o (λz=>hc (by simp[z])) e⟩) (λ_ _ _ _ n=>n)
  (λb o hc e=>⟨o,k b o (λz=>hc (by simp[z])) e⟩) (λ_ _ e=>e) (λ_ _ _ e=>e) (λb ps e=>⟨#[],by rw[e];simp⟩) (λm j=>?_) (λb u e=>?_) I.bare
 .have e:b=a:=by simpa using h
  subst e;exact⟨h1,f,h2,i⟩
 .obtain⟨o,es,ep,l,r⟩:=j;exact⟨o,es,ep,k _ o (Bz f) l,r⟩
 .refine(I.hok b u e).stay (λc v hc q=>k c v ?_ q) (λ_ q=>q) λ_ _ q=>q;rcases hc with z|z
  .rw[z];exact d b u e
  .exact d c _ z
theorem Inv.tok(I:Inv X pins σ H s)(t:Nat):Inv X pins σ H {s with toks:=t}:=I.un (h':=s.heap) (t':=t) Un.refl I.hok
theorem Inv.kept{t':Nat}(I:Inv X pins σ H s)(k:∀b u,s.heap.get? b=some u->h'.get? b=some u):Inv X pins σ H {s with heap:=h',toks:=t'}:=I.un (Un.kept k) (I.hok.kept k)
theorem Inv.laid{t':Nat}(I:Inv X pins σ H s)(k:∀b u,s.heap.get? b=some u->h'.get? b=some u)(c:s.heap.objs.size<=a)(new:cC X.prog X.w (aT H a o) h' a o):
  Inv X pins σ (aT H a o) {s with heap:=h',toks:=t'}:=I.un (Un.laid k c (I.hok.fresh c)) (I.hok.laid k c new)
theorem Inv.write{t':Nat}(I:Inv X pins σ H s)(d:rO (H x))(c:e=x\/H e=some (.own x))(k:∀b u,b≠e->s.heap.get? b=some u->h'.get? b=some u)(a:∃u,h'.get? e=some u)(new:cC X.prog X.w (aT H x o) h' x o):Inv X pins σ (aT H x o) {s with heap:=h',toks:=t'}:=I.un (Un.write d c k a) (I.hok.write d c k a new)
theorem Inv.pins_of(I:Inv X pins σ H s)(h:∀p∈a,s.heap.get? p.1=some p.2/\H p.1=none/\p.1≠X.env.locals/\p.1∉X.fs/\∀v,p.2.data≠.cell v):Inv X a σ H s:=
 ⟨I.ok,I.os,I.bare,I.base,I.loc,I.cell,I.free,I.freeC,λp b=>(Bg.mp b).elim (λz=>I.pin p (Bs _ z)) (h p),I.hok,I.len⟩
theorem HD{N:List Str}(c:N.Nodup){i j:Nat}{x:Str}(a:N[i]? = some x)(b:N[j]? = some x):i=j:=by
 obtain⟨h1,e⟩:=Ap.mp a;obtain⟨h2,d⟩:=Ap.mp b;exact(List.getElem_inj c).mp (e.trans d.symm)
theorem HE{M:Model}{A:Cs}{E:Ae->Ah->Prop}{i:Nat}{x:Str}{v:V}{u:Ae}{Q:Unit->Ah->Prop}(I:Inv X pins σ H s)(hN:X.N.Nodup)(hi:X.N[i]? = some x)(t:Loc X.env.scope x)(r:RelV v u)(h:∀Z,Inv X pins (σ.set i (some v)) H Z->(∃a,Ex a s.heap Z.heap/\(a=X.env.locals\/X.env.cells.lookup x=some a))->Q () Z)(hf:X.fn x=true\/X.env.scope.names.lookup x=some .local:=by first|exact .inl rfl|exact .inr rfl|assumption):Bh M A (storeName X.env x u) Q E s:=by
 obtain⟨m,hn,hl⟩:=id I.loc;have K:(X.env.scope.kind==.class||(X.env.scope.kind==.module&&X.env.locals !=X.env.globals))=false:=by rw[I.ok.kind];rfl
 have D:i<σ.length:=by rw[I.len];exact(Ap.mp hi).1
 have cne:=I.cne;have l:∀{a:Addr} {h':Heap},(∃o,s.heap.get? a=some o/\H a=none)->Ex a s.heap h'->c9 X.prog X.w H h':=λ{a h'} ha f b ob e=>by
  obtain⟨_,_,B⟩:=ha;refine(I.hok b ob e).stay (λc S hc q=>(f.2 c ?_).trans q) (λ_ q=>q) λ_ _ q=>q;rintro rfl;rcases hc with rfl|hc
  .rw[B]at e;cases e
  .rw[B]at hc;cases hc
 rcases t with hk|hk
 .refine wpAny_storeName_local hk hn (λh' U f=>?_) K;obtain⟨oL,_,_,hoL,_⟩:=id hn;refine h _ ⟨I.ok,I.os,I.bare,⟨λb o e n J t=>?_,λb o e n J t=>?_,I.base.free,λb o e t=>?_,I.base.tups,I.base.frzs,I.base.tbls⟩,⟨_,U,λj y Y g C e3=>?_⟩,λy c e=>?_,I.free,I.freeC,λp hp=>?_,l ⟨oL,hoL,I.free⟩ f,by simpa using I.len⟩ ⟨_,f,.inl rfl⟩
  .exact(f.2 b (Bn (Cf (Be e) I.ok.above))).trans (I.base.keep b o e n J t)
  .obtain⟨sl,g⟩:=I.base.slot b o e n J t;exact⟨sl,(f.2 b (Bn (Cf (Be e) I.ok.above))).trans g⟩
  .obtain⟨o',g⟩:=I.base.there b o e t;exact⟨o',(f.2 b (Bn (Cf (Be e) I.ok.above))).trans g⟩
  .by_cases G:j=i
   .subst G;rw[hi]at g;cases g;rw[List.getElem?_set_self D]at C;cases C;exact⟨u,r,.inl ⟨hk,by simp⟩⟩
   .rw[List.getElem?_set_ne (Bz G)]at C;obtain⟨W,r',q⟩:=hl j y Y g C e3;refine⟨W,r',?_⟩;rcases q with⟨k,e⟩|⟨k,c,e,z⟩
    .refine .inl ⟨k,?_⟩;have:y≠x:=λe=>G (HD hN g (e▸hi));simp[this,e]
    .exact .inr ⟨k,c,e,z.sameBut f (cne y c e)⟩
  .obtain⟨S,z⟩:=I.cell y c e;exact⟨S,z.sameBut f (cne y c e)⟩
  .obtain⟨e,n,ne,nf,d⟩:=I.pin p hp;exact⟨(f.2 p.1 ne).trans e,n,ne,nf,d⟩
 .have F:X.fn x=true:=by
   rcases hf with z|z
   .exact z
   .rw[z]at hk;cases hk
  obtain⟨c,hc⟩:=I.ok.has x (.inl hk);obtain⟨S,z⟩:=I.cell x c hc;refine wpAny_storeName_cell I.ok.kind hk hc z (λh' L f=>?_);obtain⟨oc,O,P⟩:=id z;refine h {s with heap:=h'} ⟨I.ok,I.os,I.bare,⟨λb o e n J t=>?_,λb o e n J t=>?_,I.base.free,λb o e t=>?_,I.base.tups,I.base.frzs,I.base.tbls⟩,⟨m,hn.sameBut f (Bz (cne x c hc)),λj y Y g C e3=>?_⟩,λy T e=>?_,I.free,I.freeC,λp hp=>?_,l ⟨oc,O,I.freeC x c hc⟩ f,by simpa using I.len⟩ ⟨c,f,.inr hc⟩
  .exact(f.2 b (Bn (Cf (Be e) (I.ok.cab x c F hc)))).trans (I.base.keep b o e n J t)
  .obtain⟨sl,g⟩:=I.base.slot b o e n J t;exact⟨sl,(f.2 b (Bn (Cf (Be e) (I.ok.cab x c F hc)))).trans g⟩
  .obtain⟨o',g⟩:=I.base.there b o e t;exact⟨o',(f.2 b (Bn (Cf (Be e) (I.ok.cab x c F hc)))).trans g⟩
  .by_cases G:j=i
   .subst G;rw[hi]at g;cases g;rw[List.getElem?_set_self D]at C;cases C;exact⟨u,r,.inr ⟨.inl hk,c,hc,L⟩⟩
   .rw[List.getElem?_set_ne (Bz G)]at C;obtain⟨W,r',q⟩:=hl j y Y g C e3;refine⟨W,r',?_⟩;rcases q with q|⟨k,T,e,z'⟩
    .exact .inl q
    .refine .inr ⟨k,T,e,z'.sameBut f ?_⟩;rintro rfl;exact G (HD hN g (I.ok.inj _ _ _ e hc▸hi))
  .by_cases R:T=c
   .subst R;exact⟨_,L⟩
   .obtain⟨w2,z2⟩:=I.cell y T e;exact⟨w2,z2.sameBut f R⟩
  .obtain⟨e,n,ne,nf,d⟩:=I.pin p hp;refine⟨(f.2 p.1 ?_).trans e,n,ne,nf,d⟩;intro q;rw[q,O]at e;have q':oc=p.2:=Ci e;exact d S (by rw[<-q'];exact P)
theorem HF{E:Ae->Ah->Prop}{i:Nat}{Q:Unit->Ah->Prop}(I:Inv X pins σ H s)(b:X.N.Nodup)(hi:X.N[i]? = some x)(d:Loc X.env.scope x)(r:RelV v u)(h:∀a,Inv X pins (σ.set i (some v)) H a->Q () a)(hf:X.fn x=true\/X.env.scope.names.lookup x=some .local:=by first|exact .inl rfl|exact .inr rfl|assumption):Bh M A (storeName X.env x u) Q E s:=
 HE I b hi d r (λa c _=>h a c) hf
theorem Inv.call'(I:Inv X pins σ H s)(g:a.os=s.os)(u:Un (iZ X.stack) ch H H' s.heap a.heap)(hok:c9 X.prog X.w H' a.heap)(f:My a.gens)(d:∀b∈ch,(b∈X.ex\/X.s₀.heap.objs.size<=b)/\b≠X.env.locals/\(∀x c,X.env.cells.lookup x=some c->c≠b)/\∀p∈X.pn++pins,p.1≠b):Inv X pins σ H' a:=by
 obtain⟨h',g',d',t',o'⟩:=a;have e:o'=s.os:=g;subst e;exact I.call (g':=g') (t':=t') (d':=d') u hok f d
end
abbrev XK:=Ae->Option Addr->Hp->Prop
abbrev St:=List (Option V)
abbrev VK:=V->Hp->Prop
abbrev TE:=St->Hp->VK->Prop
abbrev TT:=St->Hp->(Bool->Hp->Prop)->Prop
abbrev TA:=St->Hp->(List V->Hp->Prop)->Prop
structure mG where
 nx:St->Hp->Prop
 rt:VK
 bk:St->Hp->Prop:=λ_ _=>False
 ct:St->Hp->Prop:=λ_ _=>False
abbrev TS:=mG->St->Hp->Prop
def EP(X:Cx)(pins:List (Addr×Obj))(σ:St)(Q:VK)(u:Ae)(a:Ah):Prop:=∃v H',Inv X pins σ H' a/\RelV v u/\Q v H'
def TP(X:Cx)(pins:List (Addr×Obj))(σ:St)(Q:Bool->Hp->Prop)(b:Bool)(a:Ah):Prop:=∃H',Inv X pins σ H' a/\Q b H'
def AP(X:Cx)(pins:List (Addr×Obj))(σ:St)(Q:List V->Hp->Prop)(us:List Ae)(a:Ah):Prop:=∃vs H',Inv X pins σ H' a/\a7 vs us/\Q vs H'
def SP(X:Cx)(pins:List (Addr×Obj))(D:mG)(f:Flow)(b:Ah):Prop:=
 match f with
 | .next=>∃a H',Inv X pins a H' b/\D.nx a H'
 | .brk=>∃a H',Inv X pins a H' b/\D.bk a H'
 | .cont=>∃a H',Inv X pins a H' b/\D.ct a H'
 | .ret u=>∃v a H',Inv X pins a H' b/\RelV v u/\D.rt v H'
def PE(X:Cx)(e:Expr)(t:TE):Prop:=
 ∀(pins:List (Addr×Obj)) (s:Ah) (σ:St) (H:Hp) (Q:VK),Inv X pins σ H s->t σ H Q->Bh (Bu X.prog X.w) X.A (eval e X.env) (EP X pins σ Q) X.xe s
def PT(X:Cx)(e:Expr)(t:TT):Prop:=
 ∀(pins:List (Addr×Obj)) (s:Ah) (σ:St) (H:Hp) (Q:Bool->Hp->Prop),Inv X pins σ H s->t σ H Q->Bh (Bu X.prog X.w) X.A (isTrue e X.env (eval e X.env)) (TP X pins σ Q) X.xe s
def PW(X:Cx)(e:Expr)(t:TT):Prop:=
 ∀(a:Sem Ae) (pins:List (Addr×Obj)) (s:Ah) (σ:St) (H:Hp) (Q:Bool->Hp->Prop),Inv X pins σ H s->t σ H Q->Bh (Bu X.prog X.w) X.A (isTrue e X.env a) (TP X pins σ Q) X.xe s
theorem PW.pt(h:PW X e t):PT X e t:=h _
def PA(X:Cx)(es:List Expr)(t:TA):Prop:=
 ∀(pos:Pos) (pins:List (Addr×Obj)) (s:Ah) (σ:St) (H:Hp) (Q:List V->Hp->Prop),Inv X pins σ H s->t σ H Q->Bh (Bu X.prog X.w) X.A (spliced (Fv pos (Bk es X.env))) (AP X pins σ Q) X.xe s
def PS(X:Cx)(st:Stmt)(t:TS):Prop:=
 ∀(pins:List (Addr×Obj)) (s:Ah) (σ:St) (H:Hp) (D:mG),Inv X pins σ H s->t D σ H->Bh (Bu X.prog X.w) X.A (exec st X.env) (SP X pins D) X.xe s
def gE(X:Cx)(st:List Stmt)(t:TS):Prop:=
 ∀(pins:List (Addr×Obj)) (s:Ah) (σ:St) (H:Hp) (D:mG),Inv X pins σ H s->t D σ H->Bh (Bu X.prog X.w) X.A (execs st X.env) (SP X pins D) X.xe s
theorem a8{b:Type}{t:Sem b}{Q c:b->Ah->Prop}{M:Model}{A:Cs}{E:Ae->Ah->Prop}{s:Ah}(h:Bh M A t Q E s)(d:∀a s,Q a s->c a s):Bh M A t c E s:=Ik h d λ_ _ x=>x
section
variable {X:Cx}
def Q9(i:Nat):TE:=λσ H Q=>∃v,σ[i]? = some (some v)/\Q v H
def tC(v:V):TE:=λ_ H Q=>Q v H
theorem HG{i:Nat}(g:X.N[i]? = some x)(d:tY X.env.scope x)(hd:(x==("__debug__" : Str))=false:=by decide)(b:(x==("__classdict__" : Str))=false:=by decide):PE X (.Name x pos) (Q9 i):=by
 intro pins s σ H Q I h;obtain⟨v,e,h⟩:=h;obtain⟨m,f,hl⟩:=I.loc;obtain⟨u,r,l⟩:=hl i x v g e d;have fin:EP X pins σ Q u s:=⟨v,H,I,r,h⟩;rcases l with⟨hk,j⟩|⟨hk,c,hc,a⟩
 .exact wpAny_Name (wpAny_loadName_local I.ok.kind hk f j fin) hd
 .rcases hk with hk|hk
  .exact wpAny_Name (wpAny_loadName_cell I.ok.kind hk hc a fin) hd
  .exact wpAny_Name (wpAny_loadName_free I.ok.kind hk hc a fin b) hd
theorem RA{i j pos}:PE X (.Constant (.int i) j pos) (tC (.int i)):=λ_ _ _ H _ I h=>wpAny_Constant_int ⟨.int i,H,I.tok _,⟨_,rfl⟩,h⟩
theorem RB{b j pos}:PE X (.Constant (.bool b) j pos) (tC (.bl b)):=λ_ _ _ H _ I h=>Constant_bool ⟨.bl b,H,I,rfl,h⟩
theorem RC{x j pos}:PE X (.Constant (.str x) j pos) (tC (.str x)):=λ_ _ _ H _ I h=>Calls.Constant_str ⟨.str x,H,I.tok _,⟨_,rfl⟩,h⟩
def Gl(X:Cx)(x:Str):Prop:=X.env.kindOf x=some .globalImplicit
theorem tZ{E:Ae->Ah->Prop}{Q:Ae->Ah->Prop}(I:Inv X pins σ H s)(a:Gl X x)(b:X.mg x=some u)(h:Q u s)(hd:(x==("__debug__" : Str))=false:=by decide):Bh (Bu X.prog X.w) X.A (eval (.Name x pos) X.env) Q E s:=
 Calls.Name_function_global I.ok.kind a (Calls.loadGlobal_global (by rw[I.ok.glob];exact I.mod.glob.keeps I.bk) b h) hd
theorem nE{E:Ae->Ah->Prop}{Q:Ae->Ah->Prop}(I:Inv X pins σ H s)(d:Gl X x)(c:X.mg x=none)(a:Cy x=some u)(h:Q u s)(b:x≠"__name__":=by decide)(hd:(x==("__debug__" : Str))=false:=by decide):Bh (Bu X.prog X.w) X.A (eval (.Name x pos) X.env) Q E s:=by
 obtain⟨e,h1,h2⟩:=I.mod.blt;exact Calls.Name_function_global I.ok.kind d (Calls.loadGlobal_builtin (by rw[I.ok.glob];exact I.mod.glob.keeps I.bk) c (by rw[I.ok.blt];exact h1.keeps I.bk) ((h2 x b).trans a) h) hd
theorem RD(a:Gl X x)(b:X.mg x=some u)(r:RelV v u)(hd:(x==("__debug__" : Str))=false:=by decide):PE X (.Name x pos) (tC v):=
 λ_ _ _ H _ I h=>tZ I a b ⟨v,H,I,r,h⟩ hd
theorem RE(a:Gl X x)(c:X.mg x=none)(b:Cy x=some u)(r:RelV v u)(d:x≠"__name__":=by decide)(hd:(x==("__debug__" : Str))=false:=by decide):PE X (.Name x pos) (tC v):=
 λ_ _ _ H _ I h=>nE I a c b ⟨v,H,I,r,h⟩ d hd
variable {a b:Expr}{ta tb:TE}{pos:Pos}
variable {tA tB':TT}{rest:List Expr}
def RF(t u:TT):TT:=λσ H Q=>t σ H λc H1=>if c=true then u σ H1 Q else Q false H1
def RG(t u:TT):TT:=λσ H Q=>t σ H λc H1=>if c=true then Q true H1 else u σ H1 Q
def RH(t:TT):TT:=λσ H Q=>t σ H λc H1=>Q (!c) H1
theorem RI(b:PT X a tA):PW X (.BoolOp .And [a] pos) tA:=by
 intro f pins s σ H Q I h;refine isTrue_and (a8 (b pins s σ H Q I h) λc d e=>?_);cases c with
 | true=>exact isTrue_and_nil e
 | false=>exact e
theorem RJ(b:PT X a tA):PW X (.BoolOp .Or [a] pos) tA:=by
 intro f pins s σ H Q I h;refine isTrue_or (a8 (b pins s σ H Q I h) λc d e=>?_);cases c with
 | false=>exact isTrue_or_nil e
 | true=>exact e
theorem RK(i:PT X a tA)(g:PW X (.BoolOp .And (b::rest) pos) tB'):PW X (.BoolOp .And (a::b::rest) pos) (RF tA tB'):=by
 intro f pins s σ H Q I h;refine isTrue_and (a8 (i pins s σ H _ I h) λc j ⟨H1,e,d⟩=>?_);cases c with
 | true=>exact g f pins j σ H1 Q e d
 | false=>exact⟨H1,e,d⟩
theorem RL(i:PT X a tA)(g:PW X (.BoolOp .Or (b::rest) pos) tB'):PW X (.BoolOp .Or (a::b::rest) pos) (RG tA tB'):=by
 intro f pins s σ H Q I h;refine isTrue_or (a8 (i pins s σ H _ I h) λc j ⟨H1,e,d⟩=>?_);cases c with
 | true=>exact⟨H1,e,d⟩
 | false=>exact g f pins j σ H1 Q e d
theorem RM(b:PT X a tA):PT X (.UnaryOp .Not a pos) (RH tA):=by
 intro pins s σ H Q I h;exact isTrue_not (b pins s σ H (λc H1=>Q (!c) H1) I h)
def RN(ta tb:TE):TE:=λσ H Q=>ta σ H λx H1=>∃c,x=.bl c/\if c=true then tb σ H1 Q else Q (.bl false) H1
def RO(ta tb:TE):TE:=λσ H Q=>ta σ H λx H1=>∃c,x=.bl c/\if c=true then Q (.bl true) H1 else tb σ H1 Q
theorem RP{op}(h:PE X a t):PE X (.BoolOp op [a] pos) t:=λpins s σ H Q I hw=>BoolOp_one (h pins s σ H Q I hw)
theorem RQ(g:PE X a ta)(f:PE X (.BoolOp .And (b::rest) pos) tb):PE X (.BoolOp .And (a::b::rest) pos) (RN ta tb):=by
 intro pins s σ H Q I h;refine BoolOp_and (a8 (g pins s σ H _ I h) λv j ⟨x,H1,e,i,d⟩=>?_);obtain⟨c,rfl,d⟩:=d;cases i;refine Fx ?_;cases c with
 | true=>exact f pins j σ H1 Q e d
 | false=>exact⟨.bl false,H1,e,rfl,d⟩
theorem RS(g:PE X a ta)(f:PE X (.BoolOp .Or (b::rest) pos) tb):PE X (.BoolOp .Or (a::b::rest) pos) (RO ta tb):=by
 intro pins s σ H Q I h;refine BoolOp_or (a8 (g pins s σ H _ I h) λv j ⟨x,H1,e,i,d⟩=>?_);obtain⟨c,rfl,d⟩:=d;cases i;refine Fx ?_;cases c with
 | false=>exact f pins j σ H1 Q e d
 | true=>exact⟨.bl true,H1,e,rfl,d⟩
end
def bO(K:Ac)(H:Hp)(a:Addr)(xs:List V):Prop:=
 Rd H a (.lst xs)\/
  ∃(o:Obj) (its:Array Ae) (n:Nat),K.lookup a=some o/\o.cls=.type "list"/\o.dict=none/\o.data=.seq its n/\its.size<=An/\a7 xs its.toList
def cD(K:Ac)(H:Hp)(a:Addr)(xs:List V):Prop:=
 Rd H a (.tup xs)\/
  ∃(o:Obj) (its:Array Ae) (n:Nat),K.lookup a=some o/\o.cls=.type "tuple"/\o.data=.seq its n/\its.size<=An/\a7 xs its.toList
def RT:Ae->Option V
 | .none=>some .non
 | .bool b=>some (.bl b)
 | .int i _=>some (.int i)
 | .str x _=>some (.str x)
 | .bytes b _=>some (.byt b)
 | .float b _=>some (.flt b)
 | .ref a=>some (.ref a)
 | .type n=>some (.ty n)
 | _=>none
theorem RelV.abs(r:RelV x u):RT u=some x:=by
 cases x with
 | non=>cases r;rfl
 | bl _=>cases r;rfl
 | int _=>obtain⟨t,rfl⟩:=r;rfl
 | str _=>obtain⟨t,rfl⟩:=r;rfl
 | byt _=>obtain⟨t,rfl⟩:=r;rfl
 | flt _=>obtain⟨t,rfl⟩:=r;rfl
 | ref _=>cases r;rfl
 | ty _=>cases r;rfl
theorem RelV.inj(r:RelV x u)(q:RelV y u):x=y:=Ci (r.abs.symm.trans q.abs)
theorem a7.inj:∀{xs ys:List V} {us:List Ae},a7 xs us->a7 ys us->xs=ys
 | _,_,_,.nil,.nil=>rfl
 | _,_,_,.cons r t,.cons a t'=>by rw[r.inj a,a7.inj t t']
section
variable {X:Cx}{pins:List (Addr×Obj)}{σ:St}{H:Hp}{s:Ah}{a:Addr}{xs ys:List V}
theorem bO.of{K:Ac}(h:H a=some (.lst xs)):bO K H a xs:=.inl (.inl h)
theorem cD.of{K:Ac}(h:H a=some (.tup xs)):cD K H a xs:=.inl (.inl h)
theorem Inv.list(I:Inv X pins σ H s)(h:bO X.K H a xs):∃its:List Ae,a7 xs its/\PlainL s.heap a its.toArray/\xs.length<=An:=by
 rcases h with h|⟨o,its,n,hk,hc,hd,b,hz,r⟩
 .obtain⟨z,its,n,r,e⟩:=h.ok I.hok;exact⟨its,r,⟨_,n,e,rfl,rfl,rfl⟩,z⟩
 .refine⟨its.toList,r,⟨o,n,I.kIn a o hk,hc,hd,by simpa using b⟩,?_⟩;have e:=r.length;simp only[Fw]at e;lia
theorem Inv.tuple(I:Inv X pins σ H s)(h:cD X.K H a xs):∃its:List Ae,a7 xs its/\IsTup s.heap a its.toArray/\xs.length<=An:=by
 rcases h with h|⟨o,its,n,hk,hc,b,hz,r⟩
 .obtain⟨z,its,r,p⟩:=h.ok I.hok;exact⟨its,r,p,z⟩
 .refine⟨its.toList,r,⟨o,I.kIn a o hk,hc,n,by simpa using b⟩,?_⟩;have e:=r.length;simp only[Fw]at e;lia
theorem Inv.list_inj(I:Inv X pins σ H s)(h:bO X.K H a xs)(h':bO X.K H a ys):xs=ys:=by
 obtain⟨its,r,⟨o,n,e,_,_,d⟩,_⟩:=I.list h;obtain⟨its',c,⟨o',f,b,_,_,d'⟩,_⟩:=I.list h';rw[e]at b;cases b;rw[d]at d';injection d' with d1 _;have:its=its':=by simpa using congrArg Array.toList d1
 subst this;exact r.inj c
theorem Inv.tuple_inj(I:Inv X pins σ H s)(h:cD X.K H a xs)(h':cD X.K H a ys):xs=ys:=by
 obtain⟨its,r,⟨o,e,_,n,d⟩,_⟩:=I.tuple h;obtain⟨its',c,⟨o',b,_,f,d'⟩,_⟩:=I.tuple h';rw[e]at b;cases b;rw[d]at d';injection d' with d1 _;have:its=its':=by simpa using congrArg Array.toList d1
 subst this;exact r.inj c
end
abbrev Cx.wish(X:Cx)(E:Ae->Ah->Prop):Cx:={X with xe:=E}
abbrev Cx.nox(X:Cx):Cx:=X.wish λ_ _=>False
theorem Cx.Ok.wish{X:Cx}(ok:X.Ok)(E:Ae->Ah->Prop):(X.wish E).Ok:=
 ⟨ok.mod,ok.kind,ok.glob,ok.blt,ok.above,ok.inj,ok.has,ok.cab,ok.hd,ok.frames,ok.stk,ok.exf,ok.bs,ok.bsz,ok.noex,ok.exfs,ok.funs,ok.frf⟩
theorem Cx.Ok.unwish{X:Cx}{E:Ae->Ah->Prop}(ok:(X.wish E).Ok):X.Ok:=
 ⟨ok.mod,ok.kind,ok.glob,ok.blt,ok.above,ok.inj,ok.has,ok.cab,ok.hd,ok.frames,ok.stk,ok.exf,ok.bs,ok.bsz,ok.noex,ok.exfs,ok.funs,ok.frf⟩
section
variable {X:Cx}{pins:List (Addr×Obj)}{σ:St}{H:Hp}{s:Ah}{E:Ae->Ah->Prop}
theorem Inv.wish(I:Inv X pins σ H s)(E:Ae->Ah->Prop):Inv (X.wish E) pins σ H s:=⟨I.ok.wish E,I.os,I.bare,I.base,I.loc,I.cell,I.free,I.freeC,I.pin,I.hok,I.len⟩
theorem Inv.unwish(I:Inv (X.wish E) pins σ H s):Inv X pins σ H s:=⟨I.ok.unwish,I.os,I.bare,I.base,I.loc,I.cell,I.free,I.freeC,I.pin,I.hok,I.len⟩
theorem SP.unwish(h:SP (X.wish E) pins D f s'):SP X pins D f s':=by
 cases f with
 | next=>obtain⟨σ',H',I,q⟩:=h;exact⟨σ',H',I.unwish,q⟩
 | brk=>obtain⟨σ',H',I,q⟩:=h;exact⟨σ',H',I.unwish,q⟩
 | cont=>obtain⟨σ',H',I,q⟩:=h;exact⟨σ',H',I.unwish,q⟩
 | ret u=>obtain⟨v,σ',H',I,r,q⟩:=h;exact⟨v,σ',H',I.unwish,r,q⟩
theorem gE.nox{st:List Stmt}{t:TS}(h:gE X.nox st t):gE X st t:=λpins s σ H D I hw=>
 Ik (h pins s σ H D (I.wish _) hw) (λ_ _ q=>q.unwish) λ_ _ z=>Gf z
end
section
variable {X:Cx}{st:Stmt}{rest:List Stmt}{t u:TS}{e:Expr}{te:TE}{pos:Pos}
def RU:TS:=λD σ H=>D.nx σ H
def RV(t u:TS):TS:=λD σ H=>t {D with nx:=u D} σ H
theorem RW:gE X [] RU:=λ_ _ σ H _ I h=>Mz ⟨σ,H,I,h⟩
theorem RX(h1:PS X st t)(h2:gE X rest u):gE X (st::rest) (RV t u):=by
 intro pins s σ H D I h;refine wpAny_execs_cons (a8 (h1 pins s σ H {D with nx:=u D} I h) λf s1 q=>?_);cases f with
 | next=>
  obtain⟨σ',H',I',q⟩:=q;exact h2 pins s1 σ' H' D I' q
 | ret v=>exact q
 | brk=>exact q
 | cont=>exact q
theorem RY(h1:PS X st t):gE X [st] t:=by
 intro pins s σ H D I h;refine wpAny_execs_cons (a8 (h1 pins s σ H D I h) λf s1 q=>?_);cases f with
 | next=>exact Mz q
 | ret v=>exact q
 | brk=>exact q
 | cont=>exact q
theorem Inv.quiet(I:Inv X pins σ H s):interactive X.env=false:=by simp[interactive,I.ok.kind]
def RZ(te:TE):TS:=λD σ H=>te σ H λ_ H1=>D.nx σ H1
theorem R0(b:PE X e te)(c:Hq e none pos.line X.env=pure false:=by rfl):PS X (.Expr e pos) (RZ te):=by
 intro pins s σ H D I h;exact wpAny_Expr_any (a8 (b pins s σ H _ I h) λv g ⟨x,H1,d,f,a⟩=>⟨σ,H1,d,a⟩) I.quiet c
def R1(te:TE):TS:=λD σ H=>te σ H D.rt
theorem R4(c:PE X e te):PS X (.Return (some e) pos) (R1 te):=by
 intro pins s σ H D I h;exact wpAny_Return_some (a8 (c pins s σ H _ I h) λv f ⟨x,H1,d,b,a⟩=>⟨x,σ,H1,d,b,a⟩)
def R5:TS:=λD _ H=>D.rt .non H
theorem R6:PS X (.Return none pos) R5:=λ_ _ σ H _ I h=>wpAny_Return_none ⟨.non,σ,H,I,rfl,h⟩
def R7(c:TT)(t u:TS):TS:=λD σ H=>c σ H λb H1=>if b=true then t D σ H1 else u D σ H1
theorem R8{c:Expr}{a b:List Stmt}{g:TT}(hc:PT X c g)(k:gE X a t)(j:gE X b u):PS X (.If c a b pos) (R7 g t u):=by
 intro pins s σ H D I h;refine wpAny_If (a8 (hc pins s σ H _ I h) λd f ⟨H1,i,e⟩=>?_);cases d with
 | true=>exact k pins f σ H1 D i e
 | false=>exact j pins f σ H1 D i e
def R9:TS:=λ_ _ _=>False
theorem SA:PS X st R9:=λ_ _ _ _ _ _ h=>h.elim
end
abbrev TG:=V->St->Hp->(St->Hp->Prop)->Prop
abbrev j7:=List V->St->Hp->(St->Hp->Prop)->Prop
def PG(X:Cx)(a:Expr)(t:TG):Prop:=
 ∀(pins:List (Addr×Obj)) (s:Ah) (σ:St) (H:Hp) (v:V) (u:Ae) (Q:St->Hp->Prop),Inv X pins σ H s->RelV v u->t v σ H Q->
  Bh (Bu X.prog X.w) X.A (Ma a X.env u) (λ_ c=>∃b H',Inv X pins b H' c/\Q b H') X.xe s
def jQ(X:Cx)(ts:List Expr)(t:j7):Prop:=
 ∀(pins:List (Addr×Obj)) (s:Ah) (σ:St) (H:Hp) (vs:List V) (us:List Ae) (Q:St->Hp->Prop),Inv X pins σ H s->a7 vs us->t vs σ H Q->
  Bh (Bu X.prog X.w) X.A (assignInOrder ((Gs ts X.env).map (·.2)) us) (λ_ b=>∃a H',Inv X pins a H' b/\Q a H') X.xe s
abbrev t5:=V->V->V->Hp->(Hp->Prop)->Prop
def t6(X:Cx)(t:t5):Prop:=
 ∀(pins:List (Addr×Obj)) (s:Ah) (σ:St) (H:Hp) (o i v:V) (b a u:Ae) (Q:Hp->Prop),Inv X pins σ H s->RelV o b->RelV i a->RelV v u->t o i v H Q->
  Bh (Bu X.prog X.w) X.A (setItem b a u) (λ_ c=>∃H',Inv X pins σ H' c/\Q H') X.xe s
section
variable {X:Cx}{pos:Pos}
def xU(i:Nat):TG:=λv σ H Q=>Q (σ.set i (some v)) H
theorem SD{i:Nat}(a:X.N.Nodup)(hi:X.N[i]? = some x)(c:Loc X.env.scope x)(hf:X.fn x=true\/X.env.scope.names.lookup x=some .local:=by first|exact .inl rfl|exact .inr rfl|assumption):PG X (.Name x pos) (xU i):=by
 intro pins s σ H v u Q I r h;exact wpAny_assign_Name (HF I a hi c r (λd b=>⟨_,H,b,h⟩) hf)
def SE:j7:=λvs σ H Q=>vs=[]/\Q σ H
def SF(t:TG)(u:j7):j7:=λvs σ H Q=>∃v r,vs=v::r/\t v σ H λa H'=>u r a H' Q
theorem SG:jQ X [] SE:=by
 intro pins s σ H vs us Q I r h;obtain⟨e,h⟩:=h;subst e;cases r;exact assignInOrder_nil ⟨σ,H,I,h⟩
theorem SH{e:Expr}{es:List Expr}{t:TG}{u:j7}(h1:PG X e t)(h2:jQ X es u)(g:(Gs (e::es) X.env).map (·.2)=Ma e X.env::(Gs es X.env).map (·.2):=by rfl):jQ X (e::es) (SF t u):=by
 intro pins s σ H vs us Q I r h;obtain⟨v,j,d,h⟩:=h;subst d;cases r with
 | cons r f=>
  rw[g];refine assignInOrder_cons (a8 (h1 pins s σ H _ _ _ I r h) λ_ c ⟨a,H1,i,b⟩=>?_);exact h2 pins c a H1 _ _ Q i f b
def SI(K:Ac)(n:Nat)(t:j7):TG:=λv σ H Q=>∃a xs,v=.ref a/\cD K H a xs/\xs.length=n/\t xs σ H Q
theorem SJ{k:Nat}{n:Nat}(hc:X.calm=true)(h:jQ X es t)(f:(Gs es X.env).length=n:=by rfl)(c:(Gs es X.env).findIdx? (·.1)=none:=by rfl):PG X (.Tuple es k pos) (SI X.K n t):=by
 intro pins s σ H v u Q I r hw;obtain⟨a,xs,i,g,hl,hw⟩:=hw;subst i;cases r;obtain⟨its,d,ht,hz⟩:=I.tuple g;refine assign_Tuple_tuple (I.ok.hd hc) ht (by simp[f,<-hl,d.length]) c λh' j=>?_;have l:Inv X pins σ H {s with heap:=h'}:=I.kept (t':=s.toks) λb o e=>j b o (Bn (Be e)) e;exact h pins _ σ H xs _ Q l (by simpa using d) hw
def SM(b c:TE)(t:t5):TG:=λv σ H Q=>b σ H λo H1=>c σ H1 λi H2=>t o i v H2 λa=>Q σ a
theorem SN{o i:Expr}{c d:TE}{t:t5}(w:PE X o c)(hi:PE X i d)(k:t6 X t)(e:∀v,Ma (.Subscript o i pos) X.env v=(do
   let a <-Hy [v] (eval o X.env)
   let b <-Hy [v,a] (eval i X.env)
   Nl pos
   Hy [v,a,b] (setItem a b v)
   release [v,a,b] []):=by intro _;rfl):PG X (.Subscript o i pos) (SM c d t):=by
 intro pins s σ H v u Q I r h;rw[e];refine Aa (Dd (a8 (w pins s σ H _ I h) λa A ⟨x,H1,l,f,p⟩=>?_));refine Aa (Dd (a8 (hi pins A σ H1 _ l p) λb q ⟨y,H2,B,g,n⟩=>?_));refine Aa (Np (Aa (Dd (a8 (k pins q σ H2 x y v a b u _ B f g r n) λ_ C ⟨m,j,z⟩=>?_))));exact wpAny_release ⟨σ,m,j,z⟩
def t7(te:TE)(g:TG):TS:=λD σ H=>te σ H λx H1=>g x σ H1 D.nx
theorem SO{a e:Expr}{te:TE}{g:TG}(i:PE X e te)(j:PG X a g)(d:swapsWithSole [a] e pos.line X.env=pure false:=by rfl)(hw:swappedStores [a] e X.env=pure none:=by rfl)(h1:(Gs [a] X.env).map (·.2)=[Ma a X.env]:=by rfl):PS X (.Assign [a] e pos) (t7 te g):=by
 intro pins s σ H D I h;refine wpAny_Assign_stores (a8 (i pins s σ H _ I h) λv f ⟨x,H1,k,c,b⟩=>?_) d hw;rw[h1];exact a8 (j pins f σ H1 x v _ k c b) λ_ l q=>q
theorem SQ{i:Nat}{x:Str}{e:Expr}{te:TE}{a:Pos}(b:X.N.Nodup)(hi:X.N[i]? = some x)(f:Loc X.env.scope x)(g:PE X e te)(j:Hq e (some (.Name x a)) pos.line X.env=pure false:=by rfl)(hf:X.fn x=true\/X.env.scope.names.lookup x=some .local:=by first|exact .inl rfl|exact .inr rfl|assumption):
  PS X (.Assign [.Name x a] e pos) (t7 te (xU i)):=by
 intro pins s σ H D I h;refine wpAny_Assign_Name (a8 (g pins s σ H _ I h) λv n ⟨y,H1,l,d,c⟩=>?_) j;exact HF l b hi f d (λm k=>⟨_,H1,k,c⟩) hf
end
section
variable {X:Cx}{pos:Pos}
def SU(c:TT)(tb:TS):TS:=λD a H=>∃W:Nat->St->Hp->Prop,(∃m,W m a H)/\∀m a H,W m a H->
 c a H λb f=>if b=true then ∃N:St->Hp->Prop,(∀d g,N d g->∃e,e<m/\W e d g)/\tb {D with nx:=N,ct:=N,bk:=D.nx} a f else D.nx a f
theorem SW(hp:PassesOwn (Bu X.prog X.w) X.A X.env X.xe)(hc:PT X c tc)(hb:gE X body tb):PS X (.While c body [] pos) (SU tc tb):=by
 intro pins s σ H D I h;obtain⟨W,⟨m0,w0⟩,turn⟩:=h;refine wpAny_While (codeAny_whileLoop (λn s'=>∃σ' H',Inv X pins σ' H' s'/\W n σ' H') ?_ m0 ⟨σ,H,I,w0⟩);rintro n s1 ⟨σ1,H1,I1,w1⟩;refine Ho hp (a8 (hc pins s1 σ1 H1 _ I1 (turn n σ1 H1 w1)) λb s2 ⟨H2,I2,q2⟩=>?_);cases b with
 | true=>
  obtain⟨N,hN,q2⟩:=q2;rw[if_pos rfl];refine Ho hp (a8 (hb pins s2 σ1 H2 _ I2 q2) λf s3 q3=>?_);cases f with
  | next=>
   obtain⟨σ3,H3,I3,n3⟩:=q3;obtain⟨m',hm,w3⟩:=hN σ3 H3 n3;exact⟨m',hm,σ3,H3,I3,w3⟩
  | cont=>
   obtain⟨σ3,H3,I3,n3⟩:=q3;obtain⟨m',hm,w3⟩:=hN σ3 H3 n3;exact⟨m',hm,σ3,H3,I3,w3⟩
  | brk=>exact q3
  | ret v=>exact q3
 | false=>
  rw[if_neg Ao];exact Mz ⟨σ1,H2,I2,q2⟩
end
structure It where
 go:Nat->Hp->Prop
 yld:Nat->Hp->V->Hp->Prop
 stop:Nat->Hp->Prop
def hZ(X:Cx)(a:List (Addr×Obj))(H:Hp)(b:Addr):Prop:=
 H b=none/\b≠X.env.locals/\b∉X.fs/\(b∈X.ex\/X.s₀.heap.objs.size<=b)/\(∀x c,X.env.cells.lookup x=some c->c≠b)/\∀p∈X.pn++a,p.1≠b
theorem Inv.fpOk(I:Inv X a i H s)(d:s.heap.objs.size<=b)(g:f b=none):hZ X a f b:=by
 refine⟨g,Ga (Cf I.lt d),I.nofs d,.inr (Ay I.sz d),λx c e z=>?_,λp h z=>?_⟩
 .obtain⟨v,q⟩:=I.cell x c e;exact absurd (Cf q.lt (by rw[z];exact d)) (Hl _)
 .exact absurd (Cf (Be (I.pin p h).1) (by rw[z];exact d)) (Hl _)
structure kW(P:Ax)(w:Bl)(K:Ac)(tg:Expr)(J:It)(fp:List Addr)(it:Addr)(tn:Nat->Heap->Prop):Prop where
 mem:it∈fp
 obj:∀i h,tn i h->∀b∈fp,∃o,h.get? b=some o/\∀v,o.data≠.cell v
 keep:∀i h h',tn i h->(∀b∈fp,∀o,h.get? b=some o->h'.get? b=some o)->tn i h'
 item:∀(X:Cx),X.prog=P->X.w=w->X.K=K->X.calm=true->∀(i:Nat) (pins:List (Addr×Obj)) (s:Ah) (σ:St) (H:Hp) (E:Ae->Ah->Prop),Inv X pins σ H s->(∀b∈fp,hZ X pins H b)->tn i s.heap->J.go i H->
  Bh (Bu P w) X.A (Iy (.ref it)) (λr s1=>∃u,r=some u/\
   Bh (Bu P w) X.A (Na tg (.ref it) u) (λ_ s2=>∃x H',Inv X pins σ H' s2/\RelV x u/\J.yld i H x H'/\tn (i+1) s2.heap/\∀b∈fp,H' b=none) E s1) E s
 done:∀(X:Cx),X.prog=P->X.w=w->X.K=K->X.calm=true->∀(i:Nat) (pins:List (Addr×Obj)) (s:Ah) (σ:St) (H:Hp) (E:Ae->Ah->Prop),Inv X pins σ H s->(∀b∈fp,hZ X pins H b)->tn i s.heap->J.stop i H->
  Bh (Bu P w) X.A (Iy (.ref it)) (λr s1=>r=none/\Inv X pins σ H s1) E s
 self:∀(A:Cs) (i:Nat) (s:Ah) (Q:Ae->Ah->Prop) (E:Ae->Ah->Prop),tn i s.heap->Q (.ref it) s->Bh (Bu P w) A (pyIter (.ref it)) Q E s
abbrev TI:=St->Hp->(It->Hp->Prop)->Prop
def xV(X:Cx)(a:List (Addr×Obj))(h:St)(tg:Expr)(R:It->Hp->Prop)(c:Ae)(f:Ah):Prop:=
 ∃(e:Addr) (fp:List Addr) (g:Nat->Heap->Prop) (J:It) (d:Hp),c=.ref e/\Inv X a h d f/\kW X.prog X.w X.K tg J fp e g/\g 0 f.heap/\(∀b∈fp,hZ X a d b)/\R J d
def PI(X:Cx)(tg b:Expr)(d:TI):Prop:=
 ∀(a:List (Addr×Obj)) (s:Ah) (c:St) (H:Hp) (R:It->Hp->Prop),Inv X a c H s->d c H R->
  Bh (Bu X.prog X.w) X.A (eval b X.env) (λv e=>Bh (Bu X.prog X.w) X.A (pyIter v) (xV X a c tg R) X.xe e) X.xe s
theorem rP{E:Ae->Ah->Prop}{Q:Unit->Ah->Prop}(d:s.heap.get? b=some o)(hc:o.cls=.type n)(hd:o.data=.fields vs)(c : ["enumerate","zip","dict_itemiterator","dict_reverseitemiterator","odict_iterator","itertools.zip_longest","itertools.pairwise"].contains n=false)(a:Q () s):Bh M A (Na tg (.ref b) u) Q E s:=by
 unfold Na;cases tg<;>first
  | exact Af a
  | (cases u<;>first
    | exact Af a
    | (refine Aa (wpAny_load d ?_)
       rw[hc,hd];show Bh M A (if (["enumerate","zip","dict_itemiterator","dict_reverseitemiterator","odict_iterator","itertools.zip_longest","itertools.pairwise"].contains n&&vs[0]?==some (Jm _))=true then _ else _) Q E s;rw[if_neg (by intro h;rw[c,Ms]at h;cases h)];exact Af a))
def pN(K:Ac)(a:Addr):It:=
 ⟨λi H=>∃xs x,bO K H a xs/\xs[i]? = some x,λi H x b=>b=H/\∀xs,bO K H a xs->xs[i]? = some x,λi H=>∃xs,bO K H a xs/\xs.length<=i⟩
def xW(K:Ac)(a:Addr):It:=
 ⟨λi H=>∃xs x,cD K H a xs/\xs[i]? = some x,λi H x b=>b=H/\∀xs,cD K H a xs->xs[i]? = some x,λi H=>∃xs,cD K H a xs/\xs.length<=i⟩
def t8(lo:Int)(n:Nat):It:=⟨λi _=>i<n,λi H x a=>a=H/\x=.int (lo+i),λi _=>n<=i⟩
theorem SX{P:Ax}{w:Bl}{K:Ac}{tg:Expr}(a g:Addr):kW P w K tg (pN K a) [g] g (λi h=>h.IsListIter g a i) where
 mem:=by simp
 obj:=λi h st b j=>by
  have e:b=g:=by simpa using j
  subst e;obtain⟨o,e,c,d⟩:=st;exact⟨o,e,λv z=>by rw[d]at z;cases z⟩
 keep:=λi h h' st k=>st.at λo e=>k g (by simp) o e
 item:=by
  intro X D hw B hc i f s F H E I hf st r;subst D hw B;obtain⟨xs,x,l,m⟩:=r;obtain⟨its,t,p,hz⟩:=I.list l;obtain⟨u,L,ru⟩:=t.get m;obtain⟨y,n,N,A,q,C⟩:=hf g (by simp);refine wpAny_pyNext_list_item st p.isList (x:=u) (by simpa using L) λh' st' sb=>?_;have J:Inv X f F H {s with heap:=h'}:=I.turned (t':=s.toks) (λb o j e=>(sb.2 b j).trans e) y n A q C;obtain⟨o,e,c,d⟩:=id st';exact⟨u,rfl,rP (s:={s with heap:=h'}) e c d (by decide) ⟨x,H,J,ru,⟨rfl,λys M=>by rw[I.list_inj M l];exact m⟩,st',λb j=>(hf b j).1⟩⟩
 done:=by
  intro X D hw B hc i f s F H E I hf st r;subst D hw B;obtain⟨xs,l,m⟩:=r;obtain⟨its,t,p,hz⟩:=I.list l;obtain⟨y,n,N,A,q,C⟩:=hf g (by simp);have hl:=t.length;exact wpAny_pyNext_list_end (I.ok.hd hc) st p.isList (by simp;lia) λh' G=>⟨rfl,I.turned (t':=s.toks) (λb o j e=>G b o j e) y n A q C⟩
 self:=λ_ _ _ _ _ st h=>wpAny_pyIter_listiter st h
theorem SY{P:Ax}{w:Bl}{K:Ac}{tg:Expr}(a g:Addr):kW P w K tg (xW K a) [g] g (λi h=>h.IsTupleIter g a i) where
 mem:=by simp
 obj:=λi h st b j=>by
  have e:b=g:=by simpa using j
  subst e;obtain⟨o,e,c,d⟩:=st;exact⟨o,e,λv z=>by rw[d]at z;cases z⟩
 keep:=λi h h' st k=>st.at λo e=>k g (by simp) o e
 item:=by
  intro X D hw B hc i f s F H E I hf st r;subst D hw B;obtain⟨xs,x,l,m⟩:=r;obtain⟨its,t,p,hz⟩:=I.tuple l;obtain⟨u,L,ru⟩:=t.get m;obtain⟨y,n,N,A,q,C⟩:=hf g (by simp);refine wpAny_pyNext_tuple_item st (show s.heap.IsTuple a its.toArray from p) (x:=u) (by simpa using L) λh' st' sb=>?_;have J:Inv X f F H {s with heap:=h'}:=I.turned (t':=s.toks) (λb o j e=>(sb.2 b j).trans e) y n A q C;obtain⟨o,e,c,d⟩:=id st';exact⟨u,rfl,rP (s:={s with heap:=h'}) e c d (by decide) ⟨x,H,J,ru,⟨rfl,λys M=>by rw[I.tuple_inj M l];exact m⟩,st',λb j=>(hf b j).1⟩⟩
 done:=by
  intro X D hw B hc i f s F H E I hf st r;subst D hw B;obtain⟨xs,l,m⟩:=r;obtain⟨its,t,p,hz⟩:=I.tuple l;obtain⟨y,n,N,A,q,C⟩:=hf g (by simp);have hl:=t.length;exact wpAny_pyNext_tuple_end (I.ok.hd hc) st (show s.heap.IsTuple a its.toArray from p) (by simp;lia) λh' G=>⟨rfl,I.turned (t':=s.toks) (λb o j e=>G b o j e) y n A q C⟩
 self:=λ_ _ _ _ _ st h=>wpAny_pyIter_tupleiter st h
theorem S4{P:Ax}{w:Bl}{K:Ac}{tg:Expr}(a:Addr)(lo:Int)(n:Nat):kW P w K tg (t8 lo n) [a] a (λi h=>IsRangeIter h a (lo+(i:Nat)*1) ((n:Int)-(i:Nat)) 1) where
 mem:=by simp
 obj:=λi h st b d=>by
  have e:b=a:=by simpa using d
  subst e;exact⟨_,st,λv z=>by
   have B:Data.fields _=Data.cell v:=z;cases B⟩
 keep:=λi h h' st k=>k a (by simp) _ st
 item:=by
  intro X r hw p hc i c s u H E I hf st j;subst r hw p;obtain⟨l,f,C,m,g,q⟩:=hf a (by simp);have W:=Walks.range (prog:=X.prog) (w:=X.w) (I.ok.hd hc) a lo 1 n;refine W.item i s _ _ j st λv h' tk x st' D=>?_;obtain⟨t,rfl⟩:=x;have A:Inv X c u H {s with heap:=h',toks:=tk}:=I.turned (λb o d e=>D b o (by simpa using d) e) l f m g q;refine⟨_,rfl,rP (s:={s with heap:=h',toks:=tk}) (n:="range_iterator") st' rfl rfl (by decide) ⟨.int (lo+i),H,A,⟨t,?_⟩,⟨rfl,rfl⟩,st',λb d=>(hf b d).1⟩⟩;rw[Int.mul_one]
 done:=by
  intro X r hw p hc i c s u H E I hf st j;subst r hw p;obtain⟨l,f,C,m,g,q⟩:=hf a (by simp);exact wpAny_pyNext_range_end (I.ok.hd hc) st (by have:n<=i:=j;lia) λh' y=>⟨rfl,I.turned (t':=s.toks) (λb o d e=>y b o d e) l f m g q⟩
 self:=λ_ _ _ _ _ st h=>wpAny_pyIter_rangeiter st h
section
variable {X:Cx}{tg:Expr}
theorem S5{R:It->Hp->Prop}{E:Ae->Ah->Prop}{lo hi:Int}{tk:Nat}(I:Inv X a d H s)(i : -(2 ^ 62)<=lo)(f:lo<2 ^ 62)(j : -(2 ^ 62)<=hi)(h:hi<2 ^ 62)(q:R (t8 lo (hi-lo).toNat) H):Bh (Bu X.prog X.w) X.A (pyIter (.ref s.heap.objs.size)) (xV X a d tg R) E {s with heap:=s.heap.push {cls:=.type "range",data:=.fields #[.int lo t,.int hi u,.int 1 v]},toks:=tk}:=by
 refine wpAny_pyIter_range (IsRange.new ..) (small_one i f j h) ?_;have c:Inv X a d H {s with heap:=s.heap.push {cls:=.type "range",data:=.fields #[.int lo t,.int hi u,.int 1 v]},toks:=tk}:=I.kept λb o e=>Ai _ e;refine⟨(s.heap.push {cls:=.type "range",data:=.fields #[.int lo t,.int hi u,.int 1 v]}).objs.size,[(s.heap.push {cls:=.type "range",data:=.fields #[.int lo t,.int hi u,.int 1 v]}).objs.size],_,_,H,rfl,
  c.kept (t':=tk) λb o e=>Ai _ e,S4 _ lo (hi-lo).toNat,?_,λb k=>?_,q⟩
 .have l:lo+((0:Nat):Int)*1=lo:=by simp
  have g:(((hi-lo).toNat:Nat):Int)-((0:Nat):Int)=Builtin.Range.rangeSize lo hi 1:=by rw[rangeSize_one];split<;>lia
  show IsRangeIter _ _ (lo+((0:Nat):Int)*1) ((((hi-lo).toNat:Nat):Int)-((0:Nat):Int)) 1;rw[l,g];exact Bc _ rfl
 .have e:b=(s.heap.push {cls:=.type "range",data:=.fields #[.int lo t,.int hi u,.int 1 v]}).objs.size:=by simpa using k
  subst e;exact c.fpOk (Ag _) (c.hok.fresh (Ag _))
def S6(ta:TA):TI:=λb H R=>ta b H λvs a=>∃j:Int,vs=[.int j]/\-(2 ^ 62)<=j/\j<2 ^ 62/\R (t8 0 j.toNat) a
theorem S7(g:Gl X "range")(l:X.mg "range" = none)(n:PA X [a] ta)(m:Bk [a] X.env=[(false,eval a X.env)]:=by rfl):PI X tg (.Call (.Name "range" p) [a] [] pos) (S6 ta):=by
 intro b s o H R I h;refine Call_ (nE I g l boot_range (El (a8 (n pos b s o H _ I h) λus u ⟨vs,v,i,d,c⟩=>?_) m rfl));obtain⟨j,e,c,f,q⟩:=c;subst e;cases d with
 | cons r k=>
  cases k;obtain⟨t,rfl⟩:=r;exact call_range_1 (S5 i (by lia) (by lia) c f (by simpa using q))
def S8(f:TI)(g:TG)(tb:TS):TS:=λD a H=>f a H λJ h=>∃W:Nat->Nat->St->Hp->Prop,(∃m,W 0 m a h)/\∀i m a H,W i m a H->
 (J.stop i H/\D.nx a H)\/(J.go i H/\∃N:St->Hp->Prop,(∀b c,N b c->∃e,e<m/\W (i+1) e b c)/\∀x c,J.yld i H x c->g x a c λd j=>tb {D with nx:=N,ct:=N,bk:=D.nx} d j)
def rQ(fp:List Addr)(h:Heap):List (Addr×Obj):=fp.filterMap λb=>(h.get? b).map λo=>(b,o)
theorem t9(a:b∈fp)(e:h.get? b=some o):(b,o)∈rQ fp h:=Kn.mpr ⟨b,a,by rw[e];rfl⟩
theorem S9(c:p∈rQ fp h):p.1∈fp/\h.get? p.1=some p.2:=by
 obtain⟨b,d,e⟩:=Kn.mp c;cases q:h.get? b with
 | none=>rw[q]at e;cases e
 | some o=>
  rw[q]at e;have a:(b,o)=p:=Ci e;subst a;exact⟨d,q⟩
theorem Inv.pinned(I:Inv X a f H s)(hf:∀b∈fp,hZ X a H b)(l:∀b∈fp,∃o,s.heap.get? b=some o/\∀v,o.data≠.cell v):Inv X (a++rQ fp s.heap) f H s:=
 I.pins_of λp k=>(Bg.mp k).elim (λz=>I.pin p (Ca _ z)) λz=>by
  obtain⟨g,e⟩:=S9 z;obtain⟨h,i,j,_⟩:=hf p.1 g;obtain⟨o,c,d⟩:=l p.1 g;rw[e]at c;cases c;exact⟨e,h,i,j,d⟩
theorem Inv.unpinned(I:Inv X (a++pl) b H s):Inv X a b H s:=I.pins_of λp c=>I.pin p (Ca _ (Bs _ c))
theorem TB(L:PassesOwn (Bu X.prog X.w) X.A X.env X.xe)(hc:X.calm=true)(hi:PI X tg p Z)(hg:PG X tg g)(y:gE X E tb)(hs:∀x,Fi p X.env x=pure x:=by intro _;rfl):PS X (.For tg p E [] pos) (S8 Z g tb):=by
 intro c s σ H D I h;refine wpAny_For (a8 (hi c s σ H _ I h) λv s1 h1=>a8 h1 λitv s2 h2=>?_) hs;obtain⟨it,fp,tn,J,H2,e,I2,T,S,f2,W,⟨m0,w0⟩,K⟩:=h2;subst e;have t:∀{B:Hp},(∀b∈fp,B b=none)->∀b∈fp,hZ X c B b:=λhn b y=>⟨hn b y,(f2 b y).2⟩
 refine codeAny_forLoop_any (λn s'=>∃i q B,Inv X c q B s'/\tn i s'.heap/\(∀b∈fp,B b=none)/\W i n q B) ?_ m0 ⟨0,σ,H2,I2,S,λb y=>(f2 b y).1,w0⟩;rintro n s3 ⟨i,k,P,I3,O,G,w3⟩;rcases K i n k P w3 with⟨stop,qn⟩|⟨go,N,hN,step⟩
 .refine Ho L (a8 (T.done X rfl rfl rfl hc i c s3 k P X.xe I3 (t G) O stop) λr s4 ⟨V,I4⟩=>?_);subst V;exact Mz ⟨k,P,I4,qn⟩
 .refine Ho L (a8 (T.item X rfl rfl rfl hc i c s3 k P X.xe I3 (t G) O go) λr s4 ⟨u,V,h4⟩=>?_);subst V;refine Ho L (a8 h4 λ_ s5 ⟨x,H5,I5,r5,y5,F,Y⟩=>?_);have U:=I5.pinned (t Y) (T.obj _ _ F);refine Ho L (a8 (hg _ s5 k H5 x u _ U r5 (step x H5 y5)) λ_ s6 ⟨Q,H6,I6,q6⟩=>?_);refine Ho L (a8 (y _ s6 Q H6 _ I6 q6) λf R C=>?_);have j:∀{a:St} {l:Hp},Inv X (c++rQ fp s5.heap) a l R->N a l->∃m,m<n/\∃i q B,Inv X c q B R/\tn i R.heap/\(∀b∈fp,B b=none)/\W i m q B:=λ{a l} z M=>by
   obtain⟨m',hm,w7⟩:=hN a l M;refine⟨m',hm,i+1,a,l,z.unpinned,T.keep _ _ _ F λb y o e=>(z.pin (b,o) (Ca _ (Ca _ (t9 y e)))).1,λb y=>?_,w7⟩;obtain⟨o,e,d⟩:=T.obj _ _ F b y;exact(z.pin (b,o) (Ca _ (Ca _ (t9 y e)))).2.1
  cases f with
  | next=>obtain⟨a,l,z,M⟩:=C;exact j z M
  | cont=>obtain⟨a,l,z,M⟩:=C;exact j z M
  | brk=>obtain⟨a,l,z,C⟩:=C;exact⟨a,l,z.unpinned,C⟩
  | ret v=>obtain⟨x7,a,l,z,r7,C⟩:=C;exact⟨x7,a,l,z.unpinned,r7,C⟩
end
abbrev R2:=V->V->Hp->VK->Prop
def bC(X:Cx)(f:Ae->Ae->Sem Ae)(r:R2):Prop:=
 ∀(a:List (Addr×Obj)) (s:Ah) (b:St) (H:Hp) (x y:V) (v u:Ae) (Q:VK),Inv X a b H s->RelV x v->RelV y u->r x y H Q->
  Bh (Bu X.prog X.w) X.A (f v u) (EP X a b Q) X.xe s
def rR(X:Cx)(f:Ae->Sem Ae)(r:V->Hp->VK->Prop):Prop:=
 ∀(a:List (Addr×Obj)) (s:Ah) (b:St) (H:Hp) (x:V) (v:Ae) (Q:VK),Inv X a b H s->RelV x v->r x H Q->
  Bh (Bu X.prog X.w) X.A (f v) (EP X a b Q) X.xe s
def c0(X:Cx)(f:Ae)(r:List V->Hp->VK->Prop):Prop:=
 ∀(a:List (Addr×Obj)) (s:Ah) (b:St) (H:Hp) (xs:List V) (us:List Ae) (Q:VK),Inv X a b H s->a7 xs us->r xs H Q->
  Bh (Bu X.prog X.w) X.A (call f us) (EP X a b Q) X.xe s
def TC(X:Cx)(r:V->Hp->(Bool->Hp->Prop)->Prop):Prop:=
 ∀(a:List (Addr×Obj)) (s:Ah) (b:St) (H:Hp) (x:V) (v:Ae) (Q:Bool->Hp->Prop),Inv X a b H s->RelV x v->r x H Q->
  Bh (Bu X.prog X.w) X.A (truthy v) (TP X a b Q) X.xe s
def rS(r:R2)(ta tb:TE):TE:=λa H Q=>ta a H λx b=>tb a b λy c=>r x y c Q
def TF(r:V->Hp->VK->Prop)(ta:TE):TE:=λb H Q=>ta b H λx a=>r x a Q
def rI(C:Int->Int->Prop)(g:Int->Int->V):R2:=λx y H Q=>∃i j,x=.int i/\y=.int j/\C i j/\Q (g i j) H
def kX(g:Int->Int->V):R2:=λx y H Q=>∃i j,x=.int i/\y=.int j/\Q (g i j) H
def rU(g:Int->V):V->Hp->VK->Prop:=λx H Q=>∃i,x=.int i/\Q (g i) H
section
variable {X:Cx}{a b c:Expr}{ta tb tc:TE}{pos:Pos}
theorem xX(t:PE X a ta)(z:PE X b tb){c:List (Addr×Obj)}{s:Ah}{d:St}{H:Hp}{R:V->V->Hp->Prop}(I:Inv X c d H s)(h:ta d H λx k=>tb d k λy e=>R x y e){Q:Ae->Ah->Prop}{f:Ae->Ae->Sem Ae}(hf:∀v u j x y e,Inv X c d e j->RelV x v->RelV y u->R x y e->Bh (Bu X.prog X.w) X.A (f v u) Q X.xe j):
  Bh (Bu X.prog X.w) X.A (eval a X.env) (λv g=>Bh (Bu X.prog X.w) X.A (eval b X.env) (λu i=>Bh (Bu X.prog X.w) X.A (f v u) Q X.xe i) X.xe g) X.xe s:=by
 refine a8 (t c s d H _ I h) λv q ⟨x,k,p,l,n⟩=>?_;refine a8 (z c q d k _ p n) λu j ⟨y,e,r,o,m⟩=>?_;exact hf v u j x y e r l o m
theorem TH(m:bC X (Dr op) r)(g:PE X a ta)(k:PE X b tb):PE X (.BinOp a op b pos) (rS r ta tb):=by
 intro c s i H Q I h;exact wpAny_BinOp (xX g k I h λv u l x y j f d e q=>m c l i j x y v u Q f d e q)
theorem TJ{r:V->Hp->VK->Prop}(k:rR X (unaryOp op) r)(j:PE X a ta):PE X (.UnaryOp op a pos) (TF r ta):=by
 intro b s c H Q I h;exact UnaryOp_ (a8 (j b s c H _ I h) λv g ⟨x,i,f,d,e⟩=>k b g c i x v Q f d e)
theorem pO{f:Ae->Ae->Sem Ae}{C:Int->Int->Prop}{g:Int->Int->Int}(rule:∀(i j:Int) (t u:Tok) (s:Ah) (Q:Ae->Ah->Prop) (E:Ae->Ah->Prop),C i j->Q (.int (g i j) s.toks) {s with toks:=s.toks+1}->Bh (Bu X.prog X.w) X.A (f (.int i t) (.int j u)) Q E s):
  bC X f (rI C λi j=>.int (g i j)):=by
 intro a s d H x y v u Q I b c h;obtain⟨i,j,rfl,rfl,hc,q⟩:=h;obtain⟨t,rfl⟩:=b;obtain⟨t',rfl⟩:=c;exact rule i j t t' s _ _ hc ⟨.int (g i j),H,I.tok _,⟨_,rfl⟩,q⟩
theorem xY{f:Ae->Ae->Sem Ae}{g:Int->Int->Int}(rule:∀(i j:Int) (t u:Tok) (s:Ah) (Q:Ae->Ah->Prop) (E:Ae->Ah->Prop),Q (.int (g i j) s.toks) {s with toks:=s.toks+1}->Bh (Bu X.prog X.w) X.A (f (.int i t) (.int j u)) Q E s):
  bC X f (kX λi j=>.int (g i j)):=by
 intro a s d H x y v u Q I b c h;obtain⟨i,j,rfl,rfl,q⟩:=h;obtain⟨t,rfl⟩:=b;obtain⟨t',rfl⟩:=c;exact rule i j t t' s _ _ ⟨.int (g i j),H,I.tok _,⟨_,rfl⟩,q⟩
theorem uA{f:Ae->Ae->Sem Ae}{g:Int->Int->Bool}(rule:∀(i j:Int) (t u:Tok) (s:Ah) (Q:Ae->Ah->Prop) (E:Ae->Ah->Prop),Q (.bool (g i j)) s->Bh (Bu X.prog X.w) X.A (f (.int i t) (.int j u)) Q E s):
  bC X f (kX λi j=>.bl (g i j)):=by
 intro a s d H x y v u Q I b c h;obtain⟨i,j,rfl,rfl,q⟩:=h;obtain⟨t,rfl⟩:=b;obtain⟨t',rfl⟩:=c;exact rule i j t t' s _ _ ⟨.bl (g i j),H,I,rfl,q⟩
def rT(i j:Int):Prop:=0<=j/\j<=1000000/\i.natAbs<2 ^ 64
def pP(i j:Int):Prop:=(-(2 ^ 64)<i/\i<2 ^ 64)\/(-(2 ^ 64)<j/\j<2 ^ 64)
theorem pP.ok{i j:Int}(h:pP i j):IntMulOk i j:=by
 rcases h with⟨b,a⟩|⟨b,a⟩
 .exact .of_left (intBits_le_64 b a)
 .exact .of_right (intBits_le_64 b a)
theorem TL(k:Nat):(0:Int)<=2 ^ k:=by
 rw[two_pow_cast];exact Int.natCast_nonneg _
theorem TM:bC X (Dr .Add) (kX λi j=>.int (i+j)):=xY λ_ _ _ _ _ _ _ q=>add_int q
theorem TN:bC X (Dr .Sub) (kX λi j=>.int (i-j)):=xY λ_ _ _ _ _ _ _ q=>sub_int q
theorem TQ:bC X (Dr .Mult) (rI pP λi j=>.int (i*j)):=pO λ_ _ _ _ _ _ _ hc q=>mul_int q hc.ok
theorem TR:bC X (Dr .Mod) (rI (λ_ j=>0<j) λi j=>.int (i % j)):=pO λi j _ _ _ _ _ hc q=>by
 have a:(0:Int)<j:=hc;exact mod_int' (by lia) (by rw[Int.fmod_eq_emod_of_nonneg i (by lia)];exact q)
theorem TU:bC X (Dr .Pow) (rI rT λi j=>.int (i ^ j.toNat)):=pO λ_ _ _ _ _ _ _ hc q=>pow_int_small hc.1 hc.2.1 hc.2.2 q
theorem TV:bC X (Dr .RShift) (rI (λ_ j=>0<=j) λi j=>.int (i/2 ^ j.toNat)):=pO λi j _ _ _ _ _ hc q=>
 rshift_int hc (by rw[Int.fdiv_eq_ediv_of_nonneg i (TL _)];exact q)
theorem TX:bC X (Dr .BitAnd) (kX λi j=>.int (Builtin.bitAnd i j)):=xY λ_ _ _ _ _ _ _ q=>and_int q
theorem TY{f:Ae->Sem Ae}{g:Int->Int}(rule:∀(i:Int) (t:Tok) (s:Ah) (Q:Ae->Ah->Prop) (E:Ae->Ah->Prop),Q (.int (g i) s.toks) {s with toks:=s.toks+1}->Bh (Bu X.prog X.w) X.A (f (.int i t)) Q E s):
  rR X f (rU λi=>.int (g i)):=by
 intro a s c H x v Q I b h;obtain⟨i,rfl,q⟩:=h;obtain⟨t,rfl⟩:=b;exact rule i t s _ _ ⟨.int (g i),H,I.tok _,⟨_,rfl⟩,q⟩
theorem TZ:rR X (unaryOp .USub) (rU λi=>.int (-i)):=TY λ_ _ _ _ _ q=>neg_int q
end
def uB:V->V->Bool
 | .non,.non=>true|.non,.int _=>true|.int _,.non=>true|.non,.bl _=>true|.bl _,.non=>true|.non,.str _=>true|.str _,.non=>true
 | .int _,.int _=>true|.bl _,.bl _=>true|.str _,.str _=>true|.byt _,.byt _=>true
 | .int _,.str _=>true|.str _,.int _=>true|.bl _,.str _=>true|.str _,.bl _=>true
 | _,_=>false
def rEq:R2:=λx y H Q=>uB x y=true/\Q (.bl (decide (x=y))) H
def T1:R2:=λx y H Q=>uB x y=true/\Q (.bl (!decide (x=y))) H
theorem HH{i j:Int}:decide (V.int i=V.int j)=(i==j):=by
 rw[Dv];simp
theorem HI{i j:Bool}:decide (V.bl i=V.bl j)=(i==j):=by
 rw[Dv];simp
theorem HJ:decide (V.str i=V.str j)=(i==j):=by
 rw[Dv];simp
theorem HK:decide (V.byt i=V.byt j)=(i.toList==j.toList):=by
 rw[Dv];cases i;cases j;simp
section
variable {X:Cx}{a b c:Expr}{ta tb tc:TE}{pos:Pos}
theorem dO{a:List (Addr×Obj)}{c:St}{H:Hp}{s:Ah}{Q:VK}{k b:Bool}(I:Inv X a c H s)(q:Q (.bl k) H)(e:k=b):EP X a c Q (.bool b) s:=by
 subst e;exact⟨.bl k,H,I,rfl,q⟩
theorem T2:bC X (Co .Eq) rEq:=by
 intro pins s σ H x y v u Q I rx ry h;obtain⟨hs,q⟩:=h;cases x with
 | non=>
  cases rx;cases y with
  | non=>cases ry;exact PySem.EqNone.eq_none_none (dO I q (by simp))
  | bl j=>cases ry;exact PySem.EqNone.eq_none_bool (dO I q (by simp))
  | int j=>obtain⟨t',rfl⟩:=ry;exact PySem.EqNone.eq_none_int (dO I q (by simp))
  | str j=>obtain⟨t',rfl⟩:=ry;exact PySem.EqNone.eq_none_str (dO I q (by simp))
  | _=>exact absurd (show false=true from hs) Ao
 | bl i=>
  cases rx;cases y with
  | non=>cases ry;exact PySem.EqNone.eq_bool_none (dO I q (by simp))
  | bl j=>cases ry;exact eq_bool (dO I q HI)
  | str j=>obtain⟨t',rfl⟩:=ry;exact PySem.EqMixed.eq_bool_str (dO I q (by simp))
  | _=>exact absurd (show false=true from hs) Ao
 | int i=>
  obtain⟨t,rfl⟩:=rx;cases y with
  | non=>cases ry;exact PySem.EqNone.eq_int_none (dO I q (by simp))
  | int j=>obtain⟨t',rfl⟩:=ry;exact eq_int (dO I q HH)
  | str j=>obtain⟨t',rfl⟩:=ry;exact PySem.EqMixed.eq_int_str (dO I q (by simp))
  | _=>exact absurd (show false=true from hs) Ao
 | str i=>
  obtain⟨t,rfl⟩:=rx;cases y with
  | non=>cases ry;exact PySem.EqNone.eq_str_none (dO I q (by simp))
  | bl j=>cases ry;exact PySem.EqMixed.eq_str_bool (dO I q (by simp))
  | int j=>obtain⟨t',rfl⟩:=ry;exact PySem.EqMixed.eq_str_int (dO I q (by simp))
  | str j=>obtain⟨t',rfl⟩:=ry;exact eq_str (dO I q HJ)
  | _=>exact absurd (show false=true from hs) Ao
 | byt i=>
  obtain⟨t,rfl⟩:=rx;cases y with
  | byt j=>obtain⟨t',rfl⟩:=ry;exact PySem.W.eq_bytes (dO I q HK)
  | _=>exact absurd (show false=true from hs) Ao
 | _=>cases y<;>exact absurd (show false=true from hs) Ao
theorem T4:bC X (Co .NotEq) T1:=by
 intro pins s σ H x y v u Q I rx ry h;obtain⟨hs,q⟩:=h;cases x with
 | non=>
  cases rx;cases y with
  | non=>cases ry;exact PySem.EqNone.ne_none_none (dO I q (by simp))
  | bl j=>cases ry;exact PySem.EqNone.ne_none_bool (dO I q (by simp))
  | int j=>obtain⟨t',rfl⟩:=ry;exact PySem.EqNone.ne_none_int (dO I q (by simp))
  | str j=>obtain⟨t',rfl⟩:=ry;exact PySem.EqNone.ne_none_str (dO I q (by simp))
  | _=>exact absurd (show false=true from hs) Ao
 | bl i=>
  cases rx;cases y with
  | non=>cases ry;exact PySem.EqNone.ne_bool_none (dO I q (by simp))
  | bl j=>cases ry;exact ne_bool (dO I q (congrArg not HI))
  | str j=>obtain⟨t',rfl⟩:=ry;exact PySem.EqMixed.ne_bool_str (dO I q (by simp))
  | _=>exact absurd (show false=true from hs) Ao
 | int i=>
  obtain⟨t,rfl⟩:=rx;cases y with
  | non=>cases ry;exact PySem.EqNone.ne_int_none (dO I q (by simp))
  | int j=>obtain⟨t',rfl⟩:=ry;exact ne_int (dO I q (congrArg not HH))
  | str j=>obtain⟨t',rfl⟩:=ry;exact PySem.EqMixed.ne_int_str (dO I q (by simp))
  | _=>exact absurd (show false=true from hs) Ao
 | str i=>
  obtain⟨t,rfl⟩:=rx;cases y with
  | non=>cases ry;exact PySem.EqNone.ne_str_none (dO I q (by simp))
  | bl j=>cases ry;exact PySem.EqMixed.ne_str_bool (dO I q (by simp))
  | int j=>obtain⟨t',rfl⟩:=ry;exact PySem.EqMixed.ne_str_int (dO I q (by simp))
  | str j=>obtain⟨t',rfl⟩:=ry;exact ne_str (dO I q (congrArg not HJ))
  | _=>exact absurd (show false=true from hs) Ao
 | byt i=>
  obtain⟨t,rfl⟩:=rx;cases y with
  | byt j=>obtain⟨t',rfl⟩:=ry;exact PySem.W.ne_bytes (dO I q (congrArg not HK))
  | _=>exact absurd (show false=true from hs) Ao
 | _=>cases y<;>exact absurd (show false=true from hs) Ao
theorem T5:bC X (Co .Lt) (kX λi j=>.bl (decide (i<j))):=uA λ_ _ _ _ _ _ _ q=>lt_int q
theorem T6:bC X (Co .LtE) (kX λi j=>.bl (decide (i<=j))):=uA λ_ _ _ _ _ _ _ q=>le_int q
theorem T7:bC X (Co .Gt) (kX λi j=>.bl (decide (j<i))):=uA λ_ _ _ _ _ _ _ q=>gt_int q
theorem T8:bC X (Co .GtE) (kX λi j=>.bl (decide (j<=i))):=uA λ_ _ _ _ _ _ _ q=>ge_int q
theorem T9:bC X (Co .In) (λx y H Q=>∃i j,x=.str i/\y=.str j/\Q (.bl (!(Ic j i 0 j.length 1).isEmpty)) H):=by
 intro a s d H x y v u Q I b c h;obtain⟨i,j,rfl,rfl,q⟩:=h;obtain⟨t,rfl⟩:=b;obtain⟨t',rfl⟩:=c;exact in_str (dO I q rfl)
theorem UA:bC X (Co .NotIn) (λx y H Q=>∃i j,x=.str i/\y=.str j/\Q (.bl (!(!(Ic j i 0 j.length 1).isEmpty))) H):=by
 intro a s d H x y v u Q I b c h;obtain⟨i,j,rfl,rfl,q⟩:=h;obtain⟨t,rfl⟩:=b;obtain⟨t',rfl⟩:=c;exact notIn_str (dO I q rfl)
theorem bC.or{f:Ae->Ae->Sem Ae}{r c:R2}(h:bC X f r)(h':bC X f c):bC X f (λx y H Q=>r x y H Q\/c x y H Q):=by
 intro a s e H x y v u Q I b d q;rcases q with q|q
 .exact h a s e H x y v u Q I b d q
 .exact h' a s e H x y v u Q I b d q
theorem HL(b:Expr)(h:op≠.In:=by decide)(c:op≠.NotIn:=by decide):Hr op b=false:=by
 have d:(op==CmpOp.In)=false:=by cases op<;>first|rfl|exact absurd rfl h
 have a:(op==CmpOp.NotIn)=false:=by cases op<;>first|rfl|exact absurd rfl c
 cases b<;>simp[Hr,d,a]
theorem UB(n:bC X (Co op) r)(i:PE X a ta)(l:PE X b tb)(f:Hr op b=false):PE X (.Compare a [op] [b] pos) (rS r ta tb):=by
 intro c s j H Q I h;exact wpAny_Compare1 (xX i l I h λv u m x y k g d e q=>n c m j k x y v u Q g d e q) f
def HM(t:TE):TT:=λb H Q=>t b H λx a=>∃k,x=.bl k/\Q k a
theorem UC(G:bC X (Co op) r)(m:PE X a ta)(B:PE X b tb)(p:Hr op b=false):PT X (.Compare a [op] [b] pos) (HM (rS r ta tb)):=by
 intro d s f H Q I h;refine wpAny_isTrue_Compare1 (a8 (m d s f H _ I h) λv w ⟨x,j,i,g,D⟩=>a8 (B d w f j _ i D) λu F ⟨y,q,l,E,n⟩=>
  a8 (G d F f q x y v u _ l g E n) λc J ⟨z,t,o,A,k,e,C⟩=>?_) p
 subst e;cases A;exact Fx ⟨t,o,C⟩
def HN(r d:R2)(ta tb tc:TE):TE:=λa H Q=>ta a H λx e=>tb a e λy g=>r x y g λz b=>∃k,z=.bl k/\
 (if k=true then tc a b λc f=>d y c f Q else Q (.bl false) b)
theorem UD(ho:bC X (Co op) r)(j:bC X (Co g) l)(G:PE X a ta)(Y:PE X b tb)(hc:PE X c tc)(O:lastMarks [op,g] [b,c]=false:=by with_unfolding_all rfl):PT X (.Compare a [op,g] [b,c] pos) (HM (HN r l ta tb tc)):=by
 intro f s i H Q I h;refine isTrue_chain (a8 (G f s i H _ I h) λv U ⟨x,D,B,q,q1⟩=>test_link (a8 (Y f U i D _ B q1) λu s2 ⟨y,R,F,p,L⟩=>
  a8 (ho f s2 i R x y v u _ F q p L) λd K ⟨z,n,m,W,k,e,o⟩=>?_)) O
 subst e;cases W;refine Fx ?_;cases k with
 | false=>
  obtain⟨k',C,S⟩:=o;cases C;exact ite_ff ⟨n,m,S⟩
 | true=>
  refine ite_tt (test_last (a8 (hc f K i n _ m o) λt w ⟨M,P,T,Z,N⟩=>a8 (j f w i P y M u t _ T p Z N) λd' s5 ⟨z2,J,E,r5,k2,A,V⟩=>?_));subst A;cases r5;exact Fx ⟨J,E,V⟩
def HP(K:Ac)(x:V)(H:Hp)(k:Bool):Prop:=
 match x with
 | .non=>k=false
 | .bl b=>k=b
 | .int i=>k=(i !=0)
 | .str y=>y.length<=An/\k=((y.length:Int) !=0)
 | .byt y=>y.size<=An/\k=((y.size:Int) !=0)
 | .ref p=>(∃xs,bO K H p xs/\k = !xs.isEmpty)\/(∃xs,cD K H p xs/\k = !xs.isEmpty)\/∃kvs,H p=some (.dK kvs)/\k = !kvs.isEmpty
 | _=>False
theorem UE{κ:Type}{kvs:List (κ×V)}{vs:List (κ×Ae)}(r:KV kvs vs):(!vs.isEmpty) = !kvs.isEmpty:=by
 cases r<;>rfl
theorem HQ{xs:List V}{its:List Ae}(r:a7 xs its):(!its.toArray.isEmpty) = !xs.isEmpty:=by
 cases r<;>simp
theorem n8:(An:Nat)<2 ^ 63:=by rw[Lw];decide
theorem UG:TC X (λx H Q=>∃k,HP X.K x H k/\Q k H):=by
 intro pins s σ H x v Q I rx h;obtain⟨k,e,q⟩:=h;have hl:=n8;have hs:An=16777216:=Lw;cases x with
 | non=>
  cases rx;have e':k=false:=e;subst e';exact truthy_none ⟨H,I,q⟩
 | bl b=>
  cases rx;have e':k=b:=e;subst e';exact Fx ⟨H,I,q⟩
 | int i=>
  obtain⟨t,rfl⟩:=rx;have e':k=(i !=0):=e;subst e';exact PySem.P.truthy_int ⟨H,I,q⟩
 | str y=>
  obtain⟨t,rfl⟩:=rx;obtain⟨hy,e'⟩:y.length<=An/\k=((y.length:Int) !=0):=e;subst e';exact PySem.P.truthy_str (by lia) ⟨H,I.tok _,q⟩
 | byt y=>
  obtain⟨t,rfl⟩:=rx;obtain⟨hy,e'⟩:y.size<=An/\k=((y.size:Int) !=0):=e;subst e';exact PySem.W.truthy_bytes (by lia) ⟨H,I.tok _,q⟩
 | ref p=>
  cases rx;have e':(∃xs,bO X.K H p xs/\k = !xs.isEmpty)\/(∃xs,cD X.K H p xs/\k = !xs.isEmpty)\/∃kvs,H p=some (.dK kvs)/\k = !kvs.isEmpty:=e;rcases e' with⟨xs,hx,e'⟩|⟨xs,hx,e'⟩|⟨kvs,hx,e'⟩
  .subst e';obtain⟨its,r,pl,hz⟩:=I.list hx;have hlen:=r.length;exact wpAny_truthy_list pl.isList (by simp only[Bf];lia) ⟨H,I.tok _,by rw[HQ r];exact q⟩
  .subst e';obtain⟨its,r,pl,hz⟩:=I.tuple hx;have hlen:=r.length;exact truthy_tuple pl (by simp only[Bf];lia) ⟨H,I.tok _,by rw[HQ r];exact q⟩
  .subst e';obtain⟨hz,hS,vs,r,m⟩:kvs.length<=An/\(p==Ep)=false/\∃vs,KV kvs vs/\s.heap.DictOf (b7 X.prog X.w) p vs:=I.hok p _ hx;have hlen:kvs.length=vs.length:=Cw r;exact wpAny_truthy_dict hS m (by lia) ⟨H,I.tok _,by rw[UE r];exact q⟩
 | _=>exact(show False from e).elim
theorem UH(m:PE X a ta)(n:∀b,isTrue a X.env b=(do let v <-b;Nl a.pos;Hy [v] (truthy v))):
  PT X a (λd H Q=>ta d H λx e=>∃k,HP X.K x e k/\Q k e):=by
 intro c s d H Q I h;exact isTrue_plain (a8 (m c s d H _ I h) λv j ⟨x,l,i,f,g⟩=>UG c j d l x v Q i f g) (n _)
theorem UI:bC X (Dr .Add) (λx y H Q=>∃i j,x=.str i/\y=.str j/\i.length+j.length<=An/\Q (.str (i++j)) H):=by
 intro a s d H x y v u Q I b c h;obtain⟨i,j,rfl,rfl,hz,q⟩:=h;obtain⟨t,rfl⟩:=b;obtain⟨t',rfl⟩:=c;exact add_str (λt' tk=>⟨.str (i++j),H,I.tok _,⟨_,rfl⟩,q⟩) hz
theorem vals1(r:a7 [x] us):∃u,us=[u]/\RelV x u:=by
 cases r with
 | cons a b=>cases b;exact⟨_,rfl,a⟩
theorem vals2(r:a7 [x,y] us):∃u a,us=[u,a]/\RelV x u/\RelV y a:=by
 cases r with
 | cons b d=>
  cases d with
  | cons c e=>cases e;exact⟨_,_,rfl,b,c⟩
theorem UJ:c0 X (.type "str") (λxs H Q=>∃i,xs=[.int i]/\i.natAbs.log2<1920/\Q (.str (toString i)) H):=by
 intro a s b H xs us Q I r h;obtain⟨i,rfl,hz,q⟩:=h;obtain⟨u,rfl,t,rfl⟩:=vals1 r;exact PySem.P.str_of_int hz ⟨.str _,H,I.tok _,⟨_,rfl⟩,q⟩
end
structure n9(h:Heap)(x dx C:Addr)(mA:Str->Option Ae):Prop where
 obj:h.get? x=some (Gm C dx)
 ns:h.Ns1 dx mA
 ne:dx≠x
theorem UK{h:Heap}{dx:Addr}{mA:Str->Option Ae}(n:h.Ns1 dx mA):∃c,h.get? dx=some c/\∀name,Mb name c=some (mA name):=by
 obtain⟨o,es,ep,i,hd,hk,_,g⟩:=n;refine⟨o,i,λname=>?_⟩;have e:=g name;unfold nsFind findBy at e;rw[<-Array.find?_toList]at e;unfold Mb;rw[hd];dsimp only;split
 .rename_i y q;rw[q]at e;exact congrArg some e
 .rename_i q;rw[q]at e;have a:es.toList.any (·.refKey)=false:=by
   rw[List.any_eq_false];intro y d;obtain⟨z,t,b⟩:=hk y (Array.mem_toList_iff.mp d);simp[DictEntry.refKey,b]
  have f:¬es.toList.any (·.refKey)=true:=by rw[a];exact Ao
  rw[if_neg f];exact congrArg some e
theorem n9.look{mA:Str->Option Ae}(I:n9 h x dx C mA):∃a,PySem.W.InstAt h x (Gm C dx) C (some a)/\∀name,Mb name a=some (mA name):=
 let ⟨a,ho,hl⟩:=UK I.ns
 ⟨a,⟨I.obj,rfl,rfl,ho⟩,hl⟩
section
variable {prog:Ax}{w:Bl}{A:Cs}{E:Ae->Ah->Prop}{s:Ah}{K:Ac}{x dx C f:Addr}{mA:Str->Option Ae}{name:Str}{v:Ae}
theorem UL{a:Bool}{Q:Ae->Ah->Prop}(X:K.In s.heap)(I:n9 s.heap x dx C mA)(d:La K C name=true)(hh:PySem.W.hasDictIn K C=true)(e:Cg K (.ref C) name=some none)(c:mA name=some v)(b:PySem.W.handedIn v=true)(h:Q v {s with toks:=s.toks+1}):
  Bh (Bu prog w) A (getAttr (.ref x) name a) Q E s:=by
 obtain⟨f,J,hl⟩:=I.look;exact PySem.W.get_value X J (Mj d).1 (PySem.W.findObj_own hh e rfl (by rw[hl,c])) b h
theorem UM{Q:Ae×List Ae->Ah->Prop}(X:K.In s.heap)(I:n9 s.heap x dx C mA)(a:La K C name=true)(hf:Cg K (.ref C) name=some (some (.ref f)))(ht:Lg K (.ref f)=true)(b:mA name=none)(h:Q (.ref f,[.ref x]) s):
  Bh (Bu prog w) A (Nm (.ref x) name pl) Q E s:=by
 obtain⟨c,J,hl⟩:=I.look;exact PySem.W.method_fn X J (Mj a).1 (Mj a).2 hf (beq_iff_eq.mp ht) (by show(Mb name c).map (·.isSome)=some false;rw[hl,b];rfl) h
theorem UN{Q:Unit->Ah->Prop}(X:K.In s.heap)(I:n9 s.heap x dx C mA)(l:Cg K (.ref C) "__setattr__" = some (some (.builtin "object.__setattr__")))(n:PySem.W.plainOver K C=true)(ht:PySem.W.takerIn K C name=some none)(hh:PySem.W.hasDictIn K C=true)(hw:PySem.Within mA ns)(hsz:ns.length<=An)(h:∀h',n9 h' x dx C (λy=>if y=name then some v else mA y)->Ex dx s.heap h'->Q () {s with heap:=h',toks:=s.toks+2}):
  Bh (Bu prog w) A (setAttr (.ref x) name v) Q E s:=by
 obtain⟨p,J,hl⟩:=I.look;refine PySem.W.set_plain X J l (PySem.W.osa_open (s:={s with toks:=s.toks+1}) (r:=none) X J n ht λb=>?_);obtain⟨o,hc,e⟩:=PySem.W.any_some hh;have j:s.heap.get? x=some ⟨.ref C,some dx,.plain,#[]⟩:=I.obj;refine Aa (Af (Aa (Aa (wpAny_loadPart j (Aa (PySem.W.Looks.here (s:={s with toks:=s.toks+1}) (PySem.W.looks_clsIn X hc) ?_))))));rw[e];refine Af (a:=some dx) (Aa (Af (Aa ?_)));refine wpAny_nsSet1 (s:={s with toks:=s.toks+1}) I.ns λh' d c=>?_;obtain⟨q,k,m,f,i,g⟩:=d.count (PySem.Within.cons name v hw);refine Aa (wpAny_lookBehind f (by rw[i];exact pastItsLine_dict (Ay g (by rw[Br];lia))) ?_);exact Af (h _ ⟨(c.2 _ (Bz I.ne)).trans I.obj,d,I.ne⟩ c)
theorem UO{R:Result->Ah->Prop}(X:K.In s.heap)(b:PySem.W.makesIn K C=true)(hi:Cg K (.ref C) "__init__" = some (some (.ref f)))(hf:PySem.W.typeIn K (.ref f)=some (.type "function"))(h:Kz (Bu prog w) (A.under (.builtin "type.__call__" ⟨.ref C::vs,a⟩)) (.call (.ref f) ⟨.ref (s.heap.objs.size+1)::vs,a⟩) (PySem.W.InitBack (s.heap.objs.size+1) R)
   {s with heap:=(s.heap.push Fd).push (Gm C s.heap.objs.size)}):
  Kz (Bu prog w) A (.call (.ref C) ⟨vs,a⟩) R s:=by
 obtain⟨hh,g,d,t,os⟩:=s;exact PySem.W.make_core (PySem.W.makes_of X b) (PySem.W.looks_findIn X hi) (λself=>PySem.W.bind_fn X self hf) (.inl rfl) h
end
def putF(f:Str)(v:V):List (Str×V)->List (Str×V)
 | []=>[(f,v)]
 | (g,x)::r=>if g=f then(g,v)::r else(g,x)::putF f v r
theorem HR(f g:Str)(v:V):∀fs:List (Str×V),(putF f v fs).lookup g=if g=f then some v else fs.lookup g
 | []=>by
  show Cb g [(f,v)]=_
  by_cases h:g=f
  .have a:(g==f)=true:=beq_iff_eq.mpr h;simp only[Cb,a,if_pos h]
  .have a:(g==f)=false:=beq_eq_false_iff_ne.mpr h;simp only[Cb,a,if_neg h]
 | (k,x)::r=>by
  have b:=HR f g v r;rw[show putF f v ((k,x)::r)=(if k=f then(k,v)::r else(k,x)::putF f v r) from rfl]
  by_cases hk:k=f
  .rw[if_pos hk]
   by_cases h:g=k
   .have a:(g==k)=true:=beq_iff_eq.mpr h;simp only[Cb,a,if_pos (h.trans hk)]
   .have a:(g==k)=false:=beq_eq_false_iff_ne.mpr h;simp only[Cb,a,if_neg (λe:g=f=>h (e.trans hk.symm))]
  .rw[if_neg hk]
   by_cases h:g=k
   .have a:(g==k)=true:=beq_iff_eq.mpr h;simp only[Cb,a,if_neg (λe:g=f=>hk (h.symm.trans e))]
   .have a:(g==k)=false:=beq_eq_false_iff_ne.mpr h;simp only[Cb,a];exact b
theorem xZ(f:Str)(v:V):∀fs:List (Str×V),f∈(putF f v fs).map (·.1)/\∀g,g∈fs.map (·.1)->g∈(putF f v fs).map (·.1)
 | []=>⟨by simp[putF],λg h=>by simp at h⟩
 | (k,x)::r=>by
  obtain⟨b,a⟩:=xZ f v r;rw[show putF f v ((k,x)::r)=(if k=f then(k,v)::r else(k,x)::putF f v r) from rfl]
  by_cases hk:k=f
  .rw[if_pos hk];subst hk;exact⟨by simp,λg h=>by simpa using h⟩
  .rw[if_neg hk];refine⟨?_,λg h=>?_⟩
   .rw[Aw];exact Ar _ b
   .rw[Aw]at h⊢;rcases Ba.mp h with e|e
    .exact Ba.mpr (.inl e)
    .exact Ar _ (a g e)
theorem HS(f:Str)(v:V):∀fs:List (Str×V),(putF f v fs).length<=fs.length+1
 | []=>by simp[putF]
 | (k,x)::r=>by
  have a:=HS f v r;rw[show putF f v ((k,x)::r)=(if k=f then(k,v)::r else(k,x)::putF f v r) from rfl]
  by_cases hk:k=f
  .rw[if_pos hk,Br,Br];lia
  .rw[if_neg hk,Br,Br];lia
theorem fY.some_of(r:fY (some v) o):∃u,o=some u/\RelV v u:=by
 cases o with
 | none=>exact(show False from r).elim
 | some u=>exact⟨u,rfl,r⟩
theorem fY.none_of(r:fY none o):o=none:=by
 cases o with
 | none=>rfl
 | some u=>exact(show False from r).elim
theorem UP(r:RelV v u):PySem.W.handedIn u=true:=by
 cases v with
 | non=>cases (show u=Value.none from r);rfl
 | bl b=>cases (show u=Value.bool b from r);rfl
 | int i=>obtain⟨t,e⟩:=(show ∃t,u=Value.int i t from r);cases e;rfl
 | str x=>obtain⟨t,e⟩:=(show ∃t,u=Value.str x t from r);cases e;rfl
 | byt b=>obtain⟨t,e⟩:=(show ∃t,u=Value.bytes b t from r);cases e;rfl
 | flt b=>obtain⟨t,e⟩:=(show ∃t,u=Value.float b t from r);cases e;rfl
 | ref a=>cases (show u=Value.ref a from r);rfl
 | ty n=>cases (show u=Value.type n from r);rfl
section
variable {P:Ax}{w:Bl}{H H':Hp}{h h':Heap}{a C dx:Addr}{fs fs':List (Str×V)}
theorem uC(hok:c9 P w H h)(e:H a=some (.ins C dx fs)):∃b,n9 h a dx C b/\(∀f,fY (fs.lookup f) (b f))/\PySem.Within b (fs.map (·.1))/\fs.length<=1000/\H dx=some (.own a):=by
 obtain⟨d,z,ne,ob,b,n,r,q⟩:=(show cC P w H h a (.ins C dx fs) from hok a _ e);exact⟨b,⟨ob,n,ne⟩,r,q,z,d⟩
end
structure gO(K:Ac)(C:Addr):Prop where
 pg:La K C Str.empty=true
 hd:PySem.W.hasDictIn K C=true
 po:PySem.W.plainOver K C=true
 sa:Cg K (.ref C) "__setattr__" = some (some (.builtin "object.__setattr__"))
theorem gO.get{K:Ac}{C:Addr}(c:gO K C)(f:Str):La K C f=true:=c.pg
def fZ(K:Ac)(C:Addr)(f:Str):Prop:=Cg K (.ref C) f=some none
theorem fZ.taker{K:Ac}{C:Addr}{f:Str}(n:fZ K C f):PySem.W.takerIn K C f=some none:=by
 unfold PySem.W.takerIn;rw[show Cg K (.ref C) f=some none from n];rfl
structure pQ(K:Ac)(C:Addr)(m:Str)(f:Addr):Prop where
 at_:Cg K (.ref C) m=some (some (.ref f))
 fn:Lg K (.ref f)=true
 kp:Fc K (.ref f)=true
section
variable {X:Cx}{pins:List (Addr×Obj)}{σ:St}{H:Hp}{s:Ah}{a C dx:Addr}{fs:List (Str×V)}{f:Str}{v:V}{A:Cs}{E:Ae->Ah->Prop}
theorem UQ{b:Bool}{Q:Ae->Ah->Prop}(I:Inv X pins σ H s)(e:H a=some (.ins C dx fs))(c:gO X.K C)(n:fZ X.K C f)(l:fs.lookup f=some v)(h:∀u s',Inv X pins σ H s'->RelV v u->Q u s'):Bh (Bu X.prog X.w) A (getAttr (.ref a) f b) Q E s:=by
 obtain⟨g,O,r,_,_,_⟩:=uC I.hok e;obtain⟨u,d,ru⟩:=fY.some_of (v:=v) (o:=g f) (by rw[<-l];exact r f);exact UL I.kIn O (c.get f) c.hd n d (UP ru) (h u _ (I.tok _) ru)
theorem HU{Q:Ae×List Ae->Ah->Prop}(I:Inv X pins σ H s)(e:H a=some (.ins C dx fs))(c:gO X.K C)(k:pQ X.K C m g)(l:fs.lookup m=none)(h:Q (.ref g,[.ref a]) s):Bh (Bu X.prog X.w) A (Nm (.ref a) m pl) Q E s:=by
 obtain⟨b,O,r,_,_,_⟩:=uC I.hok e;have d:b m=none:=fY.none_of (by rw[<-l];exact r m);exact UM I.kIn O (c.get m) k.at_ k.fn d h
theorem UR{Q:Unit->Ah->Prop}(I:Inv X pins σ H s)(e:H a=some (.ins C dx fs))(c:gO X.K C)(n:fZ X.K C f)(hl:fs.length<1000)(l:RelV y u)(h:∀s',Inv X pins σ (aT H a (.ins C dx (putF f y fs))) s'->Q () s'):Bh (Bu X.prog X.w) A (setAttr (.ref a) f u) Q E s:=by
 obtain⟨k,O,r,j,_,i⟩:=uC I.hok e;have hz:(fs.map (·.1)).length<=An:=by rw[Ab,Lw];lia
 refine UN I.kIn O c.sa c.po n.taker c.hd j hz λh' d sb=>h _ ?_;have hd:∃o,h'.get? dx=some o:=let ⟨o,_,_,e',_⟩:=d.ns;⟨o,e'⟩;refine I.write (x:=a) (e:=dx) (by rw[e];exact True.intro) (.inr i) (λb q m z=>(sb.2 b m).trans z) hd ?_;refine⟨by rw[bD O.ne];exact i,?_,O.ne,d.obj,_,d.ns,λg=>?_,λg p=>?_⟩
 .have:=HS f y fs;lia
 .show fY ((putF f y fs).lookup g) (if g=f then some u else k g);rw[HR]
  by_cases q:g=f
  .rw[if_pos q,if_pos q];exact l
  .rw[if_neg q,if_neg q];exact r g
 .by_cases q:g=f
  .rw[q];exact(xZ f y fs).1
  .refine(xZ f y fs).2 g (j g λz=>p ?_);show(if g=f then some u else k g)=none;rw[if_neg q];exact z
theorem Inv.made(I:Inv X pins σ H s):Inv X pins σ (aT (aT H s.heap.objs.size (.own (s.heap.objs.size+1))) (s.heap.objs.size+1) (.ins C s.heap.objs.size []))
  {s with heap:=(s.heap.push Fd).push (Gm C s.heap.objs.size)}:=by
 have c:(s.heap.push Fd).get? s.heap.objs.size=some Fd:=Bc s.heap rfl;have f:((s.heap.push Fd).push (Gm C s.heap.objs.size)).get? (s.heap.objs.size+1)=some (Gm C s.heap.objs.size):=by
  have:=Bc (s.heap.push Fd) (o:=Gm C s.heap.objs.size) rfl;rwa [Fq]at this
 have g:(s.heap.push Fd).Ns s.heap.objs.size (λ_=>none):=⟨Fd,#[],_,c,rfl,(λe h=>absurd h (by simp)),λ_=>rfl⟩;have d:=I.laid (a:=s.heap.objs.size) (o:=.own (s.heap.objs.size+1)) (h':=s.heap.push Fd) (t':=s.toks) (λb u q=>Ai _ q) (Ag _) ⟨_,c⟩;refine d.laid (a:=s.heap.objs.size+1) (o:=.ins C s.heap.objs.size []) (t':=s.toks) (λb u q=>Ai _ q) (Fp (Fq _ _)) ?_;have ne:s.heap.objs.size≠s.heap.objs.size+1:=Bn (Jz _);refine⟨by rw[bD ne,cU],Bw _,ne,f,λ_=>none,(Heap.Ns1.of_empty g).at λo q=>Ai _ q,λ_=>True.intro,λy i=>absurd rfl i⟩
theorem US{Q:Ae->Ah->Prop}(b:Ft e f env (eval e env)=eval e env)(h:Bh (Bu prog w) A (eval e env) (λo a=>Bh (Bu prog w) A (getAttr o f true) Q E a) E s):Bh (Bu prog w) A (eval (.Attribute e f pos) env) Q E s:=
 Attribute_any_ h (by rw[arm_eval_Attribute,b])
end
def UT(K:Ac)(ta:TE)(f:Str):TE:=λσ H Q=>ta σ H λx b=>∃a C dx fs v,x=.ref a/\b a=some (.ins C dx fs)/\gO K C/\fZ K C f/\fs.lookup f=some v/\Q v b
def UU(K:Ac)(ta tv:TE)(f:Str):TS:=λD σ H=>tv σ H λy c=>ta σ c λx b=>∃a C dx fs,x=.ref a/\b a=some (.ins C dx fs)/\gO K C/\fZ K C f/\fs.length<1000/\
 D.nx σ (aT b a (.ins C dx (putF f y fs)))
section
variable {X:Cx}{o e value:Expr}{f:Str}{pos pos' tpos:Pos}{ta tv:TE}
theorem UW(j:PE X e ta)(i:Ft e f X.env (eval e X.env)=eval e X.env):PE X (.Attribute e f pos) (UT X.K ta f):=by
 intro pins s σ H Q I h;refine US i (a8 (j pins s σ H _ I h) λu p ⟨x,k,d,b,a,C,dx,fs,v,ex,g,c,n,l,q⟩=>?_);subst ex;obtain rfl:u=Value.ref a:=b;exact UQ d g c n l λo r m ru=>⟨v,k,m,ru,q⟩
theorem UX(m:PE X o ta)(g:PE X value tv)(t:Hq value (some (.Attribute o f pos')) pos.line X.env=pure false):PS X (.Assign [.Attribute o f pos'] value pos) (UU X.K ta tv f):=by
 intro pins s σ H D I h;refine plainObj_wpAny_Assign_Attribute (a8 (g pins s σ H _ I h) λu p ⟨y,v,i,e,q⟩=>a8 (m pins p σ v _ i q) λd B ⟨x,A,w,b,a,C,dx,fs,ex,k,c,n,l,r⟩=>?_) t;subst ex;obtain rfl:d=Value.ref a:=b;exact UR w k c n l e λz j=>⟨σ,_,j,r⟩
end
section
variable {X:Cx}{pins:List (Addr×Obj)}{σ:St}{H:Hp}{s:Ah}{A:Cs}{E:Ae->Ah->Prop}{Q:Ae->Ah->Prop}{c:Ae}{b:Bool}
inductive i0(K:Ac)(H:Hp):V->Ae->Prop where
 | non:i0 K H .non (.type "NoneType")
 | bl (x:Bool):i0 K H (.bl x) (.type "bool")
 | int (i:Int):i0 K H (.int i) (.type "int")
 | str (x:Str):i0 K H (.str x) (.type "str")
 | flt (x:UInt64):i0 K H (.flt x) (.type "float")
 | lst {a:Addr} {xs:List V} (e:H a=some (.lst xs)):i0 K H (.ref a) (.type "list")
 | frz {a:Addr} {o:Obj} {xs:List V} (e:H a=some (.frz o (.lst xs))):i0 K H (.ref a) (.type "list")
 | tup {a:Addr} {xs:List V} (e:H a=some (.tup xs)):i0 K H (.ref a) (.type "tuple")
 | dK {a:Addr} {kvs:List (aF×V)} (e:H a=some (.dK kvs)):i0 K H (.ref a) (.type "dict")
 | dT {a:Addr} {kvs:List (List aF×V)} (e:H a=some (.dT kvs)):i0 K H (.ref a) (.type "dict")
 | ins {a C dx:Addr} {fs:List (Str×V)} (e:H a=some (.ins C dx fs)) (cl:gO K C) (ha:Cg K (.ref C) "__class__" = some (some (.builtin "object.__class__")))
   (hn:PySem.W.specialIn K (.builtin "object.__class__") "__get__" = some (some (.builtin "getset_descriptor.__get__"))) (htk:PySem.W.takesIn K (.builtin "object.__class__")=some true)
   (hm:PySem.W.mroIn K C (.type "object")=some true):i0 K H (.ref a) (.ref C)
theorem UY(I:Inv X pins σ H s)(d:RelV x u)(ty:i0 X.K H x t)(e:Iz X.K t c=some b)(h:∀tk,Q (.bool b) {s with toks:=tk}):
  Bh (Bu X.prog X.w) A (call (.builtin "isinstance") [u,c]) Q E s:=by
 cases ty with
 | non=>cases (show u=Value.none from d);exact Ej PySem.W.kitx_none I.kIn True.intro e (λz=>nomatch z) h
 | bl y=>cases (show u=Value.bool y from d);exact Ej PySem.W.kitx_bool I.kIn True.intro e (λz=>nomatch z) h
 | int i=>obtain⟨t,q⟩:=(show ∃t,u=Value.int i t from d);cases q;exact Ej PySem.W.kitx_int I.kIn True.intro e (λz=>nomatch z) h
 | str y=>obtain⟨t,q⟩:=(show ∃t,u=Value.str y t from d);cases q;exact Ej PySem.W.kitx_str I.kIn True.intro e (λz=>nomatch z) h
 | flt y=>obtain⟨t,q⟩:=(show ∃t,u=Value.float y t from d);cases q;exact Ej PySem.W.kitx_float I.kIn True.intro e (λz=>nomatch z) h
 | @lst a xs f=>
  cases (show u=Value.ref a from d);obtain⟨_,_,n,_,g⟩:=(show cC X.prog X.w H s.heap a (.lst xs) from I.hok a _ f);exact Ej PySem.W.kitx_list I.kIn ⟨_,g,rfl⟩ e (λz=>nomatch z) h
 | @frz a ob xs f=>
  cases (show u=Value.ref a from d);obtain⟨_,_,_,n,_,g⟩:=(show cC X.prog X.w H s.heap a (.frz ob (.lst xs)) from I.hok a _ f);exact Ej PySem.W.kitx_list I.kIn ⟨_,g,rfl⟩ e (λz=>nomatch z) h
 | @tup a xs f=>
  cases (show u=Value.ref a from d);obtain⟨_,_,_,p⟩:=(show cC X.prog X.w H s.heap a (.tup xs) from I.hok a _ f);obtain⟨o,g,j,_⟩:=p;exact Ej PySem.W.kitx_tuple I.kIn ⟨o,g,j⟩ e (λz=>nomatch z) h
 | @dK a kvs f=>
  cases (show u=Value.ref a from d);obtain⟨_,_,vs,_,p⟩:=(show cC X.prog X.w H s.heap a (.dK kvs) from I.hok a _ f);obtain⟨o,es,ep,g,j,_⟩:=p;exact Ej PySem.W.kitx_dict I.kIn ⟨o,g,j.1⟩ e (λz=>nomatch z) h
 | @dT a kvs f=>
  cases (show u=Value.ref a from d);obtain⟨_,_,xs,_,o,es,ep,g,j,_⟩:=(show cC X.prog X.w H s.heap a (.dT kvs) from I.hok a _ f);exact Ej PySem.W.kitx_dict I.kIn ⟨o,g,j.1⟩ e (λz=>nomatch z) h
 | @ins a C dx fs f cl l r k m=>
  cases (show u=Value.ref a from d);obtain⟨B,O,_⟩:=uC I.hok f;obtain⟨v,J,_⟩:=O.look;exact Ej (PySem.W.kitx_own (cl.get _) cl.hd l r k m) I.kIn J e (λz=>nomatch z) h
end
structure c8(k:Nat)(A:Cs):Prop where
 hd:A.handled=none
 dp:A.depth+3*k+5<recursionLimit
 un:A.units+16*k+200<Eu
theorem c8.mono{j k:Nat}(r:c8 k A)(h:j<=k):c8 j A:=⟨r.hd,by have:=r.dp;lia,by have:=r.un;lia⟩
theorem c8.deeper{k:Nat}(r:c8 (k+1) A)(env:Env):c8 k (A.deeper env):=
 ⟨r.hd,by have:=r.dp;show A.depth+1+3*k+5<_;lia,by have:=r.un;show A.units+3+16*k+200<_;lia⟩
theorem UZ{A:Cs}{C:Addr}{us:List Ae}{a:List (Str×Ae)}:(A.under (.builtin "type.__call__" ⟨.ref C::us,a⟩)).depth=A.depth+1:=by
 first|rfl|simp[Around.under,Code.weight,Code.isCreation,Code.isGuard,Code.isCaller,Code.frames,Code.isFrame,guardIds]
theorem U0{A:Cs}{C:Addr}{us:List Ae}{a:List (Str×Ae)}:(A.under (.builtin "type.__call__" ⟨.ref C::us,a⟩)).units=A.units+1:=by
 first|rfl|simp[Around.under,Code.cUnits,Code.frames,Code.isFrame]
theorem c8.make{k:Nat}(r:c8 (k+1) A)(C:Addr)(us:List Ae)(a:List (Str×Ae)):c8 k (A.under (.builtin "type.__call__" ⟨.ref C::us,a⟩)):=
 ⟨r.hd,by have:=r.dp;rw[UZ];lia,by have:=r.un;rw[U0];lia⟩
theorem c8.depth{k:Nat}(r:c8 k A):A.depth<recursionLimit:=by have:=r.dp;lia
theorem c8.units{k:Nat}(r:c8 k A):A.units+64<Eu:=by have:=r.un;lia
def yA:TA:=λ_ H Q=>Q [] H
def U1(ta:TE)(a:TA):TA:=λσ H Q=>ta σ H λx c=>a σ c λxs b=>Q (x::xs) b
section
variable {X:Cx}{e:Expr}{es:List Expr}{te:TE}{t:TA}{pos:Pos}
theorem U2:PA X [] yA:=λ_ _ _ _ H Q I h=>Calls.spliced_nil ⟨[],H,I,.nil,h⟩
theorem U3(d:PE X e te)(c:PA X es t)(l:Bk (e::es) X.env=(false,eval e X.env)::Bk es X.env:=by rfl):PA X (e::es) (U1 te t):=by
 intro pos pins s σ H Q I h;rw[l];show Bh _ _ (spliced ((false,eval e X.env)::Fv pos (Bk es X.env))) _ _ s;refine Calls.spliced_cons (a8 (d pins s σ H _ I h) λu f ⟨x,m,b,j,k⟩=>?_);exact a8 (c pos pins f σ m _ b k) λus o ⟨xs,a,n,i,g⟩=>⟨x::xs,a,n,.cons j i,g⟩
def U4(t:TA):TE:=λσ H Q=>t σ H λxs a=>xs.length<=An/\∀p,a p=none->Q (.ref p) (aT a p (.tup xs))
def U5(t:TA):TE:=λσ H Q=>t σ H λxs a=>xs.length<=An/\∀p,a p=none->Q (.ref p) (aT a p (.lst xs))
theorem U6{x1}(h:PA X es t):PE X (.Tuple es x1 pos) (U4 t):=by
 intro pins s σ H Q I f;refine wpAny_Tuple_spliced (a8 (h pos pins s σ H _ I f) λus a ⟨xs,d,c,r,z,q⟩=>⟨by rw[<-r.length];exact z,?_⟩);have hf:d a.heap.objs.size=none:=c.hok.fresh (Ag _);refine⟨.ref a.heap.objs.size,aT d a.heap.objs.size (.tup xs),c.laid (t':=a.toks) (λb u e=>Ai _ e) (Ag _) ?_,rfl,q _ hf⟩;exact⟨z,us,r,⟨_,Bc _ rfl,rfl,_,rfl⟩⟩
theorem HV(h:PA X es t):PE X (.List es pos) (U5 t):=by
 intro pins s σ H Q I f;refine wpAny_List_spliced (a8 (h pos pins s σ H _ I f) λus a ⟨xs,d,c,r,z,q⟩=>⟨by rw[<-r.length];exact z,?_⟩);have hf:d a.heap.objs.size=none:=c.hok.fresh (Ag _);refine⟨.ref a.heap.objs.size,aT d a.heap.objs.size (.lst xs),c.laid (t':=a.toks) (λb u e=>Ai _ e) (Ag _) ?_,rfl,q _ hf⟩;exact⟨z,us,0,r,Bc _ rfl⟩
end
abbrev Sp:=List V->Hp->VK->XK->Prop
abbrev kY:=List Env->Hp->Ah->XK->Ae->Ah->Prop
structure oA(P:Ax)(w:Bl)(K:Ac)(mg:Str->Option Ae)(base:Heap)(A:Cs)(outer:List Env)(s:Ah)(H:Hp):Prop where
 frames:A.frames=some outer
 mod:Mod K mg base
 bs:∀b o,base.get? b=some o->s.heap.get? b=some o/\H b=none
 bsz:base.objs.size<=s.heap.objs.size
 funs:s.heap.FunFrames base outer
 frf:∀b∈iZ outer,H b=none
 hok:c9 P w H s.heap
 bare:My s.gens
def CE(outer:List Env)(P:Ax)(w:Bl)(H:Hp)(s:Ah)(Q:VK)(u:Ae)(s':Ah):Prop:=
 ∃v H',s'.os=s.os/\My s'.gens/\Un (iZ outer) [] H H' s.heap s'.heap/\c9 P w H' s'.heap/\RelV v u/\Q v H'
def CR(CX:kY)(outer:List Env)(P:Ax)(w:Bl)(H:Hp)(s:Ah)(Q:VK)(E:XK)(r:Result)(s':Ah):Prop:=
 match r with
 | .ok (.ret u)=>CE outer P w H s Q u s'
 | .ok _=>False
 | .error e=>CX outer H s E e s'
structure fE(P:Ax)(w:Bl)(K:Ac)(mg:Str->Option Ae)(base:Heap)(CX:kY)(k:Nat)(f:Addr)(fd:Bi)(ps:List Str)(sp:Sp):Prop where
 len:∀vs H Q E,sp vs H Q E->vs.length=ps.length
 run:∀(A:Cs) (outer:List Env) (s:Ah) (H:Hp) (args:Args) (us:List Ae) (vs:List V) (Q:VK) (E:XK),c8 k A->oA P w K mg base A outer s H->BindsTo s fd args (ps.zip us)->a7 vs us->sp vs H Q E->
  Kz (Bu P w) A (.call (.ref f) args) (CR CX outer P w H s Q E) s
theorem oA.make{P:Ax}{w:Bl}{K:Ac}{mg:Str->Option Ae}{base:Heap}{A:Cs}{outer:List Env}{s:Ah}{H:Hp}(e:oA P w K mg base A outer s H)(C:Addr)(us:List Ae)(a:List (Str×Ae)):
  oA P w K mg base (A.under (.builtin "type.__call__" ⟨.ref C::us,a⟩)) outer s H:=⟨by first|exact e.frames|(simpa [Around.under,Code.envs,Code.isFrame,pushEnvs] using e.frames),e.mod,e.bs,e.bsz,e.funs,e.frf,e.hok,e.bare⟩
section
variable {X:Cx}{pins:List (Addr×Obj)}{σ:St}{H:Hp}{s s':Ah}
theorem Inv.env0(I:Inv X pins σ H s):oA X.prog X.w X.K X.mg X.base X.A X.stack s H:=
 ⟨I.ok.frames,I.ok.mod,I.bs,Ay I.ok.bsz I.sz,I.stack,I.stkFree,I.hok,I.bare⟩
theorem Inv.after(I:Inv X pins σ H s)(h:CE X.stack X.prog X.w H s Q u s'):EP X pins σ Q u s':=by
 obtain⟨v,H',os,bare,un,hok,r,q⟩:=h;obtain⟨hh,g,d,t,a⟩:=s';obtain rfl:a=s.os:=os;exact⟨v,H',I.call (h':=hh) (g':=g) (d':=d) (t':=t) (ch:=[]) un hok bare (λb z=>absurd z (by simp)),r,q⟩
end
def HW(sp:Sp)(dvs:List V)(E:XK)(t:TA):TE:=λσ H Q=>t σ H λvs a=>sp (vs++dvs) a Q E
def yB(C:Addr)(m:Str)(sp:Sp)(dvs:List V)(E:XK)(ta:TE)(t:TA):TE:=λσ H Q=>ta σ H λx b=>∃a dx fs,x=.ref a/\b a=some (.ins C dx fs)/\fs.lookup m=none/\
 t σ b λvs c=>sp (x::(vs++dvs)) c Q E
def HX(C:Addr)(sp:Sp)(dvs:List V)(E:XK)(t:TA):TE:=λσ H Q=>t σ H λvs a=>∀x dx,a x=none->a dx=none->dx≠x->
 sp (.ref x::(vs++dvs)) (aT (aT a dx (.own x)) x (.ins C dx [])) (λv b=>v=.non/\Q (.ref x) b) E
def Binds(K:Ac)(fd:Bi)(ps:List Str)(ds:List Ae):Prop:=
 ∀(s:Ah) (us:List Ae),K.In s.heap->(us++ds).length=ps.length->BindsTo s fd ⟨us,[]⟩ (ps.zip (us++ds))
theorem Binds.all{K:Ac}{fd:Bi}{ps:List Str}(h:∀us:List Ae,us.length=ps.length->bindArgs fd ⟨us,[]⟩=pure (ps.zip us)):Binds K fd ps []:=λs us _ hl=>by
 rw[Gv]at hl⊢;exact .of_eq (h us hl)
def nF(CX:kY)(X:Cx)(E:XK):Prop:=∀(pins:List (Addr×Obj)) (σ:St) (H:Hp) (s:Ah) (e:Ae) (s':Ah),Inv X pins σ H s->CX X.stack H s E e s'->X.xe e s'
section
variable {X:Cx}{CX:kY}{k:Nat}{f C:Addr}{fd:Bi}{ps:List Str}{sp:Sp}{dvs:List V}{ds:List Ae}{E:XK}{x m:Str}{p pos apos:Pos}{e o:Expr}{es:List Expr}{ta:TE}{t:TA}
theorem uD(F:fE X.prog X.w X.K X.mg X.base CX k f fd ps sp)(hr:c8 k X.A)(hb:Binds X.K fd ps ds)(hd:a7 dvs ds)(hx:nF CX X E)(I:Inv X pins σ H s)(r:a7 vs us)(h:sp (vs++dvs) H Q E):Bh (Bu X.prog X.w) X.A (call (.ref f) us) (EP X pins σ Q) X.xe s:=by
 have r2:a7 (vs++dvs) (us++ds):=r.append hd;have hl:(us++ds).length=ps.length:=by rw[<-r2.length];exact F.len _ _ _ _ h
 refine wpAny_call (codeAny_mono (F.run X.A X.stack s H ⟨us,[]⟩ (us++ds) (vs++dvs) Q E hr I.env0 (hb s us I.kIn hl) r2 h) λr s' hq=>?_);cases r with
 | error e=>exact hx pins σ H s e s' I hq
 | ok fl=>
  cases fl with
  | ret u=>exact I.after hq
  | next=>exact Gf hq
  | brk=>exact Gf hq
  | cont=>exact Gf hq
theorem U7(F:fE X.prog X.w X.K X.mg X.base CX k f fd ps sp)(g:c8 k X.A)(d:Gl X x)(n:X.mg x=some (.ref f))(hk:Fc X.K (.ref f)=true)(j:Binds X.K fd ps ds)(hd:a7 dvs ds)(l:nF CX X E)(i:PA X (e::es) t)(b:(x==("__debug__" : Str))=false:=by decide)(m:Bk (e::es) X.env=(false,eval e X.env)::Bk es X.env:=by rfl)(a:(Fv pos (Bk es X.env)).any (·.1)=false:=by rfl):
  PE X (.Call (.Name x p) (e::es) [] pos) (HW sp dvs E t):=by
 intro pins s σ H Q I h;refine Fs (tZ I d n ?_ b);refine Ki (h₀:=X.base) I.ok.mod.kin hk (a8 (i pos pins s σ H _ I h) λus o ⟨vs,u,c,r,q⟩=>⟨c.kIn,?_⟩) m a;exact uD F g j hd l c r q
theorem U8(M:PE X o ta)(c:gO X.K C)(j:pQ X.K C m f)(F:fE X.prog X.w X.K X.mg X.base CX k f fd ps sp)(D:c8 k X.A)(y:Binds X.K fd ps ds)(hd:a7 dvs ds)(z:nF CX X E)(v:PA X (e::es) t)(b:Bk (e::es) X.env=(false,eval e X.env)::Bk es X.env:=by rfl)(d:(Fv pos (Bk es X.env)).any (·.1)=false:=by rfl)(ht:eval (.Call (.Attribute o m apos) (e::es) [] pos) X.env=(do
   let i <-eval o X.env
   Nl apos.atName
   let (f,first) <-Hy [i] (Nm i m pl)
   callWith pos f first (Fv pos (Bk (e::es) X.env)) (Mi pos (Jr [] X.env))):=by rfl):
  PE X (.Call (.Attribute o m apos) (e::es) [] pos) (yB C m sp dvs E ta t):=by
 intro pins s σ H Q I h;refine PySem.W.methodCall_KW (pl:=pl) (a8 (M pins s σ H _ I h) λu J ⟨x,B,g,p,a,dx,fs,ex,G,l,q⟩=>?_) ht;subst ex;obtain rfl:u=Value.ref a:=p;refine HU g G c j l ?_;refine Ki (first:=[.ref a]) (h₀:=X.base) I.ok.mod.kin j.kp (a8 (v pos pins J σ B _ g q) λus N ⟨vs,O,n,r,L⟩=>⟨n.kIn,?_⟩) b d;exact uD (us:=.ref a::us) (vs:=.ref a::vs) F D y hd z n (.cons rfl r) L
theorem U9(r:PE X o ta)(c:gO X.K C)(e:pQ X.K C m f)(F:fE X.prog X.w X.K X.mg X.base CX k f fd ps sp)(i:c8 k X.A)(n:Binds X.K fd ps ds)(hd:a7 dvs ds)(p:nF CX X E)(ht:eval (.Call (.Attribute o m apos) [] [] pos) X.env=(do
   let d <-eval o X.env
   Nl apos.atName
   let (f,first) <-Hy [d] (Nm d m pl)
   callWith pos f first (Fv pos (Bk [] X.env)) (Mi pos (Jr [] X.env))):=by rfl):
  PE X (.Call (.Attribute o m apos) [] [] pos) (yB C m sp dvs E ta yA):=by
 intro pins s σ H Q I h;refine PySem.W.methodCall_KW (pl:=pl) (a8 (r pins s σ H _ I h) λu t ⟨x,v,b,g,a,dx,fs,ex,j,l,q⟩=>?_) ht;subst ex;obtain rfl:u=Value.ref a:=g;refine HU b j c e l ?_;exact PySem.W.callWith_K0 (first:=[.ref a]) b.kIn e.kp (uD (us:=[.ref a]) (vs:=[.ref a]) F i n hd p b (.cons rfl .nil) q)
structure Mk(K:Ac)(C f:Addr):Prop where
 makes:PySem.W.makesIn K C=true
 init:Cg K (.ref C) "__init__" = some (some (.ref f))
 fn:Lg K (.ref f)=true
 kp:Fc K (.ref C)=true
theorem HY(M:Mk X.K C f)(F:fE X.prog X.w X.K X.mg X.base CX k f fd ps sp)(hr:c8 (k+1) X.A)(hb:Binds X.K fd ps ds)(hd:a7 dvs ds)(hx:nF CX X E)(I:Inv X pins σ H s)(r:a7 vs us)(h:∀x dx,H x=none->H dx=none->dx≠x->sp (.ref x::(vs++dvs)) (aT (aT H dx (.own x)) x (.ins C dx [])) (λv H2=>v=.non/\Q (.ref x) H2) E):
  Bh (Bu X.prog X.w) X.A (call (.ref C) us) (EP X pins σ Q) X.xe s:=by
 have hq:=h (s.heap.objs.size+1) s.heap.objs.size (I.hok.fresh (Nat.le_succ _)) (I.hok.fresh (Ag _)) (Bn (Jz _));have I2:=Inv.made (C:=C) I;have r2:a7 (V.ref (s.heap.objs.size+1)::(vs++dvs)) (Value.ref (s.heap.objs.size+1)::(us++ds)):=.cons rfl (r.append hd);have hl:(Value.ref (s.heap.objs.size+1)::us++ds).length=ps.length:=by
  have e:=r2.length;rw[F.len _ _ _ _ hq]at e;exact e.symm
 refine wpAny_call (UO (f:=f) I.kIn M.makes M.init (beq_iff_eq.mp M.fn) (codeAny_mono (F.run _ X.stack _ _ ⟨Value.ref (s.heap.objs.size+1)::us,[]⟩ (Value.ref (s.heap.objs.size+1)::(us++ds)) _ _ E (hr.make C us [])
  (I2.env0.make C us []) (hb _ (Value.ref (s.heap.objs.size+1)::us) I2.kIn hl) r2 hq) λr s' hq'=>?_))
 cases r with
 | error e=>exact hx pins σ _ _ e s' I2 hq'
 | ok fl=>
  cases fl with
  | ret u=>
   obtain⟨v,H',I3,rv,ev,q3⟩:=I2.after hq';subst ev;exact⟨rv,⟨V.ref (s.heap.objs.size+1),H',I3,rfl,q3⟩⟩
  | next=>exact Gf hq'
  | brk=>exact Gf hq'
  | cont=>exact Gf hq'
theorem VA(M:Mk X.K C f)(F:fE X.prog X.w X.K X.mg X.base CX k f fd ps sp)(g:c8 (k+1) X.A)(d:Gl X x)(n:X.mg x=some (.ref C))(j:Binds X.K fd ps ds)(hd:a7 dvs ds)(l:nF CX X E)(i:PA X (e::es) t)(b:(x==("__debug__" : Str))=false:=by decide)(m:Bk (e::es) X.env=(false,eval e X.env)::Bk es X.env:=by rfl)(a:(Fv pos (Bk es X.env)).any (·.1)=false:=by rfl):
  PE X (.Call (.Name x p) (e::es) [] pos) (HX C sp dvs E t):=by
 intro pins s σ H Q I h;refine Fs (tZ I d n ?_ b);refine Ki (h₀:=X.base) I.ok.mod.kin M.kp (a8 (i pos pins s σ H _ I h) λus o ⟨vs,u,c,r,q⟩=>⟨c.kIn,?_⟩) m a;exact HY M F g j hd l c r q
theorem VB(M:Mk X.K C f)(F:fE X.prog X.w X.K X.mg X.base CX k f fd ps sp)(b:c8 (k+1) X.A)(g:Gl X x)(e:X.mg x=some (.ref C))(c:Binds X.K fd ps ds)(hd:a7 dvs ds)(d:nF CX X E)(a:(x==("__debug__" : Str))=false:=by decide):PE X (.Call (.Name x p) [] [] pos) (HX C sp dvs E yA):=by
 intro pins s σ H Q I h;refine Fs (tZ I g e ?_ a);exact PySem.W.callWith_K0 I.kIn M.kp (HY (us:=[]) M F b c hd d I .nil h)
end
structure pR(N P:List Str)(sc:Jg):Prop where
 kind:sc.kind=.function
 co:sc.isCoroutine=false
 gen:sc.isGenerator=false
 nd:N.Nodup
 pre:N.take P.length=P
 par:∀x∈P,sc.names.lookup x=some .local\/sc.names.lookup x=some .cell
 nofree:∀y∈sc.names,y.2≠.free
theorem HZ{a:Str->Option Il}:∀{binds:List (Str×Ae)} {m:Str->Option Ae},(∀v,(x,v)∉binds)->bindL a binds m x=m x
 | [],_,_=>rfl
 | (n,v)::r,m,h=>by
  unfold bindL;rw[HZ λw hw=>h w (Ar _ hw)];split
  .have:x≠n:=by rintro rfl;exact h v Az
   simp[this]
  .rfl
theorem IA{a:Str->Option Il}:∀{binds:List (Str×Ae)} {m:Str->Option Ae},(∀v,(x,v)∉binds)->bindC a binds m x=m x
 | [],_,_=>rfl
 | (n,v)::r,m,h=>by
  unfold bindC;rw[IA λw hw=>h w (Ar _ hw)];split
  .rfl
  .have:x≠n:=by rintro rfl;exact h v Az
   simp[this]
theorem IC{a:Str->Option Il}:∀{P:List Str} {vs:List Ae} {i:Nat} {m:Str->Option Ae},P.Nodup->P[i]? = some x->vs[i]? = some v->a x=some .local->
  bindL a (P.zip vs) m x=some v
 | [],_,_,_,_,h,_,_=>by simp at h
 | _::_,[],_,_,_,_,h,_=>by simp at h
 | p::P,w::vs,0,m,nd,c,b,hk=>by
  simp at c b;subst c;subst b;show bindL a ((p,w)::P.zip vs) m p=_;unfold bindL;rw[HZ λv d=>(Cz.mp nd).1 (List.of_mem_zip d).1,if_pos hk];simp
 | p::P,w::vs,i+1,m,nd,c,b,hk=>by
  show bindL a ((p,w)::P.zip vs) m x=_;unfold bindL;exact IC (i:=i) (Cz.mp nd).2 (by simpa using c) (by simpa using b) hk
theorem ID{a:Str->Option Il}:∀{P:List Str} {vs:List Ae} {i:Nat} {m:Str->Option Ae},P.Nodup->P[i]? = some x->vs[i]? = some v->a x≠some .local->
  bindC a (P.zip vs) m x=some v
 | [],_,_,_,_,h,_,_=>by simp at h
 | _::_,[],_,_,_,_,h,_=>by simp at h
 | p::P,w::vs,0,m,nd,c,b,hk=>by
  simp at c b;subst c;subst b;show bindC a ((p,w)::P.zip vs) m p=_;unfold bindC;rw[IA λv d=>(Cz.mp nd).1 (List.of_mem_zip d).1,if_neg hk];simp
 | p::P,w::vs,i+1,m,nd,c,b,hk=>by
  show bindC a ((p,w)::P.zip vs) m x=_;unfold bindC;exact ID (i:=i) (Cz.mp nd).2 (by simpa using c) (by simpa using b) hk
def start(N:List Str)(vs:List V):St:=vs.map some++Bv (N.length-vs.length) none
def nG(CX:kY)(P:Ax)(w:Bl)(K:Ac)(mg:Str->Option Ae)(base:Heap)(N:List Str)(b:Str)(a:Jg)(f:Addr)(d:Ae)(A:Cs)(outer:List Env)(s:Ah)(H:Hp)(E:XK):Cx where
 prog:=P
 w:=w
 K:=K
 mg:=mg
 base:=base
 A:=A.deeper (Lz b a s.heap.objs.size f d)
 N:=N
 s₀:=s
 H₀:=H
 env:=Lz b a s.heap.objs.size f d
 outer:=outer
 stack:=Lz b a s.heap.objs.size f d::outer
 ex:=[]
 calm:=true
 fn:=λ_=>true
 pn:=[]
 xe:=λe s'=>Bh (Bu P w) (A.deeper (Lz b a s.heap.objs.size f d)) (leaving (Lz b a s.heap.objs.size f d) e) (λ_ c=>CX outer H s E e c) (λg c=>CX outer H s E g c) s'
theorem IE{sc:Jg}{n:Nat}{x:Str}(h:sc.names.lookup x=some .cell):∃c,(cellsFrom n sc.names []).lookup x=some c:=by
 have q:=PySem.W.cellsFrom_some sc.names n [] (.inl h);exact Fm.mp q
theorem VC{CX:kY}{P:Ax}{w:Bl}{K:Ac}{mg:Str->Option Ae}{base:Heap}{N ps:List Str}{g:Str}{d:Jg}{f:Addr}{C:Ae}{A:Cs}{outer:List Env}{s G:Ah}{H:Hp}{E:XK}{us:List Ae}{vs:List V}(S:pR N ps d)(hd:A.handled=none)(l:oA P w K mg base A outer s H)(hl:vs.length=ps.length)(r:a7 vs us)(x:InCallC s s.heap.objs.size (bindL (Lz g d s.heap.objs.size f C).kindOf (ps.zip us) λ_=>none) (cellsFrom (s.heap.objs.size+1) d.names []) (bindC (Lz g d s.heap.objs.size f C).kindOf (ps.zip us) λ_=>none) G):
  Inv (nG CX P w K mg base N g d f C A outer s H E) [] (start N vs) H G:=by
 have I:ps.length<=N.length:=by have:=congrArg Ec S.pre;rw[Ce]at this;lia
 obtain⟨D,tk,rfl,hk⟩:=x.done;have m:∀b:Addr,b∉(nG CX P w K mg base N g d f C A outer s H E).ex:=λb z=>absurd (show b∈([]:List Addr) from z) (by simp);refine⟨⟨l.mod,S.kind,rfl,rfl,Ag _,λy z c D j=>?_,λy o=>?_,λy c _ h=>?_,λ_=>hd,Around.frames_deeper l.frames,.inr ⟨rfl,rfl⟩,λb z=>absurd z (m b),l.bs,l.bsz,λb _ _=>m b,λb z=>absurd z (m b),l.funs,l.frf⟩,
  rfl,l.bare,Un.kept hk,⟨_,x.toInCall.ns,λi y v D j M=>?_⟩,λy c h=>⟨_,x.cell y c h⟩,l.hok.fresh (Ag _),λy c h=>?_,λp t=>absurd (show p∈([]:List (Addr×Obj)) from t) (by simp),l.hok.kept hk,?_⟩
 .exact name_of_addr x.apart (Hb D) (Hb j)
 .have o:d.names.lookup y=some .cell\/d.names.lookup y=some .free:=o;rcases o with o|o
  .exact IE o
  .exact absurd rfl (S.nofree _ (Hb o))
 .exact Jo (x.above y c (Hb h))
 .have hi:i<vs.length:=by
   unfold start at j
   by_cases hi:i<vs.length
   .exact hi
   .rw[Ht (by simpa using hi)]at j;rw[List.getElem?_replicate]at j;split at j<;>cases j
  have J:vs[i]? = some v:=by
   unfold start at j;rw[Kx (by simpa using hi),Av]at j;cases e:vs[i]? with
   | none=>rw[e]at j;cases j
   | some a=>rw[e]at j;cases j;rfl
  obtain⟨u,F,L⟩:=r.get J;have t:ps[i]? = some y:=by
   rw[<-S.pre,List.getElem?_take_of_lt (by lia)];exact D
  have B:ps.Nodup:=by rw[<-S.pre];exact S.nd.sublist (List.take_sublist _ _)
  refine⟨u,L,?_⟩;rcases S.par y (Au t) with k|k
  .exact .inl ⟨k,IC B t F k⟩
  .obtain⟨c,e⟩:=IE (n:=s.heap.objs.size+1) k;refine .inr ⟨.inl k,c,e,?_⟩;have q:=x.cell y c e;rw[ID B t F (by show d.names.lookup y≠_;rw[k];decide)]at q;exact q
 .exact l.hok.fresh (Jo (x.above y c (Hb h)))
 .unfold start;show _=N.length;rw[Ak,Ab,Mh];lia
theorem VD{CX:kY}{P:Ax}{w:Bl}{K:Ac}{mg:Str->Option Ae}{base:Heap}{k:Nat}{f:Addr}{name qual:Str}{params:Arguments}{body:List Stmt}{scope:Jg}{dV kV doc pm cdv ct oc:Ae}{an od:Option Addr}{osl:Array (Option Ae)}{N ps:List Str}{sp:Sp}(lk:K.lookup f=some ⟨oc,od,.func (Ek name qual params body scope dV kV doc pm an cdv ct),osl⟩)(hcd:Ja K cdv qual=true)(S:pR N ps scope)(len:∀vs H Q E,sp vs H Q E->vs.length=ps.length)(hbody:∀(A:Cs) (outer:List Env) (s:Ah) (H:Hp) (vs:List V) (Q:VK) (E:XK),c8 k (A.deeper (Lz qual scope s.heap.objs.size f cdv))->sp vs H Q E->
   ∃t,gE (nG CX P w K mg base N qual scope f cdv A outer s H E) body t/\t {nx:=λ_ H'=>Q .non H',rt:=Q} (start N vs) H):
  fE P w K mg base CX (k+1) f (Ek name qual params body scope dV kV doc pm an cdv ct) ps sp:=by
 refine⟨len,λA outer s H args us vs Q E hr e0 hb r hsp=>?_⟩;have hl:=len _ _ _ _ hsp;have KX:K.In s.heap:=e0.mod.kin.keeps λb o e=>(e0.bs b o e).1;have lim:s.heap.NoLimit:=e0.mod.nolimit.keeps λb o e=>(e0.bs b o e).1;have hkind:∀y∈ps.zip us,scope.names.lookup y.1=some .local\/(scope.names.lookup y.1=some .cell/\((cellsFrom (s.heap.objs.size+1) scope.names []).lookup y.1).isSome=true):=λ⟨n,v⟩ hy=>by
  rcases S.par n (List.of_mem_zip hy).1 with q|q
  .exact .inl q
  .exact .inr ⟨q,PySem.W.cellsFrom_some _ _ _ (.inl q)⟩
 refine codeAny_call_function hr.depth (KX _ _ lk) rfl S.co S.gen rfl (PySem.W.codeRec_of KX hcd) (hb _ _ _ _ ?_);refine wpAny_newFunctionEnv_cells S.kind hkind λenv he s1 x=>?_;subst he;refine⟨lim.keeps x.toInCall.keep,codeAny_func ?_⟩;obtain⟨t,ht,hq⟩:=hbody A outer s H vs Q E (hr.deeper _) hsp;have I:Inv (nG CX P w K mg base N qual scope f cdv A outer s H E) [] (start N vs) H s1:=VC S hr.hd e0 hl r x;refine Ik (ht [] s1 (start N vs) H _ I hq) (λfl s' hs=>?_) λe s' hs=>hs;have fin:∀{σ':St} {H':Hp} {v:V} {u:Ae},Inv (nG CX P w K mg base N qual scope f cdv A outer s H E) [] σ' H' s'->RelV v u->Q v H'->CE outer P w H s Q u s':=
  λ{σ' H' v u} J rv q=>⟨v,H',J.os,J.bare,J.base,J.hok,rv,q⟩
 cases fl with
 | ret u=>
  obtain⟨v,σ',H',J,rv,q⟩:=hs;exact fin J rv q
 | next=>
  obtain⟨σ',H',J,q⟩:=hs;exact fin (v:=V.non) (u:=Value.none) J rfl q
 | brk=>
  obtain⟨_,_,_,q⟩:=hs;exact Gf q
 | cont=>
  obtain⟨_,_,_,q⟩:=hs;exact Gf q
section
variable {X:Cx}{x:Str}{p pos:Pos}{e:Expr}{es:List Expr}{t:TA}{id T:String}{r:List V->Hp->VK->Prop}
def yC(r:List V->Hp->VK->Prop)(t:TA):TE:=λσ H Q=>t σ H λvs a=>r vs a Q
theorem VE(hc:c0 X (.builtin id) r)(c:Gl X x)(m:X.mg x=none)(d:Cy x=some (.builtin id))(g:PA X (e::es) t)(n:x≠"__name__":=by decide)(b:(x==("__debug__" : Str))=false:=by decide)(k:Bk (e::es) X.env=(false,eval e X.env)::Bk es X.env:=by rfl)(a:(Fv pos (Bk es X.env)).any (·.1)=false:=by rfl):PE X (.Call (.Name x p) (e::es) [] pos) (yC r t):=by
 intro pins s σ H Q I h;refine Fs (nE I c m d ?_ n b);exact PyProof.Rows.callWith_builtin1 (a8 (g pos pins s σ H _ I h) λus i ⟨vs,o,f,j,l⟩=>hc pins i σ o vs us Q f j l) k a
theorem VF(hc:c0 X (.type T) r)(c:Gl X x)(m:X.mg x=none)(d:Cy x=some (.type T))(g:PA X (e::es) t)(n:x≠"__name__":=by decide)(b:(x==("__debug__" : Str))=false:=by decide)(k:Bk (e::es) X.env=(false,eval e X.env)::Bk es X.env:=by rfl)(a:(Fv pos (Bk es X.env)).any (·.1)=false:=by rfl):PE X (.Call (.Name x p) (e::es) [] pos) (yC r t):=by
 intro pins s σ H Q I h;refine Fs (nE I c m d ?_ n b);exact El (a8 (g pos pins s σ H _ I h) λus i ⟨vs,o,f,j,l⟩=>hc pins i σ o vs us Q f j l) k a
end
end L2
namespace HT
open PySem PyProof.Rows
section
variable {prog:Ax}{w:Bl}{A:Cs}{E:Ae->Ah->Prop}{s:Ah}
theorem cat_tup{Q:Ae->Ah->Prop}(ht:IsTup s.heap t vs.toArray)(p:IsTup s.heap b ws.toArray)(l:vs≠[])(o:ws=[]->Q (.ref t) s)(q:ws≠[]->Q (.ref s.heap.objs.size) {s with heap:=s.heap.push {cls:=.type "tuple",data:=.seq (vs++ws).toArray}})(hsz:vs.length+ws.length<=An):Bh (Bu prog w) A (Dr .Add (.ref t) (.ref b)) Q E s:=by
 obtain⟨⟨cls,j,data,sl⟩,h,hc,n,hd⟩:=id ht;obtain⟨⟨k,c,i,g⟩,a,d,m,f⟩:=id p;simp only at hc hd d f;subst hc hd d f;have e:vs.toArray++ws.toArray=(vs++ws).toArray:=by simp
 by_cases hw:ws=[]
 .exact concat_meets ⟨_,h,rfl⟩ ⟨_,a,rfl⟩ noFill_tuple_add seq_tuple_add Lh Lb (Ku _ _)
   (tuple_addW1 t b vs.toArray ws.toArray n m j c sl g (by simpa using l) (by simp[hw])) ⟨h,a,o hw⟩
 .refine concat_meets ⟨_,h,rfl⟩ ⟨_,a,rfl⟩ noFill_tuple_add seq_tuple_add Lh Lb (Ku _ _)
   (tuple_addW2 t b vs.toArray ws.toArray n m j c sl g (by simpa using l) (by simpa using hw) (by rw[Bf,Bf];exact hsz)) ⟨h,a,?_⟩
  rw[e];exact q hw
def sIx(n d:Nat):Option Int->Nat
 | none=>d
 | some v=>if v<0 then(v+(n:Int)).toNat else min v.toNat n
theorem sIx_nat(n d k:Nat):sIx n d (some (k:Int))=min k n:=by
 show(if (k:Int)<0 then((k:Int)+(n:Int)).toNat else min (k:Int).toNat n)=min k n;rw[if_neg (by lia),Dc]
theorem VG(n d:Nat)(hd:d<=n)(o:Option Int):sIx n d o<=n:=by
 cases o with
 | none=>exact hd
 | some v=>
  show(if v<0 then(v+(n:Int)).toNat else min v.toNat n)<=n
  by_cases a:v<0
  .rw[if_pos a];lia
  .rw[if_neg a];exact Nat.min_le_right _ _
theorem IF(v:Int)(n d:Nat):(if v<0 then max (v+(n:Int)) 0 else min v (n:Int))=((sIx n d (some v):Nat):Int):=by
 show(if v<0 then max (v+(n:Int)) 0 else min v (n:Int))=(((if v<0 then(v+(n:Int)).toNat else min v.toNat n):Nat):Int)
 by_cases a:v<0
 .simp only[if_pos a];lia
 .simp only[if_neg a];lia
theorem VH(lo hi:Option Int)(n:Nat):Ka lo hi 1 (n:Int)=(((sIx n 0 lo:Nat):Int),((sIx n n hi:Nat):Int)):=by
 have a:¬((1:Int)<0):=by lia
 unfold Ka;simp only[a,if_false];refine Lj ?_ ?_
 .cases lo with
  | none=>rfl
  | some v=>exact IF v n 0
 .cases hi with
  | none=>rfl
  | some v=>exact IF v n n
theorem VI(i j:Nat):Hh (i:Int) (j:Int) 1=j-i:=by
 unfold Hh;have a:(1:Int) > 0:=by lia
 simp only[a,if_true,Int.ediv_one];split<;>lia
theorem IG{Q:Option Int->Ah->Prop}(p:IsPart v o)(h:Q o s):Bh (Bu prog w) A (Builtin.Slice.slicePartIndex v) Q E s:=by
 cases p with
 | none=>exact slicePart_none h
 | int i t=>exact slicePart_int h
theorem VJ{sl:Addr}{d c:Ae}{lo hi:Option Int}{n:Nat}{Q:Int×Int×Nat->Ah->Prop}(g:s.heap.IsSliceOf sl d c .none)(pl:IsPart d lo)(e:IsPart c hi)(h:Q (((sIx n 0 lo:Nat):Int),1,sIx n n hi-sIx n 0 lo) s):Bh (Bu prog w) A (Builtin.Slice.sliceApplied (.ref sl) (pure (n:Int))) Q E s:=by
 obtain⟨os,a,f,b⟩:=id g;unfold Builtin.Slice.sliceApplied Builtin.Slice.sliceFields;refine Aa (Aa (Jq a b (x:=d) rfl (Aa (Jq a b (x:=c) rfl (Aa (Jq a b (x:=.none) rfl (Af ?_)))))));refine Aa (slicePart_none ?_);show Bh _ _ (if ((1:Int)==0)=true then _ else _) _ _ s;rw[if_neg (by decide)];refine Aa (IG pl (Aa (IG e (Aa (Af ?_)))));show Bh _ _ (match Ka lo hi 1 (n:Int) with|(lo,hi)=>pure (lo,(1:Int),Hh lo hi 1)) _ _ s;rw[VH lo hi n];show Bh _ _ (pure (((sIx n 0 lo:Nat):Int),(1:Int),Hh ((sIx n 0 lo:Nat):Int) ((sIx n n hi:Nat):Int) 1)) _ _ s;rw[VI];exact Af h
theorem VL(xs:Array Ae)(i k:Nat):((Cr k).filterMap λ(m:Nat)=>xs[((i:Int)+(m:Int)*1).toNat]?).toArray=((xs.toList.drop i).take k).toArray:=by
 have e:(λ(m:Nat)=>xs[((i:Int)+(m:Int)*1).toNat]?)=λm=>xs[i+m]?:=by
  funext m;have:((i:Int)+(m:Int)*1).toNat=i+m:=by lia
  rw[this]
 rw[e];have:=pick_run xs i k;rw[Iw]at this;have a:((λx=>xs[x]?) ∘ λx=>i+x)=λm=>xs[i+m]?:=rfl;rw[a]at this;rw[this]
theorem getItem_tuple_cut{t sl:Addr}{items:Array Ae}{g f:Ae}{lo hi:Option Int}{Q:Ae->Ah->Prop}(ht:IsTup s.heap t items)(i:s.heap.IsSliceOf sl g f .none)(pl:IsPart g lo)(j:IsPart f hi)(hw:¬(sIx items.size 0 lo=0/\sIx items.size items.size hi=items.size))(h:Q (.ref s.heap.objs.size) {s with heap:=s.heap.push {cls:=.type "tuple",data:=.seq ((items.toList.drop (sIx items.size 0 lo)).take (sIx items.size items.size hi-sIx items.size 0 lo)).toArray}})(hsz:items.size<=An):Bh (Bu prog w) A (getItem (.ref t) (.ref sl)) Q E s:=by
 have a:sizeOk (.seq ((items.toList.drop (sIx items.size 0 lo)).take (sIx items.size items.size hi-sIx items.size 0 lo)).toArray):=by
  show((items.toList.drop (sIx items.size 0 lo)).take (sIx items.size items.size hi-sIx items.size 0 lo)).toArray.size<=An;rw[Bf,Ce,Ia,Fw];omega
 have n:sIx items.size items.size hi<=items.size:=VG _ _ (Ag _) hi;obtain⟨os,d,e,k⟩:=id i;have b:s.TypeIs (.ref sl) "slice":=⟨os,d,e⟩;unfold getItem
 try with_reducible refine Dd ?_
 first|refine Aa (Af ?_)|skip
 refine Aa (wpAny_sequenceKey ht.typeIs (by decide) ?_);refine Aa (Fe (name:=Bx "__getitem__") ht.typeIs Ip
  (Dl Ip ht.typeIs entry_tuple_getitem ?_ (args_tuple_getitem _ _)))
 show Bh _ _ (Builtin.Tuple.tupleItemsOf (.ref t)>>=_) _ _ s;refine Aa (tupleItemsOf_ ht ?_);refine Aa (Mu b ?_);rw[if_pos (by decide)];refine Aa (VJ i pl j ?_);have c:¬((((sIx items.size 0 lo:Nat):Int)==0&&(1:Int)==1&&(sIx items.size items.size hi-sIx items.size 0 lo)==items.size)=true):=by
  intro q;rw[Cq,Cq]at q;have o:((sIx items.size 0 lo:Nat):Int)=0:=eq_of_beq q.1.1;have l:sIx items.size items.size hi-sIx items.size 0 lo=items.size:=eq_of_beq q.2;exact hw ⟨by omega,by omega⟩
 show Bh _ _ (if (((sIx items.size 0 lo:Nat):Int)==0&&(1:Int)==1&&(sIx items.size items.size hi-sIx items.size 0 lo)==items.size)=true then _ else _) _ _ s;rw[if_neg c,VL]
 first
  | exact Aa (m:=Hn _) (De (Af ⟨_,rfl,Af h⟩) a)
  | exact Aa (m:=Hn _) (De (Aa (Af (Af ⟨_,rfl,Af h⟩))) a)
  | exact Aa (Aa (m:=Hn _) (De (Af (Af ⟨_,rfl,Af h⟩)) a))
  | exact Aa (Aa (m:=Hn _) (De (Af ⟨_,rfl,Af h⟩) a))
end
end HT
namespace L2
open PySem PySem.Spec PyProof.Rows
abbrev TO:=St->Hp->(Option Int->Hp->Prop)->Prop
def PO(X:Cx)(e:Option Expr)(t:TO):Prop:=
 ∀(pins:List (Addr×Obj)) (s:Ah) (σ:St) (H:Hp) (Q:Option Int->Hp->Prop),Inv X pins σ H s->t σ H Q->
  Bh (Bu X.prog X.w) X.A (evalPart e X.env) (λu b=>∃o a,Inv X pins σ a b/\IsPart u o/\Q o a) X.xe s
def VM:TO:=λ_ H Q=>Q none H
def VN(t:TE):TO:=λσ H Q=>t σ H λx a=>∃i,x=.int i/\Q (some i) a
section
variable {X:Cx}{e:Expr}{te:TE}{lo hi:Option Expr}{tl th:TO}{pos p2:Pos}
theorem VO:PO X none VM:=by
 intro pins s σ H Q I h;rw[evalPart_none];exact Af ⟨none,H,I,.none,h⟩
theorem VP(h:PE X e te):PO X (some e) (VN te):=by
 intro pins s σ H Q I hw;rw[evalPart_some];refine a8 (h pins s σ H _ I hw) λu f ⟨x,d,a,c,b⟩=>?_;obtain⟨i,rfl,q⟩:=b;obtain⟨t,rfl⟩:=c;exact⟨some i,d,a,.int i t,q⟩
def uE(X:Cx)(r:V->Option Int->Option Int->Hp->VK->Prop):Prop:=
 ∀(pins:List (Addr×Obj)) (s:Ah) (σ:St) (H:Hp) (x:V) (v b a:Ae) (lo hi:Option Int) (sl:Addr) (Q:VK),Inv X pins σ H s->RelV x v->s.heap.IsSliceOf sl b a .none->IsPart b lo->IsPart a hi->r x lo hi H Q->
  ∃T id,typeLookup (.type T) "__getitem__" = pure (some (.builtin id))/\s.TypeIs v T/\Bh (Bu X.prog X.w) X.A (getItem v (.ref sl)) (EP X pins σ Q) X.xe s
def VQ(r:V->Option Int->Option Int->Hp->VK->Prop)(te:TE)(tl th:TO):TE:=λσ H Q=>te σ H λx a=>tl σ a λl c=>th σ c λu b=>r x l u b Q
theorem VR{r:V->Option Int->Option Int->Hp->VK->Prop}(G:uE X r)(g:PE X e te)(hl:PO X lo tl)(o:PO X hi th):PE X (.Subscript e (.Slice lo hi none p2) pos) (VQ r te tl th):=by
 intro pins s σ H Q I h;refine Subscript_ (a8 (g pins s σ H _ I h) λv m ⟨x,t,F,i,n⟩=>?_);refine wpAny_Slice (a8 (hl pins m σ t _ F n) λc z ⟨l,j,B,pl,k⟩=>a8 (o pins z σ j _ B k) λd a ⟨u,f,y,E,D⟩=>?_);rw[evalPart_none];refine Af ?_;have J:Inv X pins σ f {a with heap:=a.heap.push {cls:=.type "slice",data:=.fields #[c,d,.none]}}:=y.kept (t':=a.toks) λb ob q=>Ai _ q;obtain⟨T,id,p,ht,C⟩:=G pins {a with heap:=a.heap.push {cls:=.type "slice",data:=.fields #[c,d,.none]}} σ f x v c d l u a.heap.objs.size Q J i (Heap.IsSliceOf.new ..) pl E D;show Bh (Bu X.prog X.w) X.A (subscriptTail e (.Slice lo hi none p2) v (.ref a.heap.objs.size)) (EP X pins σ Q) X.xe {a with heap:=a.heap.push {cls:=.type "slice",data:=.fields #[c,d,.none]}};exact tail_any (ops:=[.ref a.heap.objs.size,v]) ht p C (by with_unfolding_all rfl)
def nH(xs:List V)(lo hi:Option Int):List V:=(xs.drop (HT.sIx xs.length 0 lo)).take (HT.sIx xs.length xs.length hi-HT.sIx xs.length 0 lo)
theorem II(xs:List V)(lo hi:Option Int):(nH xs lo hi).length<=xs.length:=by
 unfold nH;rw[Ce,Ia];lia
def VS(K:Ac):V->Option Int->Option Int->Hp->VK->Prop:=λx lo hi H Q=>∃a xs,x=.ref a/\cD K H a xs/\
 ¬(HT.sIx xs.length 0 lo=0/\HT.sIx xs.length xs.length hi=xs.length)/\∀p,H p=none->Q (.ref p) (aT H p (.tup (nH xs lo hi)))
theorem VT:uE X (VS X.K):=by
 intro pins s σ H x v j i lo hi sl Q I g e pl f h;obtain⟨a,xs,rfl,d,hw,q⟩:=h;cases g;obtain⟨its,r,ht,hz⟩:=I.tuple d;have c:its.toArray.size=xs.length:=by rw[Bf];exact r.length.symm
 refine⟨"tuple",_,Ip.lookup,ht.typeIs,?_⟩;refine HT.getItem_tuple_cut ht e pl f (by rw[c];exact hw) ?_ (by rw[c];exact hz);rw[c];refine⟨.ref s.heap.objs.size,_,I.laid (t':=s.toks) (o:=.tup (nH xs lo hi)) (λb ob q=>Ai _ q) (Ag _) ?_,rfl,q _ (I.hok.fresh (Ag _))⟩;exact⟨Ay (II xs lo hi) hz,_,(r.drop (HT.sIx xs.length 0 lo)).take (HT.sIx xs.length xs.length hi-HT.sIx xs.length 0 lo),IsTup.new _ _⟩
def VU(K:Ac):R2:=λx y H Q=>∃a b xs ys,x=.ref a/\y=.ref b/\cD K H a xs/\cD K H b ys/\xs≠[]/\xs.length+ys.length<=An/\
 (ys=[]->Q (.ref a) H)/\(ys≠[]->∀p,H p=none->Q (.ref p) (aT H p (.tup (xs++ys))))
theorem a7.nil_iff(r:a7 xs us):us=[]↔xs=[]:=by
 cases r with
 | nil=>simp
 | cons _ _=>simp
theorem VW:bC X (Dr .Add) (VU X.K):=by
 intro pins s σ H x y v u Q I n l h;obtain⟨a,b,xs,ys,rfl,rfl,m,j,g,hz,k,f⟩:=h;cases n;cases l;obtain⟨its,d,i,_⟩:=I.tuple m;obtain⟨e,c,p2,_⟩:=I.tuple j;refine HT.cat_tup i p2 (λz=>g (d.nil_iff.mp z)) (λz=>⟨.ref a,H,I,rfl,k (c.nil_iff.mp z)⟩) (λz=>?_) (by rw[<-d.length,<-c.length];exact hz);refine⟨.ref s.heap.objs.size,_,I.laid (t':=s.toks) (o:=.tup (xs++ys)) (λb ob q=>Ai _ q) (Ag _) ?_,rfl,f (λw=>z (c.nil_iff.mpr w)) _ (I.hok.fresh (Ag _))⟩;exact⟨by rw[Ak];exact hz,_,d.append c,IsTup.new _ _⟩
end
def i4(n:Nat)(i:Int):Option Nat:=if 0<=i then(if i<n then some i.toNat else none) else if -(n:Int)<=i then some (i+n).toNat else none
def cA{a:Type}(xs:List a)(i:Int):Option a:=(i4 xs.length i).bind λj=>xs[j]?
theorem IJ{n:Nat}{i:Int}{j:Nat}(h:i4 n i=some j):seqIndex? i n=some j/\j<n/\-(n:Int)<=i/\i<n:=by
 unfold i4 at h
 by_cases b:0<=i
 .rw[if_pos b]at h
  by_cases a:i<n
  .rw[if_pos a]at h;have e:i.toNat=j:=Ci h;exact⟨by rw[seqIndex_of b a,e],by lia,by lia,a⟩
  .rw[if_neg a]at h;cases h
 .rw[if_neg b]at h
  by_cases a : -(n:Int)<=i
  .rw[if_pos a]at h;have e:(i+n).toNat=j:=Ci h;exact⟨by rw[seqIndex_neg (by lia) a,e],by lia,a,by lia⟩
  .rw[if_neg a]at h;cases h
theorem yD{a:Type}{xs:List a}{i:Int}{v:a}(h:cA xs i=some v):∃j,seqIndex? i xs.length=some j/\xs[j]? = some v/\j<xs.length/\-(xs.length:Int)<=i/\i<xs.length:=by
 unfold cA at h;cases e:i4 xs.length i with
 | none=>rw[e]at h;cases h
 | some j=>
  rw[e]at h;obtain⟨c,b,d,f⟩:=IJ e;exact⟨j,c,h,b,d,f⟩
theorem gF{a:Type}{xs:List a}{j:Nat}{v:a}(h:xs[j]? = some v):cA xs (j:Int)=some v:=by
 have b:j<xs.length:=(Ap.mp h).1;have e:i4 xs.length (j:Int)=some j:=by
  unfold i4;rw[if_pos (by lia),if_pos (by lia)];simp
 unfold cA;rw[e];exact h
theorem IK{a:Type}(xs:List a)(v:a):cA (xs++[v]) (-1)=some v:=by
 have hl:(xs++[v]).length=xs.length+1:=by simp
 have e:i4 (xs++[v]).length (-1)=some xs.length:=by
  unfold i4;rw[hl,if_neg (by decide),if_pos (by lia)];congr 1;lia
 unfold cA;rw[e];show(xs++[v])[xs.length]? = some v;simp
def IL(b:Expr):Prop:=∀o i,subscripted b false o i=operate [o,i] (getItem o i)
def jR(X:Cx)(r:R2):Prop:=
 ∀(b a:Expr) (pins:List (Addr×Obj)) (s:Ah) (σ:St) (H:Hp) (x y:V) (v u:Ae) (Q:VK),Inv X pins σ H s->RelV x v->RelV y u->r x y H Q->
  subscripted a false v u=operate [v,u] (getItem v u)->Bh (Bu X.prog X.w) X.A (subscriptTail b a v u) (EP X pins σ Q) X.xe s
def f9(X:Cx)(id:String)(r:V->List V->Hp->VK->Prop):Prop:=
 ∀(pins:List (Addr×Obj)) (s:Ah) (σ:St) (H:Hp) (x:V) (xs:List V) (v:Ae) (us:List Ae) (Q:VK),Inv X pins σ H s->RelV x v->a7 xs us->r x xs H Q->
  Bh (Bu X.prog X.w) X.A (call (.builtin id) (v::us)) (EP X pins σ Q) X.xe s
section
variable {X:Cx}{a b:Expr}{ta tb:TE}{pos:Pos}
theorem jR.or(h:jR X r)(h':jR X e):jR X (λx y H Q=>r x y H Q\/e x y H Q):=by
 intro a b pins s σ H x y v u Q I f d q c;rcases q with q|q
 .exact h a b pins s σ H x y v u Q I f d q c
 .exact h' a b pins s σ H x y v u Q I f d q c
theorem VX(g:jR X r)(i:PE X a ta)(e:PE X b tb)(d:IL b):PE X (.Subscript a b pos) (rS r ta tb):=by
 intro pins s σ H Q I h;exact Subscript_ (xX i e I h λv u c x y l j k f q=>g a b pins c σ l x y v u Q j k f q (d _ _))
def VY(K:Ac):R2:=λx y H Q=>∃p xs i v,x=.ref p/\y=.int i/\bO K H p xs/\cA xs i=some v/\Q v H
def VZ(K:Ac):R2:=λx y H Q=>∃p xs i v,x=.ref p/\y=.int i/\cD K H p xs/\cA xs i=some v/\Q v H
def V0:R2:=λx y H Q=>∃z i c,x=.str z/\y=.int i/\z.length<=An/\cA z.cps.toList i=some c/\Q (.str ⟨#[c]⟩) H
theorem V1:jR X (VY X.K):=by
 intro b e pins s σ H x y v u Q I B A h g;obtain⟨p,xs,i,z,rfl,rfl,C,m,q⟩:=h;cases B;obtain⟨t,rfl⟩:=A;obtain⟨its,r,pl,hz⟩:=I.list C;obtain⟨j,a,o,F,D,l⟩:=yD m;obtain⟨w,f,d⟩:=r.get o;have hl:=r.length;have E:=n8;have fin:EP X pins σ Q w s:=⟨z,H,I,d,q⟩
 by_cases k:0<=i
 .have c:i.toNat=j:=by
   rw[seqIndex_of k l]at a;exact Ci a
  exact item_listR pl.isList k (by lia) (by rw[c];simpa using f) fin g
 .have c:(i+(its.toArray.size:Int)).toNat=j:=by
   rw[seqIndex_neg (by lia) D]at a;rw[Bf,<-hl];exact Ci a
  exact subscriptTail_builtinR (x:=w) pl.isList.typeIs slot_list_getitem.lookup
   (wpAny_getItem_list_neg (Q:=λr n=>r=w/\EP X pins σ Q r n) pl.isList (by lia) (by rw[Bf]<;>lia) (by lia) (by rw[c];simpa using f) ⟨rfl,fin⟩) g
theorem V2:jR X (VZ X.K):=by
 intro a b pins s σ H x y v u Q I o k h d;obtain⟨p,xs,i,z,rfl,rfl,m,e,q⟩:=h;cases o;obtain⟨t,rfl⟩:=k;obtain⟨its,r,pl,hz⟩:=I.tuple m;obtain⟨j,n,g,B,D,A⟩:=yD e;obtain⟨w,l,c⟩:=r.get g;have hl:=r.length;have C:=n8;have fin:EP X pins σ Q w s:=⟨z,H,I,c,q⟩;exact subscriptTail_builtinR (x:=w) pl.typeIs slot_tuple_getitem.lookup
  (getItem_tuple (j:=j) (Q:=λr f=>r=w/\EP X pins σ Q r f) pl (by lia) (by lia) (by rw[Bf,<-hl];exact n) (by simpa using l) ⟨rfl,fin⟩) d
theorem V3:jR X V0:=by
 intro a b pins s σ H x y v u Q I o m h e;obtain⟨z,i,c,rfl,rfl,hz,k,q⟩:=h;obtain⟨t,rfl⟩:=o;obtain⟨t',rfl⟩:=m;obtain⟨j,d,l,r,p,f⟩:=yD k;have hl:z.cps.toList.length=z.length:=by simp[Str.length]
 rw[hl]at d p f;have w:=n8;exact tail_any (typeIs_str s z t) slot_str_getitem.lookup (getItem_str (c:=c) (by
  have g:decide (i < -(2 ^ 63:Int))=false:=decide_eq_false (by lia);have n:decide (i ≥ 2 ^ 63)=false:=decide_eq_false (by lia);rw[g,n,Bool.or_false]) (by rw[d];simpa using l) ⟨.str ⟨#[c]⟩,H,I.tok _,⟨_,rfl⟩,q⟩) e
theorem V4(its:List Ae)(n j:Nat)(u:Ae):Obj.mapSeq (·.setIfInBounds j u) {cls:=.type "list",data:=.seq its.toArray n} = {cls:=.type "list",data:=.seq (its.set j u).toArray n}:=by
 simp[Obj.mapSeq]
theorem Inv.lst{pins:List (Addr×Obj)}{σ:St}{H:Hp}{s:Ah}{p:Addr}{xs:List V}(I:Inv X pins σ H s)(h:H p=some (.lst xs)):
  ∃(its:List Ae) (n:Nat),a7 xs its/\s.heap.get? p=some {cls:=.type "list",data:=.seq its.toArray n}/\xs.length<=An:=by
 obtain⟨z,its,n,r,e⟩:=I.hok p _ h;exact⟨its,n,r,e,z⟩
theorem Inv.lstUpd{pins:List (Addr×Obj)}{σ:St}{H:Hp}{s:Ah}{p:Addr}{xs ys:List V}{its its':List Ae}{n a:Nat}{f:Obj->Obj}(I:Inv X pins σ H s)(h:H p=some (.lst xs))(d:s.heap.get? p=some {cls:=.type "list",data:=.seq its.toArray n})(hf:f {cls:=.type "list",data:=.seq its.toArray n} = {cls:=.type "list",data:=.seq its'.toArray a})(r:a7 ys its')(hz:ys.length<=An)(t:Nat):
  Inv X pins σ (aT H p (.lst ys)) {s with heap:=s.heap.update p f,toks:=t}:=by
 have e:(s.heap.update p f).get? p=some {cls:=.type "list",data:=.seq its'.toArray a}:=by
  rw[Gk f d (by rw[hf]<;>rfl),hf]
 refine I.write (x:=p) (e:=p) (by rw[h];trivial) (.inl rfl) (λb u c q=>(Jl _ _ (Bz c)).trans q) ⟨_,e⟩ ?_;exact⟨hz,its',a,r,e⟩
def V5:V->V->V->Hp->(Hp->Prop)->Prop:=λo i v H Q=>∃p xs k j,o=.ref p/\i=.int k/\H p=some (.lst xs)/\i4 xs.length k=some j/\Q (aT H p (.lst (xs.set j v)))
theorem V6:t6 X V5:=by
 intro pins s σ H o i v B z u Q I l x w h;obtain⟨p,xs,k,j,rfl,rfl,e,m,q⟩:=h;cases l;obtain⟨t,rfl⟩:=x;obtain⟨its,n,r,b,hz⟩:=I.lst e;obtain⟨a,y,f,g⟩:=IJ m;have hl:=r.length;have A:=n8;have c:Inv X pins σ (aT H p (.lst (xs.set j v))) {s with heap:=s.heap.update p (Obj.mapSeq (·.setIfInBounds j u))}:=
  I.lstUpd e b (V4 its n j u) (r.set w j) (by rw[List.length_set];exact hz) s.toks
 by_cases d:0<=k
 .have hk:k.toNat=j:=by
   rw[seqIndex_of d g]at a;exact Ci a
  exact PySem.W.ki_setAt b d (by lia) (by rw[Bf,<-hl];exact g) (by rw[hk];exact⟨_,c,q⟩)
 .have hk:(k+(its.toArray.size:Int)).toNat=j:=by
   rw[seqIndex_neg (by lia) f]at a;rw[Bf,<-hl];exact Ci a
  exact PySem.W.ki_setBack b (by lia) (by rw[Bf,<-hl];exact f) (by lia) (by rw[hk];exact⟨_,c,q⟩)
theorem V7(lo hi:Option Int)(n:Nat):(Kl lo hi none n).1=((HT.sIx n 0 lo:Nat):Int)/\(Kl lo hi none n).2.1=((HT.sIx n n hi:Nat):Int)/\(Kl lo hi none n).2.2=1:=by
 refine⟨?_,?_,rfl⟩
 .cases lo with
  | none=>simp[Kl,HT.sIx]
  | some i=>
   simp only[Kl,HT.sIx,Option.getD_none,show(1:Int) > 0 by decide,if_true]
   by_cases h:i<0
   .simp only[h,if_true]<;>lia
   .simp only[h,if_false]<;>lia
 .cases hi with
  | none=>simp[Kl,HT.sIx]
  | some i=>
   simp only[Kl,HT.sIx,Option.getD_none,show(1:Int) > 0 by decide,if_true]
   by_cases h:i<0
   .simp only[h,if_true]<;>lia
   .simp only[h,if_false]<;>lia
theorem V8(its:List Ae)(lo hi:Option Int):slicePick its.toArray lo hi none=((its.drop (HT.sIx its.length 0 lo)).take (HT.sIx its.length its.length hi-HT.sIx its.length 0 lo)).toArray:=by
 obtain⟨a,b,c⟩:=V7 lo hi its.toArray.size;unfold slicePick;rw[a,b,c];simp only[sliceRange_one,pick_run,Bf]<;>rfl
def V9(K:Ac):V->Option Int->Option Int->Hp->VK->Prop:=λx lo hi H Q=>∃a xs,x=.ref a/\bO K H a xs/\∀p,H p=none->Q (.ref p) (aT H p (.lst (nH xs lo hi)))
theorem yE:uE X (V9 X.K):=by
 intro pins s σ H x v j i lo hi sl Q I g e pl f h;obtain⟨a,xs,rfl,d,q⟩:=h;cases g;obtain⟨its,r,ht,hz⟩:=I.list d;have c:=r.length;refine⟨"list",_,slot_list_getitem.lookup,ht.isList.typeIs,?_⟩;refine wpAny_getItem_list_slice ht.isList e pl f .none (by simp) ?_ (by rw[Bf]<;>lia);rw[V8,<-c];refine⟨.ref s.heap.objs.size,_,I.laid (t':=s.toks) (o:=.lst (nH xs lo hi)) (λb ob q=>Ai _ q) (Ag _) ?_,rfl,q _ (I.hok.fresh (Ag _))⟩;exact⟨Ay (II xs lo hi) hz,_,0,(r.drop (HT.sIx xs.length 0 lo)).take (HT.sIx xs.length xs.length hi-HT.sIx xs.length 0 lo),Bc _ rfl⟩
def kZ:V->Bool
 | .non=>true
 | .bl _=>true
 | .int _=>true
 | .str _=>true
 | _=>false
def k7:V->V->Bool
 | .non,.non=>true
 | .bl a,.bl b=>a==b
 | .bl a,.int b=>(if a then 1 else 0)==b
 | .int a,.bl b=>a==(if b then 1 else 0)
 | .int a,.int b=>a==b
 | .str a,.str b=>a==b
 | _,_=>false
theorem WA(d:RelV y u)(c:RelV x v)(e:kZ y=true)(fx:kZ x=true):SeqAt.EqAt A s u v (k7 y x):=by
 cases y with
 | non=>
  cases d;cases x with
  | non=>cases c;exact SeqAt.EqAt.same _
  | bl b=>cases c;exact SeqAt.EqAt.none_bool b
  | int b=>obtain⟨t,rfl⟩:=c;exact SeqAt.EqAt.none_int b t
  | str b=>obtain⟨t,rfl⟩:=c;exact SeqAt.EqAt.none_str b t
  | _=>exact absurd (show false=true from fx) Ao
 | bl a=>
  cases d;cases x with
  | non=>cases c;exact SeqAt.EqAt.bool_none a
  | bl b=>cases c;exact SeqAt.EqAt.bool_bool a b
  | int b=>obtain⟨t,rfl⟩:=c;exact SeqAt.EqAt.bool_int a b t
  | str b=>obtain⟨t,rfl⟩:=c;exact SeqAt.EqAt.bool_str a b t
  | _=>exact absurd (show false=true from fx) Ao
 | int a=>
  obtain⟨t',rfl⟩:=d;cases x with
  | non=>cases c;exact SeqAt.EqAt.int_none a t'
  | bl b=>cases c;exact SeqAt.EqAt.int_bool a t' b
  | int b=>obtain⟨t,rfl⟩:=c;exact SeqAt.EqAt.int_int a t' b t
  | str b=>obtain⟨t,rfl⟩:=c;exact SeqAt.EqAt.int_str a t' b t
  | _=>exact absurd (show false=true from fx) Ao
 | str a=>
  obtain⟨t',rfl⟩:=d;cases x with
  | non=>cases c;exact SeqAt.EqAt.str_none a t'
  | bl b=>cases c;exact SeqAt.EqAt.str_bool a t' b
  | int b=>obtain⟨t,rfl⟩:=c;exact SeqAt.EqAt.str_int a t' b t
  | str b=>obtain⟨t,rfl⟩:=c;exact SeqAt.EqAt.str_str a t' b t
  | _=>exact absurd (show false=true from fx) Ao
 | _=>exact absurd (show false=true from e) Ao
def iM(x:V)(u:Ae):Bool:=match u with
 | .none=>k7 .non x
 | .bool b=>k7 (.bl b) x
 | .int i _=>k7 (.int i) x
 | .str z _=>k7 (.str z) x
 | _=>false
theorem IM(r:RelV y u)(f:kZ y=true):iM x u=k7 y x:=by
 cases y with
 | non=>cases r;rfl
 | bl b=>cases r;rfl
 | int i=>obtain⟨t,rfl⟩:=r;rfl
 | str z=>obtain⟨t,rfl⟩:=r;rfl
 | _=>exact absurd (show false=true from f) Ao
theorem rV:∀{xs:List V} {us:List Ae},a7 xs us->xs.all kZ=true->us.any (iM x)=xs.any λy=>k7 y x
 | _,_,.nil,_=>rfl
 | y::xs,u::us,.cons r t,f=>by
  rw[Iq,Cq]at f;rw[Eo,Eo,IM r f.1,rV t f.2]
theorem rW(b:RelV x v)(fx:kZ x=true):∀{xs:List V} {us:List Ae},a7 xs us->xs.all kZ=true->∀u∈us,SeqAt.EqAt A s u v (iM x u)
 | _,_,.nil,_=>λu a=>by cases a
 | y::xs,u::us,.cons r t,f=>λc a=>by
  rw[Iq,Cq]at f;rcases Ba.mp a with rfl|a
  .rw[IM r f.1];exact WA r b f.1 fx
  .exact rW b fx t f.2 c a
def inV(x:V)(xs:List V):Bool:=xs.any λy=>k7 y x
def rIn(K:Ac)(neg:Bool):R2:=λx y H Q=>∃p xs,y=.ref p/\(bO K H p xs\/cD K H p xs)/\kZ x=true/\xs.all kZ=true/\Q (.bl (if neg then !inV x xs else inV x xs)) H
theorem WB:bC X (Co .In) (rIn X.K false):=by
 intro pins s σ H x y v u Q I b c h;obtain⟨p,xs,rfl,a,fx,fs,q⟩:=h;cases c;rcases a with a|a
 .obtain⟨its,r,pl,hz⟩:=I.list a;refine SeqAt.in_listAt (iM x) pl.isList (λw hw=>rW b fx r fs w (by simpa using hw)) ⟨.bl _,H,I,rfl,?_⟩;rw[show its.toArray.any (iM x)=its.any (iM x) by simp,rV r fs];exact q
 .obtain⟨its,r,pl,hz⟩:=I.tuple a;refine SeqAt.in_tupleAt (iM x) pl (λw hw=>rW b fx r fs w (by simpa using hw)) ⟨.bl _,H,I,rfl,?_⟩;rw[show its.toArray.any (iM x)=its.any (iM x) by simp,rV r fs];exact q
theorem WC:bC X (Co .NotIn) (rIn X.K true):=by
 intro pins s σ H x y v u Q I b c h;obtain⟨p,xs,rfl,a,fx,fs,q⟩:=h;cases c;rcases a with a|a
 .obtain⟨its,r,pl,hz⟩:=I.list a;refine SeqAt.notIn_listAt (iM x) pl.isList (λw hw=>rW b fx r fs w (by simpa using hw)) ⟨.bl _,H,I,rfl,?_⟩;rw[show its.toArray.any (iM x)=its.any (iM x) by simp,rV r fs];exact q
 .obtain⟨its,r,pl,hz⟩:=I.tuple a;refine SeqAt.notIn_tupleAt (iM x) pl (λw hw=>rW b fx r fs w (by simpa using hw)) ⟨.bl _,H,I,rfl,?_⟩;rw[show its.toArray.any (iM x)=its.any (iM x) by simp,rV r fs];exact q
theorem WD:c0 X (.builtin "len") (λxs H Q=>∃p ys,xs=[.ref p]/\(bO X.K H p ys\/cD X.K H p ys)/\Q (.int ys.length) H):=by
 intro pins s σ H xs us Q I r h;obtain⟨p,ys,rfl,b,q⟩:=h;obtain⟨u,rfl,d⟩:=vals1 r;cases d;have e:=n8;rcases b with b|b
 .obtain⟨its,c,pl,hz⟩:=I.list b;have a:=c.length;exact Calls.call_len_list pl.isList (by simp only[Bf]<;>lia) ⟨.int ys.length,H,I.tok _,⟨s.toks+1,by rw[Bf,a]⟩,q⟩
 .obtain⟨its,c,pl,hz⟩:=I.tuple b;have a:=c.length;exact len_tuple pl (by simp only[Bf]<;>lia) ⟨.int ys.length,H,I.tok _,⟨s.toks+1,by rw[Bf,a]⟩,q⟩
theorem WE:c0 X (.builtin "len") (λxs H Q=>∃z,xs=[.str z]/\z.length<=An/\Q (.int z.length) H):=by
 intro pins s σ H xs us Q I r h;obtain⟨z,rfl,hz,q⟩:=h;obtain⟨u,rfl,t,rfl⟩:=vals1 r;have a:=n8;exact len_str (by lia) ⟨.int z.length,H,I.tok _,⟨_,rfl⟩,q⟩
theorem c0.or{r a:List V->Hp->VK->Prop}(h:c0 X f r)(h':c0 X f a):c0 X f (λxs H Q=>r xs H Q\/a xs H Q):=by
 intro pins s σ H xs us Q I rs q;rcases q with q|q
 .exact h pins s σ H xs us Q I rs q
 .exact h' pins s σ H xs us Q I rs q
theorem WG:c0 X (.type "list") (λxs H Q=>∃p ys,xs=[.ref p]/\(bO X.K H p ys\/cD X.K H p ys)/\∀l,H l=none->Q (.ref l) (aT H l (.lst ys))):=by
 intro pins s σ H xs us Q I r h;obtain⟨p,ys,rfl,f,q⟩:=h;obtain⟨u,rfl,j⟩:=vals1 r;cases j;have fin:∀(its:List Ae),a7 ys its->ys.length<=An->∀(h':Heap) (a:Nat),(∀b i,s.heap.get? b=some i->h'.get? b=some i)->
   h'.get? s.heap.objs.size=some {cls:=.type "list",dict:=none,data:=.seq its.toArray a,slots:=#[]}->EP X pins σ Q (.ref s.heap.objs.size) {s with heap:=h'}:=λits c hz h' a kp e=>
  ⟨.ref s.heap.objs.size,_,I.laid (t':=s.toks) kp (Ag _) (show cC X.prog X.w _ h' _ (.lst ys) from⟨hz,its,a,c,e⟩),rfl,q _ (I.hok.fresh (Ag _))⟩
 rcases f with f|f
 .obtain⟨its,c,pl,hz⟩:=I.list f;have d:=c.length;obtain⟨o,g,hc,n,hd⟩:=pl.isList;exact call_list_seq p (.inl rfl) g hc hd (λh' a kp e=>fin its c hz h' a kp e) (by simp only[Bf]<;>lia)
 .obtain⟨its,c,pl,hz⟩:=I.tuple f;have d:=c.length;obtain⟨o,g,hc,n,hd⟩:=pl;exact call_list_seq p (.inr rfl) g hc hd (λh' a kp e=>fin its c hz h' a kp e) (by simp only[Bf]<;>lia)
theorem WH:c0 X (.type "tuple") (λxs H Q=>∃p ys,xs=[.ref p]/\((bO X.K H p ys/\∀l,H l=none->Q (.ref l) (aT H l (.tup ys)))\/(cD X.K H p ys/\Q (.ref p) H))):=by
 intro pins s σ H xs us Q I r h;obtain⟨p,ys,rfl,h⟩:=h;obtain⟨u,rfl,i⟩:=vals1 r;cases i;rcases h with⟨a,q⟩|⟨a,q⟩
 .obtain⟨its,c,pl,hz⟩:=I.list a;have d:=c.length;refine call_tuple_list pl.isList (λh' kp=>?_) (by simp only[Bf]<;>lia);have f:Inv X pins σ H {s with heap:=h'}:=I.kept (t':=s.toks) kp;have g:Inv X pins σ (aT H h'.objs.size (.tup ys)) {s with heap:=h'.push {cls:=.type "tuple",data:=.seq its.toArray}}:=
   f.laid (t':=s.toks) (λb o e=>Ai _ e) (Ag _) (show cC X.prog X.w _ _ _ (.tup ys) from⟨hz,its,c,IsTup.new _ _⟩)
  exact⟨.ref h'.objs.size,_,g,rfl,q _ (f.hok.fresh (Ag _))⟩
 .obtain⟨its,c,pl,hz⟩:=I.tuple a;exact call_tuple_same pl ⟨.ref p,H,I,rfl,q⟩
def uF(K:Ac)(T:String)(x:V)(H:Hp):Prop:=match x with
 | .str _=>T = "str"
 | .int _=>T = "int"
 | .ref p=>(T = "list"/\∃xs,bO K H p xs)\/(T = "tuple"/\∃o,K.lookup p=some o/\o.cls=.type "tuple"/\o.dict=none)\/
   (T = "dict"/\((∃kvs,Rd H p (.dK kvs))\/∃kvs,Rd H p (.dT kvs)))\/(T = "set"/\∃S n,H p=some (.set S n))
 | _=>False
theorem IP(I:Inv X pins σ H s)(r:RelV x v)(ty:uF X.K T x H):
  s.TypeIs v T/\∀a,v=.ref a->∃ob,s.heap.get? a=some ob/\ob.dict=none:=by
 cases x with
 | str z=>
  obtain⟨t,rfl⟩:=r;cases (show T = "str" from ty);exact⟨typeIs_str s z t,λ_ e=>nomatch e⟩
 | int i=>
  obtain⟨t,rfl⟩:=r;cases (show T = "int" from ty);exact⟨typeIs_int s i t,λ_ e=>nomatch e⟩
 | ref p=>
  cases r;rcases ty with⟨rfl,xs,d⟩|⟨rfl,o,hk,hc,hd⟩|⟨rfl,hk⟩|⟨rfl,S,n,hk⟩
  .obtain⟨its,_,pl,_⟩:=I.list d;refine⟨pl.isList.typeIs,λa e=>?_⟩;cases e;obtain⟨o,n,e,c,hd,_⟩:=pl;exact⟨o,e,hd⟩
  .refine⟨⟨o,I.kIn p o hk,hc⟩,λa e=>?_⟩;cases e;exact⟨o,I.kIn _ o hk,hd⟩
  .have z:∃o,s.heap.get? p=some o/\o.ExactDict:=by
    rcases hk with⟨kvs,hk⟩|⟨kvs,hk⟩
    .obtain⟨_,_,_,_,o,_,_,e,ex,_⟩:=hk.ok I.hok;exact⟨o,e,ex⟩
    .obtain⟨_,_,_,_,o,_,_,e,ex,_⟩:=hk.ok I.hok;exact⟨o,e,ex⟩
   obtain⟨o,e,ex⟩:=z;refine⟨⟨o,e,ex.1⟩,λa b=>?_⟩;cases b;exact⟨o,e,ex.2.1⟩
  .obtain⟨o,_,_,_,e,ex,_⟩:=I.hok p _ hk;refine⟨⟨o,e,ex.1⟩,λa b=>?_⟩;cases b;exact⟨o,e,ex.2.1⟩
 | _=>exact Gf ty
def WI(K:Ac)(T:String)(r:V->List V->Hp->VK->Prop)(to:TE):TE:=λσ H Q=>to σ H λx a=>uF K T x a/\r x [] a Q
def WJ(K:Ac)(T:String)(r:V->List V->Hp->VK->Prop)(to:TE)(t:TA):TE:=λσ H Q=>to σ H λx a=>uF K T x a/\t σ a λxs b=>r x xs b Q
variable {o e:Expr}{es:List Expr}{to:TE}{t:TA}{name:Str}{apos cpos:Pos}{T id:String}{r:V->List V->Hp->VK->Prop}
theorem WK(i:Mw T)(slot:Slot T name id)(c:typeOf (.builtin id)=pure (.type "method_descriptor"))(g:f9 X id r)(l:PE X o to)(b:Ft o name X.env (eval o X.env)=eval o X.env:=by rfl)(a:(apos.endLine==cpos.line)=true:=by rfl):PE X (.Call (.Attribute o name apos) [] [] cpos) (WI X.K T r to):=by
 intro pins s σ H Q I h;refine wpAny_Call_method0_late b a (a8 (l pins s σ H _ I h) λv f ⟨x,n,d,e,ty,k⟩=>?_);obtain⟨m,j⟩:=IP d e ty;exact⟨T,id,i,slot,c,m,j,Jh rfl (PySem.evalArgs_none (g pins f σ n x [] v [] Q d e .nil k))⟩
theorem WL(l:Mw T)(slot:Slot T name id)(f:typeOf (.builtin id)=pure (.type "method_descriptor"))(k:f9 X id r)(D:PE X o to)(B:PA X (e::es) t)(c:Ft o name X.env (eval o X.env)=eval o X.env:=by rfl)(d:((Fv cpos (Bk (e::es) X.env)).all (λx=>!x.1)&&(Mi cpos (Jr [] X.env)).all (λx=>x.1.isSome)
  &&decide ((e::es).length+([]:List Nn).length+(if ([]:List Nn).isEmpty then 0 else 1)<30))=true:=by rfl)(b:(apos.endLine==cpos.line)=true:=by rfl)(q:Bk (e::es) X.env=(false,eval e X.env)::Bk es X.env:=by rfl)(a:(Fv cpos (Bk es X.env)).any (·.1)=false:=by rfl):
  PE X (.Call (.Attribute o name apos) (e::es) [] cpos) (WJ X.K T r to t):=by
 intro pins s σ H Q I h;refine wpAny_Call_method_late c d b rfl (a8 (D pins s σ H _ I h) λv u ⟨x,z,i,g,ty,y⟩=>?_);obtain⟨m,w⟩:=IP i g ty;refine⟨T,id,l,slot,f,m,w,?_⟩;have j:=B cpos pins u σ z _ i y;rw[q]at j⊢;refine Jh (by show(false||(Fv cpos (Bk es X.env)).any (·.1))=false;rw[a]<;>rfl) (Calls.evalArgs_plain ?_);exact a8 j λus A ⟨vs,n,C,E,p⟩=>k pins A σ n x vs v us Q C g E p
end
def uG(X:Cx)(id:String)(r:V->List V->Hp->VK->Prop):Prop:=
 ∀(pins:List (Addr×Obj)) (s:Ah) (σ:St) (H:Hp) (x:V) (xs:List V) (v:Ae) (us:List Ae) (Q:VK),Inv X pins σ H s->RelV x v->a7 xs us->r x xs H Q->
  Bh (Bu X.prog X.w) X.A (call (.builtin id) (v::us)) (EP X pins σ Q) X.xe s
theorem a7.one:∀{x:V} {us:List Ae},a7 [x] us->∃u,us=[u]/\RelV x u
 | _,_,.cons r .nil=>⟨_,rfl,r⟩
theorem a7.zero:∀{us:List Ae},a7 [] us->us=[]
 | _,.nil=>rfl
theorem a7.dropLast(h:a7 xs us):a7 xs.dropLast us.dropLast:=by
 induction h with
 | nil=>exact .nil
 | cons r t a=>
  cases t with
  | nil=>exact .nil
  | cons q t'=>exact .cons r a
theorem a7.rep(h:a7 xs us):∀k:Nat,a7 (Bv k xs).flatten (Bv k us).flatten
 | 0=>.nil
 | k+1=>by
  rw[Eb,Eb,Gz,Gz];exact a7.append h (a7.rep h k)
theorem WM{c:Type}(l:List c):l.eraseIdx (l.length-1)=l.dropLast:=by
 induction l with
 | nil=>rfl
 | cons a r d=>
  cases r with
  | nil=>rfl
  | cons b r=>
   have e:(a::b::r).length-1=((b::r).length-1)+1:=by
    have f:(a::b::r).length=r.length+2:=rfl;have g:(b::r).length=r.length+1:=rfl;lia
   rw[e,List.eraseIdx_cons_succ,d]
   all_goals rfl
theorem foldl_rep(its:List Ae):∀(k:Nat) (acc:List Ae),
  List.foldl (λx1 x2=>x1++x2) acc.toArray (Bv k its.toArray)=(acc++(Bv k its).flatten).toArray
 | 0,acc=>by simp
 | k+1,acc=>by
  have e:acc.toArray++its.toArray=(acc++its).toArray:=by simp
  have a:(acc++its)++(Bv k its).flatten=acc++(Bv (k+1) its).flatten:=by
   rw[Eb,Gz,Dx]
  rw[<-a,<-foldl_rep its k (acc++its),<-e,Eb,Cm]
section
variable {X:Cx}{pins:List (Addr×Obj)}{σ:St}{H:Hp}{s:Ah}{l b:Addr}{xs ys zs:List V}
theorem Inv.lset{its its':List Ae}{n:Nat}{f:Array Ae->Array Ae}{t':Nat}(I:Inv X pins σ H s)(c:H l=some (.lst xs))(e:s.heap.get? l=some {cls:=.type "list",data:=.seq its.toArray n})(hf:f its.toArray=its'.toArray)(d:a7 ys its')(hz:ys.length<=An):
  Inv X pins σ (aT H l (.lst ys)) {s with heap:=s.heap.update l (Obj.mapSeq f),toks:=t'}:=by
 have q:=PySem.IsL.update e f;rw[hf]at q;refine I.write (x:=l) (e:=l) (by rw[c];exact trivial) (.inl rfl) (λg u a b=>(Jl s.heap (Obj.mapSeq f) (Bz a)).trans b) ⟨_,q⟩ ?_;exact⟨hz,its',_,d,q⟩
theorem Inv.lnew{t':Nat}(I:Inv X pins σ H s)(a:a7 ys its)(hz:ys.length<=An):
  Inv X pins σ (aT H s.heap.objs.size (.lst ys)) {s with heap:=s.heap.push {cls:=.type "list",data:=.seq its.toArray},toks:=t'}:=
 I.laid (λ_ _ q=>Ai _ q) (Ag _) ⟨hz,its,0,a,Bc _ rfl⟩
theorem Inv.fresh(I:Inv X pins σ H s):H s.heap.objs.size=none:=I.hok.fresh (Ag _)
theorem Inv.lstM(I:Inv X pins σ H s)(a:H l=some (.lst xs)):xs.length<=An/\∃(its:List Ae) (n:Nat),a7 xs its/\xs.length=its.length/\s.heap.get? l=some {cls:=.type "list",data:=.seq its.toArray n}:=by
 obtain⟨z,its,n,r,e⟩:=I.hok l _ a;exact⟨z,its,n,r,r.length,e⟩
theorem WN{n:Nat}(h:n<=An):Kf n=false:=by
 unfold Kf;exact decide_eq_false (by lia)
end
section
variable {X:Cx}
def rAppend:V->List V->Hp->VK->Prop:=λx vs H Q=>∃l xs y,x=.ref l/\vs=[y]/\H l=some (.lst xs)/\xs.length<An/\Q .non (aT H l (.lst (xs++[y])))
theorem IQ:uG X "list.append" rAppend:=by
 intro pins s σ H x vs v us Q I c b h;obtain⟨l,xs,y,rfl,rfl,a,hz,q⟩:=h;cases c;obtain⟨u,rfl,ru⟩:=b.one;obtain⟨z,its,n,r,hl,e⟩:=I.lstM a;refine Kh Cv ⟨_,e,rfl⟩ F.entry_list_append (F.args_list_append_2 _ _) (PySem.list_append l its.toArray n u (by rw[Bf];lia)) ⟨e,?_⟩;refine⟨.non,_,I.lset (its':=its++[u]) a e (by simp) (r.append (.cons ru .nil)) ?_,rfl,q⟩;rw[Ak,Bp];lia
def rPop:V->List V->Hp->VK->Prop:=λx vs H Q=>∃l xs y,x=.ref l/\vs=[]/\H l=some (.lst xs)/\xs[xs.length-1]? = some y/\Q y (aT H l (.lst xs.dropLast))
theorem WO:uG X "list.pop" rPop:=by
 intro pins s σ H x vs v us Q I g d h;obtain⟨l,xs,y,rfl,rfl,c,i,q⟩:=h;cases g;have a:=d.zero;subst a;obtain⟨z,its,n,r,hl,e⟩:=I.lstM c;obtain⟨u,f,ru⟩:=r.get i;have b:its.toArray[its.toArray.size-1]? = some u:=by
  show its.toArray[its.length-1]? = some u;rw[<-Gi,<-hl];exact f
 refine Kh Mr ⟨_,e,rfl⟩ F.entry_list_pop (F.args_list_pop_1 _) (MeetsSeq.list_pop_last l its.toArray n u b (by rw[Bf];lia)) ⟨e,?_⟩;refine⟨y,_,I.lset (its':=its.dropLast) c e ?_ r.dropLast ?_,ru,q⟩
 .show its.toArray.eraseIdxIfInBounds (its.toArray.size-1)=its.dropLast.toArray;rw[Bf,List.eraseIdxIfInBounds_toArray,WM]
 .rw[List.length_dropLast];lia
def rClear:V->List V->Hp->VK->Prop:=λx vs H Q=>∃l xs,x=.ref l/\vs=[]/\H l=some (.lst xs)/\Q .non (aT H l (.lst []))
theorem WQ:uG X "list.clear" rClear:=by
 intro pins s σ H x vs v us Q I d c h;obtain⟨l,xs,rfl,rfl,b,q⟩:=h;cases d;have a:=c.zero;subst a;obtain⟨z,its,n,r,hl,e⟩:=I.lstM b;refine Kh F.slot_list_clear ⟨_,e,rfl⟩ F.entry_list_clear (F.args_list_clear_1 _) (AutoSeq1.list_clear_list_0 l its.toArray n (by rw[Bf];lia)) ⟨e,?_⟩;exact⟨.non,_,I.lset (its':=[]) (ys:=[]) b e rfl .nil (Bw _),rfl,q⟩
def WR:R2:=λx y H Q=>∃l b xs zs,x=.ref l/\y=.ref b/\H l=some (.lst xs)/\H b=some (.lst zs)/\xs.length+zs.length<=An/\∀p,H p=none->Q (.ref p) (aT H p (.lst (xs++zs)))
theorem WS:bC X (Dr .Add) WR:=by
 intro pins s σ H x y v u Q I m f h;obtain⟨l,b,xs,zs,rfl,rfl,j,c,hz,q⟩:=h;cases m;cases f;obtain⟨z,its,n,r,hl,e⟩:=I.lstM j;obtain⟨z2,a,o,g,i,k⟩:=I.lstM c;refine PySem.P.add_list e k ?_ (by rw[Bf,Bf];lia);have d:its.toArray++a.toArray=(its++a).toArray:=by simp
 rw[d];exact⟨.ref _,_,I.lnew (t':=s.toks) (r.append g) (by rw[Ak];lia),rfl,q _ I.fresh⟩
def WT:R2:=λx y H Q=>∃l k xs,x=.ref l/\y=.int k/\H l=some (.lst xs)/\-(2 ^ 63)<=k/\k<2 ^ 63/\xs.length*k.toNat<=An/\
 ∀p,H p=none->Q (.ref p) (aT H p (.lst (Bv k.toNat xs).flatten))
theorem WU{a:Type}(xs:List a)(k:Nat):(Bv k xs).flatten.length=k*xs.length:=by
 induction k with
 | zero=>simp
 | succ k b=>rw[Eb,Gz,Ak,b,Md,Nat.add_comm]
theorem WV:bC X (Dr .Mult) WT:=by
 intro pins s σ H x y v u Q I rx ry h;obtain⟨l,k,xs,rfl,rfl,hH,h1,h2,hz,q⟩:=h;cases rx;obtain⟨t,rfl⟩:=ry;obtain⟨z,its,n,r,hl,e⟩:=I.lstM hH;have hlen:its.toArray.size*k.toNat<=An:=by rw[Bf,<-hl];exact hz
 have hcap:¬its.toArray.size*k.toNat > (2 ^ 63-1)/8:=by
  have:(An:Nat)<=(2 ^ 63-1)/8:=by decide
  lia
 have hfit:¬(!Builtin.List.listFitsIndex k)=true:=by
  rw[fitsIndex_both h1 h2];exact Ao
 have hlong:¬Kf (its.toArray.size*k.toNat)=true:=by
  rw[WN hlen];exact Ao
 have hnew:List.foldl (λx1 x2=>x1++x2) #[] (Bv (if its.toArray.isEmpty=true then 0 else k.toNat) its.toArray)=(Bv k.toNat its).flatten.toArray:=by
  have f0:∀m:Nat,List.foldl (λx1 x2=>x1++x2) #[] (Bv m its.toArray)=(Bv m its).flatten.toArray:=λm=>by
   have:=foldl_rep its m [];rw[Fu]at this;exact this
  rw[f0];cases its with
  | nil=>simp
  | cons a r'=>rw[if_neg (by simp)]
 refine wpAny_binaryOp_repeat_ref (T:="list") (U:="int") (by decide) ⟨_,e,rfl⟩ (λs'=>typeIs_int s' k t) noFill_list_mul F.fills_int_mul F.slot_int_rmul repeat_list F.slot_int_index.lookup
  (Kh F.slot_int_rmul (typeIs_int s k t) F.entry_int_rmul (F.args_int_rmul_2 _ _) (int___rmul___int_list k t l its.toArray n)
   ⟨e,rfl,⟨_,e,rfl⟩,Kh F.slot_list_mul ⟨_,e,rfl⟩ F.entry_list_mul (F.args_list_mul_2 _ _) (AutoListH.list___mul___list_int_3 l its.toArray n k t hfit hcap hlong) ⟨e,?_⟩⟩)
 rw[hnew];exact⟨.ref _,_,I.lnew (t':=s.toks) (r.rep k.toNat) (by rw[WU,Nat.mul_comm];exact hz),rfl,q _ I.fresh⟩
end
section
variable {κ:Type}[DecidableEq κ]
def gH(kvs:List (κ×V))(k:κ):Option V:=(kvs.find? λa=>decide (a.1=k)).map (·.2)
def e8(kvs:List (κ×V))(k:κ)(v:V):List (κ×V):=
 if (kvs.any λa=>decide (a.1=k))=true then kvs.map (λa=>if a.1=k then(a.1,v) else a) else kvs++[(k,v)]
def oB(kvs:List (κ×V))(k:κ):List (κ×V):=kvs.filter λa=>decide (a.1≠k)
theorem uH{p:κ×V}{r:List (κ×V)}{k:κ}(e:p.1=k):gH (p::r) k=some p.2:=by simp[gH,Du,e]
theorem uI{p:κ×V}{r:List (κ×V)}{k:κ}(e:¬p.1=k):gH (p::r) k=gH r k:=by simp[gH,Du,e]
theorem IS(k:κ):∀kvs:List (κ×V),(kvs.any λa=>decide (a.1=k))=(gH kvs k).isSome
 | []=>rfl
 | p::r=>by
  rw[Eo]
  by_cases e:p.1=k
  .simp only[uH e,decide_eq_true e,Bool.true_or,Option.isSome_some]
  .rw[uI e,decide_eq_false e,Bool.false_or];exact IS k r
theorem rX(kvs:List (κ×V))(k:κ)(v:V):(e8 kvs k v).length<=kvs.length+1:=by
 unfold e8;split
 .rw[Ab];lia
 .rw[Ak,Br,List.length_nil];lia
theorem fY.isSome_eq(r:fY o u):o.isSome=u.isSome:=by
 cases o with
 | none=>cases u with
  | none=>rfl
  | some _=>exact(show False from r).elim
 | some _=>cases u with
  | none=>exact(show False from r).elim
  | some _=>rfl
theorem fY.getD(r:fY o u)(a:RelV d d'):RelV (o.getD d) (u.getD d'):=by
 cases o with
 | none=>cases u with
  | none=>exact a
  | some _=>exact(show False from r).elim
 | some _=>cases u with
  | none=>exact(show False from r).elim
  | some _=>exact r
theorem KV.val{kvs:List (κ×V)}{vs:List (κ×Ae)}(r:KV kvs vs)(k:κ):fY (gH kvs k) (valueAt vs k):=by
 unfold KV at r
 induction r with
 | nil=>exact True.intro
 | @cons p q ps qs h t f=>
  obtain⟨c,d⟩:=h
  by_cases e:p.1=k
  .have a:q.1=k:=c.symm.trans e;have b:valueAt (q::qs) k=some q.2:=by simp[valueAt,Du,a]
   rw[uH e,b];exact d
  .have a:¬q.1=k:=λz=>e (c.trans z);have b:valueAt (q::qs) k=valueAt qs k:=by simp[valueAt,Du,a]
   rw[uI e,b];exact f
theorem KV.any(r:KV kvs vs)(k:κ):(kvs.any λa=>decide (a.1=k))=vs.any λa=>decide (a.1=k):=by
 unfold KV at r
 induction r with
 | nil=>rfl
 | cons h t b=>rw[Eo,Eo,b,h.1]
theorem KV.repl(r:KV kvs vs)(k:κ)(d:RelV y u):
  KV (kvs.map λa=>if a.1=k then(a.1,y) else a) (vs.map λa=>if a.1=k then(a.1,u) else a):=by
 unfold KV at r⊢
 induction r with
 | nil=>exact .nil
 | @cons p q ps qs h t f=>
  rw[Aw,Aw];refine .cons ?_ f;obtain⟨b,c⟩:=h
  by_cases e:p.1=k
  .rw[if_pos e,if_pos (b.symm.trans e)];exact⟨b,d⟩
  .rw[if_neg e,if_neg (λz=>e (b.trans z))];exact⟨b,c⟩
theorem KV.put(r:KV kvs vs)(k:κ)(a:RelV y u):KV (e8 kvs k y) (stored vs k u):=by
 unfold e8 stored;rw[r.any k]
 by_cases e:(vs.any λb=>decide (b.1=k))=true
 .rw[if_pos e,if_pos e];exact r.repl k a
 .rw[if_neg e,if_neg e];exact Paired.snoc r ⟨rfl,a⟩
theorem KV.length{kvs:List (κ×V)}{vs:List (κ×Ae)}(r:KV kvs vs):kvs.length=vs.length:=Cw r
theorem WW(kvs:List (κ×V))(k:κ):(oB kvs k).length<=kvs.length:=Js _ _
end
theorem k9(r:RelV (kV k) u):(b7 P w).is k u=true:=by
 cases k with
 | inl i=>obtain⟨t,e⟩:=(show ∃t,u=Value.int i t from r);subst e;exact Q4 P w i t
 | inr x=>obtain⟨t,e⟩:=(show ∃t,u=Value.str x t from r);subst e;exact Q5 P w x t
theorem IT:∀{ks:List aF} {us:List Ae},a7 (ks.map kV) us->ItemsAre (b7 P w) ks us
 | [],_,r=>by rw[Hz]at r;cases r;exact .nil
 | k::ks,_,r=>by
  rw[Aw]at r;cases r with
  | cons h t=>exact .cons (k9 h) (IT t)
abbrev KT(H:Hp):List (List aF×V)->List (List aF×Addr×Ae)->Prop:=Es λp q=>p.1=q.1/\H q.2.1=some (.tup (p.1.map kV))/\RelV p.2 q.2.2
theorem KT.val{H:Hp}{kvs:List (List aF×V)}{xs:List (List aF×Addr×Ae)}(r:KT H kvs xs)(k:List aF):fY (gH kvs k) ((Ke xs k).map (·.2)):=by
 induction r with
 | nil=>exact True.intro
 | @cons p q ps qs h t f=>
  obtain⟨c,_,d⟩:=h
  by_cases e:p.1=k
  .have a:q.1=k:=c.symm.trans e;have b:Ke (q::qs) k=some q.2:=by simp[Ke,Du,a]
   rw[uH e,b];exact d
  .have a:¬q.1=k:=λz=>e (c.trans z);have b:Ke (q::qs) k=Ke qs k:=by simp[Ke,Du,a]
   rw[uI e,b];exact f
theorem KT.repl(r:KT H kvs xs)(k:List aF)(f:RelV y u):
  KT H (kvs.map λb=>if b.1=k then(b.1,y) else b) (xs.map (putAt k u)):=by
 induction r with
 | nil=>exact .nil
 | @cons p q ps qs h t d=>
  rw[Aw,Aw];refine .cons ?_ d;obtain⟨a,c,g⟩:=h;unfold putAt
  by_cases e:p.1=k
  .rw[if_pos e,if_pos (a.symm.trans e)];exact⟨a,c,f⟩
  .rw[if_neg e,if_neg (λz=>e (a.trans z))];exact⟨a,c,g⟩
theorem KT.put(r:KT H kvs xs)(k:List aF)(c:H b=some (.tup (k.map kV)))(a:RelV y u):
  KT H (e8 kvs k y) (Lv xs k b u):=by
 have e:(kvs.any λd=>decide (d.1=k))=(Ke xs k).isSome:=by
  rw[IS,(r.val k).isSome_eq,Jc]
 unfold e8 Lv;rw[e]
 by_cases q:(Ke xs k).isSome=true
 .rw[if_pos q,if_pos q];exact r.repl k a
 .rw[if_neg q,if_neg q];exact Paired.snoc r ⟨rfl,c,a⟩
theorem KT.keeps(r:KT H kvs xs)(ht:∀b ys,H b=some (.tup ys)->a b=some (.tup ys)):KT a kvs xs:=
 Paired.mapP r λ_ _ z=>⟨z.1,ht _ _ z.2.1,z.2.2⟩
section
variable {P:Ax}{w:Bl}{H:Hp}{h:Heap}{a:Addr}
theorem IU(ok:c9 P w H h)(e:Rd H a u):cC P w H h a u:=e.ok ok
theorem nI(ok:c9 P w H h)(e:Rd H a (.dK kvs)):kvs.length<=An/\(a==Ep)=false/\∃vs,KV kvs vs/\h.DictOf (b7 P w) a vs:=
 show cC P w H h a (.dK kvs) from IU ok e
theorem WX(ok:c9 P w H h)(e:H a=some (.dK kvs)):kvs.length<=An/\(a==Ep)=false/\∃vs,KV kvs vs/\h.DictOf (b7 P w) a vs:=nI ok (.inl e)
theorem jS(ok:c9 P w H h)(e:H a=some (.tup (ks.map kV))):(Fy (b7 P w)).is h ks a:=by
 obtain⟨_,its,r,o,d,b,n,c⟩:=(show cC P w H h a (.tup (ks.map kV)) from ok a _ e);exact⟨o,its.toArray,n,d,b,c,by simpa using IT r⟩
theorem oC(ok:c9 P w H h)(e:Rd H a (.dT kvs)):kvs.length<=An/\(a==Ep)=false/\
  ∃xs,KT H kvs xs/\h.DictOfH (Fy (b7 P w)) a xs:=by
 obtain⟨z,y,xs,r,o,es,ep,d,g,j,k,i⟩:=(show cC P w H h a (.dT kvs) from IU ok e);refine⟨z,y,xs,r,o,es,ep,d,g,j,k,λx b=>?_,i⟩;have all:∀{l:List (List aF×V)} {m:List (List aF×Addr×Ae)},KT H l m->∀x∈m,(Fy (b7 P w)).is h x.1 x.2.1:=by
  intro l m q
  induction q with
  | nil=>intro x b;exact nomatch b
  | @cons p q ps qs c t f=>
   intro x b;rcases Ba.mp b with e|b
   .subst e;exact jS ok (by rw[<-c.1];exact c.2.1)
   .exact f x b
 exact all r x b
theorem uJ(ok:c9 P w H h)(e:H a=some (.dT kvs)):kvs.length<=An/\(a==Ep)=false/\
  ∃xs,KT H kvs xs/\h.DictOfH (Fy (b7 P w)) a xs:=oC ok (.inl e)
end
def iN(H:Hp)(a:Addr)(y:V)(r:Option V):Prop:=
 (∃kvs k,Rd H a (.dK kvs)/\y=kV k/\r=gH kvs k)\/∃kvs k b,Rd H a (.dT kvs)/\y=.ref b/\H b=some (.tup (k.map kV))/\r=gH kvs k
def nJ(H:Hp)(a:Addr)(y v:V)(c:Hp):Prop:=
 (∃kvs k,H a=some (.dK kvs)/\y=kV k/\kvs.length<An/\c=aT H a (.dK (e8 kvs k v)))\/
 ∃kvs k b,H a=some (.dT kvs)/\y=.ref b/\H b=some (.tup (k.map kV))/\kvs.length<An/\c=aT H a (.dT (e8 kvs k v))
theorem nJ.k{H:Hp}{a:Addr}{kvs:List (aF×V)}{k:aF}{v:V}(e:H a=some (.dK kvs))(hl:kvs.length<An):nJ H a (kV k) v (aT H a (.dK (e8 kvs k v))):=.inl ⟨kvs,k,e,rfl,hl,rfl⟩
theorem nJ.t{H:Hp}{a b:Addr}{kvs:List (List aF×V)}{k:List aF}{v:V}(e:H a=some (.dT kvs))(c:H b=some (.tup (k.map kV)))(hl:kvs.length<An):
  nJ H a (.ref b) v (aT H a (.dT (e8 kvs k v))):=.inr ⟨kvs,k,b,e,rfl,c,hl,rfl⟩
section
variable {X:Cx}{pins:List (Addr×Obj)}{σ:St}{H:Hp}{s:Ah}{a:Addr}{y v:V}{u r:Ae}{o:Option V}{A:Cs}{E:Ae->Ah->Prop}
theorem Inv.big(I:Inv X pins σ H s):Ep<s.heap.objs.size:=by
 have h:Ee<s.heap.objs.size:=(I.mod.glob.keeps I.bk).lt;exact Ih (by decide) h
theorem WY{Q:Ae->Ah->Prop}(r:A.units+1<Eu)(I:Inv X pins σ H s)(g:iN H a y (some v))(q:RelV y u)(h:∀f n,Inv X pins σ H n->RelV v f->Q f n):
  Bh (Bu X.prog X.w) A (getItem (.ref a) u) Q E s:=by
 rcases g with⟨kvs,k,e,j,l⟩|⟨kvs,k,b,e,j,t,l⟩
 .subst j;obtain⟨z,hd,vs,d,i⟩:=nI I.hok e;obtain⟨f,hw,c⟩:=fY.some_of (v:=v) (o:=valueAt vs k) (by rw[l];exact d.val k);exact wpAny_getItem_of (k9 q) i.mapOf hw (h f _ (I.tok _) c)
 .subst j;cases (show u=Value.ref b from q);obtain⟨z,hd,xs,d,i⟩:=oC I.hok e;obtain⟨f,hw,c⟩:=fY.some_of (v:=v) (o:=(Ke xs k).map (·.2)) (by rw[l];exact d.val k);obtain⟨p,x,m⟩:=Bd.mp hw;refine wpAny_getItem_heap (Fb r) (jS I.hok t) i x ?_;rw[m];exact h f _ (I.tok _) c
theorem WZ{Q:Ae->Ah->Prop}(m:A.units+1<Eu)(I:Inv X pins σ H s)(g:iN H a y o)(j:RelV y u)(h:∀i,Inv X pins σ H i->Q (.bool o.isSome) i):
  Bh (Bu X.prog X.w) A (Co .In u (.ref a)) Q E s:=by
 rcases g with⟨kvs,k,e,f,l⟩|⟨kvs,k,b,e,f,n,l⟩
 .subst f;obtain⟨z,hd,vs,c,d⟩:=nI I.hok e;refine wpAny_in_of (k9 j) hd d.mapOf ?_;rw[<-(c.val k).isSome_eq,<-l];exact h _ (I.tok _)
 .subst f;cases (show u=Value.ref b from j);obtain⟨z,hd,xs,c,d⟩:=oC I.hok e;refine wpAny_in_heap (Fb m) (jS I.hok n) hd d ?_;have q:=(c.val k).isSome_eq;rw[Jc]at q;rw[<-q,<-l];exact h _ (I.tok _)
theorem W0{Q:Ae->Ah->Prop}(m:A.units+1<Eu)(I:Inv X pins σ H s)(g:iN H a y o)(j:RelV y u)(h:∀i,Inv X pins σ H i->Q (.bool (!o.isSome)) i):
  Bh (Bu X.prog X.w) A (Co .NotIn u (.ref a)) Q E s:=by
 rcases g with⟨kvs,k,e,f,l⟩|⟨kvs,k,b,e,f,n,l⟩
 .subst f;obtain⟨z,hd,vs,c,d⟩:=nI I.hok e;refine wpAny_notIn_of (k9 j) hd d.mapOf ?_;rw[<-(c.val k).isSome_eq,<-l];exact h _ (I.tok _)
 .subst f;cases (show u=Value.ref b from j);obtain⟨z,hd,xs,c,d⟩:=oC I.hok e;refine wpAny_notIn_heap (Fb m) (jS I.hok n) hd d ?_;have q:=(c.val k).isSome_eq;rw[Jc]at q;rw[<-q,<-l];exact h _ (I.tok _)
theorem pT{t':Nat}(I:Inv X pins σ H s)(g:rO (H a))(c:Ex a s.heap h')(d:∃q,h'.get? a=some q)(new:cC X.prog X.w (aT H a ob) h' a ob):
  Inv X pins σ (aT H a ob) {s with heap:=h',toks:=t'}:=
 I.write (x:=a) (e:=a) g (.inl rfl) (λb q f z=>(c.2 b f).trans z) d new
theorem W2(z:kvs.length<=An)(hd:(a==Ep)=false)(b:KV kvs vs)(c:h'.DictOf (b7 P w) a vs):
  cC P w d h' a (.dK kvs):=⟨z,hd,vs,b,c⟩
theorem W4{Q:Unit->Ah->Prop}(F:A.units+1<Eu)(I:Inv X pins σ H s)(g:nJ H a y v p)(B:RelV y u)(x:RelV v r)(h:∀t,Inv X pins σ p t->Q () t):
  Bh (Bu X.prog X.w) A (setItem (.ref a) u r) Q E s:=by
 rcases g with⟨kvs,k,e,n,l,j⟩|⟨kvs,k,b,e,n,D,l,j⟩
 .subst n j;obtain⟨z,hd,vs,d,o⟩:=WX I.hok e;have hz:vs.length<=An:=by rw[<-d.length];exact z
  have hl:(e8 kvs k v).length<=An:=by have:=rX kvs k v;lia
  refine wpAny_setItem_pairs (hsz:=hz) (k9 B) o λh' f m=>h _ ?_;have M:∃q,h'.get? a=some q:=let ⟨q,_,_,i,_⟩:=f;⟨q,i⟩;exact pT I (by rw[e];exact True.intro) m M (W2 hl hd (d.put k x) f)
 .subst n j;cases (show u=Value.ref b from B);obtain⟨z,hd,xs,d,o⟩:=uJ I.hok e;have hz:xs.length<=An:=by rw[<-Cw d];exact z
  have hl:(e8 kvs k v).length<=An:=by have:=rX kvs k v;lia
  refine wpAny_setItem_heap (hsz:=hz) (Fb F) (jS I.hok D) o λh' f m=>h _ ?_;obtain⟨q,es,ep,i,K,G,J,_,L⟩:=f;refine pT I (by rw[e];exact True.intro) m ⟨q,i⟩ ⟨hl,hd,_,(d.put k D x).keeps λc ys C=>?_,q,es,ep,i,K,G,J,L⟩;rw[bD (tW C e (λz=>nomatch z))];exact C
end
section
variable {X:Cx}{pins:List (Addr×Obj)}{σ:St}{H:Hp}{s:Ah}{a:Addr}{kvs:List (aF×V)}{k:aF}{u:Ae}{A:Cs}{E:Ae->Ah->Prop}
theorem W5{Q:Ae->Ah->Prop}(I:Inv X pins σ H s)(e:Rd H a (.dK kvs))(h:∀t c,Inv X pins σ H c->Q (.int kvs.length t) c):Bh (Bu X.prog X.w) A (call (.builtin "len") [.ref a]) Q E s:=by
 obtain⟨z,hd,vs,b,d⟩:=nI I.hok e;refine call_len_dict hd d (by rw[<-b.length];rw[Lw]at z;lia) ?_;rw[<-b.length];exact h _ _ (I.tok _)
end
theorem W6(I:Inv X pins σ H s)(g:iN H a y o):s.TypeIs (.ref a) "dict":=by
 rcases g with⟨kvs,k,e,_,_⟩|⟨kvs,k,b,e,_,_,_⟩
 .obtain⟨_,_,vs,_,c⟩:=nI I.hok e;exact c.typeIs
 .obtain⟨_,_,xs,_,c⟩:=oC I.hok e;exact c.typeIs
theorem W7(h:Heap)(a:Ep<h.objs.size):cC P w H (h.push {cls:=.type "dict",data:=.dict #[]}) h.objs.size (.dK []):=
 ⟨Bw _,beq_eq_false_iff_ne.mpr (Bz (Bn a)),[],.nil,Heap.DictOf.new h⟩
theorem IV(h:Heap)(a:Ep<h.objs.size):cC P w H (h.push {cls:=.type "dict",data:=.dict #[]}) h.objs.size (.dT []):=
 ⟨Bw _,beq_eq_false_iff_ne.mpr (Bz (Bn a)),[],.nil,_,#[],0,Bc _ rfl,⟨rfl,rfl,rfl⟩,rfl,rfl,Em⟩
def W8:TE:=λ_ H Q=>∀p,H p=none->Q (.ref p) (aT H p (.dK []))
def W9:TE:=λ_ H Q=>∀p,H p=none->Q (.ref p) (aT H p (.dT []))
section
variable {X:Cx}{pos:Pos}
theorem XA:PE X (.Dict [] [] pos) W8:=λpins s σ H Q I h=>
 wpAny_Dict_empty ⟨.ref s.heap.objs.size,_,I.laid (a:=s.heap.objs.size) (o:=.dK []) (t':=s.toks) (λ_ _ q=>Ai _ q) (Ag _) (W7 s.heap I.big),rfl,h _ (I.hok.fresh (Ag _))⟩
theorem XB:PE X (.Dict [] [] pos) W9:=λpins s σ H Q I h=>
 wpAny_Dict_empty ⟨.ref s.heap.objs.size,_,I.laid (a:=s.heap.objs.size) (o:=.dT []) (t':=s.toks) (λ_ _ q=>Ai _ q) (Ag _) (IV s.heap I.big),rfl,h _ (I.hok.fresh (Ag _))⟩
end
def yF:List (TE×TE)->St->Hp->(List (V×V)->Hp->Prop)->Prop
 | [],_,H,Q=>Q [] H
 | (tk,a)::r,σ,H,Q=>tk σ H λx H1=>a σ H1 λy c=>yF r σ c λps b=>Q ((x,y)::ps) b
abbrev VV:List (V×V)->List (Ae×Ae)->Prop:=Es λp q=>RelV p.1 q.1/\RelV p.2 q.2
def yG(X:Cx)(pos:Pos)(keys:List (Option Expr))(a:List Expr)(b:List (TE×TE)):Prop:=
 ∀(pins:List (Addr×Obj)) (s:Ah) (σ:St) (H:Hp) (Q:List (V×V)->Hp->Prop),Inv X pins σ H s->yF b σ H Q->
  Bh (Bu X.prog X.w) X.A (evalPairs (pairTrees keys a X.env pos)) (λvs d=>∃ps c,Inv X pins σ c d/\VV ps vs/\Q ps c) X.xe s
theorem XC:yG X pos [] [] []:=λpins s σ H Q I h=>pairTrees_nil_walk ⟨[],H,I,.nil,h⟩
theorem XD(hk:PE X k tk)(g:PE X v c)(l:yG X pos ks vs a):
  yG X pos (some k::ks) (v::vs) ((tk,c)::a):=λpins s σ H Q I h=>
 pairTrees_cons_walk (a8 (hk pins s σ H _ I h) λu d ⟨x,H1,p,j,t⟩=>a8 (g pins d σ H1 _ p t) λz m ⟨y,q,f,i,n⟩=>
  a8 (l pins m σ q _ f n) λws w ⟨ps,o,r,b,e⟩=>⟨(x,y)::ps,o,r,.cons ⟨j,i⟩ b,e⟩)
section
variable {X:Cx}{pins:List (Addr×Obj)}{σ:St}{H:Hp}{s:Ah}{a:Addr}{y d:V}{u r:Ae}{o:Option V}{A:Cs}{E:Ae->Ah->Prop}
theorem IW{Q:Ae->Ah->Prop}(n:A.units+1<Eu)(I:Inv X pins σ H s)(g:iN H a y o)(j:RelV y u)(h:∀m i,Inv X pins σ H i->RelV (o.getD .non) m->Q m i):
  Bh (Bu X.prog X.w) A (call (.builtin "dict.get") [.ref a,u]) Q E s:=by
 rcases g with⟨kvs,k,e,f,l⟩|⟨kvs,k,b,e,f,p,l⟩
 .subst f;obtain⟨z,hd,vs,c,d⟩:=nI I.hok e;refine Iu Jk d.typeIs Jb (PySem.F.args_dict_get_2 _ _) (meets_dict_get (b7 X.prog X.w) a (k9 j) hd) ⟨_,d.mapOf,h _ _ (I.tok _) ?_⟩;rw[l];exact(c.val k).getD rfl
 .subst f;cases (show u=Value.ref b from j);obtain⟨z,hd,xs,c,d⟩:=oC I.hok e;refine Iu Jk d.typeIs Jb (PySem.F.args_dict_get_2 _ _) (meetsH_dict_get (Fy (b7 X.prog X.w)) a b hd) ⟨Fb n,k,xs,jS I.hok p,d,h _ _ (I.tok _) ?_⟩;rw[l];exact(c.val k).getD rfl
theorem IX{Q:Ae->Ah->Prop}(q:A.units+1<Eu)(I:Inv X pins σ H s)(g:iN H a y o)(n:RelV y u)(m:RelV d r)(h:∀p j,Inv X pins σ H j->RelV (o.getD d) p->Q p j):
  Bh (Bu X.prog X.w) A (call (.builtin "dict.get") [.ref a,u,r]) Q E s:=by
 rcases g with⟨kvs,k,e,i,l⟩|⟨kvs,k,b,e,i,t,l⟩
 .subst i;obtain⟨z,hd,vs,c,f⟩:=nI I.hok e;refine Iu Jk f.typeIs Jb (PySem.F.args_dict_get_3 _ _ _) (meets_dict_get_default (b7 X.prog X.w) a (k9 n) hd r) ⟨_,f.mapOf,h _ _ (I.tok _) ?_⟩;rw[l];exact(c.val k).getD m
 .subst i;cases (show u=Value.ref b from n);obtain⟨z,hd,xs,c,f⟩:=oC I.hok e;refine Iu Jk f.typeIs Jb (PySem.F.args_dict_get_3 _ _ _) (meetsH_dict_get_default (Fy (b7 X.prog X.w)) a b hd r) ⟨Fb q,k,xs,jS I.hok t,f,h _ _ (I.tok _) ?_⟩;rw[l];exact(c.val k).getD m
end
end L2
namespace Att
open PySem PySem.W PySem.Calls PyProof.Rows
theorem XE:∀(ns:List Int) (vs:List Ae),WellAll P h vs (ns.map WData.int)->IntsAre vs ns:=by
 intro ns
 induction ns with
 | nil=>
  intro vs w;rw[Hz]at w;cases w;exact .nil
 | cons n ns c=>
  intro vs w;rw[Aw]at w;cases w with
  | cons a b=>
   cases a;exact .cons _ _ (c _ b)
theorem XF{l:OpenLaw}{n:Nat}(p:l.most=some n){P:Params}{h:Heap}{args:List WData}{vals:List Ae}(b:l.row.toRowW.claim.pre args=true)(i:WellAll P h vals args):
  ∃a vs ns,vals=[Value.ref a]/\args=[WData.list (ns.map WData.int)]/\h.get? a=some {cls:=.type "list",data:=.seq vs.toArray}/\IntsAre vs ns/\ns.length<=n:=by
 have j:WShape.hasAll [] args [.list .int]=true:=(pre_splitW b).1;have hc:l.pre.holds [] {args:=args} = true:=(pre_splitW b).2;obtain⟨d,r,rfl,m,o⟩:=hasAllW_cons j;obtain rfl:=hasAllW_nil o;obtain⟨xs,rfl,t⟩:=hasW_list m;obtain⟨ns,rfl⟩:=items_int t;have c:ns.length<=n:=by
  unfold OpenLaw.pre at hc;have g:(WTm.not (.lt (.lit (.int (n:Int))) (.len (.arg 0)))).holds [] {args:=[.list (ns.map .int)]} = true:=by
   have g:=(holds_andW hc).1;rw[p]at g;exact g
  have f:=condW_of g (w_not (w_lt w_lit (w_len_list (w_arg rfl))));rw[Ab]at f;refine Nat.le_of_not_lt λq=>?_;have u:(n:Int)<((ns.length:Nat):Int):=by lia
  first
   | (rw[decide_eq_true u]at f;exact absurd f (by decide))
   | (simp at f;lia)
 cases i with
 | cons k v=>
  cases v;cases k with
  | list s e=>exact⟨_,_,ns,rfl,rfl,s,XE ns _ e,c⟩
theorem XG(l:OpenLaw)(args:List WData):l.row.toRowW.claim.post args (.bool true) args=true:=
 postW_of (r:=l.row.toRowW) (X:=(true==true))
  (show WShape.has [] (.bool true) .bool=true by first|rfl|decide|simp[WShape.has,WShape.arms,WShape.armsAll])
  (show(WTm.eq .res (.lit (.bool true))).value [] {args:=args,res:=some (.bool true),after:=args} = some (.bool (true==true)) from w_eq_bool (w_res rfl) w_lit) rfl
theorem attach_call{l:OpenLaw}{n:Nat}{q:Ax}{loose:List Str}{XP:(Str->Option Ae)->Heap->Prop}{YP:Bl->Heap->Prop}{d:DefRec}(z:l.most=some n)(v:d.params.defaults=[])(call:∀(w:Bl) (s₀ b:Ah) (mg s:Str->Option Ae) (fa:Addr) (o:Obj) (t k c:Ae) (a:Addr) (vs:List Ae) (ns:List Int),
   Ground q loose [] XP w s₀ mg s b.heap->YP w b.heap->
   b.heap.get? fa=some o->o.data=.func (docDef d.name d.params d.body d.scope t k c)->b.heap.CodeRec k d.name->mg d.name=some (.ref fa)->
   b.heap.get? a=some {cls:=.type "list",data:=.seq vs.toArray}->IntsAre vs ns->ns.length<=n->b.gens = #[]->
   Kz (Bu l.prog w) callerA (.call (.ref fa) ⟨[.ref a],[]⟩) (λr j=>r=.ok (.ret (.bool true))/\OldK b.heap j.heap/\j.os=b.os/\My j.gens) b):
  WalkO q loose XP YP l.row.toRowW d [] (λf vs=>PySem.call f vs):=by
 intro w s₀ b mg s G Y fa o t k c dV kV H hd u y p C args vals J i x I m HC;obtain rfl:dV=.none:=Dflts.none y v;obtain rfl:kV=.none:=Dflts.noKw y;obtain⟨a,vs,ns,rfl,rfl,h,e,g⟩:=XF z i m;refine enter_call (codeAny_mono (call w s₀ b mg s fa o t k c a vs ns G Y H (fd_plain hd) u p h e g C) λr j A=>?_);obtain⟨rfl,F,B,E⟩:=A;exact⟨.inl ⟨.bool true,.bool true,[],rfl,λ_=>rfl,.bool true,XG l _,λ_=>⟨List.Pairwise.nil,λ_ D=>(nomatch D)⟩⟩,F,B,E⟩
end Att
namespace L2
open PySem PySem.Spec PyProof.Rows
theorem IY:∀{vs:List Ae} {ns:List Int},IntsAre vs ns->a7 (ns.map V.int) vs
 | _,_,.nil=>.nil
 | _,_,.cons n t h=>.cons ⟨t,rfl⟩ (IY h)
def uK(H:Hp):Prop:=∀b,H b=none\/∃o xs,H b=some (.frz o (.lst xs))
theorem XH{P:Ax}{w:Bl}{K:Ac}{mg mb:Str->Option Ae}{CX:kY}{k:Nat}{fa a:Addr}{fd:Bi}{x:Str}{sp:Sp}{s₁:Ah}{vs:List Ae}{ns:List Int}(KX:K.In s₁.heap)(hns:s₁.heap.Ns Ee mg)(hb:s₁.heap.Ns builtinsNs mb)(hbb:∀x:Str,x≠"__name__"->mb x=Cy x)(hlim:s₁.heap.NoLimit)(hg:s₁.gens = #[])(ha:s₁.heap.get? a=some {cls:=.type "list",data:=.seq vs.toArray})(hi:IntsAre vs ns)(hl:ns.length<=An)(hr:c8 k callerA)(F:∀base:Heap,K.In base->base.Ns Ee mg->fE P w K mg base CX k fa fd [x] sp)(hbind:∀(s:Ah) (u:Ae),BindsTo s fd ⟨[u],[]⟩ [(x,u)])(hsp:∀H:Hp,uK H->bO K H a (ns.map V.int)->sp [.ref a] H (λv _=>v=.bl true) λ_ _ _=>False)(hCX:∀H e s',CX [] H s₁ (λ_ _ _=>False) e s'->False):
  Kz (Bu P w) callerA (.call (.ref fa) ⟨[.ref a],[]⟩) (λr s'=>r=.ok (.ret (.bool true))/\OldK s₁.heap s'.heap/\s'.os=s₁.os/\My s'.gens) s₁:=by
 have rv:=IY hi;have lenV:=hi.length;have core:∀H:Hp,uK H->bO K H a (ns.map V.int)->c9 P w H s₁.heap->(∀b,H b≠none->b=a)->(H a≠none->K.lookup a=none)->
   Kz (Bu P w) callerA (.call (.ref fa) ⟨[.ref a],[]⟩) (λr s'=>r=.ok (.ret (.bool true))/\OldK s₁.heap s'.heap/\s'.os=s₁.os/\My s'.gens) s₁:=by
  intro H hO hS hok hA hK;have base_of:∀{b:Addr} {o:Obj},s₁.heap.get? b=some o->H b=none->(mF s₁.heap H).get? b=some o:=λe n=>Q7 e n;have noA:∀{b:Addr} {o:Obj} {es:Array Dn} {ep:Nat},s₁.heap.get? b=some o->o.data=.dict es ep->H b=none:=λ{b o es ep} e d=>by
   cases q:H b with
   | none=>rfl
   | some u=>
    have e':b=a:=hA b (by rw[q];simp);subst e';rw[ha]at e;cases e;have d':Data.seq vs.toArray _=Data.dict es ep:=d;cases d'
  have nsK:∀{b:Addr} {m:Str->Option Ae},s₁.heap.Ns b m->(mF s₁.heap H).Ns b m:=λ{b m} ⟨o,es,ep,e,d,r⟩=>⟨o,es,ep,base_of e (noA e d),d,r⟩
  have hKb:K.In (mF s₁.heap H):=λb o e=>base_of (KX b o e) (by
   cases q:H b with
   | none=>rfl
   | some u=>
    have e':b=a:=hA b (by rw[q];simp);subst e';rw[hK (by rw[q];simp)]at e;cases e)
  have hM:Mod K mg (mF s₁.heap H):=⟨hKb,nsK hns,⟨mb,nsK hb,hbb⟩,let ⟨mc,h1,h2⟩:=hlim;⟨mc,nsK h1,h2⟩⟩;have e0:oA P w K mg (mF s₁.heap H) callerA [] s₁ H:=⟨rfl,hM,λb o e=>Q8 e,Fp (Q6 _ _),trivial,λb hb=>absurd (show b∈([]:List Addr) from hb) (by simp),hok,.of_eq hg⟩;refine codeAny_mono ((F _ hKb (nsK hns)).run callerA [] s₁ H ⟨[.ref a],[]⟩ [.ref a] [.ref a] _ _ hr e0 (hbind s₁ (.ref a)) (.cons rfl .nil) (hsp H hO hS)) λr s' h=>?_;cases r with
  | error e=>exact(hCX H e s' h).elim
  | ok fl=>
   cases fl with
   | next=>exact Gf h
   | brk=>exact Gf h
   | cont=>exact Gf h
   | ret u=>
    obtain⟨v,H',os,bare,un,hok',r',q⟩:=h;have q':v=.bl true:=q;subst q';obtain rfl:u=Value.bool true:=r';refine⟨rfl,OldK.of_keep λb o e=>?_,os,bare⟩;cases q:H b with
    | none=>exact un.keep b o e q (by intro z;exact absurd (show b∈([]:List Addr) from z) (by simp)) (by simp)
    | some u=>
     rcases hO b with z|⟨ob,xs,z⟩
     .rw[q]at z;cases z
     .have z2:=un.frzs b ob _ z;obtain⟨e1,_⟩:=hok b _ z;obtain⟨e2,_⟩:=hok' b _ z2;rw[e]at e1;cases e1;exact e2
 cases hk:K.lookup a with
 | some o=>
  have e:=KX a o hk;rw[ha]at e;cases e;refine core (λ_=>none) (λ_=>.inl rfl) (.inr ⟨_,vs.toArray,_,hk,rfl,rfl,rfl,by rw[Bf,lenV];exact hl,by simpa using rv⟩) (λb u z=>by have z':(none:Option HO)=some u:=z;cases z') (λb z=>absurd rfl z) λz=>absurd rfl z
 | none=>
  refine core (λb=>if b=a then some (.frz {cls:=.type "list",data:=.seq vs.toArray} (.lst (ns.map V.int))) else none) (λb=>?_) (.inl (.inr ⟨{cls:=.type "list",data:=.seq vs.toArray},if_pos rfl⟩)) (λb u z=>?_) (λb z=>?_) λ_=>hk
  .by_cases hb:b=a
   .exact .inr ⟨_,_,if_pos hb⟩
   .exact .inl (if_neg hb)
  .by_cases hb:b=a
   .have z':=(if_pos hb).symm.trans z;cases z';subst hb;exact⟨ha,by rw[Ab];exact hl,vs,_,rv,ha⟩
   .have z':=(if_neg hb).symm.trans z;cases z'
  .by_cases hb:b=a
   .exact hb
   .exact absurd (if_neg hb) z
theorem XI{l:PySem.W.OpenLaw}{n k:Nat}{q:Ax}{loose:List Str}{XP:(Str->Option Ae)->Heap->Prop}{YP:Bl->Heap->Prop}{d:DefRec}{K:Params->Ac}{CX:Bl->kY}{sp:Bl->Sp}{x:Str}(D:l.most=some n)(z:n<=An)(A:d.params.defaults=[])(N:c8 k callerA)(P:∀(w:Bl) (h:Heap),YP w h->(K w.params).In h)(F:∀(w:Bl) (mg:Str->Option Ae) (fa:Addr) (h:Heap),(K w.params).In h->h.Ns Ee mg->mg d.name=some (.ref fa)->
   ∃fd:Bi,(∀(s:Ah) (u:Ae),BindsTo s fd ⟨[u],[]⟩ [(x,u)])/\
    ∀base:Heap,(K w.params).In base->base.Ns Ee mg->fE l.prog w (K w.params) mg base (CX w) k fa fd [x] (sp w))(t:∀(w:Bl) (H:Hp) (a:Addr) (ns:List Int),ns.length<=n->uK H->bO (K w.params) H a (ns.map V.int)->sp w [.ref a] H (λv _=>v=.bl true) λ_ _ _=>False)(y:∀(w:Bl) (H:Hp) (s:Ah) (e:Ae) (r:Ah),CX w [] H s (λ_ _ _=>False) e r->False):
  PySem.W.WalkO q loose XP YP l.row.toRowW d [] (λf vs=>PySem.call f vs):=by
 refine Att.attach_call D A λw s₀ m mg Q fa o S R C a vs ns G Y U hd O p j i c I=>?_;have B:=P w _ Y;obtain⟨fd,J,E⟩:=F w mg fa _ B G.T.g p;exact XH B G.T.g G.T.b G.T.builtins G.T.nolimit I j i (Ay c z) N E J (λH M L=>t w H a ns c M L) λH e r=>y w H m e r
abbrev gP:kY:=λ_ _ _ _ _ _=>False
abbrev E0:XK:=λ_ _ _=>False
theorem pU:nF gP X E0:=λ_ _ _ _ _ _ _ h=>h.elim
structure lA(K:Ac)(x qual:Str)(st:Stmt)(f:Addr)(fd:Bi):Prop where
 ex:∃(oc:Ae) (od:Option Addr) (kV doc pm:Ae) (an:Option Addr) (cdv ct:Ae) (osl:Array (Option Ae)),
  fd=Ek x qual (jP st) (iL st) (fD st) .none kV doc pm an cdv ct/\K.lookup f=some ⟨oc,od,.func fd,osl⟩/\Ja K cdv qual=true
 kp:Fc K (.ref f)=true
section
variable {P:Ax}{w:Bl}{K:Ac}{mg:Str->Option Ae}{base:Heap}
theorem lA.ok{x a:Str}{st:Stmt}{f:Addr}{fd:Bi}{N ps:List Str}{k:Nat}{sp:Sp}(F:lA K x a st f fd)(S:pR N ps (fD st))(len:∀vs H Q E,sp vs H Q E->vs.length=ps.length)(c:∀(b:Ae) (A:Cs) (outer:List Env) (s:Ah) (H:Hp) (vs:List V) (Q:VK) (E:XK),c8 k (A.deeper (Lz a (fD st) s.heap.objs.size f b))->sp vs H Q E->
   ∃t,gE (nG gP P w K mg base N a (fD st) f b A outer s H E).nox (iL st) t/\t {nx:=λ_ i=>Q .non i,rt:=Q} (start N vs) H):fE P w K mg base gP (k+1) f fd ps sp:=by
 obtain⟨o,r,kV,g,p,n,b,ct,j,rfl,m,d⟩:=F.ex;refine VD m d S len λA outer s H vs Q E l e=>?_;obtain⟨t,h,q⟩:=c b A outer s H vs Q E l e;exact⟨t,h.nox,q⟩
theorem lA.binds{x a:Str}{st:Stmt}{f:Addr}{fd:Bi}{ps:List Str}(F:lA K x a st f fd)(h:∀(kV b e:Ae) (d:Option Addr) (c ct:Ae) (us:List Ae),us.length=ps.length->bindArgs (Ek x a (jP st) (iL st) (fD st) .none kV b e d c ct) ⟨us,[]⟩=pure (ps.zip us)):Binds K fd ps []:=by
 obtain⟨k,l,kV,b,e,d,c,ct,i,rfl,j,g⟩:=F.ex;exact .all (h kV b e d c ct)
theorem pV{x a:Str}{st:Stmt}{f:Addr}{i:Ae}{j g:Option Addr}{e:Array (Option Ae)}{kV d h b ct:Ae}(l:K.lookup f=some ⟨i,j,.func (Ek x a (jP st) (iL st) (fD st) .none kV d h g b ct),e⟩)(c:Ja K b a=true)(k:Fc K (.ref f)=true):lA K x a st f (Ek x a (jP st) (iL st) (fD st) .none kV d h g b ct):=⟨⟨i,j,kV,d,h,g,b,ct,e,rfl,l,c⟩,k⟩
end
theorem XJ{k:Nat}(a:c8 k A):A.units+1<Eu:=Gj (Nf (by decide:1<=64) _) a.units
section
variable {X:Cx}
theorem XM:c0 X (.builtin "len") (λxs H Q=>∃a kvs,xs=[V.ref a]/\H a=some (.dK kvs)/\Q (.int kvs.length) H):=by
 intro pins s σ H xs us Q I r h;obtain⟨a,kvs,rfl,b,q⟩:=h;obtain⟨u,rfl,ru⟩:=vals1 r;cases ru;exact W5 I (.inl b) λt d c=>⟨.int kvs.length,H,c,⟨t,rfl⟩,q⟩
end
theorem XN{A B:Prop}(h:B):if false=true then A else B:=by
 rw[if_neg Ao];exact h
theorem XO{A B:Prop}(h:A):if true=true then A else B:=by
 rw[if_pos rfl];exact h
end L2
set_option maxHeartbeats 4000000
namespace L2
open PySem PySem.Spec PyProof.Rows
structure lB where
 cl:List (Str×Addr)
 s:Ah
 H:Hp
 fp:List Addr
 C:Addr
def dA(X:Cx)(sc:Jg)(N':List Str)(B:lB):Cx where
 prog:=X.prog
 w:=X.w
 K:=X.K
 mg:=X.mg
 base:=X.base
 A:=X.A
 N:=N'
 s₀:=B.s
 H₀:=B.H
 env:=compEnvC sc B.cl B.C X.env
 outer:=X.stack
 stack:=X.stack
 ex:=B.fp
 fn:=λ_=>false
 calm:=X.calm
 pn:=[]
 xe:=λ_ _=>False
def gQ(cells:List (Str×Addr)):List (Str×Il)->List (Str×Addr)->List (Str×Addr)
 | [],acc=>acc
 | (n,k)::r,acc=>if k=.free then gQ cells r ((n,(cells.lookup n).getD 0)::acc) else gQ cells r acc
theorem IZ(h:∀y∈scope.names,y.2=.free->∃c,env.cells.lookup y.1=some c):closureFor scope env=pure (gQ env.cells scope.names []):=by
 have key:∀(names:List (Str×Il)) (acc:List (Str×Addr)),(∀y∈names,y.2=.free->∃c,env.cells.lookup y.1=some c)->
   (forIn names acc λ(x:Str×Il) (cs:List (Str×Addr))=>(if (x.2==NameKind.free)=true then(do let a <-cellOf env x.1;pure (ForInStep.yield ((x.1,a)::cs))) else pure (ForInStep.yield cs):Sem (ForInStep (List (Str×Addr)))))=(pure (gQ env.cells names acc):Sem _):=by
  intro names
  induction names with
  | nil=>intro acc _;rfl
  | cons y r ih=>
   intro acc hy;obtain⟨n,k⟩:=y;rw[List.forIn_cons]
   by_cases hk:k=.free
   .subst hk;obtain⟨c,hc⟩:=hy (n,.free) Az rfl;have e1:cellOf env n=(pure c:Sem Addr):=by
     unfold cellOf;rw[show env.cells.lookup n=some c from hc]
    simp only[beq_self_eq_true,if_true,e1,pure_bind];rw[ih _ λz hz=>hy z (Ar _ hz)];simp only[gQ,if_true];rw[show env.cells.lookup n=some c from hc];rfl
   .have hb:(k==NameKind.free)=false:=by simpa using hk
    simp only[hb,Dq,if_false,pure_bind];rw[ih _ λz hz=>hy z (Ar _ hz)];simp only[gQ,if_neg hk]
 have e:closureFor scope env=((forIn scope.names [] λ(x:Str×Il) (cs:List (Str×Addr))=>(if (x.2==NameKind.free)=true then(do let a <-cellOf env x.1;pure (ForInStep.yield ((x.1,a)::cs))) else pure (ForInStep.yield cs):Sem (ForInStep (List (Str×Addr)))))>>=λcs=>pure cs):=by
  unfold closureFor;rfl
 rw[e,key _ _ h,pure_bind]
theorem yH:∀{names:List (Str×Il)} {acc:List (Str×Addr)},(∀y∈names,y.2=.free->∃c,cells.lookup y.1=some c)->
  (∀x c,acc.lookup x=some c->cells.lookup x=some c)->(gQ cells names acc).lookup x=some c->cells.lookup x=some c
 | [],acc,_,a,e=>a x c e
 | (n,k)::r,acc,g,a,e=>by
  have f:∀y∈r,y.2=.free->∃c,cells.lookup y.1=some c:=λz hz=>g z (Ar _ hz);unfold gQ at e
  by_cases hk:k=.free
  .subst hk;rw[if_pos rfl]at e;obtain⟨d,hd⟩:=g (n,.free) Az rfl;have hd:cells.lookup n=some d:=hd;refine yH f (λz b q=>?_) e;rw[Ea]at q
   by_cases hz:z=n
   .subst hz;rw[beq_self_eq_true,hd]at q;rw[hd];exact q
   .have:(z==n)=false:=beq_eq_false_iff_ne.mpr hz;rw[this]at q;exact a z b q
  .rw[if_neg hk]at e;exact yH f a e
theorem uL:∀{names:List (Str×Il)} {acc:List (Str×Addr)},((x,NameKind.free)∈names\/∃c,acc.lookup x=some c)->∃c,(gQ cells names acc).lookup x=some c
 | [],acc,h=>by
  rcases h with h|h
  .cases h
  .exact h
 | (n,k)::r,acc,h=>by
  unfold gQ
  by_cases hk:k=.free
  .subst hk;rw[if_pos rfl];refine uL ?_
   by_cases a:x=n
   .subst a;right;rw[Ea,beq_self_eq_true];exact⟨_,rfl⟩
   .have b:(x==n)=false:=beq_eq_false_iff_ne.mpr a;rcases h with h|⟨c,h⟩
    .rcases Ba.mp h with e|h
     .cases e;exact absurd rfl a
     .exact .inl h
    .right;rw[Ea,b];exact⟨c,h⟩
  .rw[if_neg hk];refine uL ?_;rcases h with h|h
   .rcases Ba.mp h with e|h
    .cases e;exact absurd rfl hk
    .exact .inl h
   .exact .inr h
structure oE(N':List Str)(sc osc:Jg):Prop where
 kind:sc.kind=.function
 nd:N'.Nodup
 nocell:∀y∈sc.names,y.2≠.cell
 loc:∀y∈sc.names,y.2=.local->sc.names.lookup y.1=some .local
 free:∀y∈sc.names,y.2=.free->osc.names.lookup y.1=some .cell\/osc.names.lookup y.1=some .free
def mH(N':List Str)(sc a:Jg):Bool:=
 decide (sc.kind=.function)&&decide N'.Nodup&&sc.names.all (λy=>decide (y.2≠.cell))&&sc.names.all (λy=>decide (y.2=.local->sc.names.lookup y.1=some .local)) &&
  sc.names.all (λy=>decide (y.2=.free->a.names.lookup y.1=some .cell\/a.names.lookup y.1=some .free))
theorem oE.of(h:mH N' sc b=true):oE N' sc b:=by
 unfold mH at h;simp only[Cq]at h;obtain⟨⟨⟨⟨c,d⟩,f⟩,g⟩,e⟩:=h;exact⟨of_decide_eq_true c,of_decide_eq_true d,λy a=>of_decide_eq_true (Gd.mp f y a),λy a=>of_decide_eq_true (Gd.mp g y a),λy a=>of_decide_eq_true (Gd.mp e y a)⟩
def cmap(js:List (Option Nat))(σ:St):St:=js.map λo=>o.bind λj=>(σ[j]?).join
def fF(N' N:List Str)(sc:Jg):List (Option Nat)->List Str->Bool
 | [],[]=>true
 | none::js,_::r=>fF N' N sc js r
 | some j::js,x::r=>decide (N[j]? = some x)&&decide (sc.names.lookup x=some .free)&&fF N' N sc js r
 | _,_=>false
theorem yI:∀{js:List (Option Nat)} {r:List Str},fF N' N sc js r=true->js.length=r.length
 | [],[],_=>rfl
 | none::js,_::r,h=>by
  have:=yI (js:=js) (r:=r) h;simp[this]
 | some j::js,x::r,h=>by
  unfold fF at h;rw[Cq]at h;have:=yI (js:=js) (r:=r) h.2;simp[this]
 | [],_::_,h=>by simp[fF]at h
 | none::_,[],h=>by simp[fF]at h
 | some _::_,[],h=>by simp[fF]at h
theorem yJ:∀{js:List (Option Nat)} {r:List Str} {i j:Nat} {x:Str},fF N' N sc js r=true->js[i]? = some (some j)->r[i]? = some x->N[j]? = some x/\sc.names.lookup x=some .free
 | [],[],i,j,x,_,e,_=>by simp at e
 | none::js,_::r,0,j,x,h,e,_=>by simp at e
 | none::js,_::r,i+1,j,x,h,e,a=>yJ (js:=js) (r:=r) (i:=i) h (by simpa using e) (by simpa using a)
 | some k::js,y::r,0,j,x,h,e,a=>by
  unfold fF at h;rw[Cq,Cq]at h;simp at e a;subst e;subst a;exact⟨of_decide_eq_true h.1.1,of_decide_eq_true h.1.2⟩
 | some k::js,y::r,i+1,j,x,h,e,a=>by
  unfold fF at h;rw[Cq,Cq]at h;exact yJ (js:=js) (r:=r) (i:=i) h.2 (by simpa using e) (by simpa using a)
 | [],_::_,_,_,_,h,_,_=>by simp[fF]at h
 | none::_,[],_,_,_,h,_,_=>by simp[fF]at h
 | some _::_,[],_,_,_,h,_,_=>by simp[fF]at h
theorem yK{env:Env}{x:Str}:∀{names:List (Str×Il)},(∀y∈names,y.2≠.cell)->
  (((names.map λ(n,k)=>if (k==NameKind.free&&env.scope.kind==.function&&env.kindOf n==some .cell) then(n,NameKind.cell) else(n,k)).lookup x=some .cell\/
    (names.map λ(n,k)=>if (k==NameKind.free&&env.scope.kind==.function&&env.kindOf n==some .cell) then(n,NameKind.cell) else(n,k)).lookup x=some .free)↔names.lookup x=some .free)
 | [],_=>by simp
 | (n,k)::r,h=>by
  have b:=@yK env x r λy c=>h y (Ar _ c);have hk:k≠.cell:=h (n,k) Az;rw[Aw];dsimp only
  by_cases a:(x==n)=true
  .by_cases hc:(k==NameKind.free&&env.scope.kind==.function&&env.kindOf n==some .cell)=true
   .rw[if_pos hc];simp only[Ea,a];have:k=.free:=by
     rw[Cq,Cq]at hc;exact beq_iff_eq.mp hc.1.1
    simp[this]
   .rw[if_neg hc];simp only[Ea,a];constructor
    .rintro(e|e)
     .cases e;exact absurd rfl hk
     .exact e
    .intro e;exact .inr e
  .have a:(x==n)=false:=by simpa using a
   by_cases hc:(k==NameKind.free&&env.scope.kind==.function&&env.kindOf n==some .cell)=true
   .rw[if_pos hc];simp only[Ea,a];exact b
   .rw[if_neg hc];simp only[Ea,a];exact b
theorem yL:∀{names:List (Str×Il)},names.lookup x=some k->(x,k)∈names:=λh=>Hb h
section
variable {X:Cx}{sc:Jg}{N':List Str}{js:List (Option Nat)}{pins:List (Addr×Obj)}{σ:St}{H H1:Hp}{s:Ah}{fp:List Addr}{C:Addr}
theorem yM(S:oE N' sc X.env.scope)(I:Inv X pins σ H s):∀y∈sc.names,y.2=.free->∃c,X.env.cells.lookup y.1=some c:=λy a hk=>
 I.ok.has y.1 (S.free y a hk)
theorem XQ(S:oE N' sc X.env.scope)(O:fF N' X.N sc js N'=true)(I:Inv X pins σ H s)(hf:∀b∈fp,hZ X pins H b)(Y:∀b∈fp,∃o,s.heap.get? b=some o){tk:Nat}{m:Str->Option Ae}(P:s.heap.objs.size<=C)(keep:∀b o,s.heap.get? b=some o->t.get? b=some o)(un:Un (iZ X.stack) fp H H1 s.heap t)(hok:c9 X.prog X.w H1 t)(R:t.Ns C m)(n:H1 C=none):
  Inv (dA X sc N' ⟨gQ X.env.cells sc.names [],s,H,fp,C⟩) [] (cmap js σ) H1 {s with heap:=t,toks:=tk}:=by
 have cs:=yM S I;have sub:∀x c,(gQ X.env.cells sc.names []).lookup x=some c->X.env.cells.lookup x=some c:=λx c e=>yH cs (λ_ _ z=>by simp at z) e;refine⟨⟨I.ok.mod,S.kind,I.ok.glob,I.ok.blt,P,λx y c A a=>I.ok.inj x y c (sub x c A) (sub y c a),λx Q=>?_,λ_ _ h _=>absurd (show false=true from h) Ao,I.ok.hd,I.ok.frames,.inl rfl,λb g=>?_,I.bs,Ay I.ok.bsz I.sz,λb o e g=>?_,λb g E=>?_,I.stack,I.stkFree⟩,
  rfl,I.bare,un,⟨m,R,λi x v A a Z=>?_⟩,λx c e=>?_,n,λx c e=>?_,λp T=>absurd (show p∈([]:List (Addr×Obj)) from T) (by simp),hok,?_⟩
 .have q:sc.names.lookup x=some .free:=(yK (env:=X.env) S.nocell).mp Q;exact uL (.inl (yL q))
 .obtain⟨o,e⟩:=Y b g;exact⟨Bn (Cf (Be e) P),λx c q=>(hf b g).2.2.2.2.1 x c (sub x c q)⟩
 .rcases(hf b g).2.2.2.1 with z|z
  .exact I.ok.noex b o e z
  .exact absurd (Cf (Be e) (Ay I.ok.bsz z)) (Hl _)
 .rcases Ba.mp (I.stkSub b E) with z|z
  .exact(hf b g).2.1 z
  .exact(hf b g).2.2.1 z
 .
  have A:N'[i]? = some x:=A;unfold cmap at a;rw[Av]at a;cases f:js[i]? with
  | none=>rw[f]at a;cases a
  | some o=>
   rw[f]at a;cases o with
   | none=>cases a
   | some j=>
    obtain⟨V,J⟩:=yJ O f A;have a:(σ[j]?).join=some v:=by simpa using a
    have K:σ[j]? = some (some v):=by
     cases q:σ[j]? with
     | none=>rw[q]at a;cases a
     | some z=>rw[q]at a;simpa using a
    obtain⟨m0,U,L⟩:=I.loc;have M:=S.free _ (yL J) rfl;obtain⟨u,r,l⟩:=L j x v V K (M.elim (λz=>.inr (.inl z)) λz=>.inr (.inr z));refine⟨u,r,.inr ⟨(yK (env:=X.env) S.nocell).mpr J,?_⟩⟩;rcases l with⟨k,_⟩|⟨_,c,W,hc⟩
    .have k:X.env.scope.names.lookup x=some .local:=k;rcases M with z|z
     .rw[k]at z;cases z
     .rw[k]at z;cases z
    .obtain⟨F,B⟩:=uL (cells:=X.env.cells) (acc:=[]) (.inl (yL J));have:F=c:=Ci ((sub x F B).symm.trans W);subst this;obtain⟨D,d,hd⟩:=hc;exact⟨F,B,D,keep _ _ d,hd⟩
 .obtain⟨v,D,d,hd⟩:=I.cell x c (sub x c e);exact⟨v,D,keep _ _ d,hd⟩
 .obtain⟨v,D,d,hd⟩:=I.cell x c (sub x c e);have G:c∉fp:=λz=>(hf c z).2.2.2.2.1 x c (sub x c e) rfl;exact un.free c D d (I.freeC x c (sub x c e)) G
 .show(cmap js σ).length=N'.length;unfold cmap;rw[Ab];exact yI O
end
section
variable {prog:Ax}{w:Bl}{A:Cs}{R:Result->Ah->Prop}{s:Ah}
theorem XR(I:Nat->Ah->Prop)(u:∀n s,I n s->Bh (Bu prog w) A (Iy z) (λr e=>match r with
   | none=>R (.ok .next) e
   | some v=>Bh (Bu prog w) A (Na a z v) (λ_ s₀=>Bh (Bu prog w) A (Ma a env v) (λ_ l=>
     Bh (Bu prog w) A (forIn o true λc r=>if r=true then do let ok <-isTrue c env (eval c env);pure (ForInStep.yield ok) else pure (ForInStep.yield r)) (λok d=>
      if ok=true then Bh (Bu prog w) A (eval p env) (λx g=>
       Bh (Bu prog w) A (call (.builtin "list.append") [acc,x]) (λ_ k=>∃m,m<n/\I m k) (λ_ _=>False) g) (λ_ _=>False) d
      else ∃m,m<n/\I m d) (λ_ _=>False) l) (λ_ _=>False) s₀) (λ_ _=>False) e) (λ_ _=>False) s)(n:Nat)(h:I n s):
  Kz (Bu prog w) A (.compLoop (.ListComp p [⟨a,j,o,0⟩] b pos) 0 z acc env) R s:=by
 refine codeAny_loop rfl I (λn s B=>?_) n h;show Bh _ A ((compTurn (.ListComp p [⟨a,j,o,0⟩] b pos) 0 z acc env).onRaise (λx=>do noteFrame x env;theTreesLotGoes x)) _ _ s;refine wpAny_noted ?_;rw[compTurn_list];refine Aa (Np (Aa (Ik (u n s B) (λr e i=>?_) λ_ _ h'=>h'.elim)));cases r with
 | none=>exact Af i
 | some v=>
  refine Aa (Ik i (λ_ s₀ h₀=>?_) λ_ _ h'=>h'.elim);refine Aa (Ik h₀ (λ_ l y=>Aa (Ik y (λok d f=>?_) λ_ _ h'=>h'.elim)) λ_ _ h'=>h'.elim);cases ok with
  | false=>exact Af ⟨rfl,f⟩
  | true=>
   exact Aa (Aa (Ik f (λx g q=>Aa (Ik q (λ_ k t=>Af (Af ⟨rfl,t⟩)) λ_ _ h'=>h'.elim)) λ_ _ h'=>h'.elim))
end
def iO(X:Cx)(ifs:List Expr)(t:TT):Prop:=
 ∀(a:List (Addr×Obj)) (s:Ah) (b:St) (H:Hp) (Q:Bool->Hp->Prop),Inv X a b H s->t b H Q->
  Bh (Bu X.prog X.w) X.A (forIn ifs true λc r=>if r=true then do let ok <-isTrue c X.env (eval c X.env);pure (ForInStep.yield ok) else pure (ForInStep.yield r)) (TP X a b Q) X.xe s
def XS:TT:=λ_ H Q=>Q true H
theorem XT:iO X [] XS:=λ_ _ _ H _ I h=>wpAny_tests_nil ⟨H,I,h⟩
theorem XU(h:PT X c t):iO X [c] t:=λa s b H Q I hw=>wpAny_tests_one (h a s b H Q I hw)
def yN(J:It)(g:TG)(tt:TT)(te:TE)(p:Addr)(σ₀:St)(H1:Hp)(Q:VK):Prop:=
 ∃W:Nat->Nat->St->List V->Hp->Prop,(∃m,W 0 m σ₀ [] (aT H1 p (.lst [])))/\∀i m d acc H,W i m d acc H->
  (J.stop i H/\Q (.ref p) H)\/(J.go i H/\∃N:St->List V->Hp->Prop,(∀a c e,N a c e->∃h,h<m/\W (i+1) h a c e)/\∀x e,J.yld i H x e->g x d e λa k=>tt a k λb f=>
   if b=true then te a f λy j=>j p=some (.lst acc)/\acc.length<An/\N a (acc++[y]) (aT j p (.lst (acc++[y])))
   else N a acc f)
def yO(wi:TI)(g:lB->TG)(tt:lB->TT)(te:lB->TE)(js:List (Option Nat)):TE:=λa H Q=>wi a H λJ H1=>∀p,H1 p=none->∀B:lB,yN J (g B) (tt B) (te B) p (cmap js a) H1 Q
section
variable {X:Cx}{sc:Jg}{N':List Str}{js:List (Option Nat)}{tg iter elt:Expr}{ifs:List Expr}{pos:Pos}{wi:TI}{g:lB->TG}{tt:lB->TT}{te:lB->TE}
theorem JA(S:oE N' sc X.env.scope)(hj:fF N' X.N sc js N'=true)(hc:X.calm=true)(hg:∀B,PG (dA X sc N' B) tg (g B))(ht:∀B,iO (dA X sc N' B) ifs (tt B))(he:∀B,PE (dA X sc N' B) elt (te B)){tn:Nat->Heap->Prop}(I:Inv X k σ H s)(T:kW X.prog X.w X.K tg J fp it tn)(st:tn 0 s.heap)(hf:∀b∈fp,hZ X k H b)(hw:∀p,H p=none->∀B:lB,yN J (g B) (tt B) (te B) p (cmap js σ) H Q){E:Ae->Ah->Prop}{RR:Ae->Addr->Result->Ah->Prop}(hRR:∀p C q L m,Inv X k σ q L->hZ X k q C->L.heap.Ns C m->Q (.ref p) q->RR (.ref p) C (.ok .next) L):
  Bh (Bu X.prog X.w) X.A (newList []) (λacc l=>Bh (Bu X.prog X.w) X.A (newFunctionEnv sc X.env.globals (gQ X.env.cells sc.names []) [] X.env.qual none .none (some X.env)) (λR s₄=>
   Kz (Bu X.prog X.w) X.A (.compStart (.ListComp elt [⟨tg,iter,ifs,0⟩] sc pos) 0 (.ref it) acc {R with scope:=relabel sc X.env}) (RR acc R.locals) s₄) E l) E s:=by
 refine De (wpAny_newFunctionEnv S.nocell (by intro y hy;simp at hy) (λc h a=>?_) S.kind);dsimp only at h a⊢;generalize Z:s.heap.push {cls:=.type "list",dict:=none,data:=.seq ([]:List Ae).toArray} = H2 at h a⊢;have hC:H2.objs.size=s.heap.objs.size+1:=by rw[<-Z,Fq]
 have hDC:s.heap.objs.size≠H2.objs.size:=by rw[hC];exact Bn (Jz _)
 have v:s.heap.objs.size<=H2.objs.size:=by rw[hC];exact Nat.le_succ _
 have Y:∀b,b<s.heap.objs.size->b≠H2.objs.size:=λb f=>by rw[hC];exact Bn (Nat.lt_succ_of_lt f)
 have old:∀b o,s.heap.get? b=some o->c.get? b=some o:=λb o e=>a.extBut b o (Y b (Be e)) (Ai _ (Z▸Ai _ e));have hacc:c.get? s.heap.objs.size=some {cls:=.type "list",dict:=none,data:=.seq ([]:List Ae).toArray}:=a.extBut _ _ hDC (Ai _ (Z▸Bc _ rfl));have hp0:H s.heap.objs.size=none:=I.hok.fresh (Ag _);have newO:cC X.prog X.w (aT H s.heap.objs.size (.lst [])) c s.heap.objs.size (.lst []):=⟨Bw _,[],_,.nil,hacc⟩;have hok1:c9 X.prog X.w (aT H s.heap.objs.size (.lst [])) c:=I.hok.laid old (Ag _) newO;have un1:Un (iZ X.stack) fp H (aT H s.heap.objs.size (.lst [])) s.heap c:=Un.laid old (Ag _) hp0;have fC:(aT H s.heap.objs.size (.lst [])) H2.objs.size=none:=by rw[bD (Bz hDC)];exact I.hok.fresh v
 have IB:=XQ (tk:=s.toks+([]:List (Str×Ae)).length) S hj I hf (λb f=>let ⟨o,e,_⟩:=T.obj 0 _ st b f;⟨o,e⟩) v old un1 hok1 h fC;obtain⟨W,⟨m0,w0⟩,P⟩:=hw _ hp0 ⟨gQ X.env.cells sc.names [],s,H,fp,H2.objs.size⟩;have st1:tn 0 c:=T.keep _ _ _ st λb _ o e=>old b o e;have loop:∀l:Ah,l = {s with heap:=c,toks:=s.toks+([]:List (Str×Ae)).length}->
   Kz (Bu X.prog X.w) X.A (.compLoop (.ListComp elt [⟨tg,iter,ifs,0⟩] sc pos) 0 (.ref it) (.ref s.heap.objs.size) (compEnvC sc (gQ X.env.cells sc.names []) H2.objs.size X.env))
    (RR (.ref s.heap.objs.size) H2.objs.size) l:=by
  rintro l rfl;generalize hB:(⟨gQ X.env.cells sc.names [],s,H,fp,H2.objs.size⟩:lB)=B at P w0 IB;have eB:compEnvC sc (gQ X.env.cells sc.names []) H2.objs.size X.env=(dA X sc N' B).env:=by subst hB;rfl
  have O:(dA X sc N' B).ex=fp:=by subst hB;rfl
  rw[eB];have D:∀{j:St} {q:Hp} {L:Ah},Inv (dA X sc N' B) [] j q L->(∀b∈fp,q b=none)->∀b∈fp,hZ (dA X sc N' B) [] q b:=λ{j q L} J' hn b f=>by
   refine⟨hn b f,(J'.ok.exf b (by rw[O];exact f)).1,J'.ok.exfs b (by rw[O];exact f),.inl (by rw[O];exact f),(J'.ok.exf b (by rw[O];exact f)).2,λp hp=>absurd (show p∈([]:List (Addr×Obj)) from hp) (by simp)⟩
  have fp0:∀b∈fp,(aT H s.heap.objs.size (.lst [])) b=none:=λb f=>by
   obtain⟨o,e,_⟩:=T.obj 0 _ st b f;rw[bD (Bn (Be e))];exact(hf b f).1
  refine XR (λn L=>∃i j acc q,Inv (dA X sc N' B) [] j q L/\tn i L.heap/\(∀b∈fp,q b=none)/\W i n j acc q) ?_ m0 ⟨0,_,[],_,IB,st1,fp0,w0⟩;rintro n s3 ⟨i,M,acc,H3,I3,st3,fr3,w3⟩;rcases P i n M acc H3 w3 with⟨stop,qn⟩|⟨go,N,hN,step⟩
  .refine a8 (T.done (dA X sc N' B) rfl rfl rfl hc i [] s3 M H3 (λ_ _=>False) I3 (D I3 fr3) st3 stop) λr s4 ⟨hr,I4⟩=>?_;subst hr;obtain⟨m4,hn4,_⟩:=I4.loc;have u4:Un (iZ X.stack) fp H H3 s.heap s4.heap:=by have:=I4.base;subst hB;exact this
   have o4:s4.os=s.os:=by have:=I4.os;subst hB;exact this
   have c4:(dA X sc N' B).env.locals=H2.objs.size:=by subst hB;rfl
   have hIX:Inv X k σ H3 s4:=I.call' (ch:=fp) o4 u4 I4.hok I4.bare λb f=>⟨(hf b f).2.2.2.1,(hf b f).2.1,(hf b f).2.2.2.2.1,(hf b f).2.2.2.2.2⟩
   exact hRR _ _ H3 s4 m4 hIX (I.fpOk v (by rw[<-c4];exact I4.free)) (by rw[<-c4];exact hn4) qn
  .refine a8 (T.item (dA X sc N' B) rfl rfl rfl hc i [] s3 M H3 (λ_ _=>False) I3 (D I3 fr3) st3 go) λr s4 ⟨u,hr,h4⟩=>?_;subst hr;refine a8 h4 λ_ s5 ⟨x,H5,I5,r5,y5,U,fr5⟩=>?_;have I5':=I5.pinned (D I5 fr5) (T.obj _ _ U);refine a8 (hg B _ s5 M H5 x u _ I5' r5 (step x H5 y5)) λ_ s6 ⟨t,H6,I6,q6⟩=>?_;refine a8 (ht B _ s6 t H6 _ I6 q6) λok s7 ⟨H7,I7,q7⟩=>?_;have F:∀{H8:Hp} {s8:Ah} {G:List V},Inv (dA X sc N' B) ([]++rQ fp s5.heap) t H8 s8->(∃m',m'<n/\W (i+1) m' t G H8)->∃m,m<n/\∃i j acc q,Inv (dA X sc N' B) [] j q s8/\tn i s8.heap/\(∀b∈fp,q b=none)/\W i m j acc q:=
    λ{H8 s8 G} I8 ⟨m',hm,w8⟩=>by
     refine⟨m',hm,i+1,t,G,H8,I8.unpinned,T.keep _ _ _ U λb f o e=>(I8.pin (b,o) (Ca _ (Ca _ (t9 f e)))).1,λb f=>?_,w8⟩;obtain⟨o,e,d⟩:=T.obj _ _ U b f;exact(I8.pin (b,o) (Ca _ (Ca _ (t9 f e)))).2.1
   cases ok with
   | false=>
    rw[if_neg Ao]at q7;rw[if_neg Ao];exact F I7 (hN _ _ _ q7)
   | true=>
    rw[if_pos rfl]at q7;rw[if_pos rfl];refine a8 (he B _ s7 t H7 _ I7 q7) λy s8 ⟨z,H8,I8,r8,hp8,hl8,q8⟩=>?_;exact a8 (IQ _ s8 t H8 (.ref s.heap.objs.size) [z] (.ref s.heap.objs.size) [y] (λ_ H9=>N t (acc++[z]) H9) I8 rfl (.cons r8 .nil) ⟨_,acc,z,rfl,rfl,hp8,hl8,q8⟩) λ_ s9 ⟨_,H9,I9,_,q9⟩=>F I9 (hN _ _ _ q9)
 exact codeAny_compStart_list (loop _ rfl) (T.self _ 0 _ _ _ st1 (loop _ rfl))
theorem XW(N':List Str)(js:List (Option Nat))(hi:PI X tg iter wi)(G:∀B,PG (dA X sc N' B) tg (g B))(ht:∀B,iO (dA X sc N' B) ifs (tt B))(t:∀B,PE (dA X sc N' B) elt (te B))(K:mH N' sc X.env.scope=true:=by kernel_rfl)(M:fF N' X.N sc js N'=true:=by kernel_rfl)(hc:X.calm=true:=by rfl)(v:∀x,Fi iter X.env x=pure x:=by intro _;rfl):PE X (.ListComp elt [⟨tg,iter,ifs,0⟩] sc pos) (yO wi g tt te js):=by
 intro a s k H Q I h;have S:=oE.of K;rw[eval_ListComp];refine wpAny_comprehension_free (use:=none) rfl v (IZ (yM S I)) S.kind S.loc (a8 (hi a s k H _ I h) λU l d=>a8 d λL n c=>?_);obtain⟨O,fp,R,J,P,e,F,T,i,u,hw⟩:=c;subst e;refine JA (RR:=λacc C=>compPost (Bu X.prog X.w) X.A X.xe none (EP X a k Q) acc C) S M hc G ht t F T i u hw ?_;intro p C r D m z f E q;refine⟨m,E,λh' j=>⟨.ref p,r,?_,rfl,q⟩⟩;exact z.turned (t':=D.toks) (λb o y e=>(j.2 b y).trans e) f.1 f.2.1 f.2.2.2.1 f.2.2.2.2.1 f.2.2.2.2.2
theorem JB{i:Nat}(V:X.N.Nodup)(F:X.N[i]? = some x)(hx:Loc X.env.scope x)(N':List Str)(js:List (Option Nat))(hi:PI X tg iter wi)(hg:∀B,PG (dA X sc N' B) tg (g B))(ht:∀B,iO (dA X sc N' B) ifs (tt B))(O:∀B,PE (dA X sc N' B) elt (te B))(S0:mH N' sc X.env.scope=true:=by kernel_rfl)(hj:fF N' X.N sc js N'=true:=by kernel_rfl)(hc:X.calm=true:=by rfl)(y:Hq (.ListComp elt [⟨tg,iter,ifs,0⟩] sc pos) (some (.Name x j)) d.line X.env=pure true:=by rfl)(hf:X.fn x=true\/X.env.scope.names.lookup x=some .local:=by first|exact .inl rfl|exact .inr rfl|assumption)(W:∀x,Fi iter X.env x=pure x:=by intro _;rfl):PS X (.Assign [.Name x j] (.ListComp elt [⟨tg,iter,ifs,0⟩] sc pos) d) (t7 (yO wi g tt te js) (xU i)):=by
 intro c s R H D I h;have S:=oE.of S0;rw[exec_Assign_Name_used _ _ _ _ y];refine Aa (Np (Aa ?_));show Bh _ X.A (do let _ <-comprehension (.ListComp elt [⟨tg,iter,ifs,0⟩] sc pos) sc X.env _ (newList []) false (eval iter X.env) (some (Ma (.Name x j) X.env))) _ _ s;refine Aa (Ik (wpAny_comprehension_free (use:=some (Ma (.Name x j) X.env)) (Q:=λ_ n=>SP X c D .next n) rfl W (IZ (yM S I)) S.kind S.loc
  (a8 (hi c s R H _ I h) λxv K l=>a8 l λitv L k=>?_)) (λ_ n hq=>Af (Af hq)) λ_ _ e=>e)
 obtain⟨it,fp,tn,J,H2,e,I2,T,r,U,hw⟩:=k;subst e;refine JA (RR:=λacc C=>compPost (Bu X.prog X.w) X.A X.xe (some (Ma (.Name x j) X.env)) (λ_ n=>SP X c D .next n) acc C) S hj hc hg ht O I2 T r U hw ?_;intro p C M n m Z f hn q;show Bh _ X.A (Ma (.Name x j) X.env (.ref p)) _ _ _;refine wpAny_assign_Name (HE Z V F hx (v:=.ref p) rfl (λu G ⟨a,sb,P⟩=>?_) hf);have t:C≠a:=by
  rcases P with e|e
  .rw[e];exact f.2.1
  .exact λz=>f.2.2.2.2.1 x a e z.symm
 refine⟨m,hn.sameBut sb t,λh' E=>⟨_,M,?_,q⟩⟩;exact G.turned (t':=u.toks) (λb o Y e=>(E.2 b Y).trans e) f.1 f.2.1 f.2.2.2.1 f.2.2.2.2.1 f.2.2.2.2.2
end
section
variable {g:TG}{tt:TT}{te:TE}{p:Addr}{σ₀:St}{H1:Hp}{Q:VK}
theorem XX(n:Nat)(d:Nat->St->List V->Hp->Prop)(u:d 0 σ₀ [] (aT H1 p (.lst [])))(hd:∀c acc H,d n c acc H->J.stop n H/\Q (.ref p) H)(o:∀i c acc H,i<n->d i c acc H->J.go i H/\∀x h,J.yld i H x h->g x c h λa v=>tt a v λb j=>
   if b=true then te a j λy l=>l p=some (.lst acc)/\acc.length<An/\d (i+1) a (acc++[y]) (aT l p (.lst (acc++[y]))) else d (i+1) a acc j):yN J g tt te p σ₀ H1 Q:=by
 refine⟨λi m c acc H=>m=n-i/\i<=n/\d i c acc H,⟨n,by simp,Bw _,u⟩,?_⟩;rintro i m c acc H ⟨rfl,hi,q⟩
 by_cases f:i<n
 .obtain⟨r,s⟩:=o i c acc H f q;exact .inr ⟨r,d (i+1),λa k h t=>⟨n-(i+1),by lia,rfl,f,t⟩,s⟩
 .have e:i=n:=by lia
  subst e;exact .inl (hd c acc H q)
end
section
variable {X:Cx}
theorem JC{i:Int}(h:i.natAbs<2 ^ 4096):Builtin.Int.intBits i<=2 ^ 20:=by
 unfold Builtin.Int.intBits;split
 .exact Bw _
 .rename_i a;have b:i.natAbs≠0:=by
   intro z;have:i=0:=Int.natAbs_eq_zero.mp z;rw[this]at a;exact a rfl
  have:i.natAbs.log2<4096:=(Nat.log2_lt b).mpr h;have e:(2:Nat) ^ 20=1048576:=by decide
  lia
def uM(i j:Int):Prop:=i.natAbs<2 ^ 4096/\j.natAbs<2 ^ 4096
theorem XY:bC X (Dr .Mult) (rI uM λi j=>.int (i*j)):=pO λ_ _ _ _ _ _ _ hc q=>mul_int q (IntMulOk.of_bits (JC hc.1) (JC hc.2))
def JD(i j:Int):Prop:=0<j/\j<2 ^ 4096
theorem XZ:bC X (Dr .FloorDiv) (rI JD λi j=>.int (i/j)):=pO λi j _ _ _ _ _ hc q=>by
 refine floordiv_int (by have:=hc.1;lia) ?_ (.inl (PyProof.noPylong_of_log2 ?_))
 .rw[Int.fdiv_eq_ediv_of_nonneg _ (Int.le_of_lt hc.1)];exact q
 .have c:j.natAbs≠0:=by have:=hc.1;lia
  have d:j.natAbs<2 ^ 4096:=by
   have a:=hc.1;have b:=hc.2;lia
  have:=(Nat.log2_lt c).mpr d;lia
theorem X0:bC X (Dr .Mult) (λx y H Q=>∃z n,x=.str z/\y=.int n/\z.length<=16/\-(2 ^ 63)<=n/\n<=1048576/\Q (.str (Hc z n)) H):=by
 intro a s g H x y v u Q I c f h;obtain⟨z,n,rfl,rfl,d,e,b,q⟩:=h;obtain⟨t,rfl⟩:=c;obtain⟨t',rfl⟩:=f;exact SB.mul (mulOk_of 16 1048576 d b e (by decide) (by decide)) λt' k=>⟨.str _,H,I.tok _,⟨_,rfl⟩,q⟩
theorem X1:f9 X "str.upper" (λx vs H Q=>∃z,x=.str z/\vs=[]/\z.length<=5592405/\Q (.str (Txt.upper z)) H):=by
 intro a s d H x xs v us Q I b c h;obtain⟨z,rfl,rfl,hz,q⟩:=h;obtain⟨t,rfl⟩:=b;have:=c.zero;subst this;exact SC.upper (fit_upper hz) ⟨.str _,H,I.tok _,⟨_,rfl⟩,q⟩
theorem X2:f9 X "str.partition" (λx vs H Q=>∃z y,x=.str z/\vs=[.str y]/\(y.length==0)=false/\z.length<=An/\
  ∀p,H p=none->Q (.ref p) (aT H p (.tup [.str (Cp z y).1,.str (Cp z y).2.1,.str (Cp z y).2.2]))):=by
 intro f s A H x xs v us Q I l m h;obtain⟨z,y,rfl,rfl,w,hz,q⟩:=h;obtain⟨t,rfl⟩:=l;obtain⟨u,rfl,ru⟩:=m.one;obtain⟨t',rfl⟩:=ru;refine Kh Ng (typeIs_str _ _ _) F.entry_str_partition (F.args_str_partition_2 _ _) (meets_str_partition z y t t' w hz) ?_;have d:=q s.heap.objs.size (I.hok.fresh (Ag _));have fin:∀(a b c:Str) (j g k:Tok) (tk:Nat),Q (.ref s.heap.objs.size) (aT H s.heap.objs.size (.tup [.str a,.str b,.str c]))->
   EP X f A Q (.ref s.heap.objs.size) {s with toks:=tk,heap:=s.heap.push {cls:=.type "tuple",data:=.seq [.str a j,.str b g,.str c k].toArray}}:=λa b c j g k tk n=>
  ⟨.ref s.heap.objs.size,_,I.laid (o:=.tup [.str a,.str b,.str c]) (t':=tk) (λb o e=>Ai _ e) (Ag _)
   ⟨by show 3<=An;decide,[.str a j,.str b g,.str c k],.cons ⟨_,rfl⟩ (.cons ⟨_,rfl⟩ (.cons ⟨_,rfl⟩ .nil)),⟨_,Bc _ rfl,rfl,_,rfl⟩⟩,rfl,n⟩
 unfold Cp at d
 revert d
 cases Ic z y 0 z.length 1 with
 | nil=>intro d;exact fin _ _ _ _ _ _ _ d
 | cons i r=>intro d;exact fin _ _ _ _ _ _ _ d
theorem all_range{bs:List Bool}:(Cr bs.length).all (λi=>bs.getD i false)=bs.all id:=by
 induction bs with
 | nil=>rfl
 | cons b r a=>
  rw[Br,List.range_succ_eq_map,Iq,List.all_map,Iq];have:((λi=>(b::r).getD i false) ∘ Nat.succ)=λi=>r.getD i false:=by
   funext i;simp[List.getD]
  rw[this,a];simp
theorem JE(hc:X.calm=true):c0 X (.builtin "all") (λxs H Q=>∃(p:Addr) (bs:List Bool),xs=[.ref p]/\bO X.K H p (bs.map V.bl)/\Q (.bl (bs.all id)) H):=by
 intro k s D H xs us Q I r h;obtain⟨p,bs,rfl,w,q⟩:=h;obtain⟨u,rfl,ru⟩:=vals1 r;cases ru;obtain⟨its,c,pl,hz⟩:=I.list w;have g:p<s.heap.objs.size:=by obtain⟨_,e,_⟩:=pl.isList;exact Be e
 refine call_all_walk (Hx pl.isList ?_);have t:X.A.in1.handled=none:=I.ok.hd hc;refine⟨s.heap.objs.size,[s.heap.objs.size,p],[s.heap.objs.size],its.toArray.size,(λi v=>its.toArray[i]? = some v),_,(λi=>bs.getD i false),rfl,Ll t s.heap.objs.size p (Bn g) its.toArray,
  ⟨⟨_,Bc _ rfl,rfl,rfl⟩,pl.isList.push _⟩,?_,λh' tk hk=>?_⟩
 .intro i v B y C m f;have a:its[i]? = some v:=by simpa using m
  have hi:i<its.length:=(Ap.mp a).1;have hl:=c.length;rw[Ab]at hl;have n:bs[i]? = some (bs.getD i false):=by
   have d:i<bs.length:=by lia
   simp[List.getD,Bj d]
  obtain⟨u,l,ru⟩:=c.get (i:=i) (x:=.bl (bs.getD i false)) (by rw[Av,n];rfl);rw[a]at l;cases l;cases (show v=Value.bool (bs.getD i false) from ru);exact Af f
 .have hl:=c.length;rw[Ab]at hl;have e:(Cr its.toArray.size).all (λi=>bs.getD i false)=bs.all id:=by
   rw[Bf,<-hl,all_range]
  rw[e];refine⟨.bl (bs.all id),H,?_,rfl,q⟩;exact I.kept (t':=tk) λb o j=>hk b o (λz=>by
   have:b=s.heap.objs.size:=by simpa using z
   exact absurd (Be j) (by rw[this];exact Hl _)) (Ai _ j)
theorem X3:c0 X (.builtin "isinstance") (λxs H Q=>∃x T t b,xs=[x,.ty T]/\i0 X.K H x t/\Iz X.K t (.type T)=some b/\Q (.bl b) H):=by
 intro c s f H xs us Q I r h;obtain⟨x,T,t,b,rfl,ty,e,q⟩:=h;obtain⟨u,d,rfl,ru,a⟩:=vals2 r;cases (show d=Value.type T from a);exact UY I ru ty e λtk=>⟨.bl b,H,I.tok _,rfl,q⟩
def yP(z:Str):It:=⟨λi _=>i<z.cps.size,λi H x a=>a=H/\∃c,z.cps.toList[i]? = some c/\x=.str ⟨#[c]⟩,λi _=>z.cps.size<=i⟩
theorem JF{P:Ax}{w:Bl}{K:Ac}{x:Str}{J:Pos}(z:Str)(a:Addr)(ty:String)(d:Tok)(nx:∀(A:Cs) (s:Ah) (i c:Nat) (Q:Option Ae->Ah->Prop) (E:Ae->Ah->Prop),s.heap.IsStrIter a ty z d i->z.cps[i]? = some c->
   (∀h',h'.IsStrIter a ty z d (i+1)->Ex a s.heap h'->Q (some (.str ⟨#[c]⟩ s.toks)) {s with heap:=h',toks:=s.toks+1})->Bh (Bu P w) A (Iy (.ref a)) Q E s)(en:∀(A:Cs) (s:Ah) (i:Nat) (Q:Option Ae->Ah->Prop) (E:Ae->Ah->Prop),A.handled=none->s.heap.IsStrIter a ty z d i->z.cps[i]? = none->
   (∀h',Mq a s.heap h'->Q none {s with heap:=h'})->Bh (Bu P w) A (Iy (.ref a)) Q E s)(u:∀(A:Cs) (i:Nat) (s:Ah) (Q:Ae->Ah->Prop) (E:Ae->Ah->Prop),s.heap.IsStrIter a ty z d i->Q (.ref a) s->Bh (Bu P w) A (pyIter (.ref a)) Q E s):
  kW P w K (.Name x J) (yP z) [a] a (λi h=>h.IsStrIter a ty z d i) where
 mem:=by simp
 obj:=λi h st b g=>by
  have e:b=a:=by simpa using g
  subst e;obtain⟨o,l,_,hd⟩:=st;exact⟨o,l,λv q=>by rw[hd]at q;cases q⟩
 keep:=λi h h' st k=>by
  obtain⟨o,l,r⟩:=st;exact⟨o,k a (by simp) o l,r⟩
 item:=by
  intro X j hw p hc i f s F H E I hf st C;subst j hw p;obtain⟨n,B,G,m,t,D⟩:=hf a (by simp);have hi:z.cps[i]? = some z.cps[i]:=Kv C;refine nx X.A s i _ _ _ st hi λh' st' sb=>?_;have L:Inv X f F H {s with heap:=h',toks:=s.toks+1}:=I.turned (λb o g e=>(sb.2 b g).trans e) n B m t D;exact⟨_,rfl,Af ⟨.str ⟨#[z.cps[i]]⟩,H,L,⟨_,rfl⟩,⟨rfl,z.cps[i],by rw[Gi];exact hi,rfl⟩,st',λb g=>(hf b g).1⟩⟩
 done:=by
  intro X j hw p hc i f s F H E I hf st C;subst j hw p;obtain⟨n,B,G,m,t,D⟩:=hf a (by simp);have y:z.cps.size<=i:=C;exact en X.A s i _ _ (I.ok.hd hc) st (Ls y) λh' M=>⟨rfl,I.turned (t':=s.toks) (λb o g e=>M b o g e) n B m t D⟩
 self:=u
theorem JG{E:Ae->Ah->Prop}(g:l≠e):∀(n i:Nat) (s:Ah) (Q:List Ae->Ah->Prop),s.heap.IsListIter e l i->s.heap.IsList l items->i+n<=items.size->
  (∀h',h'.IsListIter e l (i+n)->Ex e s.heap h'->Q ((items.toList.drop i).take n) {s with heap:=h'})->Bh (Bu prog w) A (draw (.ref e) n) Q E s
 | 0,i,s,Q,hit,_,_,j=>by
  show Bh _ _ (pure []) Q E s;exact Af (by simpa using j s.heap hit (Heap.SameBut.refl ..))
 | n+1,i,s,Q,hit,ht,m,j=>by
  have h:i<items.size:=by lia
  show Bh _ _ (Iy (.ref e)>>=_) Q E s;refine Aa (wpAny_pyNext_list_item hit ht (x:=items[i]) (by simp[h]) λk c a=>?_);refine Aa (Dd (JG g n (i+1) _ _ c (ht.extBut a.extBut g) (by lia) λf b d=>Af ?_));have hd:items.toList.drop i=items[i]::items.toList.drop (i+1):=by simp[Gq,h]
  have:=j f (by rw[show i+(n+1)=i+1+n by lia];exact b) (a.trans d);rw[hd,List.take_succ_cons]at this;exact this
theorem X4{E:Ae->Ah->Prop}{a:List (Bool×(Ae->Sem Unit))}{Q:Unit->Ah->Prop}(hh:A.handled=none)(ht:s.heap.IsList t items)(q:a.length=items.size)(f:a.findIdx? (·.1)=none)(h:∀h',Mq s.heap.objs.size s.heap h'->Bh (Bu prog w) A (assignInOrder (a.map (·.2)) items.toList) Q E {s with heap:=h'}):
  Bh (Bu prog w) A (unpack (.ref t) a) Q E s:=by
 have m:t≠s.heap.objs.size:=by obtain⟨o,p,_⟩:=ht;exact Bn (Be p)
 unfold unpack;rw[q,f];refine Aa (Dd ?_);unfold unpackItems;refine Aa ?_;unfold notIterableAtAll;refine Aa (Kr ht.typeIs F.slot_list_iter.lookup ?_);refine Af ?_;simp only[Dq,if_false];refine Aa (Dd (Hx ht ?_));refine Aa (Dd (JG m items.size 0 _ _ ⟨_,Bc _ rfl,rfl,rfl⟩ (ht.push _) (by lia) λl d c=>?_));have k:List.take items.size (List.drop 0 items.toList)=items.toList:=by
  rw[List.drop_zero];exact Fz (by simp)
 rw[k];rw[if_neg (by simp)];have g:l.IsList t items:=(ht.push _).extBut c.extBut m;refine Aa (Dd (wpAny_pyNext_list_end hh d g (by simp) λj i=>?_));simp only[Option.isSome_none,Dq,if_false];refine Af (h j λb o n e=>i b o n (c.extBut b o n (Ai _ e)))
def X5(K:Ac)(n:Nat)(t:j7):TG:=λv b H Q=>∃a xs,v=.ref a/\bO K H a xs/\xs.length=n/\t xs b H Q
theorem JH{k:Nat}{n:Nat}(hc:X.calm=true)(h:jQ X es t)(p:(Gs es X.env).length=n:=by rfl)(d:(Gs es X.env).findIdx? (·.1)=none:=by rfl):PG X (.Tuple es k pos) (X5 X.K n t):=by
 intro c s g H v u Q I r hw;obtain⟨a,xs,i,j,hl,hw⟩:=hw;subst i;cases r;obtain⟨its,f,ht,hz⟩:=I.list j;rw[PyProof.Rows.assign_Tuple];refine Aa (Np (X4 (I.ok.hd hc) ht.isList (by simp[p,<-hl,f.length]) d λh' l=>?_));have m:Inv X c g H {s with heap:=h'}:=I.kept (t':=s.toks) λb o e=>l b o (Bn (Be e)) e;exact h c _ g H xs _ Q m (by simpa using f) hw
end
end L2
namespace Rg
open PySem PySem.Spec PyProof.Rows L2
abbrev h8:Str:="ABCDEFGHIJKLMNOPQRSTUVWXYZ"
abbrev mI:Str:="0123456789"
abbrev j8:Str:="abcdefghijklmnopqrstuvwxyz"
def cs(z:Str):List Nat:=z.cps.toList
def mJ(z g:Str):Bool:=(!decide (V.str z=V.str ""))&&(cs z).all λc=>decide (c∈cs g)
def i5(z:Str):Bool:=(decide (V.str (Cp z "_").2.1=V.str "")||mJ (Cp z "_").2.2 mI)&&mJ (Cp z "_").1 h8
theorem yQ(h:cs x=cs y):x=y:=by
 obtain⟨x⟩:=x;obtain⟨y⟩:=y;exact congrArg Str.mk (Array.toList_inj.mp h)
theorem lC(x:Str):(cs x).length=x.length:=by unfold cs Str.length;simp
theorem pW(x y:Str):cs (x++y)=cs x++cs y:=by
 show(x.cps++y.cps).toList=_;rw[Mx];rfl
theorem JI:cs "" = []:=by decide +kernel
theorem JJ(z:Str):decide (V.str z=V.str "")=decide (cs z=[]):=by
 by_cases h:z = ""
 .subst h;simp[JI]
 .rw[decide_eq_false (λe=>h (V.str.inj e)),decide_eq_false];intro e;exact h (yQ (e.trans JI.symm))
theorem rY(z g:Str):mJ z g=(!decide (cs z=[])&&(cs z).all λc=>decide (c∈cs g)):=by unfold mJ;rw[JJ]
theorem JK:("_" : Str)=⟨#[95]⟩:=by decide +kernel
theorem JL:cs "_" = [95]:=by decide +kernel
theorem JM(h:95∉cs z):Cp z "_" = (z,Str.empty,Str.empty):=by
 rw[JK];rcases partition_whole z ⟨#[95]⟩ with⟨e,_⟩|⟨i,_,hi,_⟩
 .exact e
 .exact absurd ((mem_iff_at z 95).mpr ⟨i,hi⟩) h
theorem JN(z:Str)(i j:Nat):cs (Builtin.Str.strSub z i j)=((cs z).drop i).take (j-i):=by
 show(z.cps.extract i j).toList=_;rw[Array.toList_extract];rfl
theorem JO(e:cs z=cs a++95::cs b)(h:95∉cs a):Cp z "_" = (a,("_" : Str),b):=by
 have hz:z.length=(cs a).length+1+(cs b).length:=by
  rw[<-lC,e,Ak,Br];lia
 rw[JK];rcases partition_whole z ⟨#[95]⟩ with⟨_,f⟩|⟨i,l,hi,f⟩
 .have m:95∈cs z:=by rw[e];simp
  obtain⟨j,s⟩:=(mem_iff_at z 95).mp m;exact absurd s (f j)
 .have g:(cs z)[i]? = some 95:=(StrLaws.subAt_one z 95 i).mp hi;have o:∀k,k<i->(cs z)[k]?≠some 95:=λk hk q=>f k hk ((StrLaws.subAt_one z 95 k).mpr q);have c:i=(cs a).length:=by
   rcases Nat.lt_trichotomy i (cs a).length with q|q|q
   .rw[e,Kx q]at g;exact absurd (Au g) h
   .exact q
   .refine absurd ?_ (o (cs a).length q);rw[e,Ht (Ag _)];simp
  rw[l];have n:Builtin.Str.strSub z 0 i=a:=by
   apply yQ;rw[JN,List.drop_zero,e,c,Nat.sub_zero,List.take_left'];rfl
  have p:Builtin.Str.strSub z (i+(⟨#[95]⟩:Str).length) z.length=b:=by
   apply yQ;have r:(⟨#[95]⟩:Str).length=1:=rfl;rw[JN,r,e,c,hz];have d:(cs a++95::cs b).drop ((cs a).length+1)=cs b:=by
    rw[List.drop_append];simp
   rw[d];have:(cs a).length+1+(cs b).length-((cs a).length+1)=(cs b).length:=by lia
   rw[this,Cd]
  rw[n,p]
theorem X6(b:cs z≠[])(h:∀c∈cs z,c∈cs h8):i5 z=true:=by
 have a:95∉cs z:=λm=>absurd (h _ m) (by decide +kernel);unfold i5;rw[JM a];dsimp only;rw[JJ];have e:cs Str.empty=[]:=by decide +kernel
 simp only[e,decide_true,Bool.true_or,Bool.true_and];rw[rY,decide_eq_false b,Gd.mpr λc hc=>decide_eq_true (h c hc)];rfl
theorem X7(e:cs z=cs a++95::cs b)(i:cs a≠[])(h:∀c∈cs a,c∈cs h8)(f:cs b≠[])(g:∀c∈cs b,c∈cs mI):i5 z=true:=by
 have d:95∉cs a:=λm=>absurd (h _ m) (by decide +kernel);unfold i5;rw[JO e d,rY,rY];rw[decide_eq_false i,Gd.mpr λc hc=>decide_eq_true (h c hc),decide_eq_false f,Gd.mpr λc hc=>decide_eq_true (g c hc)];simp
theorem X8(d:cs z≠[])(h:∀c∈cs z,c∈cs j8):i5 z=false:=by
 have a:95∉cs z:=λm=>absurd (h _ m) (by decide +kernel);unfold i5;rw[JM a,rY,rY];have hh:((cs z).all λc=>decide (c∈cs h8))=false:=by
  cases hz:cs z with
  | nil=>exact absurd hz d
  | cons c r=>
   have hc:c∈cs j8:=h c (by rw[hz];simp);have b:c∉cs h8:=by
    have key:∀c∈cs j8,c∉cs h8:=by decide +kernel
    exact key c hc
   rw[Iq,decide_eq_false b,Ms]
 rw[hh];simp
theorem rZ{m:Nat}:(∀c∈cs (Bx (toString ((m:Nat):Int))),c∈cs mI)/\cs (Bx (toString ((m:Nat):Int)))≠[]:=by
 have e:=PySem.W.KIN.signs_num m;have e:cs (Bx (toString ((m:Nat):Int)))=(Ha 10 m).map Char.toNat:=e;constructor
 .intro c hc;rw[e]at hc;obtain⟨ch,hch,rfl⟩:=Am.mp hc;have hd:ch.isDigit=true:=Nat.isDigit_of_mem_toDigits (by decide) (by decide) hch;have:48<=ch.toNat/\ch.toNat<=57:=by
   unfold Char.isDigit at hd;simp only[Cq,decide_eq_true_eq]at hd;exact⟨hd.1,hd.2⟩
  have key:∀k,48<=k->k<=57->k∈cs mI:=by
   intro k h1 h2;have:k=48\/k=49\/k=50\/k=51\/k=52\/k=53\/k=54\/k=55\/k=56\/k=57:=by lia
   rcases this with h|h|h|h|h|h|h|h|h|h<;>subst h<;>decide +kernel
  exact key _ this.1 this.2
 .rw[e];intro z;have:Ha 10 m=[]:=Ij.mp z;have hl:0<(Ha 10 m).length:=by
   by_cases h:m<10
   .rw[Lp h];simp
   .have hm:m % 10<10:=Nat.mod_lt m (by decide);have t:Ha 10 (m/10)++Ha 10 (m % 10)=Ha 10 (10*(m/10)+m % 10):=Nat.toDigits_append_toDigits (by decide) (by lia) hm;rw[Nat.div_add_mod]at t;rw[<-t,Lp hm];simp
  rw[this]at hl;exact absurd hl (by simp)
def Below(d s:Int):Prop:=0<=d/\d<s
abbrev Drawn:List Int->List Int->Prop:=Es Below
theorem X9{a k:Int}(j:0<=a)(c:a<10 ^ 40)(i:0<=k)(h:k<=1000):(a*48271+3 ^ 60*(k+1)*(k+1)+k).natAbs<2 ^ 200:=by
 have d:(3:Int) ^ 60=42391158275216203514294433201:=by decide
 have f:(10:Int) ^ 40=10000000000000000000000000000000000000000:=by decide
 have b:(2:Nat) ^ 200=1606938044258990275541962092341162602522202993782792835301376:=by decide
 rw[d,b];rw[f]at c;have g:(k+1)*(k+1)<=1001*1001:=Int.mul_le_mul (by lia) (by lia) (by lia) (by lia);have e:0<=(k+1)*(k+1):=Int.mul_nonneg (by lia) (by lia);rw[Int.mul_assoc];generalize (k+1)*(k+1)=q at g e;lia
theorem JP{i j:Int}{m n:Nat}(hi:i.natAbs<2 ^ m)(a:j.natAbs<2 ^ n):(i*j).natAbs<2 ^ (m+n):=by
 rw[Int.natAbs_mul,Nat.pow_add];exact Nat.mul_lt_mul'' hi a
theorem YA{i j:Int}{m:Nat}(hi:i.natAbs<2 ^ m)(a:j.natAbs<2 ^ m):(i+j).natAbs<2 ^ (m+1):=by
 rw[Nat.pow_succ,Nat.mul_two];exact Gj (Int.natAbs_add_le i j) (Nat.add_lt_add hi a)
theorem yR{i:Nat}{m n:Nat}(h:i<2 ^ m)(a:m<=n):i<2 ^ n:=Cf h (Nat.pow_le_pow_right (by decide) a)
end Rg
namespace L2
open PySem PySem.Spec PyProof.Rows
section
variable {X:Cx}
def JQ(d:Li):Prop:=d.canLay0=true/\d.depth<=60
theorem uN:∀{xs:List V} {us:List Ae},xs.length=us.length->(∀(j:Nat) (u:Ae),us[j]? = some u->∃x,xs[j]? = some x/\RelV x u)->a7 xs us
 | [],[],_,_=>.nil
 | [],_::_,h,_=>by simp at h
 | _::_,[],h,_=>by simp at h
 | x::xs,u::us,h,k=>by
  obtain⟨y,e,r⟩:=k 0 u rfl;simp at e;subst e;exact .cons r (uN (by simpa using h) λj v a=>by
   obtain⟨y,e,r⟩:=k (j+1) v (by simpa using a);exact⟨y,by simpa using e,r⟩)
theorem yS:∀{kvs:List (aF×V)} {vs:List (aF×Ae)} {j:Nat} {k:aF} {x:Ae},KV kvs vs->vs[j]? = some (k,x)->∃v,kvs[j]? = some (k,v)
 | _,_,_,_,_,.nil,e=>by simp at e
 | _,_,0,_,_,.cons (a:=p) r _,e=>by
  simp at e;subst e;exact⟨p.2,by obtain⟨a,b⟩:=p;cases r.1;rfl⟩
 | _,_,j+1,k,x,.cons _ t,e=>by
  obtain⟨v,q⟩:=yS (j:=j) (k:=k) (x:=x) t (by simpa using e);exact⟨v,by simpa using q⟩
theorem yT(h:n6 k v=true):RelV (kV k) v:=by
 rcases kU h with⟨i,t,rfl,rfl⟩|⟨x,t,rfl,rfl⟩
 .exact⟨t,rfl⟩
 .exact⟨t,rfl⟩
theorem YB(hc:X.calm=true):c0 X (.type "list") (λxs H Q=>∃d kvs,xs=[.ref d]/\H d=some (.dK kvs)/\∀l,H l=none->Q (.ref l) (aT H l (.lst (kvs.map λc=>kV c.1)))):=by
 intro m s C H xs us Q I r h;obtain⟨d,kvs,rfl,hd,q⟩:=h;obtain⟨u,rfl,ru⟩:=vals1 r;cases ru;obtain⟨hz,g,vs,e,p⟩:=(show cC X.prog X.w H s.heap d (.dK kvs) from I.hok d _ hd);obtain⟨ep,f⟩:=p.dictAt;have hl:=e.length;refine PySem.W.kdl_call (PySem.W.kdl_dict (knd:=b7 X.prog X.w) (kvs:=vs) (ep:=ep) g) (I.ok.hd hc) f (by rw[<-hl];exact hz) λh' tk a t hk z b=>?_;refine⟨.ref s.heap.objs.size,_,I.laid (o:=.lst (kvs.map λc=>kV c.1)) (t':=tk) hk (Ag _) ⟨by rw[Ab];exact hz,a.toList,t,?_,by rw[Kb];exact z⟩,rfl,q _ (I.hok.fresh (Ag _))⟩;refine uN (by have F:=b.1;have E:a.toList.length=a.size:=Fw;have D:(kvs.map λc=>kV c.1).length=kvs.length:=Ab ..;lia) λj v n=>?_;obtain⟨k,x,A,i⟩:=b.2 j v (by rw[<-Gi];exact n);obtain⟨y,B⟩:=yS e A;exact⟨kV k,by rw[Av,B];rfl,yT i⟩
theorem JR{n:Nat}(i:Nat)(h:i≠0):n+i≠n:=by lia
theorem JS{n:Nat}(i:Nat):n<=n+i:=by lia
end
section
variable {X:Cx}
def yU(K:Ac)(a:Addr)(xs:List V):It:=
 ⟨λi H=>bO K H a xs/\i<xs.length,
   λi H x b=>∃p u,xs[i]? = some u/\H p=none/\x=.ref p/\b=aT H p (.tup [.int (i:Nat),u]),
   λi H=>bO K H a xs/\xs.length<=i⟩
theorem Inv.laidT{c:List (Addr×Obj)}{l:St}{H:Hp}{s:Ah}{fp:List Addr}{h:Heap}{tk:Nat}{xs:List V}{its:List Ae}(I:Inv X c l H s)(hf:∀b∈fp,hZ X c H b)(a:∀q o,q∉fp->s.heap.get? q=some o->h.get? q=some o)(hz:xs.length<=An)(u:a7 xs its)(j:h.get? s.heap.objs.size=some {cls:=.type "tuple",data:=.seq its.toArray}):
  Inv X c l (aT H s.heap.objs.size (.tup xs)) {s with heap:=h,toks:=tk}:=by
 have d:H s.heap.objs.size=none:=I.hok.fresh (Ag _);have i:∀q∈fp,H q=none:=λq f=>(hf q f).1;refine I.step (g':=s.gens) (d':=s.drawn) (t':=tk) (ch:=fp) (λq f=>⟨(hf q f).2.2.2.1,(hf q f).2.1,(hf q f).2.2.2.2.1,(hf q f).2.2.2.2.2⟩)
  (λq o _ _ hc e _=>a q o hc e) (λq o _ _ hc e _=>⟨o.slots,a q o hc e⟩) (λq o _ e n=>by rw[bD (Bn (Be e))];exact n)
  (λq o hc e=>⟨o,a q o hc e⟩) (λq p e=>by rw[bD (fP e d)];exact e) (λq o p e=>by rw[bD (fP e d)];exact e) (λq ps e=>⟨#[],by rw[bD (fP e d),e];simp⟩) (λm w=>?_) ?_ I.bare
 .obtain⟨o,es,ep,x,r⟩:=w;exact⟨o,es,ep,a _ o (λz=>absurd rfl (hf _ z).2.1) x,r⟩
 .intro q o e
  by_cases f:q=s.heap.objs.size
  .subst f;rw[cU]at e;cases e;exact⟨hz,its,u,⟨_,j,rfl,_,rfl⟩⟩
  .rw[bD f]at e;refine(I.hok q o e).stay (λt v ht g=>a t v (λz=>?_) g) (λt g=>by rw[bD (fP g d)];exact g) λt p g=>by rw[bD (fP g d)];exact g
   have k:=i t z;rcases ht with rfl|ht
   .rw[k]at e;cases e
   .rw[k]at ht;cases ht
theorem Inv.turnedT{c:List (Addr×Obj)}{j:St}{H:Hp}{s:Ah}{fp:List Addr}{g:Heap}{tk:Nat}(I:Inv X c j H s)(hf:∀b∈fp,hZ X c H b)(a:∀q o,q∉fp->s.heap.get? q=some o->g.get? q=some o):Inv X c j H {s with heap:=g,toks:=tk}:=by
 have h:∀q∈fp,H q=none:=λq d=>(hf q d).1;refine I.step (g':=s.gens) (d':=s.drawn) (t':=tk) (ch:=fp) (λq d=>⟨(hf q d).2.2.2.1,(hf q d).2.1,(hf q d).2.2.2.2.1,(hf q d).2.2.2.2.2⟩)
   (λq o _ _ hc e _=>a q o hc e) (λq o _ _ hc e _=>⟨o.slots,a q o hc e⟩) (λq o _ e n=>n)
   (λq o hc e=>⟨o,a q o hc e⟩) (λq k e=>e) (λq o k e=>e) (λq ps e=>⟨#[],by rw[e];simp⟩) (λm p=>?_) ?_ I.bare
 .obtain⟨o,es,ep,u,r⟩:=p;exact⟨o,es,ep,a _ o (λz=>absurd rfl (hf _ z).2.1) u,r⟩
 .intro q o e;refine(I.hok q o e).stay (λt l ht f=>a t l (λz=>?_) f) (λt f=>f) λt k f=>f;have i:=h t z;rcases ht with rfl|ht
  .rw[i]at e;cases e
  .rw[i]at ht;cases ht
theorem YC{P:Ax}{w:Bl}{K:Ac}{es:List Expr}{N:Nat}{O:Pos}(a e l:Addr)(xs:List V)(r:e≠l):
  kW P w K (.Tuple es N O) (yU K a xs) [e,l] e (λi h=>(∃old,IsEnum h e l (i:Nat) old)/\h.IsListIter l a i) where
 mem:=by simp
 obj:=λi h st c hc=>by
  obtain⟨⟨old,d⟩,⟨L,g,_,G⟩⟩:=st;simp only[Ba,Gb,or_false]at hc;rcases hc with rfl|rfl
  .exact⟨_,d,λv q=>by cases q⟩
  .exact⟨_,g,λv q=>by rw[G]at q;cases q⟩
 keep:=λi h h' st k=>by
  obtain⟨⟨old,d⟩,⟨L,g,Y⟩⟩:=st;exact⟨⟨old,k e (by simp) _ d⟩,⟨L,k l (by simp) _ g,Y⟩⟩
 item:=by
  intro X t hw B hc i f s J H E I hf st F;subst t hw B;obtain⟨⟨old,d⟩,g⟩:=st;obtain⟨j,hi⟩:=F;obtain⟨its,y,pl,hz⟩:=I.list j;obtain⟨u,R,ru⟩:=y.get (Bj hi);refine wpAny_pyNext_enum_item d g pl.isList (x:=u) (by simpa using R) r λh' W U M a4 hk=>?_;refine⟨_,rfl,wpAny_letOwnedTupleGo_enum W λn T sb=>?_⟩;have C:H s.heap.objs.size=none:=I.hok.fresh (Ag _);have p:e<s.heap.objs.size:=Be d;have D:l<s.heap.objs.size:=by obtain⟨_,q,_⟩:=g;exact Be q
  have m:∀q o,q∉[e,l]->s.heap.get? q=some o->n.get? q=some o:=λq o b eq=>by
   simp only[Ba,Gb,or_false,not_or]at b;exact(sb.2 q b.1).trans (hk q o b.1 b.2 eq)
  have A:n.get? s.heap.objs.size=some {cls:=.type "tuple",data:=.seq [.int (i:Nat) s.toks,u].toArray}:=(sb.2 _ (Ga p)).trans M;have S:Inv X f J (aT H s.heap.objs.size (.tup [.int (i:Nat),xs[i]])) {s with heap:=n,toks:=s.toks+1}:=I.laidT (its:=[.int (i:Nat) s.toks,u]) hf m (by show 2<=An;decide) (.cons ⟨_,rfl⟩ (.cons ru .nil)) A;refine⟨.ref s.heap.objs.size,_,S,rfl,⟨s.heap.objs.size,xs[i],Bj hi,C,rfl,rfl⟩,⟨⟨u,by rw[Int.natCast_add];exact T⟩,U.extBut sb.extBut r.symm⟩,λq b=>?_⟩;rw[bD]
  .exact(hf q b).1
  .intro eq;subst eq;simp only[Ba,Gb,or_false]at b;rcases b with q|q
   .exact Ga p q
   .exact Ga D q
 done:=by
  intro X t hw B hc i f s J H E I hf st F;subst t hw B;obtain⟨⟨old,d⟩,g⟩:=st;obtain⟨j,Q⟩:=F;obtain⟨its,y,pl,hz⟩:=I.list j;have Z:=y.length;refine wpAny_pyNext_enum_end (I.ok.hd hc) d g pl.isList (by simp;lia) λh' hk=>⟨rfl,?_⟩
  exact I.turnedT (tk:=s.toks) hf λq o b eq=>hk q o (λz=>b (by simp[z])) eq
 self:=λ_ _ _ _ _ st h=>by
  obtain⟨⟨old,d⟩,_⟩:=st;exact Lu d h
def YD(K:Ac)(c:TA):TI:=λb H R=>c b H λvs H1=>∃a xs,vs=[.ref a]/\bO K H1 a xs/\R (yU K a xs) H1
theorem YE{a:Expr}{l:TA}{p pos:Pos}{es:List Expr}{o:Nat}{r:Pos}(z:Gl X "enumerate")(w:X.mg "enumerate" = none)(m:PA X [a] l)(t:Bk [a] X.env=[(false,eval a X.env)]:=by rfl):
  PI X (.Tuple es o r) (.Call (.Name "enumerate" p) [a] [] pos) (YD X.K l):=by
 intro b s n H R I h;refine Call_ (nE I z w boot_enumerate (El (a8 (m pos b s n H _ I h) λus c ⟨vs,H1,f,A,x⟩=>?_) t rfl));obtain⟨a,xs,rfl,g,q⟩:=x;obtain⟨u,rfl,ru⟩:=vals1 A;cases ru;obtain⟨its,y,pl,hz⟩:=f.list g;refine call_enumerate_list pl.isList λh' i v B k=>?_;refine Lu i ?_;refine⟨c.heap.objs.size+1,[c.heap.objs.size+1,c.heap.objs.size],_,_,H1,rfl,f.kept (t':=c.toks) k,YC a _ _ xs (JR 1 (by decide)),⟨⟨_,i⟩,v⟩,λq j=>?_,q⟩;have d:c.heap.objs.size<=q:=by
  simp only[Ba,Gb,or_false]at j;rcases j with e|e
  .rw[e];exact JS 1
  .rw[e];exact Ag _
 exact f.fpOk d (f.hok.fresh d)
end
section
variable {prog:Ax}{w:Bl}{A:Cs}{E:Ae->Ah->Prop}{s:Ah}
inductive oF(prog:Ax)(w:Bl)(hh:Heap)(A0:Cs):List Ae->List Int->Nat->Prop
 | nil:oF prog w hh A0 [] [] 0
 | cons {v:Ae} {vs:List Ae} {i:Int} {is:List Int} {d n:Nat} (h:∀(E:Ae->Ah->Prop) (s:Ah) (Q:Int->Ah->Prop),s.heap=hh->Q i {s with toks:=s.toks+d}->Bh (Bu prog w) A0 (pyHash v) Q E s) (t:oF prog w hh A0 vs is n):oF prog w hh A0 (v::vs) (i::is) (d+n)
theorem YF{n m:Nat}{Q:Int->Ah->Prop}(u:A.units<Eu)(t:s.heap.get? a=some o)(p:o.cls=.type "tuple")(hd:o.data=.seq items n)(hi:oF prog w s.heap A.in1 items.toList is m)(h:Q (reduceHash (Ds is)) {s with toks:=s.toks+(m+1)}):Bh (Bu prog w) A (pyHash (.ref a)) Q E s:=by
 have j:s.TypeIs (.ref a) "tuple":=⟨o,t,p⟩;unfold pyHash
 first|unfold pyHashByItsType|skip
 first|refine Aa (wpAny_cRoomFor_or (.inr u) ?_)|skip
 refine Aa (Kr j Im.lookup ?_);rw[if_neg (by rw[beq_builtin_none];exact Ao)];refine Aa (Kr j Im.lookup ?_);refine Aa (wpAny_callSpecialIfBoundUnlessNone?_slot j Im (Dl Im j PySem.F.entry_tuple_hash ?_ (PySem.F.args_tuple_hash_1 _)));refine Aa (Af ?_);refine Aa (Gr t hd ?_);refine Aa ?_;rw[<-Array.forIn_toList];refine Ir _
  (λrest (b:Array Int) q=>∃done left k g,is=done++left/\oF prog w s.heap A.in1 rest left g/\b.toList=done/\q = {s with toks:=s.toks+k}/\k+g=m)
  _ ?_ ?_ _ _ ⟨[],is,0,m,rfl,hi,rfl,rfl,by lia⟩
 .rintro x rest b q ⟨done,left,k,g,rfl,hl,f,rfl,hk⟩;cases hl with
  | @cons _ _ i c d r v e=>
   refine Aa (v _ _ _ rfl ?_)
   first
    | exact Af ⟨done++[i],c,k+d,r,by simp,e,by simp[f],by simp[Ni],by lia⟩
    | exact Aa (Af (Af ⟨done++[i],c,k+d,r,by simp,e,by simp[f],by simp[Ni],by lia⟩))
 .rintro b q ⟨done,left,k,g,rfl,hl,f,rfl,hk⟩;cases hl;rw[Gv]at h;dsimp only;rw[f];have y:k=m:=by lia
  subst y;refine wpAny_ret_mkInt ?_;unfold reduceHash at h
  by_cases l:(decide (-(2:Int) ^ 63<=Ds done)&&decide (Ds done<2 ^ 63))=true
  .rw[if_pos l]at h;show Bh _ _ (if (decide (-(2:Int) ^ 63<=Ds done)&&decide (Ds done<2 ^ 63))=true then _ else _) Q E _;rw[if_pos l];exact Af (by simpa [Ni] using h)
  .rw[if_neg l]at h;show Bh _ _ (if (decide (-(2:Int) ^ 63<=Ds done)&&decide (Ds done<2 ^ 63))=true then _ else _) Q E _;rw[if_neg l];exact Aa (Hm (Af (by simpa [Ni] using h)))
inductive mK(prog:Ax)(w:Bl)(hh:Heap)(A0:Cs):List Ae->List Ae->Bool->Prop
 | nil:mK prog w hh A0 [] [] true
 | cons {u v:Ae} {us vs:List Ae} {b c:Bool} (h:∀(E:Ae->Ah->Prop) (s:Ah) (Q:Bool->Ah->Prop),s.heap=hh->Q b s->Bh (Bu prog w) A0 (eqBool u v) Q E s) (t:mK prog w hh A0 us vs c):mK prog w hh A0 (u::us) (v::vs) (b&&c)
theorem mK.len{b:Bool}(h:mK prog w hh A0 us vs b):us.length=vs.length:=by
 induction h with
 | nil=>rfl
 | cons _ _ a=>simp[a]
theorem YG{C nb:Nat}{r:Bool}{Q:Bool->Ah->Prop}(D:A.units<Eu)(f:s.heap.get? a=some k)(l:k.cls=.type "tuple")(p:k.data=.seq xs C)(i:s.heap.get? b=some ob)(z:ob.cls=.type "tuple")(n:ob.data=.seq ys nb)(hi:mK prog w s.heap A.in1 xs.toList ys.toList r)(same:a=b->r=true)(h:Q r s):Bh (Bu prog w) A (eqBool (.ref a) (.ref b)) Q E s:=by
 have g:s.TypeIs (.ref a) "tuple":=⟨k,f,l⟩;have j:s.TypeIs (.ref b) "tuple":=⟨ob,i,z⟩;unfold eqBool
 try with_reducible refine Dd ?_
 show Bh _ _ (if (Value.ref a==Value.ref b)=true then _ else _) Q E s
 by_cases d:(Value.ref a==Value.ref b)=true
 .rw[if_pos d];have e:a=b:=by have:=eq_of_beq d;injection this
  rw[same e]at h;exact Aa (Hm (Af h))
 .rw[if_neg d];refine Aa (Ky (op:=.Eq) g j Jj (Dl Jj g PySem.F.entry_tuple_eq ?_ (PySem.F.args_tuple_eq_2 _ _)) D);show Bh _ _ (isInstance (.ref b) (.type "tuple")>>=_) _ _ s;refine Aa (Hf j Hv ?_);simp only[Hi,Dq,if_false];refine Aa (Gr f p ?_);refine Aa (Gr i n ?_);refine Aa ?_;refine Ir _
   (λrest q t=>q.1=none/\t=s/\∃us vs c,rest=List.zip us vs/\mK prog w s.heap A.in1 us vs c/\c=r)
   _ ?_ ?_ _ _ ⟨rfl,rfl,xs.toList,ys.toList,r,rfl,hi,rfl⟩
  .rintro⟨u,v⟩ rest q t ⟨o,rfl,us,vs,c,hz,m,rfl⟩;cases m with
   | nil=>simp at hz
   | @cons K M y B H G I x=>
    simp only[List.zip_cons_cons,Ct,Dg]at hz;obtain⟨⟨rfl,rfl⟩,rfl⟩:=hz;refine Aa (I _ _ _ rfl ?_);cases H with
    | true=>
     simp only[Hi,Dq,if_false];exact Af ⟨rfl,rfl,y,B,G,rfl,x,by rw[Bool.true_and]⟩
    | false=>
     simp only[Kq,if_true];rw[Ms]at h;exact Aa (Af (Af (Af ⟨_,rfl,(λe=>nomatch e),Fx h⟩)))
  .rintro⟨L,J⟩ t ⟨o,rfl,us,vs,c,hz,m,rfl⟩;simp only at o;subst o;refine Af ?_;have hsz:(xs.size==ys.size)=true:=by
    have:=hi.len;simp at this;simpa using this
   have hc:c=true:=by
    cases m with
    | nil=>rfl
    | cons _ _=>simp at hz
   subst hc;refine⟨_,rfl,(λe=>nomatch e),?_⟩;show Bh _ _ (truthOfDropped (.bool (xs.size==ys.size))) Q E _;rw[hsz];exact Fx h
theorem YH{K:Type}[DecidableEq K]{knd:KeyKind prog w K}{m:Nat}{ks:List K}{a:Addr}{Q:Bool->Ah->Prop}(hk:IsTupleKey knd s.heap ks a)(h:Q true s):Bh (Bu prog w) A (eqIsQuiet (m+1) (.ref a)) Q E s:=by
 have f:=hk.typeIs;obtain⟨o,items,n,i,g,hd,hi⟩:=hk;unfold eqIsQuiet;refine Aa (Kr f Jj.lookup ?_)
 try dsimp only
 refine Aa (Hf f Hv ?_);rw[if_neg (by decide)]
 try dsimp only
 refine Aa (Jw i hd (Aa ?_));show Bh _ _ (forIn items _ _) _ _ _;rw[<-Array.forIn_toList];refine Ir _ (λrest q d=>q.1=none/\d=s/\∀v∈rest,carriedByValue v=true) _ ?_ ?_ _ _ ⟨rfl,rfl,hi.byValue⟩
 .rintro v rest q d ⟨e,rfl,b⟩;rw[eqIsQuiet_byValue _ (b v Az)];refine Aa (Af ?_);rw[if_neg (by decide)];exact Af ⟨rfl,rfl,λu c=>b u (Ar _ c)⟩
 .rintro⟨j,k⟩ d ⟨e,rfl,_⟩;simp only at e;subst e;exact Af h
end
abbrev bS:=aF×List aF
section
variable {prog:Ax}{w:Bl}
def uO(prog:Ax)(w:Bl)(tl:List Int)(h:Heap)(x:bS)(a:Addr):Prop:=
 ∃o items n v b ts,h.get? a=some o/\o.cls=.type "tuple"/\o.data=.seq items n/\items.toList=v::.ref b::ts/\(b7 prog w).is x.1 v=true/\IsTupleKey (b7 prog w) h x.2 b/\ItemsAre (b7 prog w) (tl.map Sum.inl) ts
def YI(prog:Ax)(w:Bl)(tl:List Int)(x:bS):Int:=reduceHash (Ds ((b7 prog w).hash x.1::tupleKeyHash (b7 prog w) x.2::tl.map λi=>(b7 prog w).hash (Sum.inl i)))
theorem JT:∀{tl:List Int} {ts:List Ae},ItemsAre (b7 prog w) (tl.map Sum.inl) ts->oF prog w hh A ts (tl.map λi=>(b7 prog w).hash (Sum.inl i)) tl.length
 | [],_,h=>by cases h;exact .nil
 | i::tl,_,h=>by
  cases h with
  | @cons _ v _ vs a t=>
   have:=oF.cons (A0:=A) (hh:=hh) (d:=1) (λE s Q _ q=>(b7 prog w).pyHash a q) (JT t);rw[Br,Nat.add_comm];exact this
theorem JU:∀{tl:List Int} {ts us:List Ae},ItemsAre (b7 prog w) (tl.map Sum.inl) ts->ItemsAre (b7 prog w) (tl.map Sum.inl) us->mK prog w hh A ts us true
 | [],_,_,h,h'=>by cases h;cases h';exact .nil
 | i::tl,_,_,h,h'=>by
  cases h with
  | @cons _ v _ vs d t=>
   cases h' with
   | @cons _ e _ c a t'=>exact mK.cons (b:=true) (λE s Q _ q=>(b7 prog w).eqBool d a (by rw[decide_eq_true rfl];exact q)) (JU t t')
theorem uO.inj(p:uO prog w tl h x a)(r:uO prog w tl h y a):x=y:=by
 obtain⟨o,items,n,v,z,ts,s,_,i,k,m,f,_⟩:=p;obtain⟨e,b,A,u,l,g,t,_,d,c,q,j,_⟩:=r;obtain rfl:o=e:=Ci (s.symm.trans t);rw[i]at d;injection d with g1 _;subst g1;rw[k]at c;simp only[Ct,Value.ref.injEq]at c;obtain⟨rfl,rfl,rfl⟩:=c;exact Lj ((b7 prog w).inj _ _ _ m q) (f.inj j)
def jT(prog:Ax)(w:Bl)(tl:List Int):HeapKind prog w bS where
 is:=uO prog w tl
 hash:=YI prog w tl
 draws:=λx=>(1+((x.2.length+1)+tl.length))+1
 room:=λA=>A.units+1<Eu
 inj:=λG J=>G.inj J
 keeps:=λ{h h' k a d o es ep} x P hd T=>by
  obtain⟨L,items,n,v,F,ts,g,D,f,p,z,l,C⟩:=x;have N:a≠d:=by
   rintro rfl;obtain rfl:L=o:=Ci (g.symm.trans P);rw[hd]at f;exact nomatch f
  exact⟨L,items,n,v,F,ts,(T.2 a N).trans g,D,f,p,z,l.keeps P hd T,C⟩
 pyHash:=λ{A E s k a Q} c hk h=>by
  obtain⟨o,items,n,v,F,ts,g,D,f,p,z,l,C⟩:=hk;have B:A.in1.units<Eu:=c;refine YF (Jn c) g D f (m:=1+((k.2.length+1)+tl.length)) (is:=(b7 prog w).hash k.1::tupleKeyHash (b7 prog w) k.2::tl.map λi=>(b7 prog w).hash (Sum.inl i)) ?_ h;rw[p];refine .cons (d:=1) (λE t O _ q=>(b7 prog w).pyHash z q) (.cons (d:=k.2.length+1) (λE t O es q=>?_) (JT C));exact wpAny_pyHash_tuple B (by rw[es];exact l) q
 eqBool:=λ{A E s x y a b Q} c G J h=>by
  have same:a=b->x=y:=λe=>by subst e;exact G.inj J
  obtain⟨o,items,n,v,F,ts,g,D,f,p,z,l,C⟩:=G;obtain⟨L,I,n',v',W,U,f1,Y,Z,f4,X,V,f7⟩:=J;have B:A.in1.units<Eu:=c;have R:(decide (x.1=y.1)&&(decide (x.2=y.2)&&true))=decide (x=y):=by
   rw[Bool.and_true,Dv,Cq,decide_eq_true_eq,decide_eq_true_eq,decide_eq_true_eq,Prod.ext_iff]
  refine YG (Jn c) g D f f1 Y Z (r:=decide (x.1=y.1)&&(decide (x.2=y.2)&&true)) ?_ (λe=>by rw[R,same e];simp) (by rw[R];exact h);rw[p,f4];refine .cons (λE t O _ q=>(b7 prog w).eqBool z X q) (.cons (λE t O es q=>?_) (JU C f7));exact wpAny_eqBool_tuple B (by rw[es];exact l) (by rw[es];exact V) q
 quiet:=λ{A E s k a Q} hk h=>by
  obtain⟨o,items,n,v,F,ts,g,D,f,p,z,l,C⟩:=hk;have S:s.TypeIs (.ref a) "tuple":=⟨o,g,D⟩;unfold eqIsQuiet;refine Aa (Kr S Jj.lookup ?_)
  try dsimp only
  refine Aa (Hf S Hv ?_);rw[if_neg (by decide)]
  try dsimp only
  refine Aa (Jw g f (Aa ?_));show Bh _ _ (forIn items _ _) _ _ _;rw[<-Array.forIn_toList];refine Ir _ (λrest q t=>q.1=none/\t=s/\∀u∈rest,carriedByValue u=true\/u=.ref F) _ ?_ ?_ _ _ ⟨rfl,rfl,λu c=>?_⟩
  .rintro u rest q t ⟨M,rfl,j⟩;have next:∀H∈rest,carriedByValue H=true\/H=.ref F:=λH K=>j H (Ar _ K);rcases j u Az with hv|rfl
   .rw[eqIsQuiet_byValue _ hv];refine Aa (Af ?_);rw[if_neg (by decide)];exact Af ⟨rfl,rfl,next⟩
   .refine Aa (YH l ?_);rw[if_neg (by decide)];exact Af ⟨rfl,rfl,next⟩
  .rintro⟨q1,q2⟩ t ⟨M,rfl,_⟩;simp only at M;subst M;exact Af h
  .rw[p]at c;rcases Ba.mp c with rfl|c
   .exact .inl ((b7 prog w).byValue _ _ z)
   .rcases Ba.mp c with rfl|c
    .exact .inr rfl
    .exact .inl (C.byValue u c)
end
end L2
namespace L2
open PySem PySem.Spec PySem.W PyProof.Rows
section
variable {prog:Ax}{w:Bl}{A:Cs}{E:Ae->Ah->Prop}{s:Ah}
theorem yV{i ep:Nat}{Q:Option Ae->Ah->Prop}(hit:s.heap.IsKeyIter a d i es.size ep)(c:s.heap.get? d=some g)(e:g.data=.dict es ep)(hi:i<es.size)(j:∀h',h'.IsKeyIter a d (i+1) es.size ep->Ex a s.heap h'->Q (some es[i].key) {s with heap:=h'}):Bh (Bu prog w) A (Iy (.ref a)) Q E s:=by
 have b:=hit.typeIs;obtain⟨o,f,hc,hd⟩:=id hit;have own:Fg "dict_keyiterator" = false:=by decide
 have h:¬((Value.ref d==Value.none)=true):=Ao;have up:(s.heap.update a (Nh (·.setIfInBounds 1 (Jm ((i:Int)+1))))).IsKeyIter a d (i+1) es.size ep:=
  ⟨_,Gk _ f (Ml (Hg hd _)),(Obj.cls_mapFields ..).trans hc,by rw[Hg hd];simp[Jm]⟩
 have k:=up.typeIs (s:={s with heap:=s.heap.update a (Nh (·.setIfInBounds 1 (Jm ((i:Int)+1))))});unfold Iy;refine Aa (Nq (Fe (name:=Bx "__next__") b Er (Dl Er b PySem.F.entry_dict_keyiterator_next ?_ (PySem.F.args_dict_keyiterator_next_1 _))));refine Aa (Af (Aa (Aa ?_)))
 first|refine Aa (Hk b (Af ?_))|refine Aa (Jf b (Af ?_))
 refine Aa (Nk f hd ?_);rw[own,if_neg Ao];show Bh _ _ (if (Value.ref d==Value.none)=true then _ else _) _ _ _;rw[if_neg h];refine Aa (Af (Aa (Fh c e ?_)));rw[if_neg (by simp)];refine Aa (Af (Aa (Ji c e ?_)));rw[if_neg (by simp)];refine Af ?_;simp only[show ¬((i:Int)<0) by lia,if_false,Dc,Kv hi];refine Aa ?_
 first|refine Aa (Hk b (Af ?_))|refine Aa (Jf b (Af ?_))
 refine Aa (wpAny_isOneOf_keyiter b ?_);show Bh _ _ (setField (.ref a) 1 (Jm ((i:Int)+1))>>=_) _ _ _;refine Aa (Jv f hd (by simp) (Aa (Dd (Aa (wpAny_isOneOf_keyiter k ?_)))));show Bh _ _ (pure es[i].key) _ _ _;exact Af (Af ⟨_,rfl,Af (j _ up (Dy ..))⟩)
theorem yW{i ep:Nat}{Q:Option Ae->Ah->Prop}(hh:A.handled=none)(hit:s.heap.IsKeyIter g d i es.size ep)(e:s.heap.get? d=some h)(f:h.data=.dict es ep)(hi:es.size<=i)(l:∀h',Mq g s.heap h'->Q none {s with heap:=h'}):Bh (Bu prog w) A (Iy (.ref g)) Q E s:=by
 have c:=hit.typeIs;obtain⟨o,j,hc,hd⟩:=id hit;have own:Fg "dict_keyiterator" = false:=by decide
 have k:¬((Value.ref d==Value.none)=true):=Ao;unfold Iy;refine Aa (Nq (Fe (name:=Bx "__next__") c Er (Dl Er c PySem.F.entry_dict_keyiterator_next ?_ (PySem.F.args_dict_keyiterator_next_1 _))));refine Aa (Af (Aa (Aa ?_)))
 first|refine Aa (Hk c (Af ?_))|refine Aa (Jf c (Af ?_))
 refine Aa (Nk j hd ?_);rw[own,if_neg Ao];show Bh _ _ (if (Value.ref d==Value.none)=true then _ else _) _ _ _;rw[if_neg k];refine Aa (Af (Aa (Fh e f ?_)));rw[if_neg (by simp)];refine Aa (Af (Aa (Ji e f ?_)));rw[if_neg (by simp)];refine Af ?_;simp only[show ¬((i:Int)<0) by lia,if_false,Dc,Ls hi];refine Aa ?_
 first|refine Aa (Hk c (Af ?_))|refine Aa (Jf c (Af ?_))
 show Bh _ _ (setField (.ref g) 0 .none>>=_) _ _ _;refine Aa (Jv j hd (by simp) ?_);show Bh _ _ (newExc (.type "StopIteration") []>>=_) _ _ _;refine Aa ?_;simp only[newExc,newTuple];refine Aa (De (Aa (m:=Jx _ _) (wpAny_of_eq (a:=Value.none) (by first|rfl|(simp only[Jx];rfl)) (De ?_ (by size_fits)))) (by size_fits));simp only[raiseNew];refine Aa (wpAny_handled ?_);rw[show A.in1.handled=none from hh];refine Aa (Af (wpAny_throw ?_));refine Aa (Hf (T:="StopIteration") (b:=true) ⟨_,Bc _ rfl,rfl⟩ isSubtype_stop ?_);exact Af (l _ (((Dy ..).extBut.push _).push _))
theorem YJ(hh:A.handled=none)(I d:Addr)(m:d≠I)(es:Array Dn)(ep:Nat):
  Walks prog w A I [I,d] [I] es.size (λi v=>∃e,es[i]? = some e/\v=e.key) (λi h=>h.IsKeyIter I d i es.size ep/\∃a,h.get? d=some a/\a.data=.dict es ep) where
 sub:=λb c=>by simp at c;simp[c]
 frame:=λ_ _ _ st hk=>⟨st.1.at λo e=>hk I (by simp) o e,let ⟨a,g,f⟩:=st.2;⟨a,hk d (by simp) a g,f⟩⟩
 item:=λi s Q E hi st k=>by
  obtain⟨a,g,f⟩:=st.2;refine yV st.1 g f hi λh' l j=>?_;exact k _ h' s.toks ⟨es[i],by simp[hi],rfl⟩ ⟨l,a,j.extBut d a m g,f⟩ λb o c e=>j.extBut b o (λh=>c (by simp[h])) e
 done:=λs Q E st k=>by
  obtain⟨a,g,f⟩:=st.2;exact yW hh st.1 g f (Ag _) λh' n=>k h' s.toks λb o c e=>n b o (λh=>c (by simp[h])) e
 self:=λ_ _ _ _ st k=>Nj st.1 k
theorem YK{i ep:Nat}{Q:Option Ae->Ah->Prop}(hit:s.heap.IsValIter a d i es.size ep)(c:s.heap.get? d=some g)(e:g.data=.dict es ep)(hi:i<es.size)(k:∀h',h'.IsValIter a d (i+1) es.size ep->Ex a s.heap h'->Q (some es[i].val) {s with heap:=h'}):Bh (Bu prog w) A (Iy (.ref a)) Q E s:=by
 have b:=hit.typeIs;obtain⟨o,f,hc,hd⟩:=id hit;have own:Fg "dict_valueiterator" = false:=by decide
 have j:¬((Value.ref d==Value.none)=true):=Ao;have up:(s.heap.update a (Nh (·.setIfInBounds 1 (Jm ((i:Int)+1))))).IsValIter a d (i+1) es.size ep:=
  ⟨_,Gk _ f (Ml (Hg hd _)),(Obj.cls_mapFields ..).trans hc,by rw[Hg hd];simp[Jm]⟩
 have h:=up.typeIs (s:={s with heap:=s.heap.update a (Nh (·.setIfInBounds 1 (Jm ((i:Int)+1))))});unfold Iy;refine Aa (Nq (Fe (name:=Bx "__next__") b Eg (Dl Eg b PySem.F.entry_dict_valueiterator_next ?_ (PySem.F.args_dict_valueiterator_next_1 _))));refine Aa (Af (Aa (Aa ?_)))
 first|refine Aa (Hj b (Af ?_))|refine Aa (Je b (Af ?_))
 refine Aa (Nk f hd ?_);rw[own,if_neg Ao];show Bh _ _ (if (Value.ref d==Value.none)=true then _ else _) _ _ _;rw[if_neg j];refine Aa (Af (Aa (Fh c e ?_)));rw[if_neg (by simp)];refine Aa (Af (Aa (Ji c e ?_)));rw[if_neg (by simp)];refine Af ?_;simp only[show ¬((i:Int)<0) by lia,if_false,Dc,Kv hi];refine Aa ?_
 first|refine Aa (Hj b (Af ?_))|refine Aa (Je b (Af ?_))
 refine Aa (Nd b ?_);show Bh _ _ (setField (.ref a) 1 (Jm ((i:Int)+1))>>=_) _ _ _;refine Aa (Jv f hd (by simp) (Aa (Dd (Aa (Nd h (Aa (Nd h ?_)))))));show Bh _ _ (pure es[i].val) _ _ _;exact Af (Af ⟨_,rfl,Af (k _ up (Dy ..))⟩)
theorem YL{i ep:Nat}{Q:Option Ae->Ah->Prop}(hh:A.handled=none)(hit:s.heap.IsValIter g d i es.size ep)(e:s.heap.get? d=some h)(f:h.data=.dict es ep)(hi:es.size<=i)(l:∀h',Mq g s.heap h'->Q none {s with heap:=h'}):Bh (Bu prog w) A (Iy (.ref g)) Q E s:=by
 have c:=hit.typeIs;obtain⟨o,j,hc,hd⟩:=id hit;have own:Fg "dict_valueiterator" = false:=by decide
 have k:¬((Value.ref d==Value.none)=true):=Ao;unfold Iy;refine Aa (Nq (Fe (name:=Bx "__next__") c Eg (Dl Eg c PySem.F.entry_dict_valueiterator_next ?_ (PySem.F.args_dict_valueiterator_next_1 _))));refine Aa (Af (Aa (Aa ?_)))
 first|refine Aa (Hj c (Af ?_))|refine Aa (Je c (Af ?_))
 refine Aa (Nk j hd ?_);rw[own,if_neg Ao];show Bh _ _ (if (Value.ref d==Value.none)=true then _ else _) _ _ _;rw[if_neg k];refine Aa (Af (Aa (Fh e f ?_)));rw[if_neg (by simp)];refine Aa (Af (Aa (Ji e f ?_)));rw[if_neg (by simp)];refine Af ?_;simp only[show ¬((i:Int)<0) by lia,if_false,Dc,Ls hi];refine Aa ?_
 first|refine Aa (Hj c (Af ?_))|refine Aa (Je c (Af ?_))
 show Bh _ _ (setField (.ref g) 0 .none>>=_) _ _ _;refine Aa (Jv j hd (by simp) ?_);show Bh _ _ (newExc (.type "StopIteration") []>>=_) _ _ _;refine Aa ?_;simp only[newExc,newTuple];refine Aa (De (Aa (m:=Jx _ _) (wpAny_of_eq (a:=Value.none) (by first|rfl|(simp only[Jx];rfl)) (De ?_ (by size_fits)))) (by size_fits));simp only[raiseNew];refine Aa (wpAny_handled ?_);rw[show A.in1.handled=none from hh];refine Aa (Af (wpAny_throw ?_));refine Aa (Hf (T:="StopIteration") (b:=true) ⟨_,Bc _ rfl,rfl⟩ isSubtype_stop ?_);exact Af (l _ (((Dy ..).extBut.push _).push _))
theorem YM(hh:A.handled=none)(I d:Addr)(m:d≠I)(es:Array Dn)(ep:Nat):
  Walks prog w A I [I,d] [I] es.size (λi v=>∃e,es[i]? = some e/\v=e.val) (λi h=>h.IsValIter I d i es.size ep/\∃a,h.get? d=some a/\a.data=.dict es ep) where
 sub:=λb c=>by simp at c;simp[c]
 frame:=λ_ _ _ st hk=>⟨st.1.at λo e=>hk I (by simp) o e,let ⟨a,g,f⟩:=st.2;⟨a,hk d (by simp) a g,f⟩⟩
 item:=λi s Q E hi st k=>by
  obtain⟨a,g,f⟩:=st.2;refine YK st.1 g f hi λh' l j=>?_;exact k _ h' s.toks ⟨es[i],by simp[hi],rfl⟩ ⟨l,a,j.extBut d a m g,f⟩ λb o c e=>j.extBut b o (λh=>c (by simp[h])) e
 done:=λs Q E st k=>by
  obtain⟨a,g,f⟩:=st.2;exact YL hh st.1 g f (Ag _) λh' n=>k h' s.toks λb o c e=>n b o (λh=>c (by simp[h])) e
 self:=λ_ _ _ _ st k=>wpAny_pyIter_valiter st.1 k
def gR(h:Heap)(a:Addr)(es:Array Dn)(ep:Nat):Prop:=∃o,h.get? a=some o/\o.ExactDict/\o.data=.dict es ep
theorem gR.typeIs{ep:Nat}(h:gR s.heap d es ep):s.TypeIs (.ref d) "dict":=let ⟨o,ho,hc,_⟩:=h;⟨o,ho,hc.1⟩
theorem gR.at{ep:Nat}(x:gR h d es ep)(e:∀o,h.get? d=some o->h'.get? d=some o):gR h' d es ep:=let ⟨o,ho,r⟩:=x;⟨o,e o ho,r⟩
theorem gR.lt{ep:Nat}(x:gR h d es ep):d<h.objs.size:=let ⟨_,ho,_⟩:=x;Be ho
theorem uP{ep:Nat}{Q:Ae->Ah->Prop}(hd:(d==Ep)=false)(e:gR s.heap d es ep)(f:Q (.ref s.heap.objs.size) {s with heap:=s.heap.push {cls:=.type "dict_keyiterator",data:=.fields #[.ref d,.int 0 0,.int es.size 0,.int ep 0]}}):Bh (Bu prog w) A (pyIter (.ref d)) Q E s:=by
 have b:=e.typeIs;obtain⟨o,c,hc,a⟩:=e;refine wpAny_pyIter_slot b PySem.F.slot_dict_iter (Dl PySem.F.slot_dict_iter b PySem.F.entry_dict_iter ?_ (PySem.F.args_dict_iter_1 _));unfold Ly.«dict.__iter__»;refine Aa ?_;unfold Builtin.Dict.dictSlotNone;refine Aa (Fo b (Af ?_));show Bh _ _ (Iv d>>=_) _ _ _;unfold Iv;rw[if_neg (by rw[hd];exact Ao)];refine Aa (Af (Aa (Fh c a (Aa (Ji c a ?_)))));refine Aa (De (Af ⟨_,rfl,"dict_keyiterator",_,⟨_,Bc _ rfl,rfl⟩,Er.lookup,?_⟩));simpa [Jm] using f
theorem YN{ep:Nat}{Q:Ae->Ah->Prop}(f:s.heap.IsValuesView v d)(i:gR s.heap d es ep)(h:Q (.ref s.heap.objs.size) {s with heap:=s.heap.push {cls:=.type "dict_valueiterator",data:=.fields #[.ref d,.int 0 0,.int es.size 0,.int ep 0]}}):Bh (Bu prog w) A (pyIter (.ref v)) Q E s:=by
 have g:=f.typeIs;obtain⟨k,b,j,c⟩:=id f;obtain⟨o,e,hc,a⟩:=i;refine wpAny_pyIter_slot g PySem.F.slot_dict_values_iter (Dl PySem.F.slot_dict_values_iter g PySem.F.entry_dict_values_iter ?_ (PySem.F.args_dict_values_iter_1 _));unfold Ly.«dict_values.__iter__»;refine Aa (Af (Aa ?_));unfold Builtin.Dict_items.dictOf;refine Aa (Jq b c (x:=.ref d) rfl (Af (Aa ?_)));unfold Builtin.Dict_items.newIterator;refine Aa (Fh e a (Aa (Ji e a ?_)));simp only[show Fg "dict_valueiterator" = false by decide,Dq,if_false];refine De (Af ⟨_,rfl,"dict_valueiterator",_,⟨_,Bc _ rfl,rfl⟩,Eg.lookup,?_⟩);simpa [Jm] using h
theorem YO{ep:Nat}(lo:(d==Ep)=false):KdlSrc prog w "dict" d d es.size (λi v=>∃e,es[i]? = some e/\v=e.key) (λh=>gR h d es ep) where
 type:=λ_ a=>a.typeIs
 there:=λ_ a=>⟨a.lt,a.lt⟩
 keep:=λ_ _ a hk=>a.at λo e=>hk d (.inl rfl) o e
 notList:=by decide
 notTuple:=by decide
 hint:=λ_ _ _ _ a b=>kdl_hint_dict a.typeIs b
 iter:=λ_ _ hh a=>⟨_,_,(λ_ _ b=>uP lo a b),YJ hh _ d (Bn a.lt) es ep,⟨⟨_,Bc _ rfl,rfl,rfl⟩,let ⟨o,ho,_,hd⟩:=a;⟨o,Ai _ ho,hd⟩⟩⟩
theorem YQ{ep:Nat}:KdlSrc prog w "dict_values" r d es.size (λi v=>∃e,es[i]? = some e/\v=e.val) (λh=>h.IsValuesView r d/\gR h d es ep) where
 type:=λ_ a=>a.1.typeIs
 there:=λ_ a=>⟨let ⟨_,ho,_⟩:=a.1;Be ho,a.2.lt⟩
 keep:=λ_ _ a hk=>⟨let ⟨o,ho,x⟩:=a.1;⟨o,hk r (.inl rfl) o ho,x⟩,a.2.at λo e=>hk d (.inr rfl) o e⟩
 notList:=by decide
 notTuple:=by decide
 hint:=λ_ _ _ _ a b=>kdl_hint_values a.1.typeIs b
 iter:=λ_ _ hh a=>⟨_,_,(λ_ _ b=>YN a.1 a.2 b),YM hh _ d (Bn a.2.lt) es ep,⟨⟨_,Bc _ rfl,rfl,rfl⟩,let ⟨o,ho,_,hd⟩:=a.2;⟨o,Ai _ ho,hd⟩⟩⟩
end
end L2
namespace PySem
namespace Zt
open PyProof.Rows L2 PySem.Spec
section
variable {prog:Ax}{w:Bl}{A:Cs}{E:Ae->Ah->Prop}{s:Ah}
theorem YR{α:Type}{Q:α->Ah->Prop}(hh:A.handled=none)(hE:∀h' e,(∀c o,s.heap.get? c=some o->h'.get? c=some o)->(∃o,h'.get? e=some o/\o.cls=.type "StopIteration")->E (.ref e) {s with heap:=h'}):
  Bh (Bu prog w) A (Builtin.SmallTypes.stopIteration:Sem α) Q E s:=by
 unfold Builtin.SmallTypes.stopIteration;refine Aa (m:=newExc (.type "StopIteration") []) ?_;simp only[newExc,newTuple];refine Aa (De (Aa (m:=Jx _ _) (wpAny_of_eq (a:=Value.none) (by first|rfl|(simp only[Jx];rfl)) (De ?_ (by size_fits)))) (by size_fits));simp only[raiseNew];refine Aa (wpAny_handled ?_);rw[hh];refine Aa (Af (wpAny_throw (hE _ _ (λc o e=>Ai _ (Ai _ e)) ⟨_,Bc _ rfl,rfl⟩)))
structure YS(prog:Ax)(w:Bl)(i l:Addr)(xs:Array Ae)(St:Nat->Heap->Prop):Prop where
 keep:∀k h h',St k h->(∀c,c=i\/c=l->∀o,h.get? c=some o->h'.get? c=some o)->St k h'
 there:∀k h,St k h->i<h.objs.size
 item:∀(A:Cs) (E:Ae->Ah->Prop) (s:Ah) (k:Nat) (x:Ae) (Q:Ae->Ah->Prop),St k s.heap->xs[k]? = some x->(∀h',St (k+1) h'->Ex i s.heap h'->Q x {s with heap:=h'})->
  Bh (Bu prog w) A (He (.ref i)) Q E s
 stop:∀(A:Cs) (E:Ae->Ah->Prop) (s:Ah) (k:Nat) (Q:Ae->Ah->Prop),A.handled=none->St k s.heap->xs[k]? = none->
  (∀h' e,Mq i s.heap h'->(∃o,h'.get? e=some o/\o.cls=.type "StopIteration")->E (.ref e) {s with heap:=h'})->Bh (Bu prog w) A (He (.ref i)) Q E s
theorem side_tuple(i l:Addr)(hne:l≠i)(xs:Array Ae):YS prog w i l xs (λk h=>h.IsTupleIter i l k/\h.IsTuple l xs) where
 keep:=λk h h' x hk=>by
  obtain⟨⟨o,e,r⟩,⟨u,g,q⟩⟩:=x;exact⟨⟨o,hk i (.inl rfl) o e,r⟩,⟨u,hk l (.inr rfl) u g,q⟩⟩
 there:=λk h x=>by obtain⟨_,e,_⟩:=x.1;exact Be e
 item:=λA E s k x Q st hx hQ=>by
  obtain⟨⟨o,ho,hc,hd⟩,⟨u,hu,hcu,n,hdu⟩⟩:=st;have ty:s.TypeIs (.ref i) "tuple_iterator":=⟨o,ho,hc⟩;unfold He;refine Aa (Fe (name:=Bx "__next__") ty Ii (Dl Ii ty F.entry_tuple_iterator_next ?_ (F.args_tuple_iterator_next_1 _)));show Bh _ _ (field (.ref i) 0>>=λq=>_) _ _ _;refine Aa (Jq ho hd (x:=.ref l) rfl ?_);show Bh _ _ (if (Value.ref l==Value.none)=true then _ else _) _ _ s;rw[if_neg (show ¬(Value.ref l==Value.none)=true from λz=>nomatch z)];show Bh _ _ (field (.ref i) 1>>=λq=>_) _ _ _;refine Aa (Jq ho hd (x:=.int k 0) rfl ?_);show Bh _ _ (seqItems? (.ref l)>>=λq=>_) _ _ _;refine Aa (Jw hu hdu ?_);simp only[Dc,hx];refine Aa (Jv ho hd (by simp) (Af ⟨x,rfl,Af (hQ _ ⟨⟨_,Gk _ ho (Ml (Hg hd _)),(Obj.cls_mapFields ..).trans hc,?_⟩,⟨u,?_,hcu,n,hdu⟩⟩ (Dy ..))⟩))
  .rw[Hg hd];simp[Jm]
  .exact(Jl _ _ (Bz hne)).trans hu
 stop:=λA E s k Q hh st hx hE=>by
  obtain⟨⟨o,ho,hc,hd⟩,⟨u,hu,hcu,n,hdu⟩⟩:=st;have ty:s.TypeIs (.ref i) "tuple_iterator":=⟨o,ho,hc⟩;unfold He;refine Aa (Fe (name:=Bx "__next__") ty Ii (Dl Ii ty F.entry_tuple_iterator_next ?_ (F.args_tuple_iterator_next_1 _)));show Bh _ _ (field (.ref i) 0>>=λq=>_) _ _ _;refine Aa (Jq ho hd (x:=.ref l) rfl ?_);show Bh _ _ (if (Value.ref l==Value.none)=true then _ else _) _ _ s;rw[if_neg (show ¬(Value.ref l==Value.none)=true from λz=>nomatch z)];show Bh _ _ (field (.ref i) 1>>=λq=>_) _ _ _;refine Aa (Jq ho hd (x:=.int k 0) rfl ?_);show Bh _ _ (seqItems? (.ref l)>>=λq=>_) _ _ _;refine Aa (Jw hu hdu ?_);simp only[Dc,hx];refine Aa (Hm (Aa (Jv ho hd (by simp) (YR hh λh' e hk he=>hE h' e (λc q hc' g=>hk c q ((Jl _ _ (Bz hc')).trans g)) he))))
variable {z TI TO i1 i2 l1 l2:Addr}{xs ys:Array Ae}{S1 S2:Nat->Heap->Prop}
end
end Zt
end PySem
namespace L2
open PySem PySem.Spec PyProof.Rows
section
variable {X:Cx}
theorem JV:∀{vs:List Ae} {ks:List Str},vs.length=ks.length->(∀(j:Nat) v,vs[j]? = some v->∃x t,ks[j]? = some x/\v=.str x t)->StrsAre vs ks
 | [],[],_,_=>.nil
 | [],_::_,e,_=>by simp at e
 | _::_,[],e,_=>by simp at e
 | v::vs,k::ks,e,h=>by
  obtain⟨x,t,a,rfl⟩:=h 0 v rfl;cases (show k=x by simpa using a);exact .cons k t (JV (by simpa using e) λj v b=>by simpa using h (j+1) v (by simpa using b))
theorem JW:∀{vs:List Ae} {a:List Str},StrsAre vs a->a7 (a.map V.str) vs
 | _,_,.nil=>.nil
 | _,_,.cons y t r=>.cons ⟨t,rfl⟩ (JW r)
theorem YT(hc:X.calm=true):c0 X (.builtin "sorted") (λxs H Q=>∃(d:Addr) (kvs:List (aF×V)) (ks:List Str),xs=[.ref d]/\H d=some (.dK kvs)/\kvs.map Ck=ks.map Sum.inr/\ks.length<64/\
  ∀c:List Str,c.Perm ks->∀p,H p=none->Q (.ref p) (aT H p (.lst (c.map V.str)))):=by
 intro i s σ H xs us Q I r h;obtain⟨d,kvs,ks,rfl,hd,f,D,q⟩:=h;obtain⟨u,rfl,ru⟩:=vals1 r;cases ru;obtain⟨hz,n,vs,l,S⟩:=(show cC X.prog X.w H s.heap d (.dK kvs) from I.hok d _ hd);obtain⟨ep,B⟩:=S.dictAt;have hl:=l.length;have Z:kvs.length=ks.length:=by have:=congrArg Ec f;simpa using this
 refine Calls.call_function_entry kind_sorted plain_sorted entry_sorted (args_sorted1 _) ?_;unfold Ly.«sorted»;refine Aa (m:=checkCount "sorted" 1 1 _) (Af (Aa (PySem.W.kdu_collect (A:=X.A.in1) (PySem.W.kdl_dict (knd:=b7 X.prog X.w) (kvs:=vs) (ep:=ep) n) (I.ok.hd hc) B (by rw[<-hl];exact hz) λh' tk acc hk a=>?_)));have hsz:acc.toList.length=ks.length:=by have M:=a.1;have J:acc.toList.length=acc.size:=Fw;lia
 have F:StrsAre acc.toList ks:=JV hsz λj v hv=>by
  obtain⟨k,x,T,C⟩:=a.2 j v (by rw[<-Gi];exact hv);obtain⟨y,hy⟩:=yS l T;have N:(kvs.map Ck)[j]? = some k:=by rw[Av,hy];rfl
  rw[f,Av]at N;obtain⟨z,G,rfl⟩:=Bd.mp N;obtain⟨t,e⟩:=(show RelV (kV (Sum.inr z)) v from yT C);exact⟨z,t,G,e⟩
 have P:Inv X i σ H {s with heap:=h',toks:=tk}:=I.kept (t':=tk) hk;refine Aa (wpAny_newList ?_ (by rw[hsz];lia));have E:(h'.push (seqObj "list" acc.toList.toArray 0)).get? h'.objs.size=some (seqObj "list" acc.toList.toArray 0):=Bc _ rfl;refine Aa (Dd (Dl slot_list_sort ⟨_,E,rfl⟩ entry_list_sort (list_sort_treeK strKind_oneLt E F.keysOf (λK O rest e=>keyKind_strs (by rw[<-e];exact F)) (by rw[hsz];exact D) λst' Y U=>⟨_,rfl,?_⟩) (args_list_sort _)));obtain⟨c,M,J,h3⟩:=sorted_out_str F Y U;obtain⟨e,he⟩:=sortedHeap_at (out:=(arrOf st').map (·.2)) E;have L:c.length=ks.length:=J.length_eq;refine Af ⟨_,rfl,.ref h'.objs.size,_,P.laid (o:=.lst (c.map V.str)) (t':=tk) (λb o R=>?_) (Ag _) ⟨by rw[Ab];exact Ay (Jo (by lia:c.length<64)) (by decide),((arrOf st').map (·.2)).toList,e,JW M,by rw[Kb];exact he⟩,rfl,q c J _ P.fresh⟩;have g:b<h'.objs.size:=Be R;exact(sortedHeap_old (Bn g) (by rw[Fq];exact Nat.lt_succ_of_lt g)).trans (Ai _ R)
end
abbrev NX(es:List (bS×Addr×V))(xs:List (bS×Addr×Ae)):Prop:=Es (λp q=>p.1=q.1/\p.2.1=q.2.1/\RelV p.2.2 q.2.2) es xs
def dU(P:Ax)(w:Bl)(tl:List Int)(a:Addr)(es:List (bS×Addr×V))(h:Heap):Prop:=
 ∃o b ep xs,h.get? a=some o/\o.ExactDict/\o.data=.dict b ep/\b.toList=xs.map (entryOfKey (jT P w tl))/\NX es xs/\(xs.map (·.1)).Nodup/\xs.length<=An/\(a==Ep)=false
theorem dU.stay(x:dU P w tl a es c)(k:∀o,c.get? a=some o->d.get? a=some o):dU P w tl a es d:=by
 obtain⟨o,b,ep,xs,e,r⟩:=x;exact⟨o,b,ep,xs,k o e,r⟩
theorem dU.ok(x:dU P w tl a es h):cC P w H h a (.ext (dU P w tl a es)):=
 ⟨x,let ⟨o,_,_,_,e,_⟩:=x;⟨o,e⟩,λb c y k=>y.stay k⟩
def iP(P:Ax)(w:Bl)(tl:List Int)(a:Addr)(es:List (bS×Addr×V))(o:Obj)(h:Heap):Prop:=h.get? a=some o/\dU P w tl a es h
theorem iP.ok(x:iP P w tl a es o h):cC P w H h a (.ext (iP P w tl a es o)):=
 ⟨x,⟨o,x.1⟩,λb c y k=>⟨k _ y.1,y.2.stay k⟩⟩
def YU(o:Obj)(es:List (bS×Addr×V)):Prop:=∃a ep,o.data=.dict a ep/\a.size=es.length/\∀(j:Nat) (e:Dn),a[j]? = some e->∃z:bS×Addr×V,es[j]? = some z/\e.key=.ref z.2.1
def iQ(H:Hp)(tl:List Int)(x:bS)(b:Addr):Prop:=∃a,H b=some (.tup (kV x.1::.ref a::tl.map V.int))/\H a=some (.tup (x.2.map kV))
theorem JX:∀{tl:List Int} {us:List Ae},a7 (tl.map V.int) us->ItemsAre (b7 P w) (tl.map Sum.inl) us
 | [],_,h=>by cases h;exact .nil
 | i::tl,_,h=>by
  cases h with
  | cons r t=>
   obtain⟨tk,rfl⟩:=r;exact .cons (k9 (k:=Sum.inl i) ⟨tk,rfl⟩) (JX t)
theorem iQ.is(hok:c9 P w H h)(n:iQ H tl x b):(jT P w tl).is h x b:=by
 obtain⟨c,q,f⟩:=n;obtain⟨_,its,r,o,d,j,m,e⟩:=(show cC P w H h b (.tup (kV x.1::.ref c::tl.map V.int)) from hok b _ q);cases r with
 | @cons _ v _ vs i k=>
  cases k with
  | @cons _ p _ a l g=>
   cases (show p=Value.ref c from l);exact⟨o,_,m,v,c,a,d,j,e,by simp,k9 i,jS hok f,JX g⟩
end L2
namespace L3
open PySem PySem.Spec PyProof.Rows L2
abbrev SV:=L2.St
inductive W where
 | non|bl (b:Bool)|int (i:Int)|str (x:Str)|ty (n:String)|tup (ws:List W)|rl (ws:List W)|sc (ws:List W)|ref (a:Addr)
 | dk (kvs:List (aF×W))|dt (kvs:List (List aF×W))|fk (kvs:List (aF×W))|ft (kvs:List (List aF×W))
inductive MO where
 | lst (ws:List W)|dK (kvs:List (aF×W))|dT (kvs:List (List aF×W))|fix (vs:List V)|ins (C dx:Addr) (fs:List (Str×W))|dn (P:Ax) (w:Bl) (tl:List Int) (kvs:List (bS×W))|vw (d:Addr)|dh (P:Ax) (w:Bl) (tl:List Int) (kvs:List (bS×W)) (o:Obj)
abbrev Mm:=Addr->Option MO
def put(M:Mm)(a:Addr)(o:MO):Mm:=λb=>if b=a then some o else M b
def del(M:Mm)(a:Addr):Mm:=λb=>if b=a then none else M b
theorem aR:put M a o a=some o:=by unfold put;rw[if_pos rfl]
theorem aQ(h:b≠a):put M a o b=M b:=by unfold put;rw[if_neg h]
theorem eW:put (put M a o) a u=put M a u:=by
 funext b;unfold put;split<;>rfl
theorem j9(h:M a=none):del (put M a o) a=M:=by
 funext b;unfold del put;split
 .rename_i e;rw[e,h]
 .rfl
theorem pX:del M a a=none:=by unfold del;rw[if_pos rfl]
theorem yX(h:b≠a):del M a b=M b:=by unfold del;rw[if_neg h]
theorem uQ(h:a≠b):put (put M a o) b u=put (put M b u) a o:=by
 funext c;unfold put
 by_cases e:c=b
 .by_cases d:c=a
  .exact absurd (d.symm.trans e) h
  .rw[if_pos e,if_neg d,if_pos e]
 .by_cases d:c=a
  .rw[if_neg e,if_pos d,if_pos d]
  .rw[if_neg e,if_neg d,if_neg d,if_neg e]
theorem yY(h:M a=some o):put M a o=M:=by
 funext b;unfold put;split
 .rename_i e;rw[e,h]
 .rfl
def Sub(M M':Mm):Prop:=∀a o,M a=some o->M' a=some o
theorem Sub.refl(M:Mm):Sub M M:=λ_ _ h=>h
theorem Sub.trans(a:Sub M M1)(b:Sub M1 M2):Sub M M2:=λc o h=>b c o (a c o h)
theorem Sub.new(h:M a=none):Sub M (put M a o):=λb u e=>by
 rw[aQ (λz=>by rw[z,h]at e;cases e)];exact e
theorem Sub.put(h:Sub M M'):Sub (put M a o) (put M' a o):=λb u e=>by
 unfold L3.put at e⊢;split at e
 .rename_i z;rw[if_pos z];exact e
 .rename_i z;rw[if_neg z];exact h b u e
theorem Sub.del:Sub (del M a) M:=λb u e=>by
 unfold L3.del at e;split at e
 .cases e
 .exact e
theorem Sub.non(h:Sub M M')(e:M' a=none):M a=none:=by
 cases q:M a with
 | none=>rfl
 | some o=>rw[h a o q]at e;cases e
def mL(K:Ac)(H:Hp)(a:Addr)(xs:List V):Prop:=
 (∃o,H a=some (.frz o (.lst xs)))\/
  ∃(o:Obj) (its:Array Ae) (n:Nat),K.lookup a=some o/\o.cls=.type "list"/\o.dict=none/\o.data=.seq its n/\its.size<=An/\a7 xs its.toList
theorem mL.sq{K:Ac}{H:Hp}{a:Addr}{xs:List V}(h:mL K H a xs):bO K H a xs:=by
 rcases h with⟨o,h⟩|h
 .exact .inl (.inr ⟨o,h⟩)
 .exact .inr h
mutual
inductive AV(K:Ac)(H:Hp)(M:Mm):V->W->Prop
 | non:AV K H M .non .non
 | bl (b:Bool):AV K H M (.bl b) (.bl b)
 | int (i:Int):AV K H M (.int i) (.int i)
 | str (x:Str):AV K H M (.str x) (.str x)
 | ty (n:String):AV K H M (.ty n) (.ty n)
 | tup {a:Addr} {xs:List V} {ws:List W}:H a=some (.tup xs)->aN K H M xs ws->AV K H M (.ref a) (.tup ws)
 | sc {a:Addr} {xs:List V} {ws:List W}:mL K H a xs->aN K H M xs ws->AV K H M (.ref a) (.sc ws)
 | rl {a:Addr} {xs:List V} {ws:List W}:H a=some (.lst xs)->M a=none->aN K H M xs ws->AV K H M (.ref a) (.rl ws)
 | ref (a:Addr):AV K H M (.ref a) (.ref a)
 | dk {a:Addr} {ks:List (aF×V)} {kvs:List (aF×W)}:H a=some (.dK ks)->M a=none->ks.map Ck=kvs.map Ck->aN K H M (ks.map Gw) (kvs.map Gw)->AV K H M (.ref a) (.dk kvs)
 | dt {a:Addr} {ks:List (List aF×V)} {kvs:List (List aF×W)}:H a=some (.dT ks)->M a=none->ks.map Ck=kvs.map Ck->aN K H M (ks.map Gw) (kvs.map Gw)->AV K H M (.ref a) (.dt kvs)
 | fk {a:Addr} {o:Obj} {ks:List (aF×V)} {kvs:List (aF×W)}:H a=some (.frz o (.dK ks))->ks.map Ck=kvs.map Ck->aN K H M (ks.map Gw) (kvs.map Gw)->AV K H M (.ref a) (.fk kvs)
 | ft {a:Addr} {o:Obj} {ks:List (List aF×V)} {kvs:List (List aF×W)}:H a=some (.frz o (.dT ks))->ks.map Ck=kvs.map Ck->aN K H M (ks.map Gw) (kvs.map Gw)->AV K H M (.ref a) (.ft kvs)
inductive aN(K:Ac)(H:Hp)(M:Mm):List V->List W->Prop
 | nil:aN K H M [] []
 | cons {v:V} {vs:List V} {w:W} {ws:List W}:AV K H M v w->aN K H M vs ws->aN K H M (v::vs) (w::ws)
end
abbrev bZ(K:Ac)(H:Hp)(M:Mm)(κ:Type):List (κ×V)->List (κ×W)->Prop:=Es λp q=>p.1=q.1/\AV K H M p.2 q.2
theorem pY{K:Ac}{H:Hp}{M:Mm}{κ:Type}:∀{ks:List (κ×V)} {kvs:List (κ×W)},ks.map Ck=kvs.map Ck->aN K H M (ks.map Gw) (kvs.map Gw)->bZ K H M κ ks kvs
 | [],[],_,_=>.nil
 | [],_::_,e,_=>by simp at e
 | _::_,[],e,_=>by simp at e
 | p::ps,q::qs,e,h=>by
  rw[Aw,Aw]at e h;rw[Ct]at e;cases h with
  | cons x r=>exact .cons ⟨e.1,x⟩ (pY e.2 r)
theorem bZ.keys{K:Ac}{H:Hp}{M:Mm}{κ:Type}{ks:List (κ×V)}{kvs:List (κ×W)}(h:bZ K H M κ ks kvs):ks.map Ck=kvs.map Ck:=by
 induction h with
 | nil=>rfl
 | cons r _ a=>rw[Aw,Aw,a,r.1]
theorem bZ.vals{K:Ac}{H:Hp}{M:Mm}{κ:Type}{ks:List (κ×V)}{kvs:List (κ×W)}(h:bZ K H M κ ks kvs):aN K H M (ks.map Gw) (kvs.map Gw):=by
 induction h with
 | nil=>exact .nil
 | cons r _ a=>exact .cons r.2 a
def AO(K:Ac)(H:Hp)(M:Mm)(a:Addr):MO->Prop
 | .lst ws=>∃vs,H a=some (.lst vs)/\aN K H M vs ws
 | .dK kvs=>∃ks,H a=some (.dK ks)/\bZ K H M aF ks kvs
 | .dT kvs=>∃ks,H a=some (.dT ks)/\bZ K H M (List aF) ks kvs
 | .fix vs=>H a=some (.lst vs)
 | .ins C dx fs=>∃b,H a=some (.ins C dx b)/\bZ K H M Str b fs
 | .dn P w tl kvs=>∃es,H a=some (.ext (dU P w tl a es))/\Es (λ(e:bS×Addr×V) (p:bS×W)=>e.1=p.1/\iQ H tl e.1 e.2.1/\AV K H M e.2.2 p.2) es kvs
 | .vw d=>H a=some (.ext λh=>h.IsValuesView a d)
 | .dh P w tl kvs o=>∃es,H a=some (.ext (iP P w tl a es o))/\YU o es/\Es (λ(e:bS×Addr×V) (p:bS×W)=>e.1=p.1/\iQ H tl e.1 e.2.1/\AV K H M e.2.2 p.2) es kvs
def AM(K:Ac)(H:Hp)(M:Mm):Prop:=∀a o,M a=some o->AO K H M a o
structure Kp(H:Hp)(M:Mm)(H':Hp)(M':Mm):Prop where
 fr:∀a o,M a=none->H a=some o->H' a=some o/\M' a=none
 dom:∀a o,M a=some o->∃u,H' a=some u
structure Go(H:Hp)(M:Mm)(H':Hp)(M':Mm):Prop where
 ht:∀b xs,H b=some (.tup xs)->H' b=some (.tup xs)
 hf:∀b o u,H b=some (.frz o u)->H' b=some (.frz o u)
 hl:∀b o,M b=none->H b=some o->H' b=some o/\M' b=none
section
variable {K:Ac}{H H' H1 H2:Hp}{M M' M1 M2:Mm}{a:Addr}
theorem AO.has(h:AO K H M a o):∃u,H a=some u:=by
 cases o with
 | lst ws=>obtain⟨vs,e,_⟩:=h;exact⟨_,e⟩
 | dK kvs=>obtain⟨ks,e,_⟩:=h;exact⟨_,e⟩
 | dT kvs=>obtain⟨ks,e,_⟩:=h;exact⟨_,e⟩
 | fix vs=>exact⟨_,h⟩
 | ins C dx fs=>obtain⟨gs,e,_⟩:=h;exact⟨_,e⟩
 | dn P w tl kvs=>obtain⟨gs,e,_⟩:=h;exact⟨_,e⟩
 | vw d=>exact⟨_,h⟩
 | dh P w tl kvs o=>obtain⟨gs,e,_⟩:=h;exact⟨_,e⟩
theorem AM.nonM(b:AM K H M)(h:H a=none):M a=none:=by
 cases q:M a with
 | none=>rfl
 | some o=>obtain⟨u,e⟩:=(b a o q).has;rw[h]at e;cases e
theorem AM.noTup(am:AM K H M)(h:H a=some (.tup xs)):M a=none:=by
 cases q:M a with
 | none=>rfl
 | some o=>
  have:=am a o q;cases o with
  | lst ws=>obtain⟨vs,e,_⟩:=this;rw[h]at e;cases e
  | dK kvs=>obtain⟨ks,e,_⟩:=this;rw[h]at e;cases e
  | dT kvs=>obtain⟨ks,e,_⟩:=this;rw[h]at e;cases e
  | fix vs=>have e:H a=some (.lst vs):=this;rw[h]at e;cases e
  | ins C dx fs=>obtain⟨gs,e,_⟩:=this;rw[h]at e;cases e
  | dn P w tl kvs=>obtain⟨gs,e,_⟩:=this;rw[h]at e;cases e
  | vw d=>have e:H a=some (.ext λh=>h.IsValuesView a d):=this;rw[h]at e;cases e
  | dh P w tl kvs o=>obtain⟨gs,e,_⟩:=this;rw[h]at e;cases e
theorem AM.noFrz(am:AM K H M)(h:H a=some (.frz ob u)):M a=none:=by
 cases q:M a with
 | none=>rfl
 | some o=>
  have:=am a o q;cases o with
  | lst ws=>obtain⟨vs,e,_⟩:=this;rw[h]at e;cases e
  | dK kvs=>obtain⟨ks,e,_⟩:=this;rw[h]at e;cases e
  | dT kvs=>obtain⟨ks,e,_⟩:=this;rw[h]at e;cases e
  | fix vs=>have e:H a=some (.lst vs):=this;rw[h]at e;cases e
  | ins C dx fs=>obtain⟨gs,e,_⟩:=this;rw[h]at e;cases e
  | dn P w tl kvs=>obtain⟨gs,e,_⟩:=this;rw[h]at e;cases e
  | vw d=>have e:H a=some (.ext λh=>h.IsValuesView a d):=this;rw[h]at e;cases e
  | dh P w tl kvs o=>obtain⟨gs,e,_⟩:=this;rw[h]at e;cases e
theorem Kp.refl(b:AM K H M):Kp H M H M:=⟨λa o h e=>⟨e,h⟩,λa o h=>(b a o h).has⟩
theorem Kp.trans(x:Kp H M H1 M1)(y:Kp H1 M1 H2 M2):Kp H M H2 M2 where
 fr:=λa o h e=>by
  obtain⟨d,c⟩:=x.fr a o h e;exact y.fr a o c d
 dom:=λa o h=>by
  obtain⟨u,e⟩:=x.dom a o h;cases q:M1 a with
  | none=>exact⟨u,(y.fr a u q e).1⟩
  | some b=>exact y.dom a b q
theorem Kp.sub(x:Kp H M H1 M1)(h:Sub M2 M1):Kp H M H1 M2 where
 fr:=λa o n e=>⟨(x.fr a o n e).1,h.non (x.fr a o n e).2⟩
 dom:=x.dom
theorem Kp.go(a:AM K H M)(k:Kp H M H' M'):Go H M H' M':=⟨λb xs e=>(k.fr b _ (a.noTup e) e).1,λb o u e=>(k.fr b _ (a.noFrz e) e).1,k.fr⟩
theorem Go.sub(h:Sub M' M):Go H M H M':=⟨λ_ _ e=>e,λ_ _ _ e=>e,λb o n e=>⟨e,h.non n⟩⟩
theorem AV.go(g:Go H M H' M')(h:AV K H M v w):AV K H' M' v w:=AV.rec (motive_1:=λv w _=>AV K H' M' v w) (motive_2:=λvs ws _=>aN K H' M' vs ws) .non .bl .int .str .ty (λe _ q=>.tup (g.ht _ _ e) q) (λe _ q=>.sc (e.elim (λz=>.inl (z.elim λo q=>⟨o,g.hf _ _ _ q⟩)) .inr) q) (λe n _ q=>.rl (g.hl _ _ n e).1 (g.hl _ _ n e).2 q) .ref
  (λe n a _ q=>.dk (g.hl _ _ n e).1 (g.hl _ _ n e).2 a q) (λe n a _ q=>.dt (g.hl _ _ n e).1 (g.hl _ _ n e).2 a q) (λe a _ q=>.fk (g.hf _ _ _ e) a q) (λe a _ q=>.ft (g.hf _ _ _ e) a q) .nil (λ_ _ x r=>.cons x r) h
theorem aN.go(g:Go H M H' M')(h:aN K H M vs ws):aN K H' M' vs ws:=aN.rec (motive_1:=λv w _=>AV K H' M' v w) (motive_2:=λvs ws _=>aN K H' M' vs ws) .non .bl .int .str .ty (λe _ q=>.tup (g.ht _ _ e) q) (λe _ q=>.sc (e.elim (λz=>.inl (z.elim λo q=>⟨o,g.hf _ _ _ q⟩)) .inr) q) (λe n _ q=>.rl (g.hl _ _ n e).1 (g.hl _ _ n e).2 q) .ref
  (λe n a _ q=>.dk (g.hl _ _ n e).1 (g.hl _ _ n e).2 a q) (λe n a _ q=>.dt (g.hl _ _ n e).1 (g.hl _ _ n e).2 a q) (λe a _ q=>.fk (g.hf _ _ _ e) a q) (λe a _ q=>.ft (g.hf _ _ _ e) a q) .nil (λ_ _ x r=>.cons x r) h
theorem bZ.go{κ:Type}{ks:List (κ×V)}{kvs:List (κ×W)}(g:Go H M H' M')(h:bZ K H M κ ks kvs):bZ K H' M' κ ks kvs:=Paired.mapP h λp q z=>⟨z.1,z.2.go g⟩
theorem AO.go{o:MO}(g:Go H M H' M')(e:H' a=H a)(h:AO K H M a o):AO K H' M' a o:=by
 cases o with
 | lst ws=>obtain⟨vs,e1,r⟩:=h;exact⟨vs,by rw[e];exact e1,r.go g⟩
 | dK kvs=>obtain⟨vs,e1,r⟩:=h;exact⟨vs,by rw[e];exact e1,r.go g⟩
 | dT kvs=>obtain⟨vs,e1,r⟩:=h;exact⟨vs,by rw[e];exact e1,r.go g⟩
 | fix vs=>exact e.trans h
 | ins C dx fs=>obtain⟨gs,e1,r⟩:=h;exact⟨gs,by rw[e];exact e1,r.go g⟩
 | dn P w tl kvs=>obtain⟨gs,e1,r⟩:=h;exact⟨gs,by rw[e];exact e1,Paired.mapP r λp q z=>⟨z.1,let ⟨pa,n1,n2⟩:=z.2.1;⟨pa,g.ht _ _ n1,g.ht _ _ n2⟩,z.2.2.go g⟩⟩
 | vw d=>exact e.trans h
 | dh P w tl kvs o=>obtain⟨gs,e1,z0,r⟩:=h;exact⟨gs,by rw[e];exact e1,z0,Paired.mapP r λp q z=>⟨z.1,let ⟨pa,n1,n2⟩:=z.2.1;⟨pa,g.ht _ _ n1,g.ht _ _ n2⟩,z.2.2.go g⟩⟩
theorem AM.sub(b:AM K H M')(h:Sub M M'):AM K H M:=λa o e=>(b a o (h a o e)).go (Go.sub h) rfl
theorem AV.sub(h:Sub M' M)(x:AV K H M v w):AV K H M' v w:=x.go (Go.sub h)
theorem aN.sub(h:Sub M' M)(x:aN K H M v w):aN K H M' v w:=x.go (Go.sub h)
theorem AV.kp(a:AM K H M)(k:Kp H M H' M')(h:AV K H M v w):AV K H' M' v w:=h.go (k.go a)
theorem aN.kp(a:AM K H M)(k:Kp H M H' M')(h:aN K H M vs ws):aN K H' M' vs ws:=h.go (k.go a)
theorem aN.length:∀{vs:List V} {ws:List W},aN K H M vs ws->vs.length=ws.length
 | _,_,.nil=>rfl
 | _,_,.cons _ r=>by simp[aN.length r]
theorem aN.append:∀{vs us:List V} {ws a:List W},aN K H M vs ws->aN K H M us a->aN K H M (vs++us) (ws++a)
 | _,_,_,_,.nil,s=>s
 | _,_,_,_,.cons x r,s=>.cons x (aN.append r s)
theorem aN.getW:∀{vs:List V} {ws:List W} {i:Nat} {w:W},aN K H M vs ws->ws[i]? = some w->∃v,vs[i]? = some v/\AV K H M v w
 | _,_,_,_,.nil,e=>by simp at e
 | _,_,0,_,.cons x _,e=>by simp at e;subst e;exact⟨_,rfl,x⟩
 | _,_,i+1,w,.cons _ r,e=>by
  obtain⟨v,a,b⟩:=aN.getW (i:=i) (w:=w) r (by simpa using e);exact⟨v,by simpa using a,b⟩
theorem aN.getV:∀{vs:List V} {ws:List W} {i:Nat} {v:V},aN K H M vs ws->vs[i]? = some v->∃w,ws[i]? = some w/\AV K H M v w
 | _,_,_,_,.nil,e=>by simp at e
 | _,_,0,_,.cons x _,e=>by simp at e;subst e;exact⟨_,rfl,x⟩
 | _,_,i+1,v,.cons _ r,e=>by
  obtain⟨w,a,b⟩:=aN.getV (i:=i) (v:=v) r (by simpa using e);exact⟨w,by simpa using a,b⟩
theorem aN.set(x:AV K H M v w):∀{vs:List V} {ws:List W} (i:Nat),aN K H M vs ws->aN K H M (vs.set i v) (ws.set i w)
 | _,_,_,.nil=>.nil
 | _,_,0,.cons _ t=>.cons x t
 | _,_,i+1,.cons q t=>.cons q (aN.set x i t)
theorem aN.take:∀{vs:List V} {ws:List W} (n:Nat),aN K H M vs ws->aN K H M (vs.take n) (ws.take n)
 | _,_,0,_=>by simp;exact .nil
 | _,_,_+1,.nil=>.nil
 | _,_,n+1,.cons x t=>.cons x (aN.take n t)
theorem aN.drop:∀{vs:List V} {ws:List W} (n:Nat),aN K H M vs ws->aN K H M (vs.drop n) (ws.drop n)
 | _,_,0,h=>h
 | _,_,_+1,.nil=>.nil
 | _,_,n+1,.cons _ t=>aN.drop n t
theorem aN.dropLast(h:aN K H M vs ws):aN K H M vs.dropLast ws.dropLast:=by
 rw[List.dropLast_eq_take,List.dropLast_eq_take,h.length];exact h.take _
theorem aN.flatRep(h:aN K H M vs ws):∀n:Nat,aN K H M (Bv n vs).flatten (Bv n ws).flatten
 | 0=>.nil
 | n+1=>by
  rw[Eb,Eb,Gz,Gz];exact h.append (aN.flatRep h n)
theorem aN.int(is:List Int):aN K H M (is.map V.int) (is.map W.int):=by
 induction is with
 | nil=>exact .nil
 | cons i r a=>exact .cons (.int i) a
theorem JY(a:H p=none)(c:∀b,b≠p->M b=none->M' b=none):Go H M (aT H p u) M':=
 ⟨λb xs e=>by rw[bD (fP e a)];exact e,λb o x e=>by rw[bD (fP e a)];exact e,λb o n e=>⟨by rw[bD (fP e a)];exact e,c b (fP e a) n⟩⟩
theorem JZ(a:H p=none):Go H M (aT H p u) (put M p o):=JY a λb ne n=>by rw[aQ ne];exact n
theorem go_same(a:H p=none):Go H M (aT H p u) M:=JY a λb ne n=>n
theorem AM.laid(d:AM K H M)(b:H p=none)(h:AO K (aT H p u) (put M p o) p o):AM K (aT H p u) (put M p o)/\Kp H M (aT H p u) (put M p o):=by
 refine⟨λa x e=>?_,λa x h e=>⟨?_,?_⟩,λa x h=>?_⟩
 .by_cases c:a=p
  .subst c;rw[aR]at e;cases e;exact h
  .rw[aQ c]at e;exact(d a x e).go (JZ b) (bD c)
 .rw[bD (fP e b)];exact e
 .rw[aQ (fP e b)];exact h
 .obtain⟨y,e⟩:=(d a x h).has;exact⟨y,by rw[bD (fP e b)];exact e⟩
theorem J0:Go H (put M p o) H (put M p u):=⟨λ_ _ e=>e,λ_ _ _ e=>e,λb x n e=>⟨e,by
 have ne:b≠p:=λz=>by rw[z,aR]at n;cases n
 rw[aQ ne]at n⊢;exact n⟩⟩
theorem AM.tup{p:Addr}{u:HO}(c:AM K H M)(b:H p=none):AM K (aT H p u) M/\Kp H M (aT H p u) M:=by
 refine⟨λa x e=>?_,λa x h e=>⟨?_,h⟩,λa x h=>?_⟩
 .have ne:a≠p:=λz=>by rw[z,c.nonM b]at e;cases e
  exact(c a x e).go (go_same b) (bD ne)
 .rw[bD (fP e b)];exact e
 .obtain⟨y,e⟩:=(c a x h).has;exact⟨y,by rw[bD (fP e b)];exact e⟩
theorem oG(a:AM K H M)(hl:M l=some c):Go H M (aT H l u) (put M l o):=
 ⟨λb xs e=>by rw[bD (λz=>by rw[<-z,a.noTup e]at hl;cases hl)];exact e,λb ob x e=>by rw[bD (λz=>by rw[<-z,a.noFrz e]at hl;cases hl)];exact e,
   λb x n e=>by
  have ne:b≠l:=λz=>by rw[<-z,n]at hl;cases hl
  rw[bD ne,aQ ne];exact⟨e,n⟩⟩
theorem AM.write(c:AM K H M)(hl:M l=some d)(h:AO K (aT H l u) (put M l o) l o):AM K (aT H l u) (put M l o)/\Kp H M (aT H l u) (put M l o):=by
 refine⟨λa x e=>?_,λa x h e=>?_,λa x h=>?_⟩
 .by_cases b:a=l
  .subst b;rw[aR]at e;cases e;exact h
  .rw[aQ b]at e;exact(c a x e).go (oG c hl) (bD b)
 .have:a≠l:=λz=>by rw[z,hl]at h;cases h
  rw[bD this,aQ this];exact⟨e,h⟩
 .by_cases b:a=l
  .subst b;exact⟨u,cU⟩
  .obtain⟨y,e⟩:=(c a x h).has;exact⟨y,by rw[bD b];exact e⟩
theorem AM.lst(b:AM K H M){ws:List W}(h:M a=some (.lst ws)):∃vs,H a=some (.lst vs)/\aN K H M vs ws:=b a _ h
theorem aN.newT(a:H p=none)(h:aN K H M vs ws):aN K (aT H p u) M vs ws:=h.go (go_same a)
theorem aN.newL(a:H p=none)(h:aN K H M vs ws):aN K (aT H p u) (put M p o) vs ws:=h.go (JZ a)
theorem aN.wr(a:AM K H M)(hl:M l=some b)(h:aN K H M vs ws):aN K (aT H l u) (put M l o) vs ws:=h.go (oG a hl)
theorem AV.wr(a:AM K H M)(hl:M l=some b)(h:AV K H M v w):AV K (aT H l u) (put M l o) v w:=h.go (oG a hl)
end
abbrev S3:=List (Option W)
abbrev K3:=W->Mm->Prop
abbrev aZ:=S3->Mm->K3->Prop
abbrev d6:=S3->Mm->(Bool->Mm->Prop)->Prop
abbrev eJ:=S3->Mm->(List W->Mm->Prop)->Prop
abbrev R3:=W->W->Mm->K3->Prop
structure D3 where
 nx:S3->Mm->Prop
 rt:K3
 bk:S3->Mm->Prop:=λ_ _=>False
 ct:S3->Mm->Prop:=λ_ _=>False
abbrev aH:=D3->S3->Mm->Prop
def AS(K:Ac)(H:Hp)(M:Mm):SV->S3->Prop:=Es λa b=>∀w,b=some w->∃v,a=some v/\AV K H M v w
section
variable {K:Ac}{H H':Hp}{M M':Mm}
theorem AS.kp(c:AM K H M)(k:Kp H M H' M')(h:AS K H M σ a):AS K H' M' σ a:=
 Paired.mapP h λf d z w e=>by obtain⟨v,b,r⟩:=z w e;exact⟨v,b,r.kp c k⟩
theorem AS.sub(g:Sub M' M)(h:AS K H M σ a):AS K H M' σ a:=
 Paired.mapP h λd c z w e=>by obtain⟨v,b,r⟩:=z w e;exact⟨v,b,r.sub g⟩
theorem AS.get:∀{σ:SV} {c:S3} {i:Nat},AS K H M σ c->c[i]? = some (some w)->∃v,σ[i]? = some (some v)/\AV K H M v w
 | _,_,_,.nil,e=>by simp at e
 | _,_,0,.cons r _,e=>by
  simp at e;obtain⟨v,b,a⟩:=r w e;exact⟨v,by rw[b];rfl,a⟩
 | _,_,i+1,.cons _ t,e=>by
  obtain⟨v,b,a⟩:=AS.get (i:=i) t (by simpa using e);exact⟨v,by simpa using b,a⟩
theorem AS.set(r:AV K H M v w):∀{σ:SV} {a:S3} (i:Nat),AS K H M σ a->AS K H M (σ.set i (some v)) (a.set i (some w))
 | _,_,_,.nil=>.nil
 | _,_,0,.cons _ t=>.cons (λx e=>⟨v,rfl,by cases e;exact r⟩) t
 | _,_,i+1,.cons q t=>.cons q (AS.set r i t)
theorem AS.nones:∀n:Nat,AS K H M (Bv n none) (Bv n none)
 | 0=>.nil
 | n+1=>.cons (λ_ e=>nomatch e) (AS.nones n)
theorem AS.start{vs:List V}{ws:List W}(h:aN K H M vs ws)(n:Nat):AS K H M (vs.map some++Bv n none) (ws.map some++Bv n none):=by
 induction vs generalizing ws with
 | nil=>cases h;exact AS.nones n
 | cons v vs a=>
  cases h with
  | cons x r=>exact .cons (λw e=>⟨v,rfl,by cases e;exact x⟩) (a r)
end
def Up(K:Ac)(H:Hp)(M:Mm)(R:K3)(Q:VK):Prop:=∀v H' w M',Kp H M H' M'->AM K H' M'->AV K H' M' v w->R w M'->Q v H'
def up(K:Ac)(t:aZ):TE:=λσ H Q=>∃a M R,AS K H M σ a/\AM K H M/\t a M R/\Up K H M R Q
def jU(K:Ac)(t:d6):TT:=λσ H Q=>∃(a:S3) (M:Mm) (R:Bool->Mm->Prop),AS K H M σ a/\AM K H M/\t a M R/\∀b H' M',Kp H M H' M'->AM K H' M'->R b M'->Q b H'
def pZ(K:Ac)(t:eJ):TA:=λσ H Q=>∃(a:S3) (M:Mm) (R:List W->Mm->Prop),AS K H M σ a/\AM K H M/\t a M R/\∀vs H' ws M',Kp H M H' M'->AM K H' M'->aN K H' M' vs ws->R ws M'->Q vs H'
def i6(K:Ac)(H:Hp)(M:Mm)(R:S3->Mm->Prop)(Q:SV->Hp->Prop):Prop:=∀a H' b M',Kp H M H' M'->AM K H' M'->AS K H' M' a b->R b M'->Q a H'
structure r6(K:Ac)(H:Hp)(M:Mm)(D:D3)(E:mG):Prop where
 nx:i6 K H M D.nx E.nx
 rt:Up K H M D.rt E.rt
 bk:i6 K H M D.bk E.bk
 ct:i6 K H M D.ct E.ct
def r9(K:Ac)(t:aH):TS:=λE σ H=>∃a M D,AS K H M σ a/\AM K H M/\t D a M/\r6 K H M D E
section
variable {K:Ac}{H H1:Hp}{M M1:Mm}
theorem Up.kp(h:Up K H M R Q)(k:Kp H M H1 M1):Up K H1 M1 R Q:=λv H' w M' a b av r=>h v H' w M' (k.trans a) b av r
theorem i6.kp{R:S3->Mm->Prop}{Q:SV->Hp->Prop}(h:i6 K H M R Q)(k:Kp H M H1 M1):i6 K H1 M1 R Q:=λv H' w M' a b av r=>h v H' w M' (k.trans a) b av r
theorem r6.kp(h:r6 K H M D E)(k:Kp H M H1 M1):r6 K H1 M1 D E:=⟨h.nx.kp k,h.rt.kp k,h.bk.kp k,h.ct.kp k⟩
theorem Up.at(h:Up K H M R Q)(a:AM K H M)(av:AV K H M v w)(r:R w M):Q v H:=h v H w M (Kp.refl a) a av r
end
def frz:W->Mm->K3->Prop
 | .ref p,M,R=>(∃ws,M p=some (.lst ws)/\R (.rl ws) (del M p))\/(∃kvs,M p=some (.dK kvs)/\R (.dk kvs) (del M p))\/(∃kvs,M p=some (.dT kvs)/\R (.dt kvs) (del M p))\/R (.ref p) M
 | w,M,R=>R w M
theorem Up.frz{K:Ac}{H:Hp}{M:Mm}{R:K3}{Q:VK}(h:Up K H M R Q):Up K H M (λw M'=>frz w M' R) Q:=λv H' w M' k a av r=>by
 have b:=av;cases av<;>first|exact h _ _ _ _ k a b r|skip
 case ref p=>
  rcases r with⟨ws,e,r⟩|⟨kvs,e,r⟩|⟨kvs,e,r⟩|r
  .obtain⟨vs,f,q⟩:=a.lst e;exact h _ _ _ _ (k.sub Sub.del) (a.sub Sub.del) (.rl f pX (q.sub Sub.del)) r
  .obtain⟨ks,f,q⟩:=a _ _ e;exact h _ _ _ _ (k.sub Sub.del) (a.sub Sub.del) (.dk f pX q.keys (q.vals.sub Sub.del)) r
  .obtain⟨ks,f,q⟩:=a _ _ e;exact h _ _ _ _ (k.sub Sub.del) (a.sub Sub.del) (.dt f pX q.keys (q.vals.sub Sub.del)) r
  .exact h _ _ _ _ k a (.ref p) r
theorem J1(a:M p=none)(r:R (.rl ws) M):frz (.ref p) (put M p (.lst ws)) R:=.inl ⟨ws,aR,by rw[j9 a];exact r⟩
theorem J2(a:M p=none)(r:R (.dk kvs) M):frz (.ref p) (put M p (.dK kvs)) R:=.inr (.inl ⟨kvs,aR,by rw[j9 a];exact r⟩)
theorem YV(a:M p=none)(r:R (.dt kvs) M):frz (.ref p) (put M p (.dT kvs)) R:=.inr (.inr (.inl ⟨kvs,aR,by rw[j9 a];exact r⟩))
def aY(ws:List W)(M:Mm)(R:K3):Prop:=∀p,M p=none->R (.ref p) (put M p (.lst ws))
def lE(kvs:List (aF×W))(M:Mm)(R:K3):Prop:=∀p,M p=none->R (.ref p) (put M p (.dK kvs))
def kA(kvs:List (List aF×W))(M:Mm)(R:K3):Prop:=∀p,M p=none->R (.ref p) (put M p (.dT kvs))
theorem aY.frz{M:Mm}{ws:List W}{R:K3}(r:R (.rl ws) M):aY ws M λw M'=>L3.frz w M' R:=λp a=>J1 a r
theorem lE.frz{M:Mm}{kvs:List (aF×W)}{R:K3}(r:R (.dk kvs) M):lE kvs M λw M'=>L3.frz w M' R:=λp a=>J2 a r
theorem kA.frz{M:Mm}{kvs:List (List aF×W)}{R:K3}(r:R (.dt kvs) M):kA kvs M λw M'=>L3.frz w M' R:=λp a=>YV a r
def b5(t:aZ):aZ:=λa M R=>t a M λw M'=>frz w M' R
def YW(K:Ac)(H:Hp)(M:Mm)(v:V):W->Prop
 | .non=>v=.non
 | .bl b=>v=.bl b
 | .int i=>v=.int i
 | .str x=>v=.str x
 | .ty n=>v=.ty n
 | .tup ws=>∃a xs,v=.ref a/\H a=some (.tup xs)/\aN K H M xs ws
 | .sc ws=>∃a xs,v=.ref a/\mL K H a xs/\aN K H M xs ws
 | .rl ws=>∃a xs,v=.ref a/\H a=some (.lst xs)/\M a=none/\aN K H M xs ws
 | .ref a=>v=.ref a
 | .dk kvs=>∃a ks,v=.ref a/\H a=some (.dK ks)/\M a=none/\bZ K H M aF ks kvs
 | .dt kvs=>∃a ks,v=.ref a/\H a=some (.dT ks)/\M a=none/\bZ K H M (List aF) ks kvs
 | .fk kvs=>∃a ks,v=.ref a/\(∃o,H a=some (.frz o (.dK ks)))/\bZ K H M aF ks kvs
 | .ft kvs=>∃a ks,v=.ref a/\(∃o,H a=some (.frz o (.dT ks)))/\bZ K H M (List aF) ks kvs
section
variable {K:Ac}{H:Hp}{M:Mm}{v:V}{vs:List V}{w:W}{ws:List W}{C:Prop}
theorem AV.inv(h:AV K H M v w):YW K H M v w:=by
 cases h
 case non|bl|int|str|ty|ref=>rfl
 case tup|sc=>rename_i e q;exact⟨_,_,rfl,e,q⟩
 case rl=>rename_i e n q;exact⟨_,_,rfl,e,n,q⟩
 case dk|dt=>rename_i e n z q;exact⟨_,_,rfl,e,n,pY z q⟩
 case fk|ft=>rename_i e z q;exact⟨_,_,rfl,⟨_,e⟩,pY z q⟩
theorem AV.tupE(h:AV K H M v (.tup ws))(c:∀a xs,v=.ref a->H a=some (.tup xs)->aN K H M xs ws->C):C:=
 let ⟨a,xs,e,f,q⟩:=h.inv;c a xs e f q
theorem AV.scE(h:AV K H M v (.sc ws))(c:∀a xs,v=.ref a->mL K H a xs->aN K H M xs ws->C):C:=
 let ⟨a,xs,e,f,q⟩:=h.inv;c a xs e f q
theorem AV.rlE(h:AV K H M v (.rl ws))(c:∀a xs,v=.ref a->H a=some (.lst xs)->aN K H M xs ws->C):C:=
 let ⟨a,xs,e,f,_,q⟩:=h.inv;c a xs e f q
theorem aN.nil_(h:aN K H M vs []):vs=[]:=by cases h;rfl
theorem aN.one(h:aN K H M vs [w]):∃v,vs=[v]/\AV K H M v w:=by
 cases h with
 | cons x r=>rw[r.nil_];exact⟨_,rfl,x⟩
theorem aN.oneE(h:aN K H M vs [w])(c:∀v,vs=[v]->AV K H M v w->C):C:=h.one.elim λv h=>c v h.1 h.2
theorem aN.two(h:aN K H M vs [w,z]):∃v u,vs=[v,u]/\AV K H M v w/\AV K H M u z:=by
 cases h with
 | cons x r=>obtain⟨u,rfl,y⟩:=r.one;exact⟨_,_,rfl,x,y⟩
theorem AM.lstE(b:AM K H M)(e:M a=some (.lst ws))(c:∀xs,H a=some (.lst xs)->aN K H M xs ws->C):C:=(b.lst e).elim λv h=>c v h.1 h.2
theorem i7(e:vs=[x])(f:x=y):vs=[y]:=by rw[e,f]
end
theorem up.el{K:Ac}{H:Hp}{σ:SV}{C:Prop}{t:aZ}{Q:VK}(h:up K t σ H Q)(c:∀d M R,AS K H M σ d->AM K H M->t d M R->Up K H M R Q->C):C:=by obtain⟨d,M,R,a,b,h,k⟩:=h;exact c d M R a b h k
theorem jU.el{K:Ac}{H:Hp}{σ:SV}{C:Prop}{t:d6}{Q:Bool->Hp->Prop}(h:jU K t σ H Q)(c:∀d M R,AS K H M σ d->AM K H M->t d M R->(∀b H' M',Kp H M H' M'->AM K H' M'->R b M'->Q b H')->C):C:=by obtain⟨d,M,R,a,b,h,k⟩:=h;exact c d M R a b h k
theorem pZ.el{K:Ac}{H:Hp}{σ:SV}{C:Prop}{t:eJ}{Q:List V->Hp->Prop}(h:pZ K t σ H Q)(c:∀d M R,AS K H M σ d->AM K H M->t d M R->(∀vs H' ws M',Kp H M H' M'->AM K H' M'->aN K H' M' vs ws->R ws M'->Q vs H')->C):C:=by obtain⟨d,M,R,a,b,h,k⟩:=h;exact c d M R a b h k
theorem r9.el{K:Ac}{H:Hp}{σ:SV}{C:Prop}{t:aH}{E:mG}(h:r9 K t E σ H)(c:∀d M D,AS K H M σ d->AM K H M->t D d M->r6 K H M D E->C):C:=by obtain⟨d,M,D,a,b,h,k⟩:=h;exact c d M D a b h k
end L3
namespace L2
section
variable {X:Cx}
theorem PE.weak(h:PE X e t)(k:∀σ H Q,t' σ H Q->t σ H Q):PE X e t':=λpins s σ H Q I q=>h pins s σ H Q I (k σ H Q q)
theorem PT.weak(h:PT X e t)(k:∀σ H Q,t' σ H Q->t σ H Q):PT X e t':=λpins s σ H Q I q=>h pins s σ H Q I (k σ H Q q)
theorem PW.weak(h:PW X e t)(k:∀σ H Q,t' σ H Q->t σ H Q):PW X e t':=λa pins s σ H Q I q=>h a pins s σ H Q I (k σ H Q q)
theorem PA.weak(h:PA X es t)(k:∀σ H Q,t' σ H Q->t σ H Q):PA X es t':=λpos pins s σ H Q I q=>h pos pins s σ H Q I (k σ H Q q)
theorem PS.weak(h:PS X st t)(k:∀D σ H,t' D σ H->t D σ H):PS X st t':=λpins s σ H D I q=>h pins s σ H D I (k D σ H q)
theorem gE.weak(h:gE X st t)(k:∀D σ H,t' D σ H->t D σ H):gE X st t':=λpins s σ H D I q=>h pins s σ H D I (k D σ H q)
theorem PO.weak(h:PO X e t)(k:∀σ H Q,t' σ H Q->t σ H Q):PO X e t':=λpins s σ H Q I q=>h pins s σ H Q I (k σ H Q q)
theorem iO.weak(h:iO X es t)(k:∀σ H Q,t' σ H Q->t σ H Q):iO X es t':=λpins s σ H Q I q=>h pins s σ H Q I (k σ H Q q)
end
end L2
namespace L3
open PySem PySem.Spec PyProof.Rows L2
abbrev E3(X:Cx)(e:Expr)(t:aZ):Prop:=PE X e (up X.K t)
abbrev T3(X:Cx)(e:Expr)(t:d6):Prop:=PT X e (jU X.K t)
abbrev W3(X:Cx)(e:Expr)(t:d6):Prop:=PW X e (jU X.K t)
abbrev A3(X:Cx)(es:List Expr)(t:eJ):Prop:=PA X es (pZ X.K t)
def cM(K:Ac)(r:R3):R2:=λx y H Q=>∃a b M R,AM K H M/\AV K H M x a/\AV K H M y b/\r a b M R/\Up K H M R Q
def J3(K:Ac)(r:W->Mm->K3->Prop):V->Hp->VK->Prop:=λx H Q=>∃a M R,AM K H M/\AV K H M x a/\r a M R/\Up K H M R Q
def fT(K:Ac)(r:List W->Mm->K3->Prop):List V->Hp->VK->Prop:=λxs H Q=>∃ws M R,AM K H M/\aN K H M xs ws/\r ws M R/\Up K H M R Q
def kB(K:Ac)(r:W->List W->Mm->K3->Prop):V->List V->Hp->VK->Prop:=λx xs H Q=>∃a ws M R,AM K H M/\AV K H M x a/\aN K H M xs ws/\r a ws M R/\Up K H M R Q
section
variable {X:Cx}{a b c:Expr}{ta tb tc:aZ}{pos:Pos}
def aA(i:Nat):aZ:=λa M R=>∃w,a[i]? = some (some w)/\R w M
def vC(w:W):aZ:=λ_ M R=>R w M
theorem v(i:Nat)(d:X.N[i]? = some x:=by rfl)(f:tY X.env.scope x:=by first|exact Or.inl rfl|exact Or.inr (Or.inl rfl)|exact Or.inr (Or.inr rfl))(hd:(x==("__debug__" : Str))=false:=by decide)(a:(x==("__classdict__" : Str))=false:=by decide):E3 X (.Name x pos) (aA i):=(HG d f hd a).weak λσ H Q ⟨h,M,R,c,g,⟨w,e,r⟩,k⟩=>by
 obtain⟨v,b,av⟩:=c.get e;exact⟨v,b,k.at g av r⟩
theorem aK{i j pos}:E3 X (.Constant (.int i) j pos) (vC (.int i)):=RA.weak λσ H Q z0=>z0.el λc M R b a r k=>k.at a (.int i) r
theorem fG{b j pos}:E3 X (.Constant (.bool b) j pos) (vC (.bl b)):=RB.weak λσ H Q z0=>z0.el λd M R c a r k=>k.at a (.bl b) r
theorem kC{x j pos}:E3 X (.Constant (.str x) j pos) (vC (.str x)):=RC.weak λσ H Q z0=>z0.el λc M R b a r k=>k.at a (.str x) r
theorem oH{x:Str}{y:V}{w:W}{u:Ae}{pos:Pos}(a:Gl X x)(b:X.mg x=some u)(r:RelV y u)(hw:∀H M,AV X.K H M y w)(hd:(x==("__debug__" : Str))=false:=by decide):E3 X (.Name x pos) (vC w):=
 (RD a b r hd).weak λσ H Q z0=>z0.el λe M R d c r k=>k.at c (hw H M) r
theorem p5{x:Str}{y:V}{w:W}{u:Ae}{pos:Pos}(a:Gl X x)(b:X.mg x=none)(c:Cy x=some u)(r:RelV y u)(hw:∀H M,AV X.K H M y w)(d:x≠"__name__":=by decide)(hd:(x==("__debug__" : Str))=false:=by decide):E3 X (.Name x pos) (vC w):=
 (RE a b c r d hd).weak λσ H Q z0=>z0.el λg M R f e r k=>k.at e (hw H M) r
theorem cH(b:E3 X a ta):E3 X a (b5 ta):=b.weak λσ H Q z0=>z0.el λe M R c d h k=>⟨e,M,_,c,d,h,k.frz⟩
def aD(r:R3)(ta tb:aZ):aZ:=λa M R=>ta a M λx M1=>tb a M1 λy b=>r x y b R
theorem uR{K:Ac}{r:R3}{σ:SV}{H:Hp}{Q:VK}(h:up K (aD r ta tb) σ H Q):rS (cM K r) (up K ta) (up K tb) σ H Q:=by
 obtain⟨g,M,R,c,f,h,k⟩:=h;refine⟨g,M,_,c,f,h,λx H1 o M1 d a p i=>⟨g,M1,_,c.kp f d,a,i,λy q m n e b j l=>?_⟩⟩;exact⟨o,m,n,R,b,p.kp a e,j,l,(k.kp d).kp e⟩
theorem a6(e:bC X (Dr op) (cM X.K r))(c:E3 X a ta)(d:E3 X b tb):E3 X (.BinOp a op b pos) (aD r ta tb):=(TH e c d).weak λ_ _ _ h=>uR h
theorem YX(e:bC X (Co op) (cM X.K r))(c:E3 X a ta)(f:E3 X b tb)(d:Hr op b=false):E3 X (.Compare a [op] [b] pos) (aD r ta tb):=(UB e c f d).weak λ_ _ _ h=>uR h
def bP(t:aZ):d6:=λa M Q=>t a M λw M'=>∃k,w=.bl k/\Q k M'
theorem AV.bl_inv{K:Ac}{H:Hp}{M:Mm}{v:V}{k:Bool}(h:AV K H M v (.bl k)):v=.bl k:=by cases h;rfl
theorem YY{op:CmpOp}{r:R3}(j:bC X (Co op) (cM X.K r))(f:E3 X a ta)(n:E3 X b tb)(i:Hr op b=false):T3 X (.Compare a [op] [b] pos) (bP (aD r ta tb)):=
 (UC j f n i).weak λσ H Q z0=>z0.el λo M R g l h k=>uR ⟨o,M,_,g,l,h,λv H' w M' m d av ⟨c,e,r⟩=>by
  subst e;exact⟨c,av.bl_inv,k c H' M' m d r⟩⟩
def lG(r:W->Mm->K3->Prop)(ta:aZ):aZ:=λa M R=>ta a M λx M1=>r x M1 R
theorem mM{op:UnaryOp}{r:W->Mm->K3->Prop}(g:rR X (unaryOp op) (J3 X.K r))(c:E3 X a ta):E3 X (.UnaryOp op a pos) (lG r ta):=
 (TJ g c).weak λσ H Q z0=>z0.el λm M R d j h k=>⟨m,M,_,d,j,h,λx H1 i M1 f b l e=>⟨i,M1,R,b,l,e,k.kp f⟩⟩
def yZ:W->Mm->(Bool->Mm->Prop)->Prop
 | .non,M,Q=>Q false M
 | .bl b,M,Q=>Q b M
 | .int i,M,Q=>Q (i !=0) M
 | .str y,M,Q=>y.length<=An/\Q ((y.length:Int) !=0) M
 | .tup ws,M,Q=>Q (!ws.isEmpty) M
 | .rl ws,M,Q=>Q (!ws.isEmpty) M
 | .sc ws,M,Q=>Q (!ws.isEmpty) M
 | .dk kvs,M,Q=>Q (!kvs.isEmpty) M
 | .ref p,M,Q=>(∃ws,M p=some (.lst ws)/\Q (!ws.isEmpty) M)\/∃kvs,M p=some (.dK kvs)/\Q (!kvs.isEmpty) M
 | _,_,_=>False
def gA(t:aZ):d6:=λa M Q=>t a M λw M'=>yZ w M' Q
theorem aN.empty{K:Ac}{H:Hp}{M:Mm}{vs:List V}{ws:List W}(h:aN K H M vs ws):(!ws.isEmpty) = !vs.isEmpty:=by cases h<;>rfl
theorem gJ(l:E3 X a ta)(s:∀d,isTrue a X.env d=(do let v <-d;Nl a.pos;Hy [v] (truthy v)):=by intro _;rfl):T3 X a (gA ta):=
 (UH l s).weak λσ H Q z0=>z0.el λt M R m o h k=>⟨t,M,_,m,o,h,λv H' w M' f c av r=>by
  cases av with
  | non=>exact⟨false,rfl,k _ _ _ f c r⟩
  | bl b=>exact⟨b,rfl,k _ _ _ f c r⟩
  | int i=>exact⟨_,rfl,k _ _ _ f c r⟩
  | str y=>exact⟨_,⟨r.1,rfl⟩,k _ _ _ f c r.2⟩
  | ty n=>exact(show False from r).elim
  | tup e q=>exact⟨_,.inr (.inl ⟨_,cD.of e,q.empty⟩),k _ _ _ f c r⟩
  | rl e n q=>exact⟨_,.inl ⟨_,bO.of e,q.empty⟩,k _ _ _ f c r⟩
  | sc e q=>exact⟨_,.inl ⟨_,e.sq,q.empty⟩,k _ _ _ f c r⟩
  | @dk a ks kvs e n g q=>exact⟨!kvs.isEmpty,.inr (.inr ⟨_,e,by have:=pY g q;cases this<;>rfl⟩),k _ _ _ f c r⟩
  | dt e n g q=>exact(show False from r).elim
  | fk e g q=>exact(show False from r).elim
  | ft e g q=>exact(show False from r).elim
  | ref p=>
   rcases r with⟨ws,e,r⟩|⟨kvs,e,r⟩
   .obtain⟨vs,j,q⟩:=c.lst e;exact⟨_,.inl ⟨_,bO.of j,q.empty⟩,k _ _ _ f c r⟩
   .obtain⟨ks,j,q⟩:=c _ _ e;exact⟨!kvs.isEmpty,.inr (.inr ⟨_,j,by cases q<;>rfl⟩),k _ _ _ f c r⟩⟩
def kD(t u:d6):d6:=λa M Q=>t a M λc M1=>if c=true then u a M1 Q else Q false M1
def iR(t u:d6):d6:=λa M Q=>t a M λc M1=>if c=true then Q true M1 else u a M1 Q
def jV(t:d6):d6:=λa M Q=>t a M λc M1=>Q (!c) M1
variable {tA tB':d6}{rest:List Expr}
theorem mN(b:T3 X a tA):W3 X (.BoolOp .And [a] pos) tA:=RI b
theorem lH(b:T3 X a tA):W3 X (.BoolOp .Or [a] pos) tA:=RJ b
theorem lI(m:T3 X a tA)(o:W3 X (.BoolOp .And (b::rest) pos) tB'):W3 X (.BoolOp .And (a::b::rest) pos) (kD tA tB'):=
 (RK m o).weak λσ H Q z0=>z0.el λl M R g j h k=>⟨l,M,_,g,j,h,λc H1 M1 f d i=>by
  cases c with
  | true=>exact⟨l,M1,R,g.kp j f,d,i,λb H' M' n e r=>k b H' M' (f.trans n) e r⟩
  | false=>exact k false H1 M1 f d i⟩
theorem i8(m:T3 X a tA)(o:W3 X (.BoolOp .Or (b::rest) pos) tB'):W3 X (.BoolOp .Or (a::b::rest) pos) (iR tA tB'):=
 (RL m o).weak λσ H Q z0=>z0.el λl M R g j h k=>⟨l,M,_,g,j,h,λc H1 M1 f d i=>by
  cases c with
  | true=>exact k true H1 M1 f d i
  | false=>exact⟨l,M1,R,g.kp j f,d,i,λb H' M' n e r=>k b H' M' (f.trans n) e r⟩⟩
theorem kE(d:T3 X a tA):T3 X (.UnaryOp .Not a pos) (jV tA):=
 (RM d).weak λσ H Q z0=>z0.el λj M R g i h k=>⟨j,M,_,g,i,h,λc H1 M1 e b f=>k (!c) H1 M1 e b f⟩
def sA(ta tb:aZ):aZ:=λa M R=>ta a M λx M1=>∃c,x=.bl c/\if c=true then tb a M1 R else R (.bl false) M1
def sC(ta tb:aZ):aZ:=λa M R=>ta a M λx M1=>∃c,x=.bl c/\if c=true then R (.bl true) M1 else tb a M1 R
theorem p6{op}(h:E3 X a ta):E3 X (.BoolOp op [a] pos) ta:=RP h
theorem v_and(m:E3 X a ta)(o:E3 X (.BoolOp .And (b::rest) pos) tb):E3 X (.BoolOp .And (a::b::rest) pos) (sA ta tb):=
 (RQ m o).weak λσ H Q z0=>z0.el λl M R g j h k=>⟨l,M,_,g,j,h,λx H1 p M1 f d n ⟨c,e,i⟩=>by
  subst e;refine⟨c,n.bl_inv,?_⟩;cases c with
  | true=>exact⟨l,M1,R,g.kp j f,d,i,k.kp f⟩
  | false=>exact(k.kp f).at d (.bl false) i⟩
theorem v_or(m:E3 X a ta)(o:E3 X (.BoolOp .Or (b::rest) pos) tb):E3 X (.BoolOp .Or (a::b::rest) pos) (sC ta tb):=
 (RS m o).weak λσ H Q z0=>z0.el λl M R g j h k=>⟨l,M,_,g,j,h,λx H1 p M1 f d n ⟨c,e,i⟩=>by
  subst e;refine⟨c,n.bl_inv,?_⟩;cases c with
  | true=>exact(k.kp f).at d (.bl true) i
  | false=>exact⟨l,M1,R,g.kp j f,d,i,k.kp f⟩⟩
def aE:eJ:=λ_ M R=>R [] M
def aB(ta:aZ)(c:eJ):eJ:=λa M R=>ta a M λx M1=>c a M1 λxs b=>R (x::xs) b
variable {e:Expr}{es:List Expr}{te:aZ}{t:eJ}
theorem aG:A3 X [] aE:=U2.weak λσ H Q z0=>z0.el λc M R b a h k=>k [] H [] M (Kp.refl a) a .nil h
theorem aC(p:E3 X e te)(o:A3 X es t)(n:Bk (e::es) X.env=(false,eval e X.env)::Bk es X.env:=by rfl):A3 X (e::es) (aB te t):=
 (U3 p o n).weak λσ H Q z0=>z0.el λf M R d j h k=>⟨f,M,_,d,j,h,λx H1 r M1 i a u q=>⟨f,M1,_,d.kp j i,a,q,λxs m ws l g c b s=>
  k (x::xs) m (r::ws) l (i.trans g) c (.cons (u.kp a g) b) s⟩⟩
def bH(t:eJ):aZ:=λa M R=>t a M λws M1=>ws.length<=An/\R (.tup ws) M1
def jE(t:eJ):aZ:=λa M R=>t a M λws M1=>ws.length<=An/\aY ws M1 R
theorem laidT{K:Ac}{H:Hp}{M:Mm}{R:K3}{Q:VK}{p:Addr}{xs:List V}{ws:List W}(d:AM K H M)(k:Up K H M R Q)(b:H p=none)(e:aN K H M xs ws)(r:R (.tup ws) M):Q (.ref p) (aT H p (.tup xs)):=by
 obtain⟨a,c⟩:=d.tup (u:=.tup xs) b;exact k _ _ _ _ c a (.tup cU (e.newT b)) r
theorem iS{K:Ac}{H:Hp}{M:Mm}{R:K3}{Q:VK}{p:Addr}{xs:List V}{ws:List W}(c:AM K H M)(k:Up K H M R Q)(a:H p=none)(e:aN K H M xs ws)(r:∀p,M p=none->R (.ref p) (put M p (.lst ws))):Q (.ref p) (aT H p (.lst xs)):=by
 obtain⟨b,d⟩:=c.laid (o:=.lst ws) (u:=.lst xs) a ⟨xs,cU,e.newL a⟩;exact k _ _ _ _ d b (.ref p) (r p (c.nonM a))
theorem uS{K:Ac}{H:Hp}{M:Mm}{R:K3}{Q:VK}{l:Addr}{xs:List V}{ws a:List W}{y:V}{w:W}(b:AM K H M)(k:Up K H M R Q)(hl:M l=some (.lst a))(f:aN K H M xs ws)(d:AV K H M y w)(r:R w (put M l (.lst ws))):Q y (aT H l (.lst xs)):=by
 obtain⟨c,e⟩:=b.write (o:=.lst ws) (u:=.lst xs) hl ⟨xs,cU,f.wr b hl⟩;exact k _ _ _ _ e c (d.wr b hl) r
theorem bQ{x1}(h:A3 X es t):E3 X (.Tuple es x1 pos) (bH t):=
 (U6 h).weak λσ H Q z0=>z0.el λg M R c f h k=>⟨g,M,_,c,f,h,λxs H1 ws M1 d b a ⟨hl,r⟩=>⟨by rw[a.length];exact hl,λp e=>laidT b (k.kp d) e a r⟩⟩
theorem lJ(h:A3 X es t):E3 X (.List es pos) (jE t):=
 (HV h).weak λσ H Q z0=>z0.el λg M R c f h k=>⟨g,M,_,c,f,h,λxs H1 ws M1 d b a ⟨hl,r⟩=>⟨by rw[a.length];exact hl,λp e=>iS b (k.kp d) e a r⟩⟩
def bM(r:List W->Mm->K3->Prop)(t:eJ):aZ:=λa M R=>t a M λws M1=>r ws M1 R
variable {x:Str}{p:Pos}{id T:String}{r:List W->Mm->K3->Prop}
theorem J4{K:Ac}{σ:SV}{H:Hp}{Q:VK}(h:up K (bM r t) σ H Q):yC (fT K r) (pZ K t) σ H Q:=by
 obtain⟨g,M,R,c,f,h,k⟩:=h;exact⟨g,M,_,c,f,h,λxs H1 ws M1 e b a d=>⟨ws,M1,R,b,a,d,k.kp e⟩⟩
theorem cR(hc:c0 X (.builtin id) (fT X.K r))(d:Gl X x)(g:X.mg x=none)(i:Cy x=some (.builtin id))(c:A3 X (e::es) t)(j:x≠"__name__":=by decide)(a:(x==("__debug__" : Str))=false:=by decide)(f:Bk (e::es) X.env=(false,eval e X.env)::Bk es X.env:=by rfl)(b:(Fv pos (Bk es X.env)).any (·.1)=false:=by rfl):E3 X (.Call (.Name x p) (e::es) [] pos) (bM r t):=(VE hc d g i c j a f b).weak λ_ _ _ h=>J4 h
theorem h9(hc:c0 X (.type T) (fT X.K r))(d:Gl X x)(g:X.mg x=none)(i:Cy x=some (.type T))(c:A3 X (e::es) t)(j:x≠"__name__":=by decide)(a:(x==("__debug__" : Str))=false:=by decide)(f:Bk (e::es) X.env=(false,eval e X.env)::Bk es X.env:=by rfl)(b:(Fv pos (Bk es X.env)).any (·.1)=false:=by rfl):E3 X (.Call (.Name x p) (e::es) [] pos) (bM r t):=(VF hc d g i c j a f b).weak λ_ _ _ h=>J4 h
abbrev bF:=List W->Mm->K3->Prop
def iA(K:Ac)(sp:bF):Sp:=λvs H Q _=>∃ws M R,AM K H M/\aN K H M vs ws/\sp ws M R/\Up K H M R Q
variable {k:Nat}{f:Addr}{fd:Bi}{ps:List Str}{sp:bF}
def bG(sp:bF)(t:eJ):aZ:=λa M R=>t a M λws M1=>sp ws M1 R
theorem J5{K:Ac}{σ:SV}{H:Hp}{Q:VK}(h:up K (bG sp t) σ H Q):HW (iA K sp) [] E0 (pZ K t) σ H Q:=by
 obtain⟨g,M,R,c,f,h,k⟩:=h;exact⟨g,M,_,c,f,h,λxs H1 ws M1 e b a d=>⟨ws,M1,R,b,by rw[Gv];exact a,d,k.kp e⟩⟩
theorem YZ(F:fE X.prog X.w X.K X.mg X.base gP k f fd ps (iA X.K sp))(i:c8 k X.A)(d:Gl X x)(g:X.mg x=some (.ref f))(hk:Fc X.K (.ref f)=true)(j:Binds X.K fd ps [])(c:A3 X (e::es) t)(a:(x==("__debug__" : Str))=false:=by decide)(l:Bk (e::es) X.env=(false,eval e X.env)::Bk es X.env:=by rfl)(b:(Fv pos (Bk es X.env)).any (·.1)=false:=by rfl):
  E3 X (.Call (.Name x p) (e::es) [] pos) (bG sp t):=(U7 F i d g hk j .nil pU c a l b).weak λ_ _ _ h=>J5 h
def mO(T:String):W->Mm->Prop
 | .str _,_=>T = "str"
 | .int _,_=>T = "int"
 | .rl _,_=>T = "list"
 | .sc _,_=>T = "list"
 | .dk _,_=>T = "dict"
 | .dt _,_=>T = "dict"
 | .fk _,_=>T = "dict"
 | .ft _,_=>T = "dict"
 | .ref p,M=>(T = "list"/\∃ws,M p=some (.lst ws))\/(T = "dict"/\((∃kvs,M p=some (.dK kvs))\/∃kvs,M p=some (.dT kvs)))
 | _,_=>False
theorem J6{K:Ac}{H:Hp}{M:Mm}{v:V}{w:W}(d:AM K H M)(av:AV K H M v w)(h:mO T w M):uF K T v H:=by
 cases av with
 | str y=>exact h
 | int i=>exact h
 | rl e n q=>exact .inl ⟨h,_,bO.of e⟩
 | sc e q=>exact .inl ⟨h,_,e.sq⟩
 | dk e n c q=>exact .inr (.inr (.inl ⟨h,.inl ⟨_,.inl e⟩⟩))
 | dt e n c q=>exact .inr (.inr (.inl ⟨h,.inr ⟨_,.inl e⟩⟩))
 | ref p=>
  rcases h with⟨e,ws,h⟩|⟨e,h⟩
  .obtain⟨vs,a,_⟩:=d.lst h;exact .inl ⟨e,vs,bO.of a⟩
  .refine .inr (.inr (.inl ⟨e,?_⟩));rcases h with⟨kvs,h⟩|⟨kvs,h⟩
   .obtain⟨ks,a,_⟩:=d _ _ h;exact .inl ⟨ks,.inl a⟩
   .obtain⟨ks,a,_⟩:=d _ _ h;exact .inr ⟨ks,.inl a⟩
 | non=>exact h.elim
 | bl b=>exact h.elim
 | ty n=>exact h.elim
 | tup e q=>exact h.elim
 | fk e c q=>exact .inr (.inr (.inl ⟨h,.inl ⟨_,.inr ⟨_,e⟩⟩⟩))
 | ft e c q=>exact .inr (.inr (.inl ⟨h,.inr ⟨_,.inr ⟨_,e⟩⟩⟩))
variable {o:Expr}{to:aZ}{name:Str}{apos cpos:Pos}{rm:W->List W->Mm->K3->Prop}
def oI(T:String)(r:W->List W->Mm->K3->Prop)(to:aZ):aZ:=λa M R=>to a M λx M1=>mO T x M1/\r x [] M1 R
def eQ(T:String)(r:W->List W->Mm->K3->Prop)(to:aZ)(t:eJ):aZ:=λa M R=>to a M λx M1=>mO T x M1/\t a M1 λxs b=>r x xs b R
theorem p7(l:Mw T)(slot:Slot T name id)(d:typeOf (.builtin id)=pure (.type "method_descriptor"))(j:f9 X id (kB X.K rm))(m:E3 X o to)(a:Ft o name X.env (eval o X.env)=eval o X.env:=by rfl)(b:(apos.endLine==cpos.line)=true:=by rfl):E3 X (.Call (.Attribute o name apos) [] [] cpos) (oI T rm to):=
 (WK l slot d j m a b).weak λσ H Q z0=>z0.el λq M R f p h k=>⟨q,M,_,f,p,h,λx H1 n M1 i c e ⟨ty,g⟩=>⟨J6 c e ty,n,[],M1,R,c,e,.nil,g,k.kp i⟩⟩
theorem fH(C:Mw T)(slot:Slot T name id)(i:typeOf (.builtin id)=pure (.type "method_descriptor"))(B:f9 X id (kB X.K rm))(y:E3 X o to)(v:A3 X (e::es) t)(c:Ft o name X.env (eval o X.env)=eval o X.env:=by rfl)(f:((Fv cpos (Bk (e::es) X.env)).all (λx=>!x.1)&&(Mi cpos (Jr [] X.env)).all (λx=>x.1.isSome)
  &&decide ((e::es).length+([]:List Nn).length+(if ([]:List Nn).isEmpty then 0 else 1)<30))=true:=by rfl)(d:(apos.endLine==cpos.line)=true:=by rfl)(s:Bk (e::es) X.env=(false,eval e X.env)::Bk es X.env:=by rfl)(a:(Fv cpos (Bk es X.env)).any (·.1)=false:=by rfl):
  E3 X (.Call (.Attribute o name apos) (e::es) [] cpos) (eQ T rm to t):=
 (WL C slot i B y v c f d s a).weak λσ H Q z0=>z0.el λm M R l q h k=>⟨m,M,_,l,q,h,λx H1 z M1 p b r ⟨ty,w⟩=>⟨J6 b r ty,m,M1,_,l.kp q p,b,w,λxs D ws u n j g A=>
  ⟨z,ws,u,R,j,r.kp b n,g,A,(k.kp p).kp n⟩⟩⟩
end
section
variable {X:Cx}
theorem nK{f:Ae->Ae->Sem Ae}(m:bC X f r)(h:∀x y H Q M R,AM X.K H M->Up X.K H M R Q->∀b a,c b a M R->AV X.K H M x b->AV X.K H M y a->r x y H Q):bC X f (cM X.K c):=
 λpins s σ H x y v u Q I j l ⟨b,a,M,R,g,i,e,d,k⟩=>m pins s σ H x y v u Q I j l (h x y H Q M R g k b a d i e)
theorem Y0(n:jR X r)(h:∀x y H Q M R,AM X.K H M->Up X.K H M R Q->∀d c,e d c M R->AV X.K H M x d->AV X.K H M y c->r x y H Q):jR X (cM X.K e):=
 λb a pins s σ H x y v u Q I l m ⟨d,c,M,R,i,j,g,f,k⟩=>n b a pins s σ H x y v u Q I l m (h x y H Q M R i k d c f j g)
theorem y6{r:List V->Hp->VK->Prop}{a:List W->Mm->K3->Prop}(e:c0 X f r)(h:∀xs H Q M R,AM X.K H M->Up X.K H M R Q->∀ws,a ws M R->aN X.K H M xs ws->r xs H Q):c0 X f (fT X.K a):=
 λpins s σ H xs us Q I rs ⟨ws,M,R,c,d,b,k⟩=>e pins s σ H xs us Q I rs (h xs H Q M R c k ws b d)
def uU:R3
 | .int i,.int j,M,R=>R (.int (i+j)) M
 | .tup xs,.tup ys,M,R=>xs≠[]/\xs.length+ys.length<=An/\R (.tup (xs++ys)) M
 | .ref a,.ref b,M,R=>∃xs ys,M a=some (.lst xs)/\M b=some (.lst ys)/\xs.length+ys.length<=An/\aY (xs++ys) M R
 | .rl xs,.ref b,M,R=>∃ys,M b=some (.lst ys)/\xs.length+ys.length<=An/\aY (xs++ys) M R
 | .ref a,.rl ys,M,R=>∃xs,M a=some (.lst xs)/\xs.length+ys.length<=An/\aY (xs++ys) M R
 | .rl xs,.rl ys,M,R=>xs.length+ys.length<=An/\aY (xs++ys) M R
 | _,_,_,_=>False
def mP(M:Mm):W->List W->Prop
 | .ref a,ws=>M a=some (.lst ws)
 | .rl ws,b=>ws=b
 | _,_=>False
theorem nL{K:Ac}{H:Hp}{M:Mm}{v:V}{w:W}{ws:List W}(b:AM K H M)(h:AV K H M v w)(e:mP M w ws):∃a xs,v=.ref a/\H a=some (.lst xs)/\aN K H M xs ws:=by
 cases w<;>first|exact(show False from e).elim|skip
 case ref a=>exact b.lstE e λxs f q=>⟨_,_,h.inv,f,q⟩
 case rl zs=>exact h.rlE λa xs c f q=>⟨_,_,c,f,by rw[<-show zs=ws from e];exact q⟩
theorem Y1{P:W->W->Prop}(b:∀i j,R (.int (i+j)) M->P (.int i) (.int j))(c:∀xs ys,xs≠[]/\xs.length+ys.length<=An/\R (.tup (xs++ys)) M->P (.tup xs) (.tup ys))(a:∀x y xs ys,mP M x xs->mP M y ys->xs.length+ys.length<=An->aY (xs++ys) M R->P x y):∀x y,uU x y M R->P x y:=by
 intro x y h;cases x<;>first|exact(show False from h).elim|(cases y<;>first|exact(show False from h).elim|skip)
 case int.int=>exact b _ _ h
 case tup.tup=>exact c _ _ h
 case ref.ref=>obtain⟨xs,ys,e,f,l,r⟩:=h;exact a _ _ _ _ e f l r
 case rl.ref=>obtain⟨ys,f,l,r⟩:=h;exact a _ _ _ _ rfl f l r
 case ref.rl=>obtain⟨xs,e,l,r⟩:=h;exact a _ _ _ _ e rfl l r
 case rl.rl=>exact a _ _ _ _ rfl rfl h.1 h.2
theorem y7:bC X (Dr .Add) (cM X.K uU):=nK (TM.or (VW.or WS)) λx y H Q M R d k=>Y1
 (λi j h e g=>.inl ⟨i,j,e.inv,g.inv,k.at d (.int _) h⟩)
 (λxs ys h e g=>e.tupE λa us m n c=>g.tupE λb vs s o f=>.inr (.inl ⟨a,b,us,vs,m,s,cD.of n,cD.of o,
  λz=>h.1 (Hd.mp (by rw[<-c.length,z];rfl)),by rw[c.length,f.length];exact h.2.1,
  λz=>k.at d (by rw[<-m];exact e) (by rw[<-Gv xs,<-Hd.mp (show ys.length=0 by rw[<-f.length,z];rfl)];exact h.2.2),
  λ_ p q=>laidT d k q (c.append f) h.2.2⟩))
 (λw v xs ys t u l r e g=>.inr (.inr (by
  obtain⟨a,us,m,n,c⟩:=nL d e t;obtain⟨b,vs,s,o,f⟩:=nL d g u;exact⟨a,b,us,vs,m,s,n,o,by rw[c.length,f.length];exact l,λp q=>iS d k q (c.append f) r⟩)))
def p9(C:Int->Int->Prop)(g:Int->Int->W):R3
 | .int i,.int j,M,R=>C i j/\R (g i j) M
 | _,_,_,_=>False
theorem Y2{C:Int->Int->Prop}{g:Int->Int->W}{P:W->W->Prop}(c:∀i j,C i j/\R (g i j) M->P (.int i) (.int j))(x y:W)(h:p9 C g x y M R):P x y:=by
 cases x<;>first|exact(show False from h).elim|(cases y<;>first|exact(show False from h).elim|exact c _ _ h)
theorem uV{f:Ae->Ae->Sem Ae}{C:Int->Int->Prop}{g:Int->Int->V}{g':Int->Int->W}(e:bC X f (rI C g))(a:∀H M i j,AV X.K H M (g i j) (g' i j)):bC X f (cM X.K (p9 C g')):=
 nK e λx y H Q M R c k=>Y2 λi j h d b=>⟨i,j,d.inv,b.inv,h.1,k.at c (a H M i j) h.2⟩
def nM(g:Int->Int->W):R3
 | .int i,.int j,M,R=>R (g i j) M
 | _,_,_,_=>False
theorem Y3{g:Int->Int->W}{P:W->W->Prop}(c:∀i j,R (g i j) M->P (.int i) (.int j))(x y:W)(h:nM g x y M R):P x y:=by
 cases x<;>first|exact(show False from h).elim|(cases y<;>first|exact(show False from h).elim|exact c _ _ h)
theorem qA{f:Ae->Ae->Sem Ae}{g:Int->Int->V}{g':Int->Int->W}(e:bC X f (kX g))(a:∀H M i j,AV X.K H M (g i j) (g' i j)):bC X f (cM X.K (nM g')):=
 nK e λx y H Q M R c k=>Y3 λi j h d b=>⟨i,j,d.inv,b.inv,k.at c (a H M i j) h⟩
abbrev nN:R3:=nM λi j=>.int (i-j)
theorem oJ:bC X (Dr .Sub) (cM X.K nN):=qA TN λ_ _ _ _=>.int _
abbrev kF:R3:=p9 JD λi j=>.int (i/j)
theorem lK:bC X (Dr .FloorDiv) (cM X.K kF):=uV XZ λ_ _ _ _=>.int _
abbrev iT:R3:=p9 (λ_ j=>0<j) λi j=>.int (i % j)
theorem i9:bC X (Dr .Mod) (cM X.K iT):=uV TR λ_ _ _ _=>.int _
abbrev lL:R3:=p9 rT λi j=>.int (i ^ j.toNat)
theorem mQ:bC X (Dr .Pow) (cM X.K lL):=uV TU λ_ _ _ _=>.int _
abbrev J7:R3:=p9 (λ_ j=>0<=j) λi j=>.int (i/2 ^ j.toNat)
theorem Y4:bC X (Dr .RShift) (cM X.K J7):=uV TV λ_ _ _ _=>.int _
abbrev J8:R3:=nM λi j=>.int (Builtin.bitAnd i j)
theorem Y5:bC X (Dr .BitAnd) (cM X.K J8):=qA TX λ_ _ _ _=>.int _
def J9:R3
 | .int i,.int j,M,R=>(pP i j\/uM i j)/\R (.int (i*j)) M
 | .ref a,.int n,M,R=>∃xs,M a=some (.lst xs)/\-(2 ^ 63)<=n/\n<2 ^ 63/\xs.length*n.toNat<=An/\aY (Bv n.toNat xs).flatten M R
 | .rl xs,.int n,M,R=>-(2 ^ 63)<=n/\n<2 ^ 63/\xs.length*n.toNat<=An/\aY (Bv n.toNat xs).flatten M R
 | _,_,_,_=>False
theorem Y6{P:W->W->Prop}(b:∀i j,(pP i j\/uM i j)/\R (.int (i*j)) M->P (.int i) (.int j))(a:∀x n xs,mP M x xs->-(2 ^ 63)<=n/\n<2 ^ 63/\xs.length*n.toNat<=An/\aY (Bv n.toNat xs).flatten M R->P x (.int n)):∀x y,J9 x y M R->P x y:=by
 intro x y h;cases x<;>first|exact(show False from h).elim|(cases y<;>first|exact(show False from h).elim|skip)
 case int.int=>exact b _ _ h
 case ref.int=>obtain⟨xs,e,h⟩:=h;exact a _ _ _ e h
 case rl.int=>exact a _ _ _ rfl h
theorem Y7:bC X (Dr .Mult) (cM X.K J9):=nK (TQ.or (XY.or WV)) λx y H Q M R c k=>Y6
 (λi j h d b=>h.1.elim (λz=>.inl ⟨i,j,d.inv,b.inv,z,k.at c (.int _) h.2⟩) λz=>.inr (.inl ⟨i,j,d.inv,b.inv,z,k.at c (.int _) h.2⟩))
 (λo n xs g h d b=>.inr (.inr (by
  obtain⟨a,us,l,f,e⟩:=nL c d g;exact⟨a,n,us,l,b.inv,f,h.1,h.2.1,by rw[e.length];exact h.2.2.1,λp m=>iS c k m (e.flatRep _) h.2.2.2⟩)))
def lN:W->Mm->K3->Prop
 | .int i,M,R=>R (.int (-i)) M
 | _,_,_=>False
theorem mR:rR X (unaryOp .USub) (J3 X.K lN):=by
 rintro pins s σ H x v Q I d ⟨a,M,R,b,c,h,k⟩;cases a<;>first|exact(show False from h).elim|skip
 case int i=>exact TZ pins s σ H _ v Q I d ⟨i,c.inv,k.at b (.int _) h⟩
def oK:R3:=nM λi j=>.bl (decide (i<j))
theorem qB:bC X (Co .Lt) (cM X.K oK):=qA T5 λ_ _ _ _=>.bl _
abbrev sD:R3:=nM λi j=>.bl (decide (i<=j))
theorem uW:bC X (Co .LtE) (cM X.K sD):=qA T6 λ_ _ _ _=>.bl _
abbrev KA:R3:=nM λi j=>.bl (decide (j<i))
theorem Y8:bC X (Co .Gt) (cM X.K KA):=qA T7 λ_ _ _ _=>.bl _
abbrev KC:R3:=nM λi j=>.bl (decide (j<=i))
theorem Y9:bC X (Co .GtE) (cM X.K KC):=qA T8 λ_ _ _ _=>.bl _
mutual
inductive Snap(M:Mm):W->Li->Prop
 | non:Snap M .non .none
 | bl (b:Bool):Snap M (.bl b) (.bool b)
 | int (i:Int):Snap M (.int i) (.int i)
 | str (x:Str):Snap M (.str x) (.str x)
 | tup {ws:List W} {ds:List Li}:jF M ws ds->Snap M (.tup ws) (.tuple ds)
 | rl {ws:List W} {ds:List Li}:jF M ws ds->Snap M (.rl ws) (.list ds)
 | ref {a:Addr} {ws:List W} {ds:List Li}:M a=some (.lst ws)->jF M ws ds->Snap M (.ref a) (.list ds)
inductive jF(M:Mm):List W->List Li->Prop
 | nil:jF M [] []
 | cons {w:W} {ws:List W} {d:Li} {ds:List Li}:Snap M w d->jF M ws ds->jF M (w::ws) (d::ds)
end
section
variable {pins:List (Addr×Obj)}{σ:SV}{H:Hp}{s:Ah}{M:Mm}
theorem jF.reads(I:Inv X pins σ H s)(G:AM X.K H M)(h:jF M ws p):∀{vs:List V} {us:List Ae},aN X.K H M vs ws->a7 vs us->∃c,ReadsAll s.heap us p c:=
 jF.rec (motive_1:=λw d _=>∀{v:V} {u:Ae},AV X.K H M v w->RelV v u->∃c,Reads s.heap u d c) (motive_2:=λws p _=>∀{vs:List V} {us:List Ae},aN X.K H M vs ws->a7 vs us->∃c,ReadsAll s.heap us p c)
  (λav r=>by rw[show _=_ from av.inv]at r;rw[show _=_ from r];exact⟨_,.none⟩)
  (λb _ _ av r=>by rw[show _=_ from av.inv]at r;rw[show _=_ from r];exact⟨_,.bool b⟩)
  (λi _ _ av r=>by rw[show _=_ from av.inv]at r;exact r.elim λt r=>by rw[r];exact⟨_,.int i t⟩)
  (λx _ _ av r=>by rw[show _=_ from av.inv]at r;exact r.elim λt r=>by rw[r];exact⟨_,.str x t⟩)
  (λ_ m _ _ av r=>av.tupE λa xs e f q=>by
   rw[e]at r;rw[show _=_ from r];obtain⟨its,j,⟨o,g,l,n,k⟩,_⟩:=I.tuple (cD.of f);exact(m q j).elim λc z=>⟨_,.tuple g l k (by simpa using z)⟩)
  (λ_ m _ _ av r=>av.rlE λa xs e f q=>by
   rw[e]at r;rw[show _=_ from r];obtain⟨its,j,pl,_⟩:=I.list (bO.of f);obtain⟨o,g,l,n,k⟩:=pl.isList;exact(m q j).elim λc z=>⟨_,.list g l k (by simpa using z)⟩)
  (λE _ m _ _ av r=>G.lstE E λvs f q=>by
   rw[show _=_ from av.inv]at r;rw[show _=_ from r];obtain⟨its,j,pl,_⟩:=I.list (bO.of f);obtain⟨o,g,l,n,k⟩:=pl.isList;exact(m q j).elim λc z=>⟨_,.list g l k (by simpa using z)⟩)
  (λav r=>by cases av;cases r;exact⟨_,.nil⟩)
  (λ_ _ B A _ _ av r=>by
   cases av with
   | cons a b=>
    cases r with
    | cons C F=>exact(B a C).elim λx D=>(A b F).elim λy J=>⟨_,.cons D J⟩) h
theorem Snap.reads(I:Inv X pins σ H s)(a:AM X.K H M){w:W}{d:Li}{v:V}{u:Ae}(h:Snap M w d)(av:AV X.K H M v w)(r:RelV v u):∃b,Reads s.heap u d b:=
 (jF.reads I a (.cons h .nil) (.cons av .nil) (.cons r .nil)).elim λ_ z=>by
  cases z with
  | cons q _=>exact⟨_,q⟩
end
def sE(neg:Bool):R3:=λx y M R=>∃a b,Snap M x a/\Snap M y b/\JQ a/\JQ b/\R (.bl (if neg then !PyData.eqv a b else Kk a b)) M
def rEq(neg:Bool):R3
 | .int i,.int j,M,R=>R (.bl (if neg then !decide (i=j) else decide (i=j))) M
 | .str i,.str j,M,R=>R (.bl (if neg then !decide (i=j) else decide (i=j))) M
 | .bl i,.bl j,M,R=>R (.bl (if neg then !decide (i=j) else decide (i=j))) M
 | x,y,M,R=>sE neg x y M R
theorem KD{i j:Int}:decide (V.int i=V.int j)=decide (i=j):=by rw[Dv];simp
theorem uX:decide (V.str i=V.str j)=decide (i=j):=by rw[Dv];simp
theorem KG{i j:Bool}:decide (V.bl i=V.bl j)=decide (i=j):=by rw[Dv];simp
theorem KH{n:Bool}{P:W->W->Prop}(b:∀i j,R (.bl (if n then !decide (i=j) else decide (i=j))) M->P (.int i) (.int j))(c:∀i j,R (.bl (if n then !decide (i=j) else decide (i=j))) M->P (.str i) (.str j))(d:∀i j,R (.bl (if n then !decide (i=j) else decide (i=j))) M->P (.bl i) (.bl j))(a:∀x y,sE n x y M R->P x y)(x y:W)(h:rEq n x y M R):P x y:=by
 cases x<;>first|exact a _ _ h|(cases y<;>first|exact b _ _ h|exact c _ _ h|exact d _ _ h|exact a _ _ h)
theorem sV(e:x=i)(f:y=j)(h:uB i j=true):uB x y=true:=by rw[e,f];exact h
theorem dV{i j:V}{x y:V}{b:Bool}{Q:Bool->Prop}(e:x=i)(f:y=j)(h:decide (i=j)=b)(q:Q b):Q (decide (x=y)):=by rw[e,f,h];exact q
theorem ZA(d:X.A.units+64<Eu):bC X (Co .Eq) (cM X.K (sE false)):=by
 rintro pins s σ H x y v u Q I i j ⟨p,m,M,R,a,f,e,⟨o,n,b,h,fa,c,q⟩,k⟩;obtain⟨l,g⟩:=b.reads I a f i;obtain⟨bs,rb⟩:=h.reads I a e j;exact SeqAt.compareEq_reads g rb fa.1 c.1 (Gj (Nf (Ay (Mf _ _) (Ay fa.2 (by decide))) _) d) ⟨.bl _,H,I,rfl,k.at a (.bl _) q⟩
theorem ZC(d:X.A.units+64<Eu):bC X (Co .NotEq) (cM X.K (sE true)):=by
 rintro pins s σ H x y v u Q I i j ⟨p,m,M,R,a,f,e,⟨o,n,b,h,fa,c,q⟩,k⟩;obtain⟨l,g⟩:=b.reads I a f i;obtain⟨bs,rb⟩:=h.reads I a e j;exact SeqAt.compareNe_reads g rb fa.1 c.1 (Gj (Nf (Ay (Mf _ _) (Ay fa.2 (by decide))) _) d) ⟨.bl _,H,I,rfl,k.at a (.bl _) q⟩
theorem jG(e:X.A.units+64<Eu):bC X (Co .Eq) (cM X.K (rEq false)):=nK (T2.or (ZA e)) λx y H Q M R d k=>KH
 (λi j h c a=>.inl ⟨sV c.inv a.inv rfl,dV (Q:=λb=>Q (.bl b) H) c.inv a.inv KD (k.at d (.bl _) h)⟩)
 (λi j h c a=>.inl ⟨sV c.inv a.inv rfl,dV (Q:=λb=>Q (.bl b) H) c.inv a.inv uX (k.at d (.bl _) h)⟩)
 (λi j h c a=>.inl ⟨sV c.inv a.inv rfl,dV (Q:=λb=>Q (.bl b) H) c.inv a.inv KG (k.at d (.bl _) h)⟩)
 (λg f h c a=>.inr ⟨g,f,M,R,d,c,a,h,k⟩)
theorem jW(e:X.A.units+64<Eu):bC X (Co .NotEq) (cM X.K (rEq true)):=nK (T4.or (ZC e)) λx y H Q M R d k=>KH
 (λi j h c a=>.inl ⟨sV c.inv a.inv rfl,dV (Q:=λb=>Q (.bl !b) H) c.inv a.inv KD (k.at d (.bl _) h)⟩)
 (λi j h c a=>.inl ⟨sV c.inv a.inv rfl,dV (Q:=λb=>Q (.bl !b) H) c.inv a.inv uX (k.at d (.bl _) h)⟩)
 (λi j h c a=>.inl ⟨sV c.inv a.inv rfl,dV (Q:=λb=>Q (.bl !b) H) c.inv a.inv KG (k.at d (.bl _) h)⟩)
 (λg f h c a=>.inr ⟨g,f,M,R,d,c,a,h,k⟩)
def wK:aF->W
 | .inl i=>.int i
 | .inr x=>.str x
def aX{κ:Type}[DecidableEq κ](kvs:List (κ×W))(k:κ):Option W:=(kvs.find? λa=>decide (a.1=k)).map (·.2)
def b9{κ:Type}[DecidableEq κ](kvs:List (κ×W))(k:κ)(v:W):List (κ×W):=
 if (kvs.any λa=>decide (a.1=k))=true then kvs.map (λa=>if a.1=k then(a.1,v) else a) else kvs++[(k,v)]
theorem AV.key{K:Ac}{H:Hp}{M:Mm}{v:V}{k:aF}(h:AV K H M v (wK k)):v=kV k:=by
 cases k<;>exact h.inv
theorem aN.keys{K:Ac}{H:Hp}{M:Mm}:∀{vs:List V} {k:List aF},aN K H M vs (k.map wK)->vs=k.map kV
 | _,[],h=>by cases h;rfl
 | _,a::r,h=>by
  cases h with
  | cons x y=>rw[x.key,aN.keys y];rfl
section
variable {κ:Type}[DecidableEq κ]{K:Ac}{H:Hp}{M:Mm}
theorem uY(h:bZ K H M κ ks kvs)(k:κ):(aX kvs k=none/\gH ks k=none)\/∃v w,aX kvs k=some w/\gH ks k=some v/\AV K H M v w:=by
 induction h with
 | nil=>exact .inl ⟨rfl,rfl⟩
 | @cons p q ps qs r t b=>
  by_cases e:p.1=k
  .refine .inr ⟨p.2,q.2,?_,?_,r.2⟩
   .unfold aX;rw[Du,decide_eq_true (by rw[<-r.1];exact e)];rfl
   .exact uH e
  .have a:¬q.1=k:=by rw[<-r.1];exact e
   have l:aX (q::qs) k=aX qs k:=by unfold aX;rw[Du,decide_eq_false a]
   rw[l,uI e];exact b
theorem ZD(h:bZ K H M κ ks kvs)(k:κ):(ks.any λa=>decide (a.1=k))=(kvs.any λa=>decide (a.1=k)):=by
 induction h with
 | nil=>rfl
 | cons r t b=>rw[Eo,Eo,b,r.1]
theorem ZE{ks:List (κ×V)}{kvs:List (κ×W)}{v:V}{w:W}{k:κ}(av:AV K H M v w)(h:bZ K H M κ ks kvs):bZ K H M κ (ks.map (λa=>if a.1=k then(a.1,v) else a)) (kvs.map (λa=>if a.1=k then(a.1,w) else a)):=by
 induction h with
 | nil=>exact .nil
 | @cons p q ps qs r t b=>
  rw[Aw,Aw];refine .cons ?_ b
  by_cases e:p.1=k
  .rw[if_pos e,if_pos (by rw[<-r.1];exact e)];exact⟨r.1,av⟩
  .rw[if_neg e,if_neg (by rw[<-r.1];exact e)];exact r
theorem ZF{ks:List (κ×V)}{kvs:List (κ×W)}{v:V}{w:W}{k:κ}(av:AV K H M v w)(h:bZ K H M κ ks kvs):bZ K H M κ (ks++[(k,v)]) (kvs++[(k,w)]):=by
 induction h with
 | nil=>exact .cons ⟨rfl,av⟩ .nil
 | cons r t a=>exact .cons r a
theorem uZ{ks:List (κ×V)}{kvs:List (κ×W)}{v:V}{w:W}(h:bZ K H M κ ks kvs)(k:κ)(av:AV K H M v w):bZ K H M κ (e8 ks k v) (b9 kvs k w):=by
 unfold e8 b9;rw[ZD h k];split
 .exact ZE av h
 .exact ZF av h
end
def fI(M:Mm):W->W->Option W->Prop
 | .ref a,y,o=>(∃kvs k,M a=some (.dK kvs)/\y=wK k/\o=aX kvs k)\/∃kvs k,M a=some (.dT kvs)/\y=.tup (k.map wK)/\o=aX kvs k
 | .dk kvs,y,o=>∃k,y=wK k/\o=aX kvs k
 | .dt kvs,y,o=>∃k,y=.tup (k.map wK)/\o=aX kvs k
 | .fk kvs,y,o=>∃k,y=wK k/\o=aX kvs k
 | .ft kvs,y,o=>∃k,y=.tup (k.map wK)/\o=aX kvs k
 | _,_,_=>False
theorem y8{K:Ac}{H:Hp}{M:Mm}{a:Addr}{y:V}{k:aF}{ks:List (aF×V)}{kvs:List (aF×W)}(d:Rd H a (.dK ks))(q:bZ K H M aF ks kvs)(e:AV K H M y (wK k)):(aX kvs k=none/\iN H a y none)\/∃v w,aX kvs k=some w/\iN H a y (some v)/\AV K H M v w:=by
 rw[e.key];rcases uY q k with⟨b,c⟩|⟨v,w,b,c,av⟩
 .exact .inl ⟨b,by rw[<-c];exact .inl ⟨_,_,d,rfl,rfl⟩⟩
 .exact .inr ⟨v,w,b,by rw[<-c];exact .inl ⟨_,_,d,rfl,rfl⟩,av⟩
theorem y9{K:Ac}{H:Hp}{M:Mm}{a:Addr}{y:V}{k:List aF}{ks:List (List aF×V)}{kvs:List (List aF×W)}(g:Rd H a (.dT ks))(q:bZ K H M (List aF) ks kvs)(h:AV K H M y (.tup (k.map wK))):(aX kvs k=none/\iN H a y none)\/∃v w,aX kvs k=some w/\iN H a y (some v)/\AV K H M v w:=
 h.tupE λb xs e f i=>by
  rw[i.keys]at f;rcases uY q k with⟨d,c⟩|⟨v,w,d,c,av⟩
  .exact .inl ⟨d,by rw[<-c];exact .inr ⟨_,_,_,g,e,f,rfl⟩⟩
  .exact .inr ⟨v,w,d,by rw[<-c];exact .inr ⟨_,_,_,g,e,f,rfl⟩,av⟩
theorem u0{K:Ac}{H:Hp}{M:Mm}{x y:V}{g i:W}{o:Option W}(j:AM K H M)(b:AV K H M x g)(c:AV K H M y i)(h:fI M g i o):∃a,x=.ref a/\((o=none/\iN H a y none)\/∃v w,o=some w/\iN H a y (some v)/\AV K H M v w):=by
 cases g<;>first|exact(show False from h).elim|skip
 case ref a=>
  rcases h with⟨kvs,k,e,rfl,rfl⟩|⟨kvs,k,e,rfl,rfl⟩
  .obtain⟨ks,d,q⟩:=j _ _ e;exact⟨a,b.inv,y8 (.inl d) q c⟩
  .obtain⟨ks,d,q⟩:=j _ _ e;exact⟨a,b.inv,y9 (.inl d) q c⟩
 all_goals
  obtain⟨k,rfl,rfl⟩:=h;have b:=b.inv
 case dk=>obtain⟨a,ks,e,f,_,q⟩:=b;exact⟨a,e,y8 (.inl f) q c⟩
 case dt=>obtain⟨a,ks,e,f,_,q⟩:=b;exact⟨a,e,y9 (.inl f) q c⟩
 case fk=>obtain⟨a,ks,e,f,q⟩:=b;exact⟨a,e,y8 (.inr f) q c⟩
 case ft=>obtain⟨a,ks,e,f,q⟩:=b;exact⟨a,e,y9 (.inr f) q c⟩
def aV:R3
 | .tup ws,.int i,M,R=>∃w,cA ws i=some w/\R w M
 | .rl ws,.int i,M,R=>∃w,cA ws i=some w/\R w M
 | .sc ws,.int i,M,R=>∃w,cA ws i=some w/\R w M
 | .dk kvs,y,M,R=>∃w,fI M (.dk kvs) y (some w)/\R w M
 | .dt kvs,y,M,R=>∃w,fI M (.dt kvs) y (some w)/\R w M
 | .fk kvs,y,M,R=>∃w,fI M (.fk kvs) y (some w)/\R w M
 | .ft kvs,y,M,R=>∃w,fI M (.ft kvs) y (some w)/\R w M
 | .str z,.int i,M,R=>z.length<=An/\∃c,cA z.cps.toList i=some c/\R (.str ⟨#[c]⟩) M
 | .ref a,.int i,M,R=>(∃ws w,M a=some (.lst ws)/\cA ws i=some w/\R w M)\/∃w,fI M (.ref a) (.int i) (some w)/\R w M
 | .ref a,y,M,R=>∃w,fI M (.ref a) y (some w)/\R w M
 | _,_,_,_=>False
theorem zA{K:Ac}{H:Hp}{M:Mm}{vs:List V}{ws:List W}{i:Int}{w:W}(q:aN K H M vs ws)(h:cA ws i=some w):∃v,cA vs i=some v/\AV K H M v w:=by
 unfold cA at h⊢;rw[q.length];cases e:i4 ws.length i with
 | none=>rw[e]at h;cases h
 | some j=>
  rw[e]at h;exact q.getW (i:=j) h
theorem ZG(e:X.A.units+1<Eu):jR X (λx y H Q=>∃a v,x=.ref a/\iN H a y (some v)/\Q v H):=by
 intro d b pins s σ H x y v u Q I j k h f;obtain⟨a,z,rfl,g,q⟩:=h;cases j;exact tail_any (W6 I g) PySem.F.slot_dict_getitem.lookup (WY e I g k λm l i c=>⟨z,H,i,c,q⟩) f
theorem ZH{P:W->W->Prop}(d:∀ws i w,cA ws i=some w->R w M->P (.tup ws) (.int i))(j:∀ws i w,cA ws i=some w->R w M->P (.sc ws) (.int i))(b:∀x ws i w,mP M x ws->cA ws i=some w->R w M->P x (.int i))(f:∀z i,z.length<=An/\(∃c,cA z.cps.toList i=some c/\R (.str ⟨#[c]⟩) M)->P (.str z) (.int i))(a:∀x y w,fI M x y (some w)->R w M->P x y)(x y:W)(h:aV x y M R):P x y:=by
 cases x
 case non|bl|int|ty=>exact(show False from h).elim
 case dk|dt|fk|ft=>exact h.elim λw h=>a _ _ _ h.1 h.2
 all_goals cases y<;>first|exact(show False from h).elim|skip
 case tup.int=>obtain⟨w,e,r⟩:=h;exact d _ _ _ e r
 case sc.int=>obtain⟨w,e,r⟩:=h;exact j _ _ _ e r
 case rl.int=>obtain⟨w,e,r⟩:=h;exact b _ _ _ _ rfl e r
 case str.int=>exact f _ _ h
 case ref.int=>exact h.elim (λ⟨ws,w,e,g,r⟩=>b _ _ _ _ e g r) λ⟨w,e,r⟩=>a _ _ _ e r
 all_goals obtain⟨w,e,r⟩:=h;exact a _ _ _ e r
theorem ZI(l:X.A.units+1<Eu):jR X (cM X.K aV):=Y0 (V1.or (V2.or (V3.or (ZG l)))) λx y H Q M R j k=>ZH
 (λws i w h r d b=>d.tupE λa xs e f q=>let ⟨z,e3,av⟩:=zA q h;.inr (.inl ⟨a,xs,i,z,e,b.inv,cD.of f,e3,k.at j av r⟩))
 (λws i w h r d b=>d.scE λa xs e f q=>let ⟨z,e3,av⟩:=zA q h;.inl ⟨a,xs,i,z,e,b.inv,f.sq,e3,k.at j av r⟩)
 (λo ws i w m h r d b=>let ⟨a,xs,e,f,q⟩:=nL j d m;let ⟨z,e3,av⟩:=zA q h;.inl ⟨a,xs,i,z,e,b.inv,bO.of f,e3,k.at j av r⟩)
 (λz i h d b=>let ⟨c,e,r⟩:=h.2;.inr (.inr (.inl ⟨z,i,c,d.inv,b.inv,h.1,e,k.at j (.str _) r⟩)))
 (λo p w g r d b=>.inr (.inr (.inr (by
  obtain⟨a,e,g⟩:=u0 j d b g;rcases g with⟨z,_⟩|⟨z,s,n,g',av⟩
  .cases z
  .exact⟨a,z,e,g',k.at j av (by rw[<-Ci n];exact r)⟩))))
variable {a b:Expr}{ta tb:aZ}{pos:Pos}
theorem aW(d:X.A.units+1<Eu)(c:E3 X a ta)(f:E3 X b tb)(e:IL b:=by exact λ_ _=>rfl):E3 X (.Subscript a b pos) (aD aV ta tb):=(VX (ZI d) c f e).weak λ_ _ _ h=>uR h
def eX(ws:List W)(lo hi:Option Int):List W:=(ws.drop (HT.sIx ws.length 0 lo)).take (HT.sIx ws.length ws.length hi-HT.sIx ws.length 0 lo)
def KI:W->Option Int->Option Int->Mm->K3->Prop
 | .rl ws,lo,hi,M,R=>aY (eX ws lo hi) M R
 | .sc ws,lo,hi,M,R=>aY (eX ws lo hi) M R
 | .ref a,lo,hi,M,R=>∃ws,M a=some (.lst ws)/\aY (eX ws lo hi) M R
 | .tup ws,lo,hi,M,R=>¬(HT.sIx ws.length 0 lo=0/\HT.sIx ws.length ws.length hi=ws.length)/\R (.tup (eX ws lo hi)) M
 | _,_,_,_,_=>False
theorem u3{K:Ac}{H:Hp}{M:Mm}{vs:List V}{ws:List W}{lo hi:Option Int}(q:aN K H M vs ws):aN K H M (nH vs lo hi) (eX ws lo hi):=by
 unfold nH eX;rw[q.length];exact(q.drop _).take _
def ZJ(K:Ac)(r:W->Option Int->Option Int->Mm->K3->Prop):V->Option Int->Option Int->Hp->VK->Prop:=λx lo hi H Q=>∃a M R,AM K H M/\AV K H M x a/\r a lo hi M R/\Up K H M R Q
theorem ZK:uE X (ZJ X.K KI):=by
 rintro pins s σ H x v d j lo hi sl Q I l g pl m ⟨n,M,R,c,i,h,k⟩;cases n<;>first|exact(show False from h).elim|skip
 case tup ws=>exact i.tupE λa xs e f q=>VT pins s σ H _ v d j lo hi sl Q I l g pl m ⟨a,xs,e,cD.of f,by rw[q.length];exact h.1,λp b=>laidT c k b (u3 q) h.2⟩
 case sc ws=>exact i.scE λa xs e f q=>yE pins s σ H _ v d j lo hi sl Q I l g pl m ⟨a,xs,e,f.sq,λp b=>iS c k b (u3 q) h⟩
 case rl ws=>exact i.rlE λa xs e f q=>yE pins s σ H _ v d j lo hi sl Q I l g pl m ⟨a,xs,e,bO.of f,λp b=>iS c k b (u3 q) h⟩
 case ref a=>
  obtain⟨ws,e,r⟩:=h;exact c.lstE e λvs f q=>yE pins s σ H _ v d j lo hi sl Q I l g pl m ⟨a,vs,i.inv,bO.of f,λp b=>iS c k b (u3 q) r⟩
abbrev qC:=S3->Mm->(Option Int->Mm->Prop)->Prop
def qD(K:Ac)(t:qC):TO:=λσ H Q=>∃(a:S3) (M:Mm) (R:Option Int->Mm->Prop),AS K H M σ a/\AM K H M/\t a M R/\∀o H' M',Kp H M H' M'->AM K H' M'->R o M'->Q o H'
theorem qD.el{K:Ac}{H:Hp}{σ:SV}{C:Prop}{t:qC}{Q:Option Int->Hp->Prop}(h:qD K t σ H Q)(c:∀d M R,AS K H M σ d->AM K H M->t d M R->(∀o H' M',Kp H M H' M'->AM K H' M'->R o M'->Q o H')->C):C:=by obtain⟨d,M,R,a,b,h,k⟩:=h;exact c d M R a b h k
def zB:qC:=λ_ M Q=>Q none M
def qE(t:aZ):qC:=λa M Q=>t a M λx M1=>∃i,x=.int i/\Q (some i) M1
theorem ZL:PO X none (qD X.K zB):=VO.weak λσ H Q z0=>z0.el λc M R b a h k=>k none H M (Kp.refl a) a h
theorem sF(h:E3 X a ta):PO X (some a) (qD X.K (qE ta)):=(VP h).weak λσ H Q z0=>z0.el λl M R c g h k=>⟨l,M,_,c,g,h,λx H1 m M1 f b j ⟨i,e,d⟩=>by
 subst e;exact⟨i,j.inv,k _ _ _ f b d⟩⟩
def fQ:W->Bool
 | .non=>true
 | .bl _=>true
 | .int _=>true
 | .str _=>true
 | _=>false
def zC:W->W->Bool
 | .non,.non=>true
 | .bl a,.bl b=>a==b
 | .bl a,.int b=>(if a then 1 else 0)==b
 | .int a,.bl b=>a==(if b then 1 else 0)
 | .int a,.int b=>a==b
 | .str a,.str b=>a==b
 | _,_=>false
def inW(x:W)(ws:List W):Bool:=ws.any λy=>zC y x
theorem AV.flat{K:Ac}{H:Hp}{M:Mm}{v:V}{w:W}(h:AV K H M v w)(f:fQ w=true):kZ v=true:=by cases h<;>first|rfl|exact f
def zD:W->V
 | .non=>.non
 | .bl b=>.bl b
 | .int i=>.int i
 | .str x=>.str x
 | _=>.non
theorem AV.flv{K:Ac}{H:Hp}{M:Mm}{v:V}{w:W}(h:AV K H M v w)(f:fQ w=true):v=zD w:=by
 cases w<;>first|exact h.inv|exact absurd f Ao
theorem ZM:∀{w z:W},fQ w=true->fQ z=true->k7 (zD w) (zD z)=zC w z:=by
 intro w z f g;cases w<;>first|exact absurd f Ao|(cases z<;>first|rfl|exact absurd g Ao)
theorem AV.eq{K:Ac}{H:Hp}{M:Mm}{v u:V}{w z:W}(h:AV K H M v w)(b:AV K H M u z)(f:fQ w=true)(a:fQ z=true):k7 v u=zC w z:=by
 rw[h.flv f,b.flv a];exact ZM f a
theorem aN.inn{K:Ac}{H:Hp}{M:Mm}{u:V}{z:W}(hz:AV K H M u z)(b:fQ z=true):∀{vs:List V} {ws:List W},aN K H M vs ws->ws.all fQ=true->vs.all kZ=true/\inV u vs=inW z ws
 | _,_,.nil,_=>⟨rfl,rfl⟩
 | _,_,.cons x r,f=>by
  rw[Iq,Cq]at f;obtain⟨c,a⟩:=aN.inn hz b r f.2;refine⟨by rw[Iq,x.flat f.1,c];rfl,?_⟩;unfold inV inW at a⊢;rw[Eo,Eo,a,x.eq hz f.1 b]
def occ(i j:Str):Bool:=!(Ic j i 0 j.length 1).isEmpty
def rIn(neg:Bool):R3
 | .str i,.str j,M,R=>R (.bl (if neg then !occ i j else occ i j)) M
 | x,.tup ws,M,R=>fQ x=true/\ws.all fQ=true/\R (.bl (if neg then !inW x ws else inW x ws)) M
 | x,.rl ws,M,R=>fQ x=true/\ws.all fQ=true/\R (.bl (if neg then !inW x ws else inW x ws)) M
 | x,.ref a,M,R=>(∃ws,M a=some (.lst ws)/\fQ x=true/\ws.all fQ=true/\R (.bl (if neg then !inW x ws else inW x ws)) M)\/∃o,fI M (.ref a) x o/\R (.bl (if neg then !o.isSome else o.isSome)) M
 | x,.dk kvs,M,R=>∃o,fI M (.dk kvs) x o/\R (.bl (if neg then !o.isSome else o.isSome)) M
 | x,.dt kvs,M,R=>∃o,fI M (.dt kvs) x o/\R (.bl (if neg then !o.isSome else o.isSome)) M
 | x,.fk kvs,M,R=>∃o,fI M (.fk kvs) x o/\R (.bl (if neg then !o.isSome else o.isSome)) M
 | x,.ft kvs,M,R=>∃o,fI M (.ft kvs) x o/\R (.bl (if neg then !o.isSome else o.isSome)) M
 | _,_,_,_=>False
def KJ(M:Mm):W->List W->Prop
 | .tup ws,a=>ws=a
 | x,ws=>mP M x ws
theorem KL{K:Ac}{H:Hp}{M:Mm}{v:V}{w:W}{ws:List W}(c:AM K H M)(h:AV K H M v w)(e:KJ M w ws):∃a xs,v=.ref a/\(bO K H a xs\/cD K H a xs)/\aN K H M xs ws:=by
 cases w
 case tup zs=>exact h.tupE λa xs b f q=>⟨_,_,b,.inr (cD.of f),by rw[<-show zs=ws from e];exact q⟩
 case ref|rl=>obtain⟨a,xs,b,f,q⟩:=nL c h e;exact⟨a,xs,b,.inl (bO.of f),q⟩
 all_goals exact(show False from e).elim
theorem KN{n:Bool}{P:W->W->Prop}(d:∀i j,R (.bl (if n then !occ i j else occ i j)) M->P (.str i) (.str j))(c:∀x y ws,KJ M y ws->fQ x=true/\ws.all fQ=true/\R (.bl (if n then !inW x ws else inW x ws)) M->P x y)(b:∀x y o,fI M y x o->R (.bl (if n then !o.isSome else o.isSome)) M->P x y)(x y:W)(h:rIn n x y M R):P x y:=by
 cases y
 case non|bl|int|ty|sc=>exfalso;cases x<;>exact h
 case str=>cases x<;>first|exact(show False from h).elim|exact d _ _ h
 case tup=>exact c _ _ _ rfl (by cases x<;>exact h)
 case rl=>exact c _ _ _ rfl (by cases x<;>exact h)
 case ref a=>
  have h:(∃ws,M a=some (.lst ws)/\fQ x=true/\ws.all fQ=true/\R (.bl (if n then !inW x ws else inW x ws)) M)\/∃o,fI M (.ref a) x o/\R (.bl (if n then !o.isSome else o.isSome)) M:=by cases x<;>exact h
  exact h.elim (λ⟨ws,e,h⟩=>c _ _ _ e h) λ⟨o,g,r⟩=>b _ _ _ g r
 case dk kvs=>have h:∃o,fI M (.dk kvs) x o/\R (.bl (if n then !o.isSome else o.isSome)) M:=(by cases x<;>exact h);exact h.elim λo h=>b _ _ _ h.1 h.2
 case dt kvs=>have h:∃o,fI M (.dt kvs) x o/\R (.bl (if n then !o.isSome else o.isSome)) M:=(by cases x<;>exact h);exact h.elim λo h=>b _ _ _ h.1 h.2
 case fk kvs=>have h:∃o,fI M (.fk kvs) x o/\R (.bl (if n then !o.isSome else o.isSome)) M:=(by cases x<;>exact h);exact h.elim λo h=>b _ _ _ h.1 h.2
 case ft kvs=>have h:∃o,fI M (.ft kvs) x o/\R (.bl (if n then !o.isSome else o.isSome)) M:=(by cases x<;>exact h);exact h.elim λo h=>b _ _ _ h.1 h.2
def KO(n:Bool):R2:=λx y H Q=>∃a o,y=.ref a/\iN H a x o/\Q (.bl (if n then !o.isSome else o.isSome)) H
theorem ZN(b:X.A.units+1<Eu):bC X (Co .In) (KO false):=by
 rintro pins s σ H x y v u Q I d e ⟨a,o,rfl,g,q⟩;cases e;exact WZ b I g d λf c=>⟨.bl _,H,c,rfl,q⟩
theorem ZO(b:X.A.units+1<Eu):bC X (Co .NotIn) (KO true):=by
 rintro pins s σ H x y v u Q I d e ⟨a,o,rfl,g,q⟩;cases e;exact W0 b I g d λf c=>⟨.bl _,H,c,rfl,q⟩
theorem KP{K:Ac}{H:Hp}{M:Mm}{x y:V}{c b:W}{o:Option W}(i:AM K H M)(j:AV K H M x c)(f:AV K H M y b)(h:fI M c b o):∃a d,x=.ref a/\iN H a y d/\d.isSome=o.isSome:=by
 obtain⟨a,e,⟨rfl,g⟩|⟨v,w,rfl,g,_⟩⟩:=u0 i j f h
 .exact⟨a,_,e,g,rfl⟩
 .exact⟨a,_,e,g,rfl⟩
theorem iU(l:X.A.units+1<Eu):bC X (Co .In) (cM X.K (rIn false)):=nK (T9.or (WB.or (ZN l))) λx y H Q M R d k=>KN
 (λi j h b c=>.inl ⟨i,j,b.inv,c.inv,k.at d (.bl _) h⟩)
 (λn m ws e h b c=>let ⟨a,xs,e1,f,q⟩:=KL d c e;.inr (.inl ⟨a,xs,e1,f,b.flat h.1,(aN.inn b h.1 q h.2.1).1,by rw[(aN.inn b h.1 q h.2.1).2];exact k.at d (.bl _) h.2.2⟩))
 (λn m o g r b c=>let ⟨a,o',e,g,z⟩:=KP d c b g;.inr (.inr ⟨a,o',e,g,by rw[z];exact k.at d (.bl _) r⟩))
theorem iB(l:X.A.units+1<Eu):bC X (Co .NotIn) (cM X.K (rIn true)):=nK (UA.or (WC.or (ZO l))) λx y H Q M R d k=>KN
 (λi j h b c=>.inl ⟨i,j,b.inv,c.inv,k.at d (.bl _) h⟩)
 (λn m ws e h b c=>let ⟨a,xs,e1,f,q⟩:=KL d c e;.inr (.inl ⟨a,xs,e1,f,b.flat h.1,(aN.inn b h.1 q h.2.1).1,by rw[(aN.inn b h.1 q h.2.1).2];exact k.at d (.bl _) h.2.2⟩))
 (λn m o g r b c=>let ⟨a,o',e,g,z⟩:=KP d c b g;.inr (.inr ⟨a,o',e,g,by rw[z];exact k.at d (.bl _) r⟩))
def dP:List W->Mm->K3->Prop
 | [.tup ws],M,R=>R (.int ws.length) M
 | [.rl ws],M,R=>R (.int ws.length) M
 | [.sc ws],M,R=>R (.int ws.length) M
 | [.dk kvs],M,R=>R (.int kvs.length) M
 | [.str z],M,R=>z.length<=An/\R (.int z.length) M
 | [.ref a],M,R=>(∃ws,M a=some (.lst ws)/\R (.int ws.length) M)\/∃kvs,M a=some (.dK kvs)/\R (.int kvs.length) M
 | _,_,_=>False
theorem ZP{P:List W->Prop}(c:∀ws,R (.int ws.length) M->P [.tup ws])(i:∀ws,R (.int ws.length) M->P [.sc ws])(b:∀x ws,mP M x ws->R (.int ws.length) M->P [x])(f:∀z,z.length<=An/\R (.int z.length) M->P [.str z])(g:∀kvs,R (.int kvs.length) M->P [.dk kvs])(d:∀a kvs,M a=some (.dK kvs)->R (.int kvs.length) M->P [.ref a])(l:List W)(h:dP l M R):P l:=by
 match l,h with
 | [.tup _],h=>exact c _ h
 | [.rl _],h=>exact b _ _ rfl h
 | [.sc _],h=>exact i _ h
 | [.dk _],h=>exact g _ h
 | [.str _],h=>exact f _ h
 | [.ref _],h=>exact h.elim (λ⟨ws,e,r⟩=>b _ _ e r) λ⟨ws,e,r⟩=>d _ _ e r
theorem eC:c0 X (.builtin "len") (fT X.K dP):=y6 (WD.or (WE.or XM)) λxs H Q M R d k=>ZP
 (λws h c=>c.oneE λv b av=>av.tupE λa us e f q=>.inl ⟨_,_,i7 b e,.inr (cD.of f),by rw[q.length];exact k.at d (.int _) h⟩)
 (λws h c=>c.oneE λv b av=>av.scE λa us e f q=>.inl ⟨_,_,i7 b e,.inl f.sq,by rw[q.length];exact k.at d (.int _) h⟩)
 (λx ws g h c=>c.oneE λv b av=>let ⟨a,us,e,f,q⟩:=nL d av g;.inl ⟨_,_,i7 b e,.inl (bO.of f),by rw[q.length];exact k.at d (.int _) h⟩)
 (λz h c=>c.oneE λv b av=>.inr (.inl ⟨z,i7 b av.inv,h.1,k.at d (.int _) h.2⟩))
 (λkvs h c=>c.oneE λv b av=>let ⟨a,ks,e,f,_,q⟩:=av.inv;.inr (.inr ⟨a,ks,i7 b e,f,by rw[Cw q];exact k.at d (.int _) h⟩))
 (λa kvs g h c=>c.oneE λv b av=>let ⟨ks,f,q⟩:=d _ _ g;.inr (.inr ⟨a,ks,i7 b av.inv,f,by rw[Cw q];exact k.at d (.int _) h⟩))
def u5:List W->Mm->K3->Prop
 | [.tup ws],M,R=>aY ws M R
 | [.rl ws],M,R=>aY ws M R
 | [.sc ws],M,R=>aY ws M R
 | [.dk kvs],M,R=>aY (kvs.map λb=>wK b.1) M R
 | [.ref a],M,R=>(∃ws,M a=some (.lst ws)/\aY ws M R)\/∃kvs,M a=some (.dK kvs)/\aY (kvs.map λb=>wK b.1) M R
 | _,_,_=>False
theorem KQ{K:Ac}{H:Hp}{M:Mm}{ks:List (aF×V)}{kvs:List (aF×W)}(h:bZ K H M aF ks kvs):aN K H M (ks.map λa=>kV a.1) (kvs.map λa=>wK a.1):=by
 induction h with
 | nil=>exact .nil
 | @cons p q ps qs r t b=>
  refine .cons ?_ b;show AV K H M (kV p.1) (wK q.1);rw[r.1];cases q.1 with
  | inl i=>exact .int i
  | inr x=>exact .str x
theorem ZQ{P:List W->Prop}(d:∀ws,aY ws M R->P [.tup ws])(i:∀ws,aY ws M R->P [.sc ws])(c:∀x ws,mP M x ws->aY ws M R->P [x])(g:∀kvs:List (aF×W),aY (kvs.map λb=>wK b.1) M R->P [.dk kvs])(f:∀a kvs,M a=some (.dK kvs)->aY (kvs.map λb=>wK b.1) M R->P [.ref a])(l:List W)(h:u5 l M R):P l:=by
 match l,h with
 | [.tup _],h=>exact d _ h
 | [.rl _],h=>exact c _ _ rfl h
 | [.sc _],h=>exact i _ h
 | [.dk _],h=>exact g _ h
 | [.ref _],h=>exact h.elim (λ⟨ws,e,r⟩=>c _ _ e r) λ⟨ws,e,r⟩=>f _ _ e r
theorem zE(hc:X.calm=true):c0 X (.type "list") (fT X.K u5):=y6 (WG.or (YB hc)) λxs H Q M R g k=>ZQ
 (λws h d=>d.oneE λv b av=>av.tupE λa us e f q=>.inl ⟨_,_,i7 b e,.inr (cD.of f),λp c=>iS g k c q h⟩)
 (λws h d=>d.oneE λv b av=>av.scE λa us e f q=>.inl ⟨_,_,i7 b e,.inl f.sq,λp c=>iS g k c q h⟩)
 (λx ws i h d=>d.oneE λv b av=>let ⟨a,us,e,f,q⟩:=nL g av i;.inl ⟨_,_,i7 b e,.inl (bO.of f),λp c=>iS g k c q h⟩)
 (λkvs h d=>d.oneE λv b av=>let ⟨a,ks,e,f,_,q⟩:=av.inv;.inr ⟨a,ks,i7 b e,f,λp c=>iS g k c (KQ q) h⟩)
 (λa kvs i h d=>d.oneE λv b av=>let ⟨ks,f,q⟩:=g _ _ i;.inr ⟨a,ks,i7 b av.inv,f,λp c=>iS g k c (KQ q) h⟩)
def u6:List W->Mm->K3->Prop
 | [.tup ws],M,R=>R (.tup ws) M
 | [.rl ws],M,R=>R (.tup ws) M
 | [.ref a],M,R=>∃ws,M a=some (.lst ws)/\R (.tup ws) M
 | _,_,_=>False
theorem ZR{P:List W->Prop}(b:∀ws,R (.tup ws) M->P [.tup ws])(a:∀x ws,mP M x ws->R (.tup ws) M->P [x])(l:List W)(h:u6 l M R):P l:=by
 match l,h with
 | [.tup _],h=>exact b _ h
 | [.rl _],h=>exact a _ _ rfl h
 | [.ref _],h=>exact h.elim λws h=>a _ _ h.1 h.2
theorem KR:c0 X (.type "tuple") (fT X.K u6):=y6 WH λxs H Q M R c k=>ZR
 (λws h d=>d.oneE λv b av=>av.tupE λa us e f q=>⟨_,_,i7 b e,.inr ⟨cD.of f,k.at c (by rw[<-e];exact av) h⟩⟩)
 (λx ws i h d=>d.oneE λv b av=>let ⟨a,us,e,f,q⟩:=nL c av i;⟨_,_,i7 b e,.inl ⟨bO.of f,λp g=>laidT c k g q h⟩⟩)
def zF:List W->Mm->K3->Prop
 | [.int i],M,R=>i.natAbs.log2<1920/\R (.str (toString i)) M
 | _,_,_=>False
theorem KS:c0 X (.type "str") (fT X.K zF):=by
 rintro pins s σ H xs us Q I rs ⟨ws,M,R,b,a,h,k⟩
 match ws,h with
 | [.int i],h=>
  obtain⟨v,rfl,av⟩:=a.one;cases av;exact UJ pins s σ H _ us Q I rs ⟨i,rfl,h.1,k.at b (.str _) h.2⟩
def bools(bs:List Bool):List W:=bs.map W.bl
theorem aN.bools{K:Ac}{H:Hp}{M:Mm}:∀{bs:List Bool} {vs:List V},aN K H M vs (L3.bools bs)->vs=bs.map V.bl
 | [],_,h=>by cases h;rfl
 | b::r,_,h=>by
  cases h with
  | cons x y=>cases x;rw[aN.bools y];rfl
def zG:List W->Mm->K3->Prop
 | [.ref a],M,R=>∃bs,M a=some (.lst (bools bs))/\R (.bl (bs.all id)) M
 | [.rl ws],M,R=>∃bs,ws=bools bs/\R (.bl (bs.all id)) M
 | _,_,_=>False
theorem KU(hc:X.calm=true):c0 X (.builtin "all") (fT X.K zG):=by
 rintro pins s σ H xs us Q I rs ⟨ws,M,R,c,b,h,k⟩
 match ws,h with
 | [.ref a],h=>
  obtain⟨v,rfl,av⟩:=b.one;cases av;obtain⟨bs,e,r⟩:=h;obtain⟨vs,f,q⟩:=c.lst e;rw[q.bools]at f;exact JE hc pins s σ H _ us Q I rs ⟨a,bs,rfl,bO.of f,k.at c (.bl _) r⟩
 | [.rl ws],h=>
  obtain⟨v,rfl,av⟩:=b.one;obtain⟨bs,rfl,r⟩:=h;cases av with
  | rl f _ q=>
   rw[q.bools]at f;exact JE hc pins s σ H _ us Q I rs ⟨_,bs,rfl,bO.of f,k.at c (.bl _) r⟩
def fU:W->List W->Mm->K3->Prop
 | .ref l,[y],M,R=>∃ws,M l=some (.lst ws)/\ws.length<An/\R .non (put M l (.lst (ws++[y])))
 | _,_,_,_=>False
theorem jH:f9 X "list.append" (kB X.K fU):=by
 rintro pins s σ H x xs v us Q I i rs ⟨d,ws,M,R,b,g,a,h,k⟩
 match d,ws,h with
 | .ref l,[y],h=>
  obtain⟨z,rfl,c⟩:=a.one;cases g;obtain⟨ws,e,hl,r⟩:=h;obtain⟨vs,f,q⟩:=b.lst e;exact IQ pins s σ H _ _ v us Q I i rs ⟨l,vs,z,rfl,rfl,f,by rw[q.length];exact hl,uS b k e (q.append (.cons c .nil)) .non r⟩
def rPop:W->List W->Mm->K3->Prop
 | .ref l,[],M,R=>∃ws w,M l=some (.lst (ws++[w]))/\R w (put M l (.lst ws))
 | _,_,_,_=>False
theorem zH:f9 X "list.pop" (kB X.K rPop):=by
 rintro pins s σ H x xs v us Q I j rs ⟨d,ws,M,R,b,g,a,h,k⟩
 match d,ws,h with
 | .ref l,[],h=>
  cases a;cases g;obtain⟨ws,w,e,r⟩:=h;obtain⟨vs,f,q⟩:=b.lst e;have hl:=q.length;rw[Ak,Bp]at hl;obtain⟨z,hz,c⟩:=q.getW (i:=ws.length) (w:=w) (by simp);refine WO pins s σ H _ _ v us Q I j rs ⟨l,vs,z,rfl,rfl,f,by rw[hl];exact hz,uS b k e ?_ c r⟩;have:=q.dropLast;rw[List.dropLast_concat]at this;exact this
def u7:aZ:=λ_ M R=>lE [] M R
def oM:aZ:=λ_ M R=>kA [] M R
theorem zI:E3 X (.Dict [] [] pos) u7:=XA.weak λσ H Q ⟨f,M,R,e,c,h,k⟩ p b=>by
 obtain⟨a,d⟩:=c.laid (o:=.dK []) (u:=.dK []) b ⟨[],cU,.nil⟩;exact k _ _ _ _ d a (.ref p) (h p (c.nonM b))
theorem qF:E3 X (.Dict [] [] pos) oM:=XB.weak λσ H Q ⟨f,M,R,e,c,h,k⟩ p b=>by
 obtain⟨a,d⟩:=c.laid (o:=.dT []) (u:=.dT []) b ⟨[],cU,.nil⟩;exact k _ _ _ _ d a (.ref p) (h p (c.nonM b))
end
abbrev P3(X:Cx)(st:Stmt)(t:aH):Prop:=PS X st (r9 X.K t)
abbrev lO(X:Cx)(st:List Stmt)(t:aH):Prop:=gE X st (r9 X.K t)
abbrev fJ:=W->S3->Mm->(S3->Mm->Prop)->Prop
abbrev nO:=List W->S3->Mm->(S3->Mm->Prop)->Prop
def gS(K:Ac)(g:fJ):TG:=λv b H Q=>∃w a M R,AV K H M v w/\AS K H M b a/\AM K H M/\g w a M R/\i6 K H M R Q
def qG(K:Ac)(g:nO):j7:=λvs b H Q=>∃ws a M R,aN K H M vs ws/\AS K H M b a/\AM K H M/\g ws a M R/\i6 K H M R Q
theorem gS.el{K:Ac}{H:Hp}{f:SV}{C:Prop}{t:fJ}{v:V}{Q:SV->Hp->Prop}(h:gS K t v f H Q)(c:∀w e M R,AV K H M v w->AS K H M f e->AM K H M->t w e M R->i6 K H M R Q->C):C:=by obtain⟨w,e,M,R,a,b,d,h,k⟩:=h;exact c w e M R a b d h k
theorem qG.el{K:Ac}{H:Hp}{f:SV}{C:Prop}{t:nO}{v:List V}{Q:SV->Hp->Prop}(h:qG K t v f H Q)(c:∀w e M R,aN K H M v w->AS K H M f e->AM K H M->t w e M R->i6 K H M R Q->C):C:=by obtain⟨w,e,M,R,a,b,d,h,k⟩:=h;exact c w e M R a b d h k
section
variable {X:Cx}{pos:Pos}
theorem _root_.L2.PG.weak(h:PG X e t)(k:∀v a H Q,t' v a H Q->t v a H Q):PG X e t':=λb s a H v u Q I r q=>h b s a H v u Q I r (k v a H Q q)
theorem _root_.L2.jQ.weak(h:jQ X e t)(k:∀v a H Q,t' v a H Q->t v a H Q):jQ X e t':=λb s a H v u Q I r q=>h b s a H v u Q I r (k v a H Q q)
theorem i6.at{K:Ac}{H:Hp}{M:Mm}{R:S3->Mm->Prop}{Q:SV->Hp->Prop}(h:i6 K H M R Q)(c:AM K H M){a:SV}{b:S3}(d:AS K H M a b)(r:R b M):Q a H:=h a H b M (Kp.refl c) c d r
def bB(i:Nat):fJ:=λw a M R=>R (a.set i (some w)) M
theorem KW{i:Nat}(a:X.N.Nodup)(hi:X.N[i]? = some x)(b:Loc X.env.scope x)(hf:X.fn x=true\/X.env.scope.names.lookup x=some .local:=by first|exact .inl rfl|exact .inr rfl|assumption):PG X (.Name x pos) (gS X.K (bB i)):=
 (SD a hi b hf).weak λv e H Q z0=>z0.el λw f M R av d c h k=>k.at c (d.set av i) h
def iC:nO:=λws a M R=>ws=[]/\R a M
def dD(t:fJ)(u:nO):nO:=λws b M R=>match ws with
 | w::r=>t w b M λa c=>u r a c R
 | []=>False
theorem jA:jQ X [] (qG X.K iC):=SG.weak λvs c H Q z=>z.el λws d M R av b a h k=>⟨aN.nil_ (by rw[<-h.1];exact av),k.at a b h.2⟩
theorem dW{e:Expr}{es:List Expr}{t:fJ}{u:nO}(i:PG X e (gS X.K t))(j:jQ X es (qG X.K u))(l:(Gs (e::es) X.env).map (·.2)=Ma e X.env::(Gs es X.env).map (·.2):=by rfl):jQ X (e::es) (qG X.K (dD t u)):=
 (SH i j l).weak λvs p H Q z0=>z0.el λws g M R av n d h k=>by
  cases av with
  | nil=>exact(show False from h).elim
  | cons x r=>exact⟨_,_,rfl,_,g,M,_,x,n,d,h,λo q c m f a b h'=>⟨_,c,m,R,r.kp d f,b,a,h',k.kp f⟩⟩
def iD(n:Nat)(g:nO):fJ:=λw b M R=>match w with
 | .tup ws=>ws.length=n/\g ws b M R
 | .rl ws=>ws.length=n/\g ws b M R
 | .ref a=>∃ws,M a=some (.lst ws)/\ws.length=n/\g ws b M R
 | _=>False
theorem jB{k:Nat}{n:Nat}(hc:X.calm=true)(h:jQ X es (qG X.K t))(m:(Gs es X.env).length=n:=by rfl)(c:(Gs es X.env).findIdx? (·.1)=none:=by rfl):PG X (.Tuple es k pos) (gS X.K (iD n t)):=by
 rintro b s g H v u Q I r ⟨w,i,M,R,av,l,d,hw,j⟩;cases w<;>first|exact(show False from hw).elim|skip
 case tup ws=>exact av.tupE λa xs e f q=>SJ hc h m c b s g H _ u Q I r ⟨a,xs,e,cD.of f,by rw[q.length];exact hw.1,_,i,M,R,q,l,d,hw.2,j⟩
 case rl ws=>exact av.rlE λa xs e f q=>JH hc h m c b s g H _ u Q I r ⟨a,xs,e,bO.of f,by rw[q.length];exact hw.1,_,i,M,R,q,l,d,hw.2,j⟩
 case ref a=>exact hw.elim λws hw=>d.lstE hw.1 λxs f q=>JH hc h m c b s g H _ u Q I r ⟨a,xs,av.inv,bO.of f,by rw[q.length];exact hw.2.1,_,i,M,R,q,l,d,hw.2.2,j⟩
def iV(te:aZ)(g:fJ):aH:=λD a M=>te a M λx b=>g x a b D.nx
theorem ZS{K:Ac}{te:aZ}{g:fJ}{D:mG}{b:SV}{H:Hp}(h:r9 K (iV te g) D b H):t7 (up K te) (gS K g) D b H:=by
 obtain⟨c,M,n,f,d,h,k⟩:=h;exact⟨c,M,_,f,d,h,λx o j m e a l i=>⟨j,c,m,n.nx,l,f.kp d e,a,i,k.nx.kp e⟩⟩
theorem jX(c:E3 X e te)(d:PG X tg (gS X.K g))(b:swapsWithSole [tg] e pos.line X.env=pure false:=by rfl)(hw:swappedStores [tg] e X.env=pure none:=by rfl)(a:(Gs [tg] X.env).map (·.2)=[Ma tg X.env]:=by rfl):P3 X (.Assign [tg] e pos) (iV te g):=(SO c d b hw a).weak λ_ _ _ h=>ZS h
def a5(i:Nat)(te:aZ):aH:=λD a M=>te a M λx b=>D.nx (a.set i (some x)) b
theorem ZT{i:Nat}(l:X.N.Nodup)(hi:X.N[i]? = some x)(n:Loc X.env.scope x)(o:E3 X e te)(m:Hq e (some (.Name x a)) pos.line X.env=pure false:=by rfl)(hf:X.fn x=true\/X.env.scope.names.lookup x=some .local:=by first|exact .inl rfl|exact .inr rfl|assumption):
  P3 X (.Assign [.Name x a] e pos) (a5 i te):=(SQ l hi n o m hf).weak λD q H z0=>z0.el λg M u f c h k=>⟨g,M,_,f,c,h,λy r s t d b p j=>k.nx _ _ _ _ d b ((f.kp c d).set p i) j⟩
def sG(o i v:W)(M:Mm)(Q:Mm->Prop):Prop:=match o with
 | .ref a=>(∃ws k j,i=.int k/\M a=some (.lst ws)/\i4 ws.length k=some j/\Q (put M a (.lst (ws.set j v))))\/
   (∃kvs k,i=wK k/\M a=some (.dK kvs)/\kvs.length<An/\Q (put M a (.dK (b9 kvs k v))))\/
   ∃kvs k,i=.tup (k.map wK)/\M a=some (.dT kvs)/\kvs.length<An/\Q (put M a (.dT (b9 kvs k v)))
 | _=>False
def ZU(K:Ac):t5:=λo i v H Q=>∃d wi c M R,AV K H M o d/\AV K H M i wi/\AV K H M v c/\AM K H M/\sG d wi c M R/\∀b a,Kp H M b a->AM K b a->R a->Q b
theorem set_dict(e:X.A.units+1<Eu):t6 X (λo i v H Q=>∃a b,o=.ref a/\nJ H a i v b/\Q b):=by
 intro c s l H o i v n p u Q I k f g h;obtain⟨a,b,rfl,d,q⟩:=h;cases k;exact W4 e I d f g λm j=>⟨b,j,q⟩
theorem KY{κ:Type}[DecidableEq κ]{K:Ac}{H:Hp}{M:Mm}{ks:List (κ×V)}{kvs:List (κ×W)}{n:κ}{v:V}{b:W}{a:Addr}{o:MO}{u:HO}(c:AM K H M)(e:M a=some o)(q:bZ K H M κ ks kvs)(av:AV K H M v b){d:MO}:bZ K (aT H a u) (put M a d) κ (e8 ks n v) (b9 kvs n b):=Paired.mapP (uZ q n av) λp q z=>⟨z.1,z.2.wr c e⟩
theorem ZV(F:X.A.units+1<Eu):t6 X (ZU X.K):=by
 rintro d s w H o i v E C u Q I z x y ⟨N,wi,B,M,R,D,l,av,g,h,k⟩;cases N<;>first|exact(show False from h).elim|skip
 rename_i a;rcases h with⟨ws,n,j,m,e,O,r⟩|⟨kvs,n,m,e,hl,r⟩|⟨kvs,n,m,e,hl,r⟩
 .rw[m]at l;obtain⟨vs,f,q⟩:=g.lst e;obtain⟨c,p⟩:=g.write (o:=.lst (ws.set j B)) (u:=.lst (vs.set j v)) e ⟨_,cU,(aN.set av j q).wr g e⟩;exact V6 d s w H _ _ v E C u Q I z x y ⟨a,vs,n,j,D.inv,l.inv,f,by rw[q.length];exact O,k _ _ p c r⟩
 .rw[m]at l;obtain⟨ks,f,q⟩:=g _ _ e;obtain⟨c,p⟩:=g.write (o:=.dK (b9 kvs n B)) (u:=.dK (e8 ks n v)) e ⟨_,cU,KY g e q av⟩;exact set_dict F d s w H _ _ v E C u Q I z x y ⟨a,_,D.inv,by rw[l.key];exact nJ.k f (by rw[Cw q];exact hl),k _ _ p c r⟩
 .rw[m]at l;obtain⟨ks,f,q⟩:=g _ _ e;obtain⟨c,p⟩:=g.write (o:=.dT (b9 kvs n B)) (u:=.dT (e8 ks n v)) e ⟨_,cU,KY g e q av⟩;exact l.tupE λb xs J G L=>set_dict F d s w H _ _ v E C u Q I z x y ⟨a,_,D.inv,by rw[J];exact nJ.t f (by rw[<-L.keys];exact G) (by rw[Cw q];exact hl),k _ _ p c r⟩
def kG(e c:aZ):fJ:=λw a M R=>e a M λo d=>c a d λi f=>sG o i w f λb=>R a b
theorem w_sub{o i:Expr}{m n:aZ}(x:X.A.units+1<Eu)(z:E3 X o m)(hi:E3 X i n)(t:∀v,Ma (.Subscript o i pos) X.env v=(do
   let f <-Hy [v] (eval o X.env)
   let j <-Hy [v,f] (eval i X.env)
   Nl pos
   Hy [v,f,j] (setItem f j v)
   release [v,f,j] []):=by intro _;rfl):PG X (.Subscript o i pos) (gS X.K (kG m n)):=
 (SN z hi (ZV x) t).weak λv F H Q z0=>z0.el λw q M R av l c h k=>⟨q,M,_,l,c,h,λo I C D e a B u=>⟨q,D,_,l.kp c e,a,u,λi L wi E d b y s=>
  ⟨C,wi,w,E,_,B.kp a d,y,(av.kp c e).kp a d,b,s,λJ G p g r=>k _ _ _ _ ((e.trans d).trans p) g (((l.kp c e).kp a d).kp b p) r⟩⟩⟩
def dQ:aH:=λD a M=>D.nx a M
def aM(t u:aH):aH:=λD a M=>t {D with nx:=u D} a M
variable {st:Stmt}{rest:List Stmt}{t u:aH}{e:Expr}{te:aZ}
theorem dX:lO X [] dQ:=RW.weak λD c H z0=>z0.el λd M e b a h k=>k.nx.at a b h
theorem aO(e:P3 X st t)(f:lO X rest u):lO X (st::rest) (aM t u):=(RX e f).weak λD o H z0=>z0.el λd M g l j h k=>
 ⟨d,M,_,l,j,h,⟨λm p c i n a b h'=>⟨c,i,g,b,a,h',k.kp n⟩,k.rt,k.bk,k.ct⟩⟩
theorem aS(a:P3 X st t):lO X [st] t:=RY a
def dB(te:aZ):aH:=λD a M=>te a M λ_ b=>D.nx a b
theorem dH(i:E3 X e te)(g:Hq e none pos.line X.env=pure false:=by rfl):P3 X (.Expr e pos) (dB te):=(R0 i g).weak λD j H z0=>z0.el λf M l c b h k=>
 ⟨f,M,_,c,b,h,λv n w m d a av r=>k.nx _ _ _ _ d a (c.kp b d) r⟩
def bU(te:aZ):aH:=λD a M=>te a M D.rt
theorem bV(c:E3 X e te):P3 X (.Return (some e) pos) (bU te):=(R4 c).weak λD f H z0=>z0.el λa M g d b h k=>⟨a,M,_,d,b,h,k.rt⟩
def zJ:aH:=λD _ M=>D.rt .non M
theorem KZ:P3 X (.Return none pos) zJ:=R6.weak λD b H z0=>z0.el λc M d e a h k=>k.rt.at a .non h
def cV(c:d6)(t u:aH):aH:=λD a M=>c a M λb d=>if b=true then t D a d else u D a d
theorem c7(hc:T3 X c tc)(n:lO X a t)(o:lO X b u):P3 X (.If c a b pos) (cV tc t u):=(R8 hc n o).weak λD p H z0=>z0.el λf M l i g h k=>
 ⟨f,M,_,i,g,h,λb q m e d j=>by
  cases b with
  | true=>exact⟨f,m,l,i.kp g e,d,j,k.kp e⟩
  | false=>exact⟨f,m,l,i.kp g e,d,j,k.kp e⟩⟩
theorem zK:P3 X st (λ_ _ _=>False):=SA.weak λD a H z0=>z0.el λb M c e d h k=>h.elim
def qH(c:d6)(tb:aH):aH:=λD e M=>∃g:Nat->S3->Mm->Prop,(∃m,g m e M)/\∀m e M,g m e M->
 c e M λb i=>if b=true then tb {D with nx:=λd h=>∃f a,f<m/\Sub a h/\g f d a,ct:=λd h=>∃f a,f<m/\Sub a h/\g f d a,bk:=D.nx} e i else D.nx e i
theorem sH(R:PassesOwn (Bu X.prog X.w) X.A X.env X.xe)(hc:T3 X c tc)(T:lO X n tb):P3 X (.While c n [] pos) (qH tc tb):=
 (SW R hc T).weak λD V H ⟨Q,M,F,S,E,⟨q,⟨m,U⟩,h⟩,k⟩=>by
  refine⟨λm g i=>∃a d,Kp H M i d/\AM X.K i d/\AS X.K i d g a/\q m a d,⟨m,Q,M,Kp.refl E,E,S,U⟩,?_⟩;rintro m N W ⟨l,G,v,o,p,I⟩;refine⟨l,G,_,p,o,h m l G I,λb O C r s u=>?_⟩;cases b with
  | false=>exact k.nx _ _ _ _ (v.trans r) s (p.kp o r) u
  | true=>
   have u:tb {F with nx:=λa d=>∃f e,f<m/\Sub e d/\q f a e,ct:=λa d=>∃f e,f<m/\Sub e d/\q f a e,bk:=F.nx} l C:=u;refine⟨λg i=>∃f a d,f<m/\Kp H M i d/\AM X.K i d/\AS X.K i d g a/\q f a d,λg i ⟨f,a,d,z,t,y,J,L⟩=>⟨f,z,a,d,t,y,J,L⟩,l,C,_,p.kp o r,s,u,?_⟩;have j:i6 X.K O C (λa d=>∃f e,f<m/\Sub e d/\q f a e) (λg i=>∃f a d,f<m/\Kp H M i d/\AM X.K i d/\AS X.K i d g a/\q f a d):=
    λg i a d P x B ⟨f,e,z,t,y⟩=>⟨f,a,e,z,((v.trans r).trans P).sub t,x.sub t,B.sub t,y⟩
   exact⟨j,(k.rt.kp v).kp r,(k.nx.kp v).kp r,j⟩
abbrev jI:=S3->Mm->(List W->(Mm->Prop)->Mm->Prop)->Prop
structure jJ(K:Ac)(H0:Hp)(M0:Mm)(J:It)(ws:List W)(keep:Mm->Prop):Prop where
 go:∀i H M,Kp H0 M0 H M->AM K H M->keep M->i<ws.length->J.go i H
 stop:∀H M,Kp H0 M0 H M->AM K H M->keep M->J.stop ws.length H
 yld:∀i H M x H',Kp H0 M0 H M->AM K H M->keep M->i<ws.length->J.yld i H x H'->∃w,ws[i]? = some w/\Kp H M H' M/\AM K H' M/\AV K H' M x w
def gT(K:Ac)(wi:jI):TI:=λd H e=>∃(c:S3) (M:Mm) (R:List W->(Mm->Prop)->Mm->Prop),AS K H M d c/\AM K H M/\wi c M R/\∀J b ws keep a,Kp H M b a->AM K b a->jJ K b a J ws keep->R ws keep a->e J b
theorem gT.el{K:Ac}{H:Hp}{g:SV}{C:Prop}{t:jI}{Q:It->Hp->Prop}(h:gT K t g H Q)(c:∀d M R,AS K H M g d->AM K H M->t d M R->(∀J f ws keep e,Kp H M f e->AM K f e->jJ K f e J ws keep->R ws keep e->Q J f)->C):C:=by obtain⟨d,M,R,a,b,h,k⟩:=h;exact c d M R a b h k
theorem _root_.L2.PI.weak{tg iter:Expr}{t t':TI}(h:PI X tg iter t)(k:∀a H R,t' a H R->t a H R):PI X tg iter t':=λb s a H R I q=>h b s a H R I (k a H R q)
def zL(ws:List W)(keep:Mm->Prop)(g:fJ)(tb:aH)(D:D3)(b:S3)(M:Mm):Prop:=
 ∃d:Nat->S3->Mm->Prop,d 0 b M/\(∀i b M,i<=ws.length->d i b M->keep M)/\
  (∀i w b M,ws[i]? = some w->d i b M->g w b M λf h=>tb {D with nx:=λc e=>∃a,Sub a e/\d (i+1) c a,ct:=λc e=>∃a,Sub a e/\d (i+1) c a,bk:=D.nx} f h)/\
  ∀b M,d ws.length b M->D.nx b M
def eR(wi:jI)(g:fJ)(tb:aH):aH:=λD a M=>wi a M λws keep b=>zL ws keep g tb D a b
theorem eV(hp:PassesOwn (Bu X.prog X.w) X.A X.env X.xe)(hc:X.calm=true)(hi:PI X tg iter (gT X.K wi))(hg:PG X tg (gS X.K g))(hb:lO X p tb)(N:∀x,Fi iter X.env x=pure x:=by intro _;rfl):P3 X (.For tg iter p [] pos) (eR wi g tb):=
 (TB hp hc hi hg hb N).weak λD σ H z0=>z0.el λW M D' Z Y h k=>by
  refine⟨W,M,_,Z,Y,h,λJ G ws keep z B s R ⟨C,h0,hk,N,hd⟩=>?_⟩;refine⟨λi m c d=>m=ws.length-i/\i<=ws.length/\∃a b,Kp G z d b/\AM X.K d b/\AS X.K d b c a/\C i a b,⟨_,rfl,Bw _,W,z,Kp.refl s,s,Z.kp Y B,h0⟩,?_⟩;rintro i m σ2 I ⟨rfl,hi,f,n,v,j,t,u⟩
  by_cases r:i<ws.length
  .refine .inr ⟨R.go i I n v j (hk i f n hi u) r,λc d=>∃a b,Kp G z d b/\AM X.K d b/\AS X.K d b c a/\C (i+1) a b,λc d q=>⟨ws.length-(i+1),by lia,rfl,r,q⟩,λx H3 y=>?_⟩;obtain⟨w,hw,U,L,ax⟩:=R.yld i I n x H3 v j (hk i f n hi u) r y;refine⟨w,f,n,_,ax,t.kp j U,L,N i w f n hw u,λσ4 H4 F V k4 O T h4=>⟨F,V,_,T,O,h4,?_⟩⟩;have Q:=((v.trans U).trans k4);have l:i6 X.K H4 V (λa b=>∃o,Sub o b/\C (i+1) a o) (λc d=>∃a b,Kp G z d b/\AM X.K d b/\AS X.K d b c a/\C (i+1) a b):=
    λc d a b k' E P ⟨o,S,q3⟩=>⟨a,o,(Q.trans k').sub S,E.sub S,P.sub S,q3⟩
   exact⟨l,k.rt.kp (B.trans Q),k.nx.kp (B.trans Q),l⟩
  .have e:i=ws.length:=by lia
   subst e;exact .inl ⟨R.stop I n v j (hk _ f n hi u),k.nx _ _ _ _ (B.trans v) j t (hd f n u)⟩
theorem eL{keep:Mm->Prop}(d:Nat->S3->Mm->Prop)(k:d 0 b M)(hk:∀i b M,i<=ws.length->d i b M->keep M)(h:∀i w b M,ws[i]? = some w->d i b M->g w b M λf j=>tb {D with nx:=λc e=>∃a,Sub a e/\d (i+1) c a,ct:=λc e=>∃a,Sub a e/\d (i+1) c a,bk:=D.nx} f j)(hd:∀b M,d ws.length b M->D.nx b M):zL ws keep g tb D b M:=⟨d,k,hk,h,hd⟩
variable {tg l a b:Expr}{tl ta tb':aZ}
theorem ZW{K:Ac}{b:Hp}{c:Mm}{p:Addr}{ws:List W}:jJ K b c (pN K p) ws λM=>M p=some (.lst ws) where
 go:=λi H M _ a e hi=>by
  obtain⟨vs,f,q⟩:=a.lst e;exact⟨vs,vs[i]'(by rw[q.length];exact hi),bO.of f,by simp⟩
 stop:=λH M _ a e=>by
  obtain⟨vs,f,q⟩:=a.lst e;exact⟨vs,bO.of f,by rw[q.length];exact Ag _⟩
 yld:=λi H M x d _ a e hi y=>by
  obtain⟨rfl,y⟩:=y;obtain⟨vs,f,q⟩:=a.lst e;obtain⟨w,hw,av⟩:=q.getV (y vs (bO.of f));exact⟨w,hw,Kp.refl a,a,av⟩
theorem K0{K:Ac}{b:Hp}{a:Mm}{p:Addr}{vs:List V}{ws:List W}(e:AM K b a)(st:∀H M,Kp b a H M->bO K H p vs)(d:aN K b a vs ws):jJ K b a (pN K p) ws λ_=>True:=by
 refine⟨λi H M k c _ hi=>⟨vs,vs[i]'(by rw[d.length];exact hi),st H M k,by simp⟩,λH M k c _=>⟨vs,st H M k,by rw[d.length];exact Ag _⟩,λi H M x f k c _ hi y=>?_⟩;obtain⟨rfl,y⟩:=y;obtain⟨w,hw,av⟩:=(d.kp e k).getV (y vs (st _ M k));exact⟨w,hw,Kp.refl c,c,av⟩
theorem ZX{K:Ac}{b:Hp}{c:Mm}{p:Addr}{vs:List V}{ws:List W}(a:AM K b c)(e:mL K b p vs)(d:aN K b c vs ws):jJ K b c (pN K p) ws λ_=>True:=
 K0 a (λH M k=>by
  refine mL.sq ?_;rcases e with⟨o,e⟩|e
  .exact .inl ⟨o,(k.fr _ _ (a.noFrz e) e).1⟩
  .exact .inr e) d
theorem ZY{K:Ac}{a:Hp}{b:Mm}{p:Addr}{vs:List V}{ws:List W}(c:AM K a b)(e:a p=some (.lst vs))(n:b p=none)(d:aN K a b vs ws):jJ K a b (pN K p) ws λ_=>True:=
 K0 c (λH M k=>bO.of (k.fr _ _ n e).1) d
theorem ZZ{K:Ac}{a:Hp}{c:Mm}{p:Addr}{vs:List V}{ws:List W}(b:AM K a c)(e:a p=some (.tup vs))(f:aN K a c vs ws):jJ K a c (xW K p) ws λ_=>True:=by
 have st:∀H M,Kp a c H M->cD K H p vs:=λH M k=>cD.of (k.fr _ _ (b.noTup e) e).1;refine⟨λi H M k d _ hi=>⟨vs,vs[i]'(by rw[f.length];exact hi),st H M k,by simp⟩,λH M k d _=>⟨vs,st H M k,by rw[f.length];exact Ag _⟩,λi H M x g k d _ hi y=>?_⟩;obtain⟨rfl,y⟩:=y;obtain⟨w,hw,av⟩:=(f.kp b k).getV (y vs (st _ M k));exact⟨w,hw,Kp.refl d,d,av⟩
theorem Z0{K:Ac}{b:Hp}{c:Mm}{lo:Int}{n:Nat}:jJ K b c (t8 lo n) ((Cr n).map λi=>W.int (lo+(i:Nat))) λ_=>True where
 go:=λi H M _ a _ hi=>by show i<n;simpa using hi
 stop:=λH M _ a _=>by show n<=_;simp
 yld:=λi H M x d _ a _ hi y=>by
  obtain⟨rfl,rfl⟩:=y;have hi:i<n:=by simpa using hi
  exact⟨.int (lo+i),by simp[hi],Kp.refl a,a,.int _⟩
theorem Z1{K:Ac}{b:Hp}{d:Mm}{z:Str}:jJ K b d (yP z) (z.cps.toList.map λc=>W.str ⟨#[c]⟩) λ_=>True where
 go:=λi H M _ a _ hi=>by show i<z.cps.size;simpa using hi
 stop:=λH M _ a _=>by show z.cps.size<=_;simp
 yld:=λi H M x e _ a _ hi y=>by
  obtain⟨rfl,c,hc,rfl⟩:=y;exact⟨.str ⟨#[c]⟩,by rw[Av,hc];rfl,Kp.refl a,a,.str _⟩
def mS(X:Cx)(tg:Expr)(r:V->Hp->(It->Hp->Prop)->Prop):Prop:=
 ∀(a:List (Addr×Obj)) (s:Ah) (b:SV) (H:Hp) (x:V) (u:Ae) (R:It->Hp->Prop),Inv X a b H s->RelV x u->r x H R->Bh (Bu X.prog X.w) X.A (pyIter u) (xV X a b tg R) X.xe s
theorem zM:mS X tg (λx H R=>∃a,x=.ref a/\(∃xs,bO X.K H a xs)/\R (pN X.K a) H):=by
 rintro f c k i x u R d g ⟨a,rfl,⟨xs,h⟩,q⟩;cases g;obtain⟨its,l,p,hz⟩:=d.list h;refine Hx p.isList ?_;refine⟨c.heap.objs.size,[c.heap.objs.size],_,_,i,rfl,d.kept (t':=c.toks) λb o e=>Ai _ e,SX a _,⟨_,Bc _ rfl,rfl,rfl⟩,λb j=>?_,q⟩;have e:b=c.heap.objs.size:=by simpa using j
 subst e;exact d.fpOk (Ag _) (d.hok.fresh (Ag _))
theorem Z2:mS X tg (λx H R=>∃a,x=.ref a/\(∃xs,cD X.K H a xs)/\R (xW X.K a) H):=by
 rintro f c k i x u R d g ⟨a,rfl,⟨xs,h⟩,q⟩;cases g;obtain⟨its,l,p,hz⟩:=d.tuple h;refine Lf (show c.heap.IsTuple a its.toArray from p) ?_;refine⟨c.heap.objs.size,[c.heap.objs.size],_,_,i,rfl,d.kept (t':=c.toks) λb o e=>Ai _ e,SY a _,⟨_,Bc _ rfl,rfl,rfl⟩,λb j=>?_,q⟩;have e:b=c.heap.objs.size:=by simpa using j
 subst e;exact d.fpOk (Ag _) (d.hok.fresh (Ag _))
theorem Z3:mS X (.Name x m) (λx H R=>∃z,x=.str z/\R (yP z) H):=by
 rintro g f p j x u R h l ⟨z,rfl,q⟩;obtain⟨t,rfl⟩:=l;have fp:∀b∈[f.heap.objs.size],hZ X g j b:=λb n=>by
  have e:b=f.heap.objs.size:=by simpa using n
  subst e;exact h.fpOk (Ag _) (h.hok.fresh (Ag _))
 cases k:z.cps.all (· < 128)
 .refine wpAny_pyIter_wide k ?_;exact⟨f.heap.objs.size,[f.heap.objs.size],_,_,j,rfl,h.kept (t':=f.toks) λb o e=>Ai _ e,
   JF z _ "str_iterator" t (λA s i c Q E a b d=>wpAny_pyNext_wide_item a b d) (λA s i Q E a b c d=>wpAny_pyNext_wide_end a b c d) (λA i s Q E a b=>wpAny_pyIter_striter_wide a b),⟨_,Bc _ rfl,rfl,rfl⟩,fp,q⟩
 .refine wpAny_pyIter_ascii k ?_;exact⟨f.heap.objs.size,[f.heap.objs.size],_,_,j,rfl,h.kept (t':=f.toks) λb o e=>Ai _ e,
   JF z _ "str_ascii_iterator" t (λA s i c Q E a b d=>wpAny_pyNext_ascii_item a b d) (λA s i Q E a b c d=>wpAny_pyNext_ascii_end a b c d) (λA i s Q E a b=>wpAny_pyIter_striter_ascii a b),⟨_,Bc _ rfl,rfl,rfl⟩,fp,q⟩
theorem _root_.L2.PI.of{r:V->Hp->(It->Hp->Prop)->Prop}{tl:TE}(hl:PE X l tl)(g:mS X tg r):PI X tg l (λb H R=>tl b H λx c=>r x c R):=λa s b H R I h=>
 a8 (hl a s b H _ I h) λu d ⟨x,c,i,e,f⟩=>g a d b c x u R i e f
def sI(K:Ac)(r:W->Mm->(List W->(Mm->Prop)->Mm->Prop)->Prop):V->Hp->(It->Hp->Prop)->Prop:=λx H d=>∃(c:W) (M:Mm) (R:List W->(Mm->Prop)->Mm->Prop),AV K H M x c/\AM K H M/\r c M R/\
 ∀J b ws keep a,Kp H M b a->AM K b a->jJ K b a J ws keep->R ws keep a->d J b
def kH:W->Mm->(List W->(Mm->Prop)->Mm->Prop)->Prop
 | .tup ws,b,R=>R ws (λ_=>True) b
 | .rl ws,b,R=>R ws (λ_=>True) b
 | .sc ws,b,R=>R ws (λ_=>True) b
 | .ref a,b,R=>∃ws,b a=some (.lst ws)/\R ws (λM=>M a=some (.lst ws)) b
 | _,_,_=>False
def cX:W->Mm->(List W->(Mm->Prop)->Mm->Prop)->Prop
 | .tup ws,b,R=>R ws (λ_=>True) b
 | .rl ws,b,R=>R ws (λ_=>True) b
 | .sc ws,b,R=>R ws (λ_=>True) b
 | .str z,b,R=>R (z.cps.toList.map λc=>W.str ⟨#[c]⟩) (λ_=>True) b
 | .ref a,b,R=>∃ws,b a=some (.lst ws)/\R ws (λM=>M a=some (.lst ws)) b
 | _,_,_=>False
theorem K1:mS X tg (sI X.K kH):=by
 rintro b s d H x u i I g ⟨l,M,R,j,c,h,k⟩;have k:=λJ ws keep=>k J H ws keep M (Kp.refl c) c;cases l<;>first|exact(show False from h).elim|skip
 case tup ws=>exact j.tupE λa xs e f q=>Z2 b s d H _ u i I g ⟨a,e,⟨xs,cD.of f⟩,k _ _ _ (ZZ c f q) h⟩
 case rl ws=>obtain⟨a,xs,e,f,n,q⟩:=j.inv;exact zM b s d H _ u i I g ⟨a,e,⟨xs,bO.of f⟩,k _ _ _ (ZY c f n q) h⟩
 case sc ws=>exact j.scE λa xs e f q=>zM b s d H _ u i I g ⟨a,e,⟨xs,f.sq⟩,k _ _ _ (ZX c f q) h⟩
 case ref a=>exact h.elim λws h=>c.lstE h.1 λvs f q=>zM b s d H _ u i I g ⟨a,j.inv,⟨vs,bO.of f⟩,k _ _ _ ZW h.2⟩
theorem Z4:mS X (.Name y g) (sI X.K cX):=by
 rintro a s c H x u e I d ⟨i,M,R,f,b,h,k⟩;cases i<;>first|exact(show False from h).elim|skip
 case str z=>exact Z3 a s c H _ u e I d ⟨z,f.inv,k _ _ _ _ _ (Kp.refl b) b Z1 h⟩
 all_goals exact K1 a s c H x u e I d ⟨_,M,R,f,b,h,k⟩
def cB(r:W->Mm->(List W->(Mm->Prop)->Mm->Prop)->Prop)(tl:aZ):jI:=λb M R=>tl b M λw a=>r w a R
theorem u9{r:W->Mm->(List W->(Mm->Prop)->Mm->Prop)->Prop}(hl:E3 X l tl)(f:mS X tg (sI X.K r)):PI X tg l (gT X.K (cB r tl)):=(PI.of hl f).weak λt H v z0=>z0.el λj M R s n h k=>
 ⟨j,M,_,s,n,h,λx u d q p a m g=>⟨d,q,R,m,a,g,λJ e ws keep c i b o r=>k J e ws keep c (p.trans i) b o r⟩⟩
theorem oN(hl:E3 X l tl):PI X tg l (gT X.K (cB kH tl)):=u9 hl K1
theorem dR{y:Str}{a:Pos}(hl:E3 X l tl):PI X (.Name y a) l (gT X.K (cB cX tl)):=u9 hl Z4
def mT(lo:Int)(n:Nat):List W:=(Cr n).map λi=>W.int (lo+(i:Nat))
def vA(ta:eJ):jI:=λb M R=>ta b M λws a=>∃j:Int,ws=[.int j]/\-(2 ^ 62)<=j/\j<2 ^ 62/\R (mT 0 j.toNat) (λ_=>True) a
theorem zN(i:Gl X "range")(n:X.mg "range" = none)(g:A3 X [a] c)(m:Bk [a] X.env=[(false,eval a X.env)]:=by rfl):PI X tg (.Call (.Name "range" p) [a] [] pos) (gT X.K (vA c)):=
 (S7 i n g m).weak λu H x z0=>z0.el λo M R t q h k=>⟨o,M,_,t,q,h,λvs w ws y s b d ⟨j,e,l,f,r⟩=>by
  rw[e]at d;obtain⟨v,e,av⟩:=d.one;exact⟨j,i7 e av.inv,l,f,k _ _ _ _ _ s b Z0 r⟩⟩
def kI(ws:List W)(keep:Mm->Prop)(g:fJ)(tt:d6)(te:aZ)(c:S3)(k:Mm)(R:K3):Prop:=
 ∀p,k p=none->∃e:Nat->S3->List W->Mm->Prop,e 0 c [] k/\(∀vs i d acc M,i<=ws.length->M p=none->e i d acc M->keep (put M p (.fix vs)))/\
  (∀vs i w d acc M,ws[i]? = some w->M p=none->e i d acc M->g w d (put M p (.fix vs)) λa l=>tt a l λb h=>
   if b=true then te a h λy j=>j p=some (.fix vs)/\acc.length<An/\∃f,Sub f (del j p)/\e (i+1) a (acc++[y]) f
   else h p=some (.fix vs)/\∃f,Sub f (del h p)/\e (i+1) a acc f)/\
  ∀d acc M,M p=none->e ws.length d acc M->R (.ref p) (put M p (.lst acc))
def zO(js:List (Option Nat))(a:S3):S3:=js.map λo=>o.bind λj=>(a[j]?).join
theorem AS.cmap{K:Ac}{H:Hp}{M:Mm}{b:SV}{a:S3}(h:AS K H M b a):∀js:List (Option Nat),AS K H M (cmap js b) (zO js a)
 | []=>.nil
 | none::r=>.cons (λ_ e=>nomatch e) (AS.cmap h r)
 | some j::r=>.cons (λw e=>by
   have e:(a[j]?).join=some w:=e;cases q:a[j]? with
   | none=>rw[q]at e;cases e
   | some z=>
    rw[q]at e;have e:z=some w:=e;subst e;obtain⟨v,c,d⟩:=h.get q;exact⟨v,by show(b[j]?).join=some v;rw[c];rfl,d⟩) (AS.cmap h r)
def d7(wi:jI)(g:fJ)(tt:d6)(te:aZ)(js:List (Option Nat)):aZ:=λa M R=>wi a M λws keep b=>kI ws keep g tt te (zO js a) b R
theorem zP(h:up X.K (d7 wi g tt te js) σ H Q):yO (gT X.K wi) (λ_=>gS X.K g) (λ_=>jU X.K tt) (λ_=>up X.K te) js σ H Q:=by
 obtain⟨τ,M,R,as,am,h,k⟩:=h;refine⟨τ,M,_,as,am,h,λJ H1 ws keep M1 k1 r it F p U B=>?_⟩;obtain⟨Pv,h0,hk,hs,hd⟩:=F p (r.nonM U);obtain⟨Y,kp⟩:=r.laid (o:=.fix []) (u:=.lst []) U cU;have hMp:=r.nonM U;refine XX ws.length (λi E c q=>∃j acc m,m p=none/\Kp H1 M1 q (put m p (.fix c))/\AM X.K q (put m p (.fix c))/\AS X.K q (put m p (.fix c)) E j/\aN X.K q (put m p (.fix c)) c acc/\Pv i j acc m) ?_ ?_ ?_
 .exact⟨zO js τ,[],M1,hMp,kp,Y,((as.kp am k1).kp r kp).cmap js,.nil,h0⟩
 .rintro E c q ⟨j,acc,m,G,A,d,N,av,O⟩;refine⟨it.stop q _ A d (hk _ _ _ _ _ (Ag _) G O),?_⟩;have W:q p=some (.lst c):=d p _ aR;refine k _ q _ (put m p (.lst acc)) (k1.trans ⟨λa o n e=>?_,A.dom⟩) (λa o e=>?_) (.ref p) (hd j acc m G O)
  .obtain⟨x,y⟩:=A.fr a o n e;exact⟨x,by rw[aQ (fP e U)]at y⊢;exact y⟩
  .by_cases V:a=p
   .subst V;rw[aR]at e;cases e;exact⟨c,W,av.go J0⟩
   .rw[aQ V]at e;exact(d a o (by rw[aQ V];exact e)).go J0 rfl
 .rintro i E c q hi ⟨j,acc,m,G,A,d,N,av,O⟩;have L:=hk c i j acc m (Jo hi) G O;refine⟨it.go i q _ A d L hi,λx H3 y=>?_⟩;obtain⟨w,hw,k3,Z,ax⟩:=it.yld i q _ x H3 A d L hi y;refine⟨w,j,_,_,ax,N.kp d k3,Z,hs c i w j acc m hw G O,λσ4 H4 l T k4 t z h4=>⟨l,T,_,z,t,h4,λb H5 s P C S=>?_⟩⟩;have kk:Kp q (put m p (.fix c)) H5 s:=(k3.trans k4).trans P;cases b with
  | false=>
   obtain⟨m5,D,sb,pv6⟩:s p=some (.fix c)/\∃D,Sub D (del s p)/\Pv (i+1) l acc D:=S;have f:Sub (put D p (.fix c)) s:=by
    have:=(sb.trans Sub.del).put (a:=p) (o:=.fix c);rwa [yY m5]at this
   exact XN ⟨l,acc,D,sb.non pX,(A.trans kk).sub f,C.sub f,(z.kp t P).sub f,(av.kp d kk).sub f,pv6⟩
  | true=>
   have S:te l s λy T=>T p=some (.fix c)/\acc.length<An/\∃s,Sub s (del T p)/\Pv (i+1) l (acc++[y]) s:=S;refine XO ⟨l,s,_,z.kp t P,C,S,λy H6 wy D k6 v ay ⟨m6,hl,M7,sb,pv7⟩=>?_⟩;have I:=kk.trans k6;have hp6:H6 p=some (.lst c):=v p _ m6;obtain⟨am8,k8⟩:=v.write (o:=.fix (c++[y])) (u:=.lst (c++[y])) m6 cU;have f:Sub (put M7 p (.fix (c++[y]))) (put D p (.fix (c++[y]))):=(sb.trans Sub.del).put;refine⟨hp6,by rw[av.length];exact hl,l,acc++[wy],M7,sb.non pX,((A.trans I).trans k8).sub f,am8.sub f,(((z.kp t P).kp C k6).kp v k8).sub f,?_,pv7⟩;exact(((av.kp d I).append (.cons ay .nil)).kp v k8).sub f
variable {sc:Jg}{N':List Str}{js:List (Option Nat)}{iter elt:Expr}{ifs:List Expr}{wi:jI}{g:fJ}{tt:d6}
def fL:d6:=λ_ M Q=>Q true M
theorem iE:iO X [] (jU X.K fL):=XT.weak λb H Q z0=>z0.el λc M R d a h k=>k true H M (Kp.refl a) a h
theorem nP{c:Expr}{t:d6}(h:T3 X c t):iO X [c] (jU X.K t):=XU h
theorem gU(N':List Str)(js:List (Option Nat))(hi:PI X tg iter (gT X.K wi))(c:∀B,PG (dA X sc N' B) tg (gS X.K g))(ht:∀B,iO (dA X sc N' B) ifs (jU X.K tt))(e:∀B,PE (dA X sc N' B) elt (up X.K te))(a:mH N' sc X.env.scope=true:=by kernel_rfl)(d:fF N' X.N sc js N'=true:=by kernel_rfl)(hc:X.calm=true:=by rfl)(b:∀x,Fi iter X.env x=pure x:=by intro _;rfl):
  E3 X (.ListComp elt [⟨tg,iter,ifs,0⟩] sc pos) (d7 wi g tt te js):=(XW N' js hi c ht e a d hc b).weak λ_ _ _ h=>zP h
theorem Z5{i:Nat}{x:Str}{e a:Pos}(s:X.N.Nodup)(c:X.N[i]? = some x)(t:Loc X.env.scope x)(N':List Str)(js:List (Option Nat))(hi:PI X tg iter (gT X.K wi))(m:∀B,PG (dA X sc N' B) tg (gS X.K g))(ht:∀B,iO (dA X sc N' B) ifs (jU X.K tt))(n:∀B,PE (dA X sc N' B) elt (up X.K te))(o:mH N' sc X.env.scope=true:=by kernel_rfl)(u:fF N' X.N sc js N'=true:=by kernel_rfl)(hc:X.calm=true:=by rfl)(d:Hq (.ListComp elt [⟨tg,iter,ifs,0⟩] sc pos) (some (.Name x e)) a.line X.env=pure true:=by rfl)(hf:X.fn x=true\/X.env.scope.names.lookup x=some .local:=by first|exact .inl rfl|exact .inr rfl|assumption)(q:∀x,Fi iter X.env x=pure x:=by intro _;rfl):P3 X (.Assign [.Name x e] (.ListComp elt [⟨tg,iter,ifs,0⟩] sc pos) a) (a5 i (d7 wi g tt te js)):=
 (JB s c t N' js hi m ht n o u hc d hf q).weak λD w H z0=>z0.el λr M C l f h k=>zP ⟨r,M,_,l,f,h,λy z A E j b v p=>k.nx _ _ _ _ j b ((l.kp f j).set v i) p⟩
end
def bT(N:List Str)(ws:List W):S3:=ws.map some++Bv (N.length-ws.length) none
def bI(R:K3):D3:={nx:=λ_ b=>∃a,Sub a b/\R .non a,rt:=λw b=>∃a,Sub a b/\R w a}
section
variable {P:Ax}{w:Bl}{K:Ac}{mg:Str->Option Ae}{base:Heap}
theorem Z6{x a:Str}{st:Stmt}{f:Addr}{fd:Bi}{N ps:List Str}{k:Nat}{sp:bF}(F:lA K x a st f fd)(S:pR N ps (fD st))(len:∀ws M R,sp ws M R->ws.length=ps.length)(e:∀(b:Ae) (A:Cs) (outer:List Env) (s:Ah) (H:Hp) (E:XK) (ws:List W) (M:Mm) (R:K3),c8 k (A.deeper (Lz a (fD st) s.heap.objs.size f b))->sp ws M R->
   ∃t,lO (nG gP P w K mg base N a (fD st) f b A outer s H E).nox (iL st) t/\t (bI R) (bT N ws) M):fE P w K mg base gP (k+1) f fd ps (iA K sp):=by
 refine F.ok S (λvs H Q E ⟨ws,M,R,l,av,h,_⟩=>by rw[av.length];exact len ws M R h) λb A outer s H vs Q E q ⟨ws,M,R,l,av,h,m⟩=>?_;obtain⟨t,ht,h'⟩:=e b A outer s H E ws M R q h;refine⟨_,ht,bT N ws,M,bI R,?_,l,h',⟨λu i n o j c p ⟨d,sb,r⟩=>m _ i _ d (j.sub sb) (c.sub sb) .non r,λv i w o j c g ⟨d,sb,r⟩=>m v i w d (j.sub sb) (c.sub sb) (g.sub sb) r,λ_ _ _ _ _ _ _ z=>z.elim,λ_ _ _ _ _ _ _ z=>z.elim⟩⟩;unfold L2.start bT;rw[av.length];exact AS.start av _
def sJ:bF:=λws M R=>∃ns:List Int,ws=[.sc (ns.map W.int)]/\ns.length<=63/\(M=λ_=>none)/\∀a,R (.bl true) a
theorem Z7{H:Hp}{a:Addr}{ns:List Int}(hl:ns.length<=63)(b:uK H)(c:bO K H a (ns.map V.int)):iA K sJ [.ref a] H (λv _=>v=.bl true) λ_ _ _=>False:=by
 have d:mL K H a (ns.map V.int):=by
  rcases c with(e|⟨o,e⟩)|e
  .rcases b a with z|⟨o,xs,z⟩
   .rw[z]at e;cases e
   .rw[z]at e;cases e
  .exact .inl ⟨o,e⟩
  .exact .inr e
 exact⟨[.sc (ns.map W.int)],λ_=>none,λw _=>w=.bl true,λa o e=>(nomatch e),.cons (.sc d (aN.int ns)) .nil,⟨ns,rfl,hl,rfl,λ_=>rfl⟩,λv g w f _ _ av r=>by subst r;exact av.bl_inv⟩
end
section
variable {X:Cx}{a b c:Expr}{ta tb tc:aZ}{pos:Pos}
def vB(r c:R3)(ta tb tc:aZ):aZ:=λa M R=>ta a M λx e=>tb a e λy f=>r x y f λz b=>∃k,z=.bl k/\if k=true then tc a b λw d=>c y w d R else R (.bl false) b
def zQ:aH:=λ_ _ _=>False
def Z8(M:Mm):W->String->Prop
 | .non,T=>T = "NoneType"
 | .bl _,T=>T = "bool"
 | .int _,T=>T = "int"
 | .str _,T=>T = "str"
 | .tup _,T=>T = "tuple"
 | .rl _,T=>T = "list"
 | .dk _,T=>T = "dict"
 | .ref a,T=>(T = "list"/\∃ws,M a=some (.lst ws))\/(T = "dict"/\((∃kvs,M a=some (.dK kvs))\/∃kvs,M a=some (.dT kvs)))
 | _,_=>False
def K2:List (String×String×Bool):=[("int","int",true),("int","bool",false),("int","str",false),("int","tuple",false),("int","list",false),("bool","bool",true),("bool","int",true),("bool","str",false),("bool","list",false),("bool","tuple",false),("str","str",true),("str","int",false),("str","tuple",false),("str","list",false),("str","bool",false),("tuple","tuple",true),("tuple","list",false),("tuple","str",false),("tuple","int",false),("tuple","bool",false),("list","list",true),("list","tuple",false),("list","str",false),("list","int",false),("list","bool",false),("NoneType","list",false),("NoneType","tuple",false),("NoneType","int",false),("NoneType","str",false),("NoneType","bool",false),("dict","dict",true),("dict","list",false)]
def K5(n T:String):Option Bool:=(K2.find? λp=>p.1==n&&p.2.1==T).map λp=>p.2.2
def K6(K:Ac):List (String×String×Bool)->Prop
 | []=>True
 | p::l=>Iz K (.type p.1) (.type p.2.1)=some p.2.2/\K6 K l
theorem K7{K:Ac}:∀{l:List (String×String×Bool)},K6 K l->∀p∈l,Iz K (.type p.1) (.type p.2.1)=some p.2.2
 | _::_,h,_,m=>by
  cases m with
  | head=>exact h.1
  | tail _ m=>exact K7 h.2 _ m
theorem Z9(K:Ac):∀p∈K2,Iz K (.type p.1) (.type p.2.1)=some p.2.2:=by
 refine K7 ?_;refine⟨by kernel_rfl,by kernel_rfl,by kernel_rfl,by kernel_rfl,by kernel_rfl,by kernel_rfl,by kernel_rfl,by kernel_rfl,by kernel_rfl,by kernel_rfl,by kernel_rfl,by kernel_rfl,by kernel_rfl,by kernel_rfl,by kernel_rfl,by kernel_rfl,by kernel_rfl,by kernel_rfl,by kernel_rfl,by kernel_rfl,by kernel_rfl,by kernel_rfl,by kernel_rfl,by kernel_rfl,by kernel_rfl,by kernel_rfl,by kernel_rfl,by kernel_rfl,by kernel_rfl,by kernel_rfl,by kernel_rfl,by kernel_rfl,trivial⟩
theorem zaa(K:Ac){b:Bool}(h:K5 n T=some b):Iz K (.type n) (.type T)=some b:=by
 obtain⟨p,c,e⟩:=Bd.mp h;have a:=List.find?_some c;have d:=Z9 K p (List.mem_of_find?_eq_some c);rw[Cq,beq_iff_eq,beq_iff_eq]at a;rw[<-a.1,<-a.2,d,e]
def kJ:List W->Mm->K3->Prop
 | [w,.ty T],M,R=>∃n b,Z8 M w n/\K5 n T=some b/\R (.bl b) M
 | _,_,_=>False
theorem qI:c0 X (.builtin "isinstance") (fT X.K kJ):=by
 rintro g s m H xs us Q I rs ⟨ws,M,R,j,l,h,k⟩
 match ws,h with
 | [w,.ty T],h=>
  obtain⟨v,u,rfl,av,p⟩:=l.two;cases p;obtain⟨n,b,c,o,r⟩:=h;have ty:i0 X.K H v (.type n):=by
   cases w<;>first|exact(show False from c).elim|skip
   case non=>rw[show n=_ from c,show v=_ from av.inv];exact .non
   case bl b=>rw[show n=_ from c,show v=_ from av.inv];exact .bl b
   case int i=>rw[show n=_ from c,show v=_ from av.inv];exact .int i
   case str x=>rw[show n=_ from c,show v=_ from av.inv];exact .str x
   case tup=>obtain⟨a,xs,d,e,q⟩:=av.inv;rw[show n=_ from c,d];exact .tup e
   case rl=>obtain⟨a,xs,d,e,_,q⟩:=av.inv;rw[show n=_ from c,d];exact .lst e
   case dk=>obtain⟨a,xs,d,e,_,q⟩:=av.inv;rw[show n=_ from c,d];exact .dK e
   case ref a=>
    rw[show v=_ from av.inv];rcases c with⟨e,ws,h⟩|⟨e,h⟩
    .subst e;obtain⟨vs,f,_⟩:=j.lst h;exact .lst f
    .subst e;rcases h with⟨kvs,h⟩|⟨kvs,h⟩
     .obtain⟨ks,f,_⟩:=j _ _ h;exact .dK f
     .obtain⟨ks,f,_⟩:=j _ _ h;exact .dT f
  exact X3 g s m H _ us Q I rs ⟨v,T,_,b,rfl,ty,zaa X.K o,k.at j (.bl b) r⟩
def K8:W->List W->Mm->K3->Prop
 | .str z,[],M,R=>z.length<=5592405/\R (.str (Txt.upper z)) M
 | _,_,_,_=>False
theorem m_upper:f9 X "str.upper" (kB X.K K8):=by
 rintro a s c H x xs v us Q I f rs ⟨d,ws,M,R,g,e,b,h,k⟩
 match d,ws,h with
 | .str z,[],h=>
  cases e;cases b;exact X1 a s c H _ _ v us Q I f rs ⟨z,rfl,rfl,h.1,k.at g (.str _) h.2⟩
def zR:W->List W->Mm->K3->Prop
 | .str z,[.str y],M,R=>(y.length==0)=false/\z.length<=An/\R (.tup [.str (Cp z y).1,.str (Cp z y).2.1,.str (Cp z y).2.2]) M
 | _,_,_,_=>False
theorem m_partition:f9 X "str.partition" (kB X.K zR):=by
 rintro a s c H x xs v us Q I g rs ⟨e,ws,M,R,i,f,b,h,k⟩
 match e,ws,h with
 | .str z,[.str y],h=>
  obtain⟨u,rfl,j⟩:=b.one;cases f;cases j;exact X2 a s c H _ _ v us Q I g rs ⟨z,y,rfl,rfl,h.1,h.2.1,λp d=>laidT i k d (.cons (.str _) (.cons (.str _) (.cons (.str _) .nil))) h.2.2⟩
end
section
variable {X:Cx}{a b:Expr}{ta tb:aZ}{pos:Pos}{es:List Expr}{t:eJ}
theorem zab{K:Ac}{H:Hp}{M:Mm}{R:K3}{Q:VK}{p:Addr}{xs:List V}{ws:List W}(c:AM K H M)(k:Up K H M R Q)(b:H p=none)(e:aN K H M xs ws)(r:R (.rl ws) M):Q (.ref p) (aT H p (.lst xs)):=by
 obtain⟨a,d⟩:=c.tup (u:=.lst xs) b;exact k _ _ _ _ d a (.rl cU (c.nonM b) (e.newT b)) r
def gV(t:eJ):aZ:=λb M R=>t b M λws a=>ws.length<=An/\R (.rl ws) a
theorem iF(h:A3 X es t):E3 X (.List es pos) (gV t):=
 (HV h).weak λi H Q z0=>z0.el λc M R g f h k=>⟨c,M,_,g,f,h,λxs j ws l d b a ⟨hl,r⟩=>⟨by rw[a.length];exact hl,λp e=>zab b (k.kp d) e a r⟩⟩
theorem K9{f:Ae->Ae->Sem Ae}{r b:R3}(h:bC X f (cM X.K r))(k:∀x y M R,b x y M R->r x y M λw g=>frz w g R):bC X f (cM X.K b):=λa s c H x y v u Q I m d ⟨i,j,M,R,n,l,o,h',e⟩=>
 h a s c H x y v u Q I m d ⟨i,j,M,_,n,l,o,k _ _ _ _ h',e.frz⟩
theorem LA{r b:List W->Mm->K3->Prop}(h:c0 X f (fT X.K r))(k:∀x M R,b x M R->r x M λw e=>frz w e R):c0 X f (fT X.K b):=λa s c H xs us Q I rs ⟨ws,M,R,i,g,h',d⟩=>
 h a s c H xs us Q I rs ⟨ws,M,_,i,g,k _ _ _ h',d.frz⟩
def dY:R3
 | .int i,.int j,M,R=>R (.int (i+j)) M
 | .tup xs,.tup ys,M,R=>xs≠[]/\xs.length+ys.length<=An/\R (.tup (xs++ys)) M
 | .ref a,.ref b,M,R=>∃xs ys,M a=some (.lst xs)/\M b=some (.lst ys)/\xs.length+ys.length<=An/\R (.rl (xs++ys)) M
 | .rl xs,.ref b,M,R=>∃ys,M b=some (.lst ys)/\xs.length+ys.length<=An/\R (.rl (xs++ys)) M
 | .ref a,.rl ys,M,R=>∃xs,M a=some (.lst xs)/\xs.length+ys.length<=An/\R (.rl (xs++ys)) M
 | .rl xs,.rl ys,M,R=>xs.length+ys.length<=An/\R (.rl (xs++ys)) M
 | _,_,_,_=>False
theorem dZ:bC X (Dr .Add) (cM X.K dY):=K9 y7 λx y M R h=>by
 cases x<;>first|exact(show False from h).elim|(cases y<;>first|exact(show False from h).elim|skip)
 case int.int i j=>exact h
 case tup.tup i j=>exact h
 case ref.ref i j=>obtain⟨xs,ys,c,b,a,r⟩:=h;exact⟨xs,ys,c,b,a,aY.frz r⟩
 case rl.ref i j=>obtain⟨ys,b,a,r⟩:=h;exact⟨ys,b,a,aY.frz r⟩
 case ref.rl i j=>obtain⟨ys,b,a,r⟩:=h;exact⟨ys,b,a,aY.frz r⟩
 case rl.rl i j=>exact⟨h.1,aY.frz h.2⟩
def mU:R3
 | .int i,.int j,M,R=>(pP i j\/uM i j)/\R (.int (i*j)) M
 | .ref a,.int n,M,R=>∃xs,M a=some (.lst xs)/\-(2 ^ 63)<=n/\n<2 ^ 63/\xs.length*n.toNat<=An/\R (.rl (Bv n.toNat xs).flatten) M
 | .rl xs,.int n,M,R=>-(2 ^ 63)<=n/\n<2 ^ 63/\xs.length*n.toNat<=An/\R (.rl (Bv n.toNat xs).flatten) M
 | _,_,_,_=>False
theorem nQ:bC X (Dr .Mult) (cM X.K mU):=K9 Y7 λx y M R h=>by
 cases x<;>first|exact(show False from h).elim|(cases y<;>first|exact(show False from h).elim|skip)
 case int.int i j=>exact h
 case ref.int i j=>obtain⟨xs,d,b,a,c,r⟩:=h;exact⟨xs,d,b,a,c,aY.frz r⟩
 case rl.int i j=>obtain⟨b,a,c,r⟩:=h;exact⟨b,a,c,aY.frz r⟩
def vD:List W->Mm->K3->Prop
 | [.tup ws],M,R=>R (.rl ws) M
 | [.rl ws],M,R=>R (.rl ws) M
 | [.sc ws],M,R=>R (.rl ws) M
 | [.dk kvs],M,R=>R (.rl (kvs.map λb=>wK b.1)) M
 | [.ref a],M,R=>(∃ws,M a=some (.lst ws)/\R (.rl ws) M)\/∃kvs,M a=some (.dK kvs)/\R (.rl (kvs.map λb=>wK b.1)) M
 | _,_,_=>False
theorem zS(hc:X.calm=true):c0 X (.type "list") (fT X.K vD):=LA (zE hc) λx M R h=>by
 match x,h with
 | [.tup ws],h=>exact aY.frz h
 | [.rl ws],h=>exact aY.frz h
 | [.sc ws],h=>exact aY.frz h
 | [.dk kvs],h=>exact aY.frz h
 | [.ref a],h=>
  rcases h with⟨ws,e,r⟩|⟨kvs,e,r⟩
  .exact .inl ⟨ws,e,aY.frz r⟩
  .exact .inr ⟨kvs,e,aY.frz r⟩
def zT:W->Option Int->Option Int->Mm->K3->Prop
 | .rl ws,lo,hi,M,R=>R (.rl (eX ws lo hi)) M
 | .sc ws,lo,hi,M,R=>R (.rl (eX ws lo hi)) M
 | .ref a,lo,hi,M,R=>∃ws,M a=some (.lst ws)/\R (.rl (eX ws lo hi)) M
 | .tup ws,lo,hi,M,R=>¬(HT.sIx ws.length 0 lo=0/\HT.sIx ws.length ws.length hi=ws.length)/\R (.tup (eX ws lo hi)) M
 | _,_,_,_,_=>False
theorem zac(h:zT x l u M R):KI x l u M λw b=>frz w b R:=by
 cases x<;>first|exact(show False from h).elim|skip
 case tup ws=>exact h
 case rl ws=>exact aY.frz h
 case sc ws=>exact aY.frz h
 case ref a=>obtain⟨ws,e,r⟩:=h;exact⟨ws,e,aY.frz r⟩
def vE(ta:aZ)(tl c:qC):aZ:=λa M R=>ta a M λx d=>tl a d λl e=>c a e λu b=>zT x l u b R
theorem zU{lo hi:Option Expr}{tl n:qC}{w:Pos}(q:E3 X a ta)(hl:PO X lo (qD X.K tl))(t:PO X hi (qD X.K n)):E3 X (.Subscript a (.Slice lo hi none w) pos) (vE ta tl n):=
 (VR ZK q hl t).weak λB H Q z0=>z0.el λe M R j f h k=>⟨e,M,_,j,f,h,λx C p z i b y r=>⟨e,z,_,j.kp f i,b,r,λl D A g c o=>⟨e,A,_,(j.kp f i).kp b g,c,o,λu E s m d v=>
  ⟨p,s,_,d,(y.kp b g).kp c m,zac v,(((k.kp i).kp g).kp m).frz⟩⟩⟩⟩
variable {sc:Jg}{N':List Str}{js:List (Option Nat)}{tg iter elt:Expr}{ifs:List Expr}{wi:jI}{g:fJ}{tt:d6}{te:aZ}
theorem zad{i:Nat}{x:Str}{e a:Pos}(s:X.N.Nodup)(c:X.N[i]? = some x)(t:Loc X.env.scope x)(N':List Str)(js:List (Option Nat))(hi:PI X tg iter (gT X.K wi))(m:∀B,PG (dA X sc N' B) tg (gS X.K g))(ht:∀B,iO (dA X sc N' B) ifs (jU X.K tt))(n:∀B,PE (dA X sc N' B) elt (up X.K te))(o:mH N' sc X.env.scope=true:=by kernel_rfl)(u:fF N' X.N sc js N'=true:=by kernel_rfl)(hc:X.calm=true:=by rfl)(d:Hq (.ListComp elt [⟨tg,iter,ifs,0⟩] sc pos) (some (.Name x e)) a.line X.env=pure true:=by rfl)(hf:X.fn x=true\/X.env.scope.names.lookup x=some .local:=by first|exact .inl rfl|exact .inr rfl|assumption)(q:∀x,Fi iter X.env x=pure x:=by intro _;rfl):P3 X (.Assign [.Name x e] (.ListComp elt [⟨tg,iter,ifs,0⟩] sc pos) a) (a5 i (b5 (d7 wi g tt te js))):=
 (JB s c t N' js hi m ht n o u hc d hf q).weak λD w H z0=>z0.el λr M C l f h k=>zP ⟨r,M,_,l,f,h,Up.frz λy z A E j b v p=>k.nx _ _ _ _ j b ((l.kp f j).set v i) p⟩
end
def Pl:Nat->W->Prop
 | _,.non=>True
 | _,.int _=>True
 | _,.str x=>PyData.strOk x=true
 | n+1,.tup ws=>∀w∈ws,Pl n w
 | n+1,.rl ws=>∀w∈ws,Pl n w
 | _,_=>False
def cT(M:Mm):W->W
 | .ref a=>match M a with
  | some (.lst ws)=>.rl ws
  | _=>.ref a
 | w=>w
section
variable {M:Mm}
theorem zV{n:Nat}(b:∀{w:W},Pl n w->∃d,Snap M w d/\d.canLay0=true/\d.depth<=n):∀{ws:List W},(∀w∈ws,Pl n w)->∃a,jF M ws a/\PyData.canLayAll0 a=true/\PyData.depthAll a<=n
 | [],_=>⟨[],.nil,rfl,by simp[PyData.depthAll]⟩
 | w::ws,h=>by
  obtain⟨d,s,c,e⟩:=b (h w Az);obtain⟨a,g,f,i⟩:=zV b λz hz=>h z (Ar _ hz);exact⟨d::a,.cons s g,by simp[PyData.canLayAll0,c,f],by simp only[PyData.depthAll];lia⟩
theorem zae:∀{n:Nat} {w:W},Pl n w->∃d,Snap M w d/\d.canLay0=true/\d.depth<=n:=by
 intro n
 induction n with
 | zero=>
  intro w h;cases w<;>first|exact(show False from h).elim|skip
  case non=>exact⟨_,.non,rfl,by simp[Hs]⟩
  case int i=>exact⟨_,.int i,rfl,by simp[Hs]⟩
  case str x=>exact⟨_,.str x,h,by simp[Hs]⟩
 | succ n a=>
  intro w h;cases w<;>first|exact(show False from h).elim|skip
  case non=>exact⟨_,.non,rfl,by simp[Hs]⟩
  case int i=>exact⟨_,.int i,rfl,by simp[Hs]⟩
  case str x=>exact⟨_,.str x,h,by simp[Hs]⟩
  case tup ws=>
   obtain⟨b,s,c,e⟩:=zV a h;exact⟨_,.tup s,by simpa [PyData.canLay0] using c,by simp only[Hs];lia⟩
  case rl ws=>
   obtain⟨b,s,c,e⟩:=zV a h;exact⟨_,.rl s,by simpa [PyData.canLay0] using c,by simp only[Hs];lia⟩
theorem LB{n:Nat}(h:Pl n (cT M w)):∃d,Snap M w d/\Snap M (cT M w) d/\d.canLay0=true/\d.depth<=n:=by
 obtain⟨d,s,c,e⟩:=zae (M:=M) h;refine⟨d,?_,s,c,e⟩;cases w<;>first|exact s|skip
 case ref a=>
  cases q:M a with
  | none=>
   have e:cT M (.ref a)=.ref a:=by simp[cT,q]
   rw[e]at s;exact s
  | some o=>
   cases o with
   | lst ws=>
    have e:cT M (.ref a)=.rl ws:=by simp[cT,q]
    rw[e]at s;cases s with
    | rl r=>exact .ref q r
   | dK _=>
    have e:cT M (.ref a)=.ref a:=by simp[cT,q]
    rw[e]at s;exact s
   | dT _=>
    have e:cT M (.ref a)=.ref a:=by simp[cT,q]
    rw[e]at s;exact s
   | fix _=>
    have e:cT M (.ref a)=.ref a:=by simp[cT,q]
    rw[e]at s;exact s
   | ins _ _ _=>
    have e:cT M (.ref a)=.ref a:=by simp[cT,q]
    rw[e]at s;exact s
   | dn _ _ _ _=>
    have e:cT M (.ref a)=.ref a:=by simp[cT,q]
    rw[e]at s;exact s
   | vw _=>
    have e:cT M (.ref a)=.ref a:=by simp[cT,q]
    rw[e]at s;exact s
   | dh _ _ _ _ _=>
    have e:cT M (.ref a)=.ref a:=by simp[cT,q]
    rw[e]at s;exact s
theorem LC{n:Nat}(g:∀{x y:W} {dx a:Li},Pl n x->Pl n y->Snap M x dx->Snap M y a->(Kk dx a=true↔x=y)):∀{xs ys:List W} {dx a:List Li},(∀w∈xs,Pl n w)->(∀w∈ys,Pl n w)->jF M xs dx->jF M ys a->(Mv dx a=true↔xs=ys):=by
 intro xs
 induction xs with
 | nil=>
  intro ys dx a d e c b;cases c;cases b<;>simp[Mv]
 | cons x xs i=>
  intro ys dx a d e c b;cases c with
  | cons c h=>
   cases b with
   | nil=>simp[Mv]
   | cons b f=>
    rw[Mv,Cq,g (d x Az) (e _ Az) c b,i (λz hz=>d z (Ar _ hz)) (λz hz=>e z (Ar _ hz)) h f];simp
theorem zaf:∀{n:Nat} {x y:W} {dx c:Li},Pl n x->Pl n y->Snap M x dx->Snap M y c->(Kk dx c=true↔x=y):=by
 intro n
 induction n with
 | zero=>
  intro x y dx c a b d e;cases d<;>first|exact(show False from a).elim|skip
  all_goals cases e<;>first|exact(show False from b).elim|simp[Kk]
 | succ n f=>
  intro x y dx c a b d e;cases d<;>first|exact(show False from a).elim|skip
  all_goals cases e<;>first|exact(show False from b).elim|skip
  all_goals first|(simp[Kk];done)|skip
  case tup.tup r1 _ _ r2=>rw[Kk,LC f a b r1 r2];simp
  case rl.rl r1 _ _ r2=>rw[Kk,LC f a b r1 r2];simp
theorem zag{neg:Bool}(n:Nat)(o:n<=60)(d:Pl n (cT M x))(e:Pl n (cT M y))(h:∀b:Bool,(b=true↔cT M x=cT M y)->R (.bl (if neg then !b else b)) M):sE neg x y M R:=by
 obtain⟨dx,j,a,k,l⟩:=LB d;obtain⟨i,f,c,g,m⟩:=LB e;exact⟨dx,i,j,f,⟨k,by lia⟩,⟨g,by lia⟩,h _ (zaf d e a c)⟩
theorem sL{neg:Bool}(n:Nat)(c:n<=60)(a:Pl n (cT M x))(e:Pl n (cT M y))(h:∀b:Bool,(b=true↔cT M x=cT M y)->R (.bl (if neg then !b else b)) M):rEq neg x y M R:=by
 have d:=zag n c a e h;cases x<;>first|exact d|skip
 case int i=>
  cases y<;>first|exact d|skip
  case int j=>exact h (decide (i=j)) (by simp[cT])
 case str i=>
  cases y<;>first|exact d|skip
  case str j=>exact h (decide (i=j)) (by simp[cT])
 case bl i=>
  cases y<;>first|exact d|skip
  case bl j=>exact(show False by cases n<;>exact a).elim
end
theorem sM{neg:Bool}(n:Nat)(d:n<=60)(a:Pl n (cT M x))(e:cT M y=cT M x)(h:R (.bl (!neg)) M):rEq neg x y M R:=by
 refine sL n d a (by rw[e];exact a) λb c=>?_;have:b=true:=c.mpr e.symm;subst this;cases neg<;>exact h
theorem vF{ws:List W}{keep:Mm->Prop}{g:fJ}{v:d6}{t:aZ}{d:S3}{m:Mm}{R:K3}(St:S3->Prop)(e:W->S3)(c:W->Option W->Prop)(hl:ws.length<=An)(hk:∀M,Sub m M->keep M)(E:St d)(ht:∀w∈ws,St (e w))(A:∀w∈ws,∀f M (C:S3->Mm->Prop),St f->C (e w) M->g w f M C)(G:∀w∈ws,∀M (C:K3) (D:Mm->Prop),Sub m M->(∀y,c w (some y)->C y M)->(c w none->D M)->v (e w) M λb u=>if b=true then t (e w) u C else D u)(r:∀os,Es c ws os->aY (os.filterMap id) m R):kI ws keep g v t d m R:=by
 intro p j;refine⟨λi f acc M=>St f/\(∃os,Es c (ws.take i) os/\acc=os.filterMap id)/\M=m,⟨E,⟨[],by simp;exact .nil,rfl⟩,rfl⟩,?_,?_,?_⟩
 .rintro vs i f acc M _ s ⟨_,_,rfl⟩;exact hk _ (Sub.new j)
 .rintro vs i w f acc M hw s ⟨st,⟨os,po,rfl⟩,rfl⟩;have q:w∈ws:=Au hw;have hi:i<ws.length:=(Ap.mp hw).1;have k:ws.take (i+1)=ws.take i++[w]:=by rw[Cu,hw];rfl
  have h:∀o,c w o->Es c (ws.take (i+1)) (os++[o]):=λo x=>by
   rw[k];clear hw s st k
   revert os
   generalize ws.take i=l;intro os po
   induction po with
   | nil=>exact .cons x .nil
   | cons a b H=>exact .cons a H
  have n:(os.filterMap id).length<An:=by
   have I:=List.length_filterMap_le id os;have z:=Cw po;rw[Ce]at z;lia
  refine A w q f _ _ st (G w q _ _ _ (Sub.new j) (λy F=>⟨aR,n,M,?_,ht w q,⟨_,h _ F,?_⟩,rfl⟩) λB=>⟨aR,M,?_,ht w q,⟨_,h _ B,?_⟩,rfl⟩)
  .rw[j9 j];exact Sub.refl _
  .simp
  .rw[j9 j];exact Sub.refl _
  .simp
 .rintro f acc M s ⟨_,⟨os,po,rfl⟩,rfl⟩;rw[Cd]at po;exact r os po p j
def zW(rest:S3):S3->Prop:=λa=>∃o,a=o::rest
theorem oO{keep:Mm->Prop}(f:W->W)(hl:ws.length<=An)(hk:∀M,Sub c M->keep M)(e:∀w∈ws,∀M (C:K3),Sub c M->C (f w) M->d (some w::rest) M C)(r:aY (ws.map f) c R):kI ws keep (bB 0) fL d (o::rest) c R:=by
 refine vF (zW rest) (λw=>some w::rest) (λw o=>o=some (f w)) hl hk ⟨_,rfl⟩ (λw _=>⟨_,rfl⟩) ?_ ?_ ?_
 .rintro w _ j M C ⟨o,rfl⟩ h;exact h
 .intro w hw M C D sb g _;show(if true=true then d (some w::rest) M C else D M);rw[if_pos rfl];exact e w hw M C sb (g _ rfl)
 .intro os po;have:os.filterMap id=ws.map f:=by
   clear r e hl hk
   induction po with
   | nil=>rfl
   | cons a b i=>subst a;simp[i]
  rw[this];exact r
theorem LF{keep:Mm->Prop}(f:W->Option W)(hl:ws.length<=An)(hk:∀M,Sub g M->keep M)(i:∀w∈ws,∀M (C:K3) (D:Mm->Prop),Sub g M->(∀y,f w=some y->C y M)->(f w=none->D M)->l (some w::rest) M λb j=>if b=true then k (some w::rest) j C else D j)(r:aY (ws.filterMap f) g R):kI ws keep (bB 0) l k (o::rest) g R:=by
 refine vF (zW rest) (λw=>some w::rest) (λw o=>o=f w) hl hk ⟨_,rfl⟩ (λw _=>⟨_,rfl⟩) ?_ ?_ ?_
 .rintro w _ s M C ⟨o,rfl⟩ h;exact h
 .intro w hw M C D sb n m;exact i w hw M C D sb (λy e=>n y e.symm) λe=>m e.symm
 .intro os po;have:os.filterMap id=ws.filterMap f:=by
   clear r i hl hk
   induction po with
   | nil=>rfl
   | @cons a b c d e _ p=>
    subst e;cases q:f a<;>simp[q,p]
  rw[this];exact r
theorem vG{keep:Mm->Prop}(P:W->W->Prop)(hl:ws.length<=An)(hk:∀M,Sub d M->keep M)(f:∀w∈ws,∀M (C:K3),Sub d M->(∀y,P w y->C y M)->e (some w::rest) M C)(r:∀ys,Es P ws ys->aY ys d R):kI ws keep (bB 0) fL e (o::rest) d R:=by
 refine vF (zW rest) (λw=>some w::rest) (λw o=>∃y,o=some y/\P w y) hl hk ⟨_,rfl⟩ (λw _=>⟨_,rfl⟩) ?_ ?_ ?_
 .rintro w _ j M C ⟨o,rfl⟩ h;exact h
 .intro w hw M C D sb g _;show(if true=true then e (some w::rest) M C else D M);rw[if_pos rfl];exact f w hw M C sb λy c=>g y ⟨y,rfl,c⟩
 .intro os po;have:∃ys,os=ys.map some/\Es P ws ys:=by
   clear r f hl hk
   induction po with
   | nil=>exact⟨[],rfl,.nil⟩
   | cons a b i=>
    obtain⟨y,rfl,c⟩:=a;obtain⟨ys,rfl,h⟩:=i;exact⟨y::ys,rfl,.cons c h⟩
  obtain⟨ys,rfl,c⟩:=this;rw[Iw];have:(ys.filterMap (id ∘ some))=ys:=by simp
  rw[this];exact r ys c
theorem Paired.all{P:W->W->Prop}{Q:W->Prop}(h:Es P xs ys)(k:∀x y,P x y->Q y):∀y∈ys,Q y:=by
 induction h with
 | nil=>intro y c;cases c
 | cons a b d=>
  intro y c;rcases Ba.mp c with rfl|c
  .exact k _ _ a
  .exact d y c
def zah(rest:S3):S3->Prop:=λb=>∃c a,b=c::a::rest
def zai(rest:S3):W->S3
 | .tup [a,b]=>some a::some b::rest
 | _=>none::none::rest
abbrev zX:fJ:=iD 2 (dD (bB 0) (dD (bB 1) iC))
theorem zY{keep:Mm->Prop}(P:W->Option W->Prop)(hw:∀w∈ws,∃a b,w=.tup [a,b])(hl:ws.length<=An)(hk:∀M,Sub d M->keep M)(i:∀a b,.tup [a,b]∈ws->∀M (C:K3) (D:Mm->Prop),Sub d M->(∀y,P (.tup [a,b]) (some y)->C y M)->(P (.tup [a,b]) none->D M)->g (some a::some b::rest) M λm e=>if m=true then f (some a::some b::rest) e C else D e)(r:∀os,Es P ws os->aY (os.filterMap id) d R):kI ws keep zX g f (l::n::rest) d R:=by
 refine vF (zah rest) (zai rest) P hl hk ⟨_,_,rfl⟩ (λw c=>?_) ?_ ?_ r
 .obtain⟨a,b,rfl⟩:=hw w c;exact⟨_,_,rfl⟩
 .rintro w c o M C ⟨p,q,rfl⟩ h;obtain⟨a,b,rfl⟩:=hw w c;exact⟨rfl,rfl,h⟩
 .intro w c M C D sb k j;obtain⟨a,b,rfl⟩:=hw w c;exact i a b c M C D sb k j
theorem zaj{keep:Mm->Prop}(P:W->W->Prop)(hw:∀w∈ws,∃a b,w=.tup [a,b])(hl:ws.length<=An)(hk:∀M,Sub d M->keep M)(f:∀a b,.tup [a,b]∈ws->∀M (C:K3),Sub d M->(∀y,P (.tup [a,b]) y->C y M)->e (some a::some b::rest) M C)(r:∀ys,Es P ws ys->aY ys d R):kI ws keep zX fL e (i::j::rest) d R:=by
 refine zY (λw o=>∃y,o=some y/\P w y) hw hl hk (λa b l M C D sb g _=>?_) λos po=>?_
 .show(if true=true then e (some a::some b::rest) M C else D M);rw[if_pos rfl];exact f a b l M C sb λy c=>g y ⟨y,rfl,c⟩
 .have:∃ys,os=ys.map some/\Es P ws ys:=by
   clear r f hl hk hw
   induction po with
   | nil=>exact⟨[],rfl,.nil⟩
   | cons a b k=>
    obtain⟨y,rfl,c⟩:=a;obtain⟨ys,rfl,h⟩:=k;exact⟨y::ys,rfl,.cons c h⟩
  obtain⟨ys,rfl,c⟩:=this;rw[Iw];have:(ys.filterMap (id ∘ some))=ys:=by simp
  rw[this];exact r ys c
structure Df(K:Ac)(mg:Str->Option Ae)(x:Str)(st:Stmt)(ps:List Str)(f:Addr)(fd:Bi):Prop where
 fn:lA K x x st f fd
 at_:mg x=some (.ref f)
 bi:Binds K fd ps []
theorem eD:Cy "len" = some (.builtin "len"):=PySem.boot_len
theorem mV:Cy "list" = some (.type "list"):=by decide +kernel
theorem sN:Cy "tuple" = some (.type "tuple"):=by decide +kernel
theorem LG:Cy "str" = some (.type "str"):=by decide +kernel
theorem zak:Cy "bool" = some (.type "bool"):=by decide +kernel
theorem sO:Cy "dict" = some (.type "dict"):=by decide +kernel
theorem qJ:Cy "isinstance" = some (.builtin "isinstance"):=by decide +kernel
theorem LH:Cy "all" = some (.builtin "all"):=by decide +kernel
theorem LI:Cy "any" = some (.builtin "any"):=by decide +kernel
theorem zal:Cy "sorted" = some (.builtin "sorted"):=by decide +kernel
theorem zZ{α:Type}(x:α)(xs:List α):cA (x::xs) 0=some x:=by simp[cA,i4]
theorem z5{α:Type}{xs:List α}{i:Int}(b:0<=i)(c:i<xs.length):∃x,cA xs i=some x/\xs[i.toNat]? = some x/\x∈xs:=by
 have a:i.toNat<xs.length:=by lia
 refine⟨xs[i.toNat],?_,Bj a,Lk a⟩;simp[cA,i4,b,c,a]
theorem LJ{ws:List W}{lo hi:Option Int}{w:W}(h:w∈eX ws lo hi):w∈ws:=List.mem_of_mem_drop (Gx h)
theorem LK{ws:List W}{lo hi:Option Int}:(eX ws lo hi).length<=ws.length:=by
 unfold eX;rw[Ce,Ia];exact Ay (Nat.min_le_right _ _) (Nat.sub_le _ _)
def qK(ws:List W):Prop:=∀w∈ws,∃i,w=W.int i
theorem ints_map(ns:List Int):qK (ns.map W.int):=λw h=>by
 obtain⟨i,_,e⟩:=Am.mp h;exact⟨i,e.symm⟩
theorem qK.cut(h:qK ws)(lo hi:Option Int):qK (eX ws lo hi):=λw m=>h w (LJ m)
theorem cJ{n:Nat}(h:n<=10000000):n<=An:=Ay h (by decide)
theorem eS{n:Nat}(h:n<10000000):n<An:=Cf h (by decide)
theorem LL{i j:Int}(a:0<=i)(b:0<=j):(eX S (some i) (some j)).length<=(j-i).toNat:=by
 unfold eX HT.sIx;simp only[];rw[if_neg (Int.not_lt.mpr a),if_neg (Int.not_lt.mpr b),Ce];refine Ay (Mf _ _) (Nat.sub_le_of_le_add ?_);rw[<-Nat.add_min_add_left];refine Nat.le_min.mpr ⟨Ay (Mf _ _) ?_,Ay (Nat.min_le_right _ _) (Nat.le_add_left _ _)⟩;have:j<=(((j-i).toNat+i.toNat:Nat):Int):=by
  rw[Int.natCast_add,Int.toNat_of_nonneg a];have:=Int.self_le_toNat (j-i);have h:=Int.add_le_add_right this i;rwa [Int.sub_add_cancel]at h
 exact Int.toNat_le.mpr this
theorem z7{M:Mm}{a:Addr}{k:Str}{v:W}{kvs:List (aF×W)}{Q:Mm->Prop}(h:M a=some (.dK kvs))(hl:kvs.length<An)(q:Q (put M a (.dK (b9 kvs (Sum.inr k) v)))):sG (.ref a) (.str k) v M Q:=.inr (.inl ⟨kvs,.inr k,rfl,h,hl,q⟩)
theorem sP{M:Mm}{a:Addr}{k:List aF}{v:W}{kvs:List (List aF×W)}{Q:Mm->Prop}(h:M a=some (.dT kvs))(hl:kvs.length<An)(q:Q (put M a (.dT (b9 kvs k v)))):sG (.ref a) (.tup (k.map wK)) v M Q:=.inr (.inr ⟨kvs,k,rfl,h,hl,q⟩)
theorem zam{M:Mm}{a:Addr}{k:Int}{v:W}{ws:List W}{Q:Mm->Prop}(h:M a=some (.lst ws))(c:0<=k)(b:k<ws.length)(q:Q (put M a (.lst (ws.set k.toNat v)))):sG (.ref a) (.int k) v M Q:=
 .inl ⟨ws,k,k.toNat,rfl,h,by unfold i4;rw[if_pos c,if_pos b],q⟩
section
variable {X:Cx}{a b c:Expr}{ta tb tc:aZ}{pos:Pos}
theorem zan{K:Ac}{r p:R3}{q:SV}{H:Hp}{Q:VK}(h:up K (vB r p ta tb tc) q H Q):HN (cM K r) (cM K p) (up K ta) (up K tb) (up K tc) q H Q:=by
 obtain⟨j,M,R,l,n,h,k⟩:=h;refine⟨j,M,_,l,n,h,λx O G C f d I B=>⟨j,C,_,l.kp n f,d,B,λy U t N g b s A=>⟨G,t,N,_,b,I.kp d g,s,A,λz P S F i a L ⟨c,e,o⟩=>?_⟩⟩⟩;subst e;refine⟨c,L.bl_inv,?_⟩;cases c with
 | false=>exact((k.kp f).kp g).kp i |>.at a (.bl false) o
 | true=>exact⟨j,F,_,((l.kp n f).kp d g).kp b i,a,o,λw T D E u m J v=>⟨t,D,E,R,m,(s.kp b i).kp a u,J,v,(((k.kp f).kp g).kp i).kp u⟩⟩
theorem LM{op d:CmpOp}{r i:R3}(n:bC X (Co op) (cM X.K r))(f:bC X (Co d) (cM X.K i))(t:E3 X a ta)(p:E3 X b tb)(hc:E3 X c tc)(u:lastMarks [op,d] [b,c]=false:=by with_unfolding_all rfl):T3 X (.Compare a [op,d] [b,c] pos) (bP (vB r i ta tb tc)):=
 (UD n f t p hc u).weak λx H Q z0=>z0.el λm M R s q h k=>zan ⟨m,M,_,s,q,h,λv l w o j g av ⟨c,e,r⟩=>by
  subst e;exact⟨c,av.bl_inv,k c l o j g r⟩⟩
theorem any_range{bs:List Bool}:(Cr bs.length).any (λi=>bs.getD i false)=bs.any id:=by
 induction bs with
 | nil=>rfl
 | cons b r a=>
  rw[Br,List.range_succ_eq_map,Eo,Lx,Eo];have:((λi=>(b::r).getD i false) ∘ Nat.succ)=λi=>r.getD i false:=by
   funext i;simp[List.getD]
  rw[this,a];simp
theorem LN(hc:X.calm=true):c0 X (.builtin "any") (λxs H Q=>∃(p:Addr) (bs:List Bool),xs=[.ref p]/\bO X.K H p (bs.map V.bl)/\Q (.bl (bs.any id)) H):=by
 intro j s C H xs us Q I r h;obtain⟨p,bs,rfl,m,q⟩:=h;obtain⟨u,rfl,ru⟩:=vals1 r;cases ru;obtain⟨its,d,pl,hz⟩:=I.list m;have g:p<s.heap.objs.size:=by obtain⟨_,e,_⟩:=pl.isList;exact Be e
 refine call_any_walk (Hx pl.isList ?_);have n:X.A.in1.handled=none:=I.ok.hd hc;refine⟨s.heap.objs.size,[s.heap.objs.size,p],[s.heap.objs.size],its.toArray.size,(λi v=>its.toArray[i]? = some v),_,(λi=>bs.getD i false),rfl,Ll n s.heap.objs.size p (Bn g) its.toArray,
  ⟨⟨_,Bc _ rfl,rfl,rfl⟩,pl.isList.push _⟩,?_,λh' tk hk=>?_⟩
 .intro i v D y B w f;have a:its[i]? = some v:=by simpa using w
  have hi:i<its.length:=(Ap.mp a).1;have hl:=d.length;rw[Ab]at hl;have t:bs[i]? = some (bs.getD i false):=by
   have c:i<bs.length:=by lia
   simp[List.getD,Bj c]
  obtain⟨u,k,ru⟩:=d.get (i:=i) (x:=.bl (bs.getD i false)) (by rw[Av,t];rfl);rw[a]at k;cases k;cases (show v=Value.bool (bs.getD i false) from ru);exact Af f
 .have hl:=d.length;rw[Ab]at hl;have e:(Cr its.toArray.size).any (λi=>bs.getD i false)=bs.any id:=by
   rw[Bf,<-hl,any_range]
  rw[e];refine⟨.bl (bs.any id),H,?_,rfl,q⟩;exact I.kept (t':=tk) λb o l=>hk b o (λz=>by
   have:b=s.heap.objs.size:=by simpa using z
   exact absurd (Be l) (by rw[this];exact Hl _)) (Ai _ l)
def z8:List W->Mm->K3->Prop
 | [.ref a],M,R=>∃bs,M a=some (.lst (bools bs))/\R (.bl (bs.any id)) M
 | [.rl ws],M,R=>∃bs,ws=bools bs/\R (.bl (bs.any id)) M
 | _,_,_=>False
theorem LO(hc:X.calm=true):c0 X (.builtin "any") (fT X.K z8):=by
 rintro b s g H xs us Q I rs ⟨ws,M,R,d,c,h,k⟩
 match ws,h with
 | [.ref a],h=>
  obtain⟨v,rfl,av⟩:=c.one;obtain rfl:=av.inv;obtain⟨bs,e,r⟩:=h;obtain⟨vs,f,q⟩:=d.lst e;rw[q.bools]at f;exact LN hc b s g H _ us Q I rs ⟨a,bs,rfl,bO.of f,k.at d (.bl _) r⟩
 | [.rl ws],h=>
  obtain⟨v,rfl,av⟩:=c.one;obtain⟨bs,rfl,r⟩:=h;cases av with
  | rl f _ q=>
   rw[q.bools]at f;exact LN hc b s g H _ us Q I rs ⟨_,bs,rfl,bO.of f,k.at d (.bl _) r⟩
end
def gW:Nat->List W->List W
 | _,[]=>[]
 | n,w::r=>.tup [.int n,w]::gW (n+1) r
theorem mW:∀{ws:List W} {n:Nat},(gW n ws).length=ws.length
 | [],_=>rfl
 | _::r,n=>by simp[gW,mW (ws:=r)]
theorem vH:∀{ws:List W} {n i:Nat},(gW n ws)[i]? = (ws[i]?).map λw=>W.tup [.int ((n+i:Nat):Int),w]
 | [],_,_=>by simp[gW]
 | w::r,n,0=>by simp[gW]
 | w::r,n,i+1=>by
  rw[gW,Ez,Ez,vH];congr 2;funext w;congr 4;lia
section
variable {X:Cx}{a b c:Expr}{ta tb tc:aZ}{pos:Pos}
theorem LP{K:Ac}{c:Hp}{b:Mm}{p:Addr}{vs:List V}{ws:List W}{keep:Mm->Prop}(f:aN K c b vs ws)(d:AM K c b)(st:∀H M,Kp c b H M->AM K H M->keep M->bO K H p vs):jJ K c b (yU K p vs) (gW 0 ws) keep:=by
 refine⟨λi H M k a kp hi=>⟨st H M k a kp,by rw[mW]at hi;rw[f.length];exact hi⟩,λH M k a kp=>⟨st H M k a kp,by rw[mW,f.length];exact Ag _⟩,λi H M x l k a kp hi y=>?_⟩;obtain⟨m,u,h,g,rfl,rfl⟩:=y;obtain⟨w,hw,av⟩:=(f.kp d k).getV h;obtain⟨e,j⟩:=a.tup (u:=.tup [.int (i:Nat),u]) g;refine⟨.tup [.int ((i:Nat):Int),w],by rw[vH,hw];simp,j,e,.tup cU (.cons (.int _) (.cons (av.go (go_same g)) .nil))⟩
def z9(ta:eJ):jI:=λc M R=>ta c M λws b=>match ws with
 | [.rl a]=>R (gW 0 a) (λ_=>True) b
 | [.sc a]=>R (gW 0 a) (λ_=>True) b
 | [.ref p]=>∃a,b p=some (.lst a)/\False
 | _=>False
theorem LQ{d:eJ}{p pos:Pos}{es:List Expr}{j:Nat}{u:Pos}(l:Gl X "enumerate")(y:X.mg "enumerate" = none)(m:A3 X [a] d)(w:Bk [a] X.env=[(false,eval a X.env)]:=by rfl):PI X (.Tuple es j u) (.Call (.Name "enumerate" p) [a] [] pos) (gT X.K (z9 d)):=
 (YE l y m w).weak λA H B z0=>z0.el λi M R s x h k=>⟨i,M,_,s,x,h,λvs C ws z c b g r=>by
  match ws,r with
  | [.rl t],r=>
   obtain⟨v,rfl,av⟩:=g.one;cases av with
   | rl e n q=>exact⟨_,_,rfl,bO.of e,k _ _ _ _ _ c b (LP q b λH M k _ _=>bO.of (k.fr _ _ n e).1) r⟩
  | [.sc t],r=>
   obtain⟨v,rfl,av⟩:=g.one;cases av with
   | sc e q=>exact⟨_,_,rfl,e.sq,k _ _ _ _ _ c b (LP q b λH M k _ _=>by
     refine mL.sq ?_;rcases e with⟨o,e⟩|e
     .exact .inl ⟨o,(k.fr _ _ (b.noFrz e) e).1⟩
     .exact .inr e) r⟩
  | [.ref p],r=>obtain⟨_,_,f⟩:=r;exact f.elim⟩
end
section
variable {X:Cx}
def zao:List W->Mm->K3->Prop
 | [.dk kvs],M,R=>∃ks:List Str,kvs.map Ck=ks.map Sum.inr/\ks.length<64/\∀a:List Str,a.Perm ks->aY (a.map W.str) M R
 | _,_,_=>False
def LR:List W->Mm->K3->Prop
 | [.dk kvs],M,R=>∃ks:List Str,kvs.map Ck=ks.map Sum.inr/\ks.length<64/\∀a:List Str,a.Perm ks->R (.rl (a.map W.str)) M
 | _,_,_=>False
theorem zap{K:Ac}{H:Hp}{M:Mm}(a:List Str):aN K H M (a.map V.str) (a.map W.str):=by
 induction a with
 | nil=>exact .nil
 | cons s r b=>exact .cons (.str s) b
theorem zaq(hc:X.calm=true):c0 X (.builtin "sorted") (fT X.K zao):=by
 rintro a s j H xs us Q I rs ⟨ws,M,R,g,d,h,k⟩
 match ws,h with
 | [.dk kvs],h=>
  obtain⟨v,rfl,av⟩:=d.one;obtain⟨ks,hk,b,r⟩:=h;cases av with
  | dk e n l q=>exact YT hc a s j H _ us Q I rs ⟨_,_,ks,rfl,e,l.trans hk,b,λf i p c=>iS g k c (zap f) (r f i)⟩
theorem zar(hc:X.calm=true):c0 X (.builtin "sorted") (fT X.K LR):=LA (zaq hc) λx M R h=>by
 match x,h with
 | [.dk kvs],⟨ks,b,a,r⟩=>exact⟨ks,b,a,λd c=>aY.frz (r d c)⟩
end
end L3
namespace Rg
open PySem PySem.Spec PyProof.Rows L2 L3
structure aI where
 name:Str
 parts:List Str
 cost:Int
def nR(t:Str):Prop:=∀c∈cs t,c<128
structure lP(t:Str):Prop where
 len:t.length<=20
 nm:i5 t=true
 hd:∃c r,cs t=c::r/\c∈cs h8
 asc:nR t
structure jK(t:Str):Prop where
 len:t.length<=20
 ne:cs t≠[]
 sm:∀c∈cs t,c∈cs j8
theorem zas:∀c∈cs j8,c<128:=by decide +kernel
theorem LS:∀c∈cs h8,c<128:=by decide +kernel
theorem zat:∀c∈cs mI,c<128:=by decide +kernel
theorem jK.asc(h:jK t):nR t:=λc hc=>zas c (h.sm c hc)
theorem jK.nm(h:jK t):i5 t=false:=X8 h.ne h.sm
structure nS(hs ws:List Str)(r:aI):Prop where
 name:r.name∈hs
 parts:∀t∈r.parts,t∈ws\/t∈hs
 few:r.parts.length<=4
 lo:0<=r.cost
 hi:r.cost<10 ^ 60
structure nT(rs:List aI):Prop where
 ne:rs≠[]
 few:rs.length<=60
 ex:∃hs ws:List Str,hs.length<=12/\(∀t∈hs,lP t)/\(∀t∈ws,jK t)/\(∀r∈rs,nS hs ws r)/\∀t∈hs,∃r∈rs,r.name=t
theorem LU(c:Array Nat):∀(k:Nat) (acc:Array Nat) (d:Nat),d∈((Bv k c).foldl (·++·) acc).toList->d∈acc.toList\/d∈c.toList
 | 0,acc,d,h=>.inl h
 | k+1,acc,d,h=>by
  rw[Eb,Cm]at h;rcases LU c k _ d h with q|q
  .rw[Mx]at q;exact Bg.mp q
  .exact .inr q
theorem LV{n:Int}{d:Nat}(h:d∈cs (Hc x n)):d∈cs x:=by
 unfold Hc at h;split at h
 .exact absurd h (by rw[show cs Str.empty=[] from rfl];simp)
 .split at h
  .exact h
  .rcases LU x.cps _ #[] d h with q|q
   .simp at q
   .exact q
theorem LW{n:Int}(a:x.length=1)(b:0<=n):((Hc x n).length:Int)=n:=by
 rw[len_mul,a];have:¬n<0:=by lia
 simp[this]
def dE(acc:List Str)(t:Str):List Str:=if t∈acc then acc else acc++[t]
def oP(acc:List Str)(rs:List aI):List Str:=(rs.map aI.name).foldl dE acc
def namesOf(rs:List aI):List Str:=oP [] rs
theorem lQ:u∈dE acc t↔u∈acc\/u=t:=by
 unfold dE;split
 .rename_i h;constructor
  .exact .inl
  .rintro(q|q)
   .exact q
   .rw[q];exact h
 .rw[Bg,Aj]
theorem zau:(dE acc t).length<=acc.length+1:=by
 unfold dE;split
 .lia
 .rw[Ak];exact Ag _
theorem vI:∀{ts acc:List Str} {u:Str},u∈ts.foldl dE acc↔u∈acc\/u∈ts
 | [],acc,u=>by simp
 | t::r,acc,u=>by
  rw[Cm,vI,lQ,Ba];constructor
  .rintro((h|h)|h)
   .exact .inl h
   .exact .inr (.inl h)
   .exact .inr (.inr h)
  .rintro(h|h|h)
   .exact .inl (.inl h)
   .exact .inl (.inr h)
   .exact .inr h
theorem mX:u∈namesOf rs↔∃r∈rs,r.name=u:=by
 unfold namesOf oP;rw[vI];simp
theorem AA(h:nR t):PyData.strOk t=true:=by
 unfold PyData.strOk;rw[Array.all_eq_true'];intro c hc;have:=h c (by unfold cs;exact Array.mem_toList_iff.mpr hc);exact decide_eq_true (by lia)
theorem nT.asc(g:nT rs)(b:r∈rs):nR r.name/\∀t∈r.parts,nR t:=by
 obtain⟨c,ws,_,hh,hw,a,_⟩:=g.ex;refine⟨(hh _ (a r b).name).asc,λt ht=>?_⟩;rcases(a r b).parts t ht with q|q
 .exact(hw t q).asc
 .exact(hh t q).asc
def sQ(g:Bool)(t:Str):Prop:=if g then lP t else jK t
def kK:Bool->Str
 | true=>Txt.upper j8
 | false=>j8
theorem AB(g:Bool):(cs (kK g)).length=26:=by cases g<;>decide +kernel
theorem LX(e:(cs g).length=26)(n:Int):∃c,cA g.cps.toList (n % 26)=some c/\c∈cs g:=by
 have d:0<=n % 26:=Ey _ (by decide);have f:n % 26<26:=Dz _ (by decide);obtain⟨j,b⟩:=Lq d;have a:j<(cs g).length:=by lia
 refine⟨(cs g)[j],?_,Lk a⟩;rw[b];exact gF (Bj a)
theorem AD(c:Nat):cs (⟨#[c]⟩:Str)=[c]:=rfl
theorem zav{g:Bool}(hl:t.length<=8)(a:cs t≠[])(h:∀c∈cs t,c∈cs (kK g)):sQ g t:=by
 cases g with
 | false=>exact⟨by lia,a,h⟩
 | true=>
  have b:kK true=h8:=by show Txt.upper j8=h8;decide +kernel
  rw[b]at h;refine⟨by lia,X6 a h,?_,λc hc=>LS c (h c hc)⟩;cases e:cs t with
  | nil=>exact absurd e a
  | cons c r=>exact⟨c,r,rfl,h c (by rw[e];simp)⟩
theorem zaw(n:Int)(g:0<=n)(k:n<10000)(hl:t.length<=8)(a:cs t≠[])(h:∀c∈cs t,c∈cs (kK true)):sQ true (t++"_"++Bx (toString n)):=by
 have j:kK true=h8:=by show Txt.upper j8=h8;decide +kernel
 rw[j]at h;have i:(Bx (toString n)).length<=10:=PySem.W.KT.len_num g (by lia);have f:("_" : Str).length=1:=by decide +kernel
 obtain⟨m,rfl⟩:=Lq g;have b:=rZ (m:=m);have d:cs (t++"_"++Bx (toString ((m:Nat):Int)))=cs t++95::cs (Bx (toString ((m:Nat):Int))):=by rw[pW,pW,JL];simp
 refine⟨by rw[Kj,Kj,f];lia,X7 d a h b.2 b.1,?_,λc hc=>?_⟩
 .cases e:cs t with
  | nil=>exact absurd e a
  | cons c r=>exact⟨c,_,by rw[d,e];rfl,h c (by rw[e];simp)⟩
 .rw[d]at hc;rcases Bg.mp hc with q|q
  .exact LS c (h c q)
  .rcases Ba.mp q with q|q
   .lia
   .exact zat c (b.1 c q)
theorem LY{n:Int}(c:0<=n)(b:n<10000):n.natAbs.log2<1920:=by
 rcases Nat.eq_zero_or_pos n.natAbs with h|a
 .rw[h];decide
 .have:n.natAbs<2 ^ 14:=by
   have:(2:Nat) ^ 14=16384:=by decide
   lia
  have:=(Nat.log2_lt (Ga a)).mpr this;lia
theorem zax(h:Drawn e (a++b)):∃d c,e=d++c/\Drawn d a/\Drawn c b:=by
 induction a generalizing e with
 | nil=>exact⟨[],e,rfl,.nil,h⟩
 | cons x r k=>
  cases h with
  | cons j f=>
   obtain⟨d,c,rfl,g,i⟩:=k f;exact⟨_::d,c,rfl,.cons j g,i⟩
theorem zay{a b c d:Int}(h:Drawn e [a,b,c,d]):∃x1 x2 x3 x4,e=[x1,x2,x3,x4]/\Below x1 a/\Below x2 b/\Below x3 c/\Below x4 d:=by
 cases h with|cons i h=>cases h with|cons g h=>cases h with|cons j h=>cases h with|cons f h=>cases h;exact⟨_,_,_,_,rfl,i,g,j,f⟩
theorem zaz{s:Int}(h:Drawn c b)(a:∀z∈b,z=s):∀d∈c,Below d s:=by
 induction h with
 | nil=>intro d hd;cases hd
 | cons r t f=>
  intro d hd;rcases Ba.mp hd with e|hd
  .subst e;have:=a _ Az;rw[<-this];exact r
  .exact f (λz hz=>a z (Ar _ hz)) d hd
theorem zaA{a b:Int}(h:Drawn c [a,b]):∃x1 x2,c=[x1,x2]/\Below x1 a/\Below x2 b:=by
 cases h with|cons e h=>cases h with|cons d h=>cases h;exact⟨_,_,rfl,e,d⟩
theorem vJ:∀(ts acc:List Str),(ts.foldl dE acc).length<=acc.length+ts.length
 | [],acc=>by simp
 | t::r,acc=>by
  rw[Cm,Br];have:=vJ r (dE acc t);have:=zau (acc:=acc) (t:=t);lia
theorem zaB(g:nT rs)(c:r∈rs):0<=r.cost/\∀t∈r.parts,t.length<=1000/\(i5 t=true->t∈namesOf rs):=by
 obtain⟨d,ws,_,hh,hw,a,b⟩:=g.ex;refine⟨(a r c).lo,λt ht=>?_⟩;rcases(a r c).parts t ht with q|q
 .have:=hw t q;exact⟨by have:=this.len;lia,λn=>by rw[this.nm]at n;cases n⟩
 .have:=hh t q;exact⟨by have:=this.len;lia,λ_=>mX.mpr (b t q)⟩
def bE(r:aI):W:=.tup [.str r.name,.tup (r.parts.map W.str),.int r.cost]
def cI(rs:List aI):W:=.rl (rs.map bE)
def ownB(rs:List aI)(t:Str):Bool:=decide (t∈namesOf rs)
theorem vK(h:r∈rs):ownB rs r.name=true:=decide_eq_true (mX.mpr ⟨r,h,rfl⟩)
abbrev aL:=Int×Int
def cY(a b:aL):Bool:=decide (a.1<b.1)||(decide (a.1=b.1)&&decide (a.2<b.2))
theorem qL:cY a b=true↔a.1<b.1\/a.1=b.1/\a.2<b.2:=by simp[cY]
def Le(a b:aL):Prop:=a.1<b.1\/a.1=b.1/\a.2<=b.2
theorem AE:Le a b↔¬cY b a=true:=by
 rw[qL];unfold Le;lia
theorem Le.refl(a:aL):Le a a:=.inr ⟨rfl,Ld _⟩
theorem Le.trans(h:Le a b)(h':Le b c):Le a c:=by unfold Le at *;lia
theorem Le.of_lt(h:cY a b=true):Le a b:=by rw[qL]at h;unfold Le;lia
theorem Le.antisymm(h:Le a b)(h':Le b a):a=b:=by
 unfold Le at *;exact Lj (by lia) (by lia)
theorem sR:¬cY a a=true:=by rw[qL];lia
theorem sS(h:cY a b=true)(h':Le b c):cY a c=true:=by rw[qL]at *;unfold Le at h';lia
def eN(a b:aL):aL:=(a.1+b.1,a.2+b.2)
theorem zaC(h:Le a b)(h':Le c d):Le (eN a c) (eN b d):=by unfold Le eN at *;simp only;lia
section
variable {κ β:Type}[DecidableEq κ]
def aJ(t:List (κ×β))(k:κ):Option β:=(t.find? λe=>decide (e.1=k)).map (·.2)
def dS(t:List (κ×β))(k:κ)(v:β):List (κ×β):=if (t.any λe=>decide (e.1=k))=true then t.map (λe=>if e.1=k then(e.1,v) else e) else t++[(k,v)]
theorem dG(e:κ×β)(t:List (κ×β))(k:κ):aJ (e::t) k=if e.1=k then some e.2 else aJ t k:=by
 unfold aJ;rw[Du]
 by_cases h:e.1=k
 .rw[decide_eq_true h,if_pos h];rfl
 .rw[decide_eq_false h,if_neg h]
theorem lR(t:List (κ×β))(k:κ):(t.any λe=>decide (e.1=k))=(aJ t k).isSome:=by
 induction t with
 | nil=>rfl
 | cons e t a=>
  rw[Eo,dG,a]
  by_cases h:e.1=k
  .rw[decide_eq_true h,if_pos h];rfl
  .rw[decide_eq_false h,if_neg h];rfl
theorem AF(t:List (κ×β))(k j:κ)(v:β):aJ (t++[(k,v)]) j=(aJ t j).or (if k=j then some v else none):=by
 induction t with
 | nil=>rw[Fu,dG];rfl
 | cons e t a=>
  rw[List.cons_append,dG,dG,a];split<;>rfl
theorem zaD(t:List (κ×β))(k j:κ)(v:β)(h:(aJ t k).isSome=true):aJ (t.map (λe=>if e.1=k then(e.1,v) else e)) j=if k=j then some v else aJ t j:=by
 induction t with
 | nil=>cases h
 | cons e t c=>
  rw[Aw,dG,dG];rw[dG]at h
  by_cases hk:e.1=k
  .rw[if_pos hk]
   by_cases b:k=j
   .rw[if_pos (by rw[hk,b]:(e.1,v).1=j),if_pos b]
   .rw[if_neg (by rw[hk];exact b),if_neg b,if_neg (by rw[hk];exact b)]
    by_cases ht:(aJ t k).isSome=true
    .rw[c ht,if_neg b]
    .have:∀{t:List (κ×β)},¬(aJ t k).isSome=true->t.map (λe=>if e.1=k then(e.1,v) else e)=t:=by
      intro t
      induction t with
      | nil=>intro _;rfl
      | cons a t c=>
       intro h;rw[dG]at h
       by_cases d:a.1=k
       .rw[if_pos d]at h;exact absurd rfl h
       .rw[if_neg d]at h;rw[Aw,if_neg d,c h]
     rw[this ht]
  .rw[if_neg hk]at h⊢
   by_cases b:e.1=j
   .rw[if_pos b,if_pos b,if_neg (λz=>hk (by rw[b,z]))]
   .rw[if_neg b,if_neg b];exact c h
theorem mY(t:List (κ×β))(k j:κ)(v:β):aJ (dS t k v) j=if k=j then some v else aJ t j:=by
 unfold dS;rw[lR];split
 .rename_i h;exact zaD t k j v h
 .rename_i h;rw[AF]
  by_cases a:k=j
  .subst a;rw[if_pos rfl,if_pos rfl];cases e:aJ t k with
   | none=>rfl
   | some z=>rw[e]at h;exact absurd rfl h
  .rw[if_neg a,if_neg a,Option.or_none]
theorem vM(t:List (κ×β))(k:κ)(v:β):(dS t k v).length<=t.length+1:=by
 unfold dS;split
 .rw[Ab];lia
 .simp
def e9{a:Type}(t:List (κ×List a))(k:κ)(v:a):List (κ×List a):=dS t k ((aJ t k).getD []++[v])
theorem sU{a:Type}(t:List (κ×List a))(k j:κ)(v:a):(aJ (e9 t k v) j).getD []=if k=j then(aJ t j).getD []++[v] else(aJ t j).getD []:=by
 unfold e9;rw[mY]
 by_cases h:k=j
 .subst h;rw[if_pos rfl,if_pos rfl];rfl
 .rw[if_neg h,if_neg h]
end
section
variable {α:Type}
def d8(c:aL)(x:α):List (aL×List α)->List (aL×List α)
 | []=>[(c,[x])]
 | (d,xs)::r=>if cY c d=true then(d,xs)::d8 c x r else if d=c then(d,xs++[x])::r else(c,[x])::(d,xs)::r
def a9:List (aL×List α)->List (aL×α)
 | []=>[]
 | (d,xs)::r=>xs.map (λx=>(d,x))++a9 r
theorem vN(c:aL)(x:α):∀q:List (aL×List α),(a9 (d8 c x q)).length=(a9 q).length+1
 | []=>rfl
 | (d,xs)::r=>by
  rw[d8];split
  .rw[a9,a9,Ak,Ak,vN c x r];lia
  .split
   .rw[a9,a9,Ak,Ak,Bb,Ak];simp;lia
   .simp[a9]
def iG:List (aL×List α)->Prop
 | []=>True
 | (d,xs)::r=>xs≠[]/\(∀e∈r,cY e.1 d=true)/\iG r
theorem LZ(c:aL)(x:α):∀q:List (aL×List α),∀e∈d8 c x q,e.1=c\/∃a∈q,a.1=e.1
 | [],e,h=>by simp[d8]at h;exact .inl (by rw[h])
 | (d,xs)::r,e,h=>by
  rw[d8]at h;split at h
  .rcases Ba.mp h with z|z
   .exact .inr ⟨(d,xs),by simp,by rw[z]⟩
   .rcases LZ c x r e z with q|⟨a,b,f⟩
    .exact .inl q
    .exact .inr ⟨a,Ar _ b,f⟩
  .split at h
   .rcases Ba.mp h with z|z
    .exact .inr ⟨(d,xs),by simp,by rw[z]⟩
    .exact .inr ⟨e,Ar _ z,rfl⟩
   .rcases Ba.mp h with z|z
    .exact .inl (by rw[z])
    .exact .inr ⟨e,z,rfl⟩
theorem AG(c:aL)(x:α):∀{q:List (aL×List α)},iG q->iG (d8 c x q)
 | [],_=>⟨by simp,by simp,trivial⟩
 | (d,xs)::r,h=>by
  obtain⟨f,b,j⟩:=h;rw[d8];split
  .rename_i a;refine⟨f,λe i=>?_,AG c x j⟩;rcases LZ c x r e i with z|⟨l,z1,z2⟩
   .rw[z];exact a
   .rw[<-z2];exact b l z1
  .rename_i a;split
   .rename_i hd;subst hd;exact⟨by simp,b,j⟩
   .rename_i hd;have g:cY d c=true:=by
     have k:¬(c.1<d.1\/c.1=d.1/\c.2<d.2):=by rw[<-qL];exact a
     rw[qL]
     by_cases f:d.1=c.1
     .refine .inr ⟨f,?_⟩;have:d.2≠c.2:=λb=>hd (Lj f b);lia
     .left;lia
    refine⟨by simp,λe i=>?_,f,b,j⟩;rcases Ba.mp i with z|z
    .rw[z];exact g
    .exact sS (b e z) (Le.of_lt g)
def iW:List (aL×List α)->Option (aL×α×List (aL×List α))
 | []=>none
 | [(d,xs)]=>match xs.getLast? with
  | none=>none
  | some x=>some (d,x,if xs.dropLast.isEmpty then [] else [(d,xs.dropLast)])
 | e::a::r=>match iW (a::r) with
  | none=>none
  | some (d,x,q)=>some (d,x,e::q)
theorem oQ:∀{q:List (aL×List α)},iG q->q≠[]->∃d x f,iW q=some (d,x,f)/\iG f/\(∀e,e∈a9 q↔e=(d,x)\/e∈a9 f)/\(a9 q).length=(a9 f).length+1/\(∀e∈q,Le d e.1)/\∀e∈f,∃t∈q,t.1=e.1
 | [],_,h=>absurd rfl h
 | [(d,xs)],h,_=>by
  obtain⟨j,_,_⟩:=h;rcases Fj xs with z|⟨ys,y,z⟩
  .exact absurd z j
  .rw[Fl]at z;subst z;refine⟨d,y,if ys.isEmpty then [] else [(d,ys)],by simp[iW],?_,λe=>?_,?_,λe g=>?_,λe g=>?_⟩
   .cases ys with
    | nil=>trivial
    | cons a b=>exact⟨by simp,by simp,trivial⟩
   .cases ys with
    | nil=>simp[a9]
    | cons a b=>simp[a9];constructor<;>(intro h;rcases h with h|h|h<;>simp[h])
   .cases ys with
    | nil=>simp[a9]
    | cons a b=>simp[a9]
   .rw[Aj.mp g];exact Le.refl _
   .cases ys with
    | nil=>cases g
    | cons a b=>simp at g;exact⟨(d,a::b++[y]),by simp,by rw[g]⟩
 | e::n::r,h,_=>by
  obtain⟨j,m,u⟩:=h;obtain⟨d,x,f,s,v,w,p,o,l⟩:=oQ u (by simp);refine⟨d,x,e::f,by rw[iW,s],⟨j,λz hz=>?_,v⟩,λz=>?_,?_,λz hz=>?_,λz hz=>?_⟩
  .obtain⟨k,c,i⟩:=l z hz;rw[<-i];exact m k c
  .rw[a9,Bg,w,a9,Bg];constructor
   .rintro(h|h|h)
    .exact .inr (.inl h)
    .exact .inl h
    .exact .inr (.inr h)
   .rintro(h|h|h)
    .exact .inr (.inl h)
    .exact .inl h
    .exact .inr (.inr h)
  .rw[a9,Ak,p,a9,Ak];lia
  .rcases Ba.mp hz with q|q
   .rw[q];have:=o n Az;exact this.trans (Le.of_lt (m n Az))
   .exact o z q
  .rcases Ba.mp hz with q|q
   .exact⟨e,Az,by rw[q]⟩
   .obtain⟨k,c,i⟩:=l z q;exact⟨k,Ar _ c,i⟩
theorem L0(h:e∈a9 q):∃b∈q,b.1=e.1:=by
 induction q with
 | nil=>cases h
 | cons b r a=>
  obtain⟨d,xs⟩:=b;rw[a9]at h;rcases Bg.mp h with z|z
  .obtain⟨x,_,rfl⟩:=Am.mp z;exact⟨(d,xs),Az,rfl⟩
  .obtain⟨b,f,c⟩:=a z;exact⟨b,Ar _ f,c⟩
end
section
variable {α:Type}
theorem L1(c:aL)(x:α):∀q:List (aL×List α),(a9 (d8 c x q)).Perm ((c,x)::a9 q)
 | []=>.refl _
 | (d,xs)::r=>by
  rw[d8];split
  .rw[a9,a9];exact(List.Perm.append_left _ (L1 c x r)).trans List.perm_middle
  .split
   .rename_i hd;subst hd;rw[a9,a9,Bb,Dx];exact List.perm_middle
   .exact .refl _
theorem AH:∀{q c:List (aL×List α)} {d:aL} {x:α},iG q->iW q=some (d,x,c)->(a9 q).Perm ((d,x)::a9 c)
 | [],c,d,x,_,h=>by cases h
 | [(k,xs)],c,d,x,hf,h=>by
  obtain⟨i,_,_⟩:=hf;rcases Fj xs with z|⟨ys,y,z⟩
  .exact absurd z i
  .rw[Fl]at z;subst z;simp[iW]at h;obtain⟨rfl,rfl,rfl⟩:=h;cases ys with
   | nil=>exact .refl _
   | cons a b=>
    rw[if_neg (by simp)];simp only[a9,Gv,Bb,Aw,Hz];exact List.perm_append_singleton _ _
 | e::n::r,c,d,x,hf,h=>by
  obtain⟨_,_,j⟩:=hf;rw[iW]at h;split at h
  .cases h
  .rename_i m x1 l g;simp only[Ge,Dg]at h;obtain⟨rfl,rfl,rfl⟩:=h;have f:=AH j g;obtain⟨k,xs⟩:=e;rw[a9,a9];exact(List.Perm.append_left _ f).trans List.perm_middle
end
structure Sr where
 rs:List aI
 own:Str->Bool
 places:List Int
 steps:Str->Int->List (Int×Int)
 wt:Nat->Int
structure qM(G:Sr):Prop where
 wt:∀n,0<=G.wt n
 pr:∀t p e c,(e,c)∈G.steps t p->0<=c
abbrev K4:=Nat×Nat×Int×Int
abbrev bJ:=Str×Int×Int
abbrev b8:=Nat×List Int×aL
def bR(n:Nat)(cut:List Int):K4:=(n,cut.length,cut.headD 0,cut.getLastD 0)
def mZ(y:b8):K4:=bR y.1 y.2.1
abbrev bL:=List (bJ×aL×Nat×List Int)
structure SS where
 q:List (aL×List (Nat×List Int))
 reached:List (K4×aL)
 best:bL
 ends:List ((Str×Int)×List (Int×aL))
 begun:List ((Str×Int)×List b8)
def reach(st:SS)(n:Nat)(cut:List Int)(c:aL):SS:=match aJ st.reached (bR n cut) with
 | some d=>if cY c d=true then {st with reached:=dS st.reached (bR n cut) c,q:=d8 c (n,cut) st.q} else st
 | none=>{st with reached:=dS st.reached (bR n cut) c,q:=d8 c (n,cut) st.q}
inductive GI(G:Sr)(B:bL):Nat->List Int->aL->Prop
 | start {n:Nat} {r:aI} {p:Int}:G.rs[n]? = some r->p∈G.places->GI G B n [p] (G.wt n,1)
 | word {n:Nat} {r:aI} {cut:List Int} {c:aL} {part:Str} {e pr:Int}:GI G B n cut c->G.rs[n]? = some r->r.parts[cut.length-1]? = some part->G.own part=false->(e,pr)∈G.steps part (cut.getLastD 0)->GI G B n (cut++[e]) (c.1+pr,c.2)
 | name {n:Nat} {r:aI} {cut:List Int} {c m:aL} {part:Str} {e:Int} {k:Nat×List Int}:GI G B n cut c->G.rs[n]? = some r->r.parts[cut.length-1]? = some part->G.own part=true->aJ B (part,cut.getLastD 0,e)=some (m,k)->GI G B n (cut++[e]) (eN c m)
theorem GI.mono{G:Sr}{B i:bL}(h:∀f v,aJ B f=some v->aJ i f=some v){n:Nat}{cut:List Int}{c:aL}(g:GI G B n cut c):GI G i n cut c:=by
 induction g with
 | start a b=>exact .start a b
 | word _ a b c d e=>exact .word e a b c d
 | name _ a b c d e=>exact .name e a b c (h _ _ d)
theorem GI.ne{n:Nat}(g:GI G B n cut c):cut≠[]:=by cases g<;>simp
def qk(e:aL×(Nat×List Int)):aL×K4:=(e.1,bR e.2.1 e.2.2)
def fM(st:SS)(k:K4)(c:aL):Prop:=∃d,aJ st.reached k=some d/\Le d c
structure fN(G:Sr)(st:SS)(P:List b8)(cur:aL):Prop where
 fall:iG st.q
 item:∀e∈a9 st.q,GI G st.best e.2.1 e.2.2 e.1
 ge:∀e∈a9 st.q,∃d,aJ st.reached (bR e.2.1 e.2.2)=some d/\Le d e.1
 nd:((a9 st.q).map qk).Nodup
 once:(P.map mZ).Nodup
 pr:∀y∈P,aJ st.reached (mZ y)=some y.2.2/\Le y.2.2 cur/\GI G st.best y.1 y.2.1 y.2.2
 fresh:∀e∈a9 st.q,∀y∈P,mZ y=bR e.2.1 e.2.2->cY y.2.2 e.1=true
 curq:∀e∈a9 st.q,Le cur e.1
 hit:∀k d,aJ st.reached k=some d->(∃e∈a9 st.q,e.1=d/\bR e.2.1 e.2.2=k)\/∃y∈P,mZ y=k/\y.2.2=d
structure kM(st st':SS):Prop where
 best:st'.best=st.best
 ends:st'.ends=st.ends
 begun:st'.begun=st.begun
 le:∀k c,fM st k c->fM st' k c
theorem kM.refl(st:SS):kM st st:=⟨rfl,rfl,rfl,λ_ _ h=>h⟩
theorem kM.trans{a b c:SS}(x:kM a b)(y:kM b c):kM a c:=⟨y.best.trans x.best,y.ends.trans x.ends,y.begun.trans x.begun,λk c h=>y.le k c (x.le k c h)⟩
theorem zaE{G:Sr}{st:SS}{P:List b8}{cur:aL}{n:Nat}{cut:List Int}{c:aL}(I:fN G st P cur)(g:GI G st.best n cut c)(hc:Le cur c):
  fN G (reach st n cut c) P cur/\kM st (reach st n cut c)/\fM (reach st n cut c) (bR n cut) c:=by
 have j:(∀d,aJ st.reached (bR n cut)=some d->cY c d=true)->fN G {st with reached:=dS st.reached (bR n cut) c,q:=d8 c (n,cut) st.q} P cur/\kM st {st with reached:=dS st.reached (bR n cut) c,q:=d8 c (n,cut) st.q}/\fM {st with reached:=dS st.reached (bR n cut) c,q:=d8 c (n,cut) st.q} (bR n cut) c:=by
  intro i;have s:=L1 c (n,cut) st.q;have o:∀e,e∈a9 (d8 c (n,cut) st.q)↔e=(c,(n,cut))\/e∈a9 st.q:=λe=>by rw[s.mem_iff,Ba]
  have p:∀y∈P,mZ y≠bR n cut:=λy m e=>by
   obtain⟨a,b,_⟩:=I.pr y m;rw[e]at a;have:=sS (i _ a) (b.trans hc);exact sR this
  have le:∀k d,fM st k d->fM {st with reached:=dS st.reached (bR n cut) c,q:=d8 c (n,cut) st.q} k d:=λk d h=>by
   obtain⟨z,a,b⟩:=h
   by_cases e:bR n cut=k
   .subst e;exact⟨c,by show aJ (dS _ _ _) _=_;rw[mY,if_pos rfl],(Le.of_lt (i z a)).trans b⟩
   .exact⟨z,by show aJ (dS _ _ _) _=_;rw[mY,if_neg e];exact a,b⟩
  refine⟨⟨AG _ _ I.fall,λe f=>?_,λe f=>?_,?_,I.once,λy m=>?_,λe f y m l=>?_,λe f=>?_,λk d hd=>?_⟩,⟨rfl,rfl,rfl,le⟩,c,by show aJ (dS _ _ _) _=_;rw[mY,if_pos rfl],Le.refl c⟩
  .rcases(o e).mp f with z|z
   .rw[z];exact g
   .exact I.item e z
  .show ∃d,aJ (dS _ _ _) _=_/\_;rw[mY];rcases(o e).mp f with z|z
   .rw[z,if_pos rfl];exact⟨c,rfl,Le.refl _⟩
   .obtain⟨d,a,b⟩:=I.ge e z
    by_cases l:bR n cut=bR e.2.1 e.2.2
    .rw[if_pos l];rw[<-l]at a;exact⟨c,rfl,(Le.of_lt (i d a)).trans b⟩
    .rw[if_neg l];exact⟨d,a,b⟩
  .rw[(s.map qk).nodup_iff,Aw,Cz];refine⟨λz=>?_,I.nd⟩;obtain⟨e,f,eq⟩:=Am.mp z;obtain⟨d,a,b⟩:=I.ge e f;unfold qk at eq;rw[Dg]at eq;rw[eq.2]at a;rw[eq.1]at b;exact sR (sS (i d a) b)
  .obtain⟨a,b,r⟩:=I.pr y m;refine⟨?_,b,r⟩;show aJ (dS _ _ _) _=_;rw[mY,if_neg (Bz (p y m))];exact a
  .rcases(o e).mp f with z|z
   .rw[z]at l;exact absurd l (p y m)
   .exact I.fresh e z y m l
  .rcases(o e).mp f with z|z
   .rw[z];exact hc
   .exact I.curq e z
  .have hd:aJ (dS st.reached (bR n cut) c) k=some d:=hd;rw[mY]at hd
   by_cases e:bR n cut=k
   .rw[if_pos e]at hd;cases hd;exact .inl ⟨(c,(n,cut)),(o _).mpr (.inl rfl),rfl,e⟩
   .rw[if_neg e]at hd;rcases I.hit k d hd with⟨x,a,b,r⟩|h
    .exact .inl ⟨x,(o _).mpr (.inr a),b,r⟩
    .exact .inr h
 unfold reach;cases h:aJ st.reached (bR n cut) with
 | none=>exact j λd e=>by rw[h]at e;cases e
 | some d=>
  simp only;split
  .rename_i hl;exact j λd' e=>by rw[h]at e;cases e;exact hl
  .rename_i hl;exact⟨I,kM.refl st,d,h,AE.mpr hl⟩
theorem sW{G:Sr}{P:List b8}{cur:aL}{d:Type}(f:d->Nat×List Int×aL):∀(xs:List d) {st:SS},fN G st P cur->(∀x∈xs,GI G st.best (f x).1 (f x).2.1 (f x).2.2/\Le cur (f x).2.2)->
  fN G (xs.foldl (λst x=>reach st (f x).1 (f x).2.1 (f x).2.2) st) P cur/\kM st (xs.foldl (λst x=>reach st (f x).1 (f x).2.1 (f x).2.2) st)/\∀x∈xs,fM (xs.foldl (λst x=>reach st (f x).1 (f x).2.1 (f x).2.2) st) (bR (f x).1 (f x).2.1) (f x).2.2
 | [],st,I,_=>⟨I,kM.refl st,λx m=>nomatch m⟩
 | x::xs,st,I,h=>by
  obtain⟨e,j⟩:=h x Az;obtain⟨k,b,i⟩:=zaE I e j;obtain⟨g,c,l⟩:=sW f xs k λy a=>by
   have:=h y (Ar _ a);rw[b.best];exact this
  refine⟨g,b.trans c,λy a=>?_⟩;rcases Ba.mp a with z|z
  .rw[z];exact c.le _ _ i
  .exact l y z
def cN(G:Sr)(n:Nat):Str:=match G.rs[n]? with
 | some r=>r.name
 | none=>""
def dC(G:Sr)(n:Nat)(cut:List Int):Option Str:=match G.rs[n]? with
 | some r=>r.parts[cut.length-1]?
 | none=>none
def cS(G:Sr)(n:Nat)(cut:List Int):bJ:=(cN G n,cut.headD 0,cut.getLastD 0)
def settle(G:Sr)(st:SS)(n:Nat)(cut:List Int)(c:aL):SS:=match aJ st.best (cS G n cut) with
 | some _=>st
 | none=>((aJ st.begun (cN G n,cut.headD 0)).getD []).foldl (λst y=>reach st y.1 (y.2.1++[cut.getLastD 0]) (eN y.2.2 c)) {st with best:=st.best++[(cS G n cut,c,n,cut)],ends:=e9 st.ends (cN G n,cut.headD 0) (cut.getLastD 0,c)}
def fV(st:SS)(n:Nat)(cut:List Int)(c:aL)(a:Str):SS:=((aJ st.ends (a,cut.getLastD 0)).getD []).foldl (λst z=>reach st n (cut++[z.1]) (eN c z.2)) {st with begun:=e9 st.begun (a,cut.getLastD 0) (n,cut,c)}
def gB(G:Sr)(st:SS)(n:Nat)(cut:List Int)(c:aL)(a:Str):SS:=(G.steps a (cut.getLastD 0)).foldl (λst z=>reach st n (cut++[z.1]) (c.1+z.2,c.2)) st
def process(G:Sr)(st:SS)(n:Nat)(cut:List Int)(c:aL):SS:=match dC G n cut with
 | none=>settle G st n cut c
 | some a=>if G.own a=true then fV st n cut c a else gB G st n cut c a
structure Ob(G:Sr)(st:SS)(P:List b8)(cur:aL):Prop where
 zero:Le (0,0) cur
 fin:∀y∈P,dC G y.1 y.2.1=none->∃m k,aJ st.best (cS G y.1 y.2.1)=some (m,k)/\Le m y.2.2
 wrd:∀y∈P,∀part,dC G y.1 y.2.1=some part->G.own part=false->∀z∈G.steps part (y.2.1.getLastD 0),fM st (bR y.1 (y.2.1++[z.1])) (y.2.2.1+z.2,y.2.2.2)
 nam:∀y∈P,∀part,dC G y.1 y.2.1=some part->G.own part=true->y∈(aJ st.begun (part,y.2.1.getLastD 0)).getD []
 pair:∀key,∀y∈(aJ st.begun key).getD [],∀z∈(aJ st.ends key).getD [],fM st (bR y.1 (y.2.1++[z.1])) (eN y.2.2 z.2)
 bgn:∀key,∀y∈(aJ st.begun key).getD [],y∈P/\dC G y.1 y.2.1=some key.1/\G.own key.1=true/\y.2.1.getLastD 0=key.2/\Le (0,0) y.2.2
 ends:∀nm b e m,(e,m)∈(aJ st.ends (nm,b)).getD []↔∃k,aJ st.best (nm,b,e)=some (m,k)
 bst:∀f m n cut,aJ st.best f=some (m,n,cut)->dC G n cut=none/\f=cS G n cut/\Le (0,0) m/\Le m cur
 ord:∀pre e post,st.best=pre++e::post->GI G pre e.2.2.1 e.2.2.2 e.2.1/\aJ pre e.1=none
theorem zaF{a b:aL}(h:Le (0,0) b):Le a (eN a b):=by unfold Le eN at *;simp only at *;lia
theorem zaG{a b:aL}(h:Le (0,0) b):Le a (eN b a):=by unfold Le eN at *;simp only at *;lia
theorem zaH{G:Sr}{st:SS}{P:List b8}{cur c:aL}{n:Nat}{cut:List Int}{u:List (aL×List (Nat×List Int))}(I:fN G st P cur)(ht:iW st.q=some (c,(n,cut),u))(D:aJ st.reached (bR n cut)=some c):fN G {st with q:=u} (P++[(n,cut,c)]) c/\Le cur c/\GI G st.best n cut c:=by
 have p:st.q≠[]:=λe=>by rw[e]at ht;cases ht
 obtain⟨d,x,L,r,K,B,M,F,_⟩:=oQ I.fall p;rw[ht]at r;simp only[Ge,Dg]at r;obtain⟨rfl,rfl,rfl⟩:=r;have J:=AH I.fall ht;have h:(c,(n,cut))∈a9 st.q:=(B _).mpr (.inl rfl);have sub:∀e∈a9 u,e∈a9 st.q:=λe f=>(B e).mpr (.inr f);have j:=I.curq _ h;have o:=I.nd;rw[(J.map qk).nodup_iff,Aw,Cz]at o;have m:∀e∈a9 u,Le c e.1:=λe f=>by
  obtain⟨b,s,H⟩:=L0 (sub e f);rw[<-H];exact F b s
 have v:∀y∈P,mZ y≠bR n cut:=λy l e=>by
  have g:=I.fresh _ h y l e;obtain⟨i,_,_⟩:=I.pr y l;rw[e,D]at i;cases i;exact sR g
 refine⟨⟨K,λe f=>I.item e (sub e f),λe f=>I.ge e (sub e f),o.2,?_,λy l=>?_,λe f y l C=>?_,m,λk d hd=>?_⟩,j,I.item _ h⟩
 .rw[Bb,Dk];refine⟨I.once,by simp,λa E b s e=>?_⟩;obtain⟨y,l,rfl⟩:=Am.mp E;rw[List.map_singleton,Aj]at s;exact v y l (by rw[e,s];rfl)
 .rcases Bg.mp l with z|z
  .obtain⟨g,i,t⟩:=I.pr y z;exact⟨g,i.trans j,t⟩
  .rw[Aj.mp z];exact⟨D,Le.refl _,I.item _ h⟩
 .rcases Bg.mp l with z|z
  .exact I.fresh e (sub e f) y z C
  .have w:=Aj.mp z;subst w;have g:=m e f;have p:e.1≠c:=λr=>o.1 (Am.mpr ⟨e,f,by
    have A:bR n cut=bR e.2.1 e.2.2:=C;show(e.1,bR e.2.1 e.2.2)=(c,bR n cut);rw[r,A]⟩)
   show cY c e.1=true;cases hh:cY c e.1 with
   | true=>rfl
   | false=>exact absurd (Le.antisymm (AE.mpr (by rw[hh];decide)) g) p
 .rcases I.hit k d hd with⟨e,g,i,t⟩|⟨y,g,i⟩
  .rcases(B e).mp g with z|z
   .subst z;exact .inr ⟨(n,cut,c),Ca _ (Aj.mpr rfl),t,i⟩
   .exact .inl ⟨e,z,i,t⟩
  .exact .inr ⟨y,Bs _ g,i⟩
theorem zaI{G:Sr}{st:SS}{P:List b8}{cur c d:aL}{n:Nat}{cut:List Int}{v:List (aL×List (Nat×List Int))}(I:fN G st P cur)(ht:iW st.q=some (c,(n,cut),v))(F:aJ st.reached (bR n cut)=some d)(hd:cY d c=true):fN G {st with q:=v} P c/\Le cur c:=by
 have s:st.q≠[]:=λe=>by rw[e]at ht;cases ht
 obtain⟨L,x,J,u,H,w,K,B,_⟩:=oQ I.fall s;rw[ht]at u;simp only[Ge,Dg]at u;obtain⟨rfl,rfl,rfl⟩:=u;have E:=AH I.fall ht;have p:(c,(n,cut))∈a9 st.q:=(w _).mpr (.inl rfl);have sub:∀e∈a9 v,e∈a9 st.q:=λe a=>(w e).mpr (.inr a);have f:=I.curq _ p;have l:=I.nd;rw[(E.map qk).nodup_iff,Aw,Cz]at l;refine⟨⟨H,λe a=>I.item e (sub e a),λe a=>I.ge e (sub e a),l.2,I.once,λy r=>?_,λe a y r C=>I.fresh e (sub e a) y r C,λe a=>?_,λk t m=>?_⟩,f⟩
 .obtain⟨o,j,i⟩:=I.pr y r;exact⟨o,j.trans f,i⟩
 .obtain⟨b,A,D⟩:=L0 (sub e a);rw[<-D];exact B b A
 .rcases I.hit k t m with⟨e,o,j,i⟩|h
  .rcases(w e).mp o with z|z
   .subst z;have i:bR n cut=k:=i;have j:c=t:=j;have g:aJ st.reached k=some t:=m;rw[<-i,F]at g;cases g;rw[<-j]at hd;exact absurd hd sR
   .exact .inl ⟨e,z,j,i⟩
  .exact .inr h
theorem Ob.later{G:Sr}{st:SS}{P:List b8}{cur c:aL}(o:Ob G st P cur)(h:Le cur c)(a:List (aL×List (Nat×List Int))):Ob G {st with q:=a} P c:=
 ⟨o.zero.trans h,o.fin,o.wrd,o.nam,o.pair,o.bgn,o.ends,λf m n cut e=>let ⟨h1,h2,h3,h4⟩:=o.bst f m n cut e;⟨h1,h2,h3,h4.trans h⟩,o.ord⟩
theorem GI.rule{G:Sr}{B:bL}{n:Nat}{cut:List Int}{c:aL}(g:GI G B n cut c):∃r,G.rs[n]? = some r:=by
 cases g with
 | start a _=>exact⟨_,a⟩
 | word _ a _ _ _=>exact⟨_,a⟩
 | name _ a _ _ _=>exact⟨_,a⟩
theorem part_of{G:Sr}{n:Nat}{cut:List Int}{r:aI}(h:G.rs[n]? = some r):dC G n cut=r.parts[cut.length-1]?:=by unfold dC;rw[h]
theorem jY{a:Type}{P:List a}{x y:a}(h:y∈P++[x]):y∈P\/y=x:=by
 rcases Bg.mp h with z|z
 .exact .inl z
 .exact .inr (Aj.mp z)
theorem zaJ{G:Sr}(ok:qM G){st:SS}{P:List b8}{c:aL}{n:Nat}{cut:List Int}{a:Str}(I:fN G st (P++[(n,cut,c)]) c)(o:Ob G st P c)(g:GI G st.best n cut c)(u:dC G n cut=some a)(x:G.own a=false):
  fN G (gB G st n cut c a) (P++[(n,cut,c)]) c/\Ob G (gB G st n cut c a) (P++[(n,cut,c)]) c/\∀k d,fM st k d->fM (gB G st n cut c a) k d:=by
 obtain⟨r,v⟩:=g.rule;rw[part_of v]at u;obtain⟨B,i,A⟩:=sW (λz:Int×Int=>(n,cut++[z.1],(c.1+z.2,c.2))) (G.steps a (cut.getLastD 0)) I λz hz=>⟨.word g v u x hz,by
  have:=ok.pr _ _ _ _ hz;show Le c (c.1+z.2,c.2);unfold Le;simp only;lia⟩
 refine⟨B,⟨o.zero,λy l w=>?_,λy l pt j p z hz=>?_,λy l pt j p=>?_,λkey y l z hz=>?_,λkey y l=>?_,λnm b e m=>?_,λf m C s e=>?_,λpre e t h=>?_⟩,i.le⟩
 .rcases jY l with z|z
  .obtain⟨m,k,j,p⟩:=o.fin y z w;exact⟨m,k,by rw[show(gB G st n cut c a).best=st.best from i.best];exact j,p⟩
  .subst z;rw[part_of v,u]at w;cases w
 .rcases jY l with q|q
  .exact i.le _ _ (o.wrd y q pt j p z hz)
  .subst q;rw[part_of v,u]at j;cases j;exact A z hz
 .rcases jY l with q|q
  .rw[show(gB G st n cut c a).begun=st.begun from i.begun];exact o.nam y q pt j p
  .subst q;rw[part_of v,u]at j;cases j;rw[x]at p;cases p
 .rw[show(gB G st n cut c a).begun=st.begun from i.begun]at l;rw[show(gB G st n cut c a).ends=st.ends from i.ends]at hz;exact i.le _ _ (o.pair key y l z hz)
 .rw[show(gB G st n cut c a).begun=st.begun from i.begun]at l;obtain⟨j,p⟩:=o.bgn key y l;exact⟨Bs _ j,p⟩
 .rw[show(gB G st n cut c a).ends=st.ends from i.ends,show(gB G st n cut c a).best=st.best from i.best];exact o.ends nm b e m
 .rw[show(gB G st n cut c a).best=st.best from i.best]at e;exact o.bst f m C s e
 .rw[show(gB G st n cut c a).best=st.best from i.best]at h;exact o.ord pre e t h
theorem zaK{G:Sr}{st:SS}{P:List b8}{c:aL}{n:Nat}{cut:List Int}{a:Str}(I:fN G st (P++[(n,cut,c)]) c)(o:Ob G st P c)(g:GI G st.best n cut c)(C:dC G n cut=some a)(D:G.own a=true):
  fN G (fV st n cut c a) (P++[(n,cut,c)]) c/\Ob G (fV st n cut c a) (P++[(n,cut,c)]) c/\∀k d,fM st k d->fM (fV st n cut c a) k d:=by
 obtain⟨r,F⟩:=g.rule;have p:=C;rw[part_of F]at C;obtain⟨H,t,J⟩:=sW (G:=G) (P:=P++[(n,cut,c)]) (cur:=c) (st:={st with begun:=e9 st.begun (a,cut.getLastD 0) (n,cut,c)}) (λz:Int×aL=>(n,cut++[z.1],eN c z.2)) ((aJ st.ends (a,cut.getLastD 0)).getD []) ⟨I.fall,I.item,I.ge,I.nd,I.once,I.pr,I.fresh,I.curq,I.hit⟩ λz hz=>by
  obtain⟨k,hk⟩:=(o.ends a (cut.getLastD 0) z.1 z.2).mp hz;exact⟨.name g F C D hk,zaF (o.bst _ _ _ _ hk).2.2.1⟩
 have w:(fV st n cut c a).best=st.best:=t.best;have E:(fV st n cut c a).ends=st.ends:=t.ends;have K:(fV st n cut c a).begun=e9 st.begun (a,cut.getLastD 0) (n,cut,c):=t.begun;have i:∀key y,y∈(aJ (fV st n cut c a).begun key).getD []↔y∈(aJ st.begun key).getD []\/(a,cut.getLastD 0)=key/\y=(n,cut,c):=λkey y=>by
  rw[K,sU]
  by_cases h:(a,cut.getLastD 0)=key
  .rw[if_pos h,Bg,Aj];exact⟨λz=>z.imp id λq=>⟨h,q⟩,λz=>z.imp id λq=>q.2⟩
  .rw[if_neg h];exact⟨.inl,λz=>z.elim id λq=>absurd q.1 h⟩
 refine⟨H,⟨o.zero,λy l B=>?_,λy l pt j s z hz=>?_,λy l pt j s=>?_,λkey y l z hz=>?_,λkey y l=>?_,λnm b e m=>?_,λf m L u e=>?_,λpre e v h=>?_⟩,t.le⟩
 .rcases jY l with z|z
  .rw[w];exact o.fin y z B
  .subst z;rw[p]at B;cases B
 .rcases jY l with q|q
  .exact t.le _ _ (o.wrd y q pt j s z hz)
  .subst q;rw[p]at j;cases j;rw[D]at s;cases s
 .rw[i];rcases jY l with q|q
  .exact .inl (o.nam y q pt j s)
  .subst q;rw[p]at j;cases j;exact .inr ⟨rfl,rfl⟩
 .rw[E]at hz;rcases(i key y).mp l with q|⟨A,x⟩
  .exact t.le _ _ (o.pair key y q z hz)
  .subst x;rw[<-A]at hz;exact J z hz
 .rcases(i key y).mp l with q|⟨A,x⟩
  .obtain⟨j,s⟩:=o.bgn key y q;exact⟨Bs _ j,s⟩
  .subst x;rw[<-A];exact⟨Ca _ (Aj.mpr rfl),p,D,rfl,o.zero⟩
 .rw[E,w];exact o.ends nm b e m
 .rw[w]at e;exact o.bst f m L u e
 .rw[w]at h;exact o.ord pre e v h
theorem zaL{G:Sr}{st:SS}{P:List b8}{c:aL}{n:Nat}{cut:List Int}(I:fN G st (P++[(n,cut,c)]) c)(o:Ob G st P c)(g:GI G st.best n cut c)(A:dC G n cut=none):
  fN G (settle G st n cut c) (P++[(n,cut,c)]) c/\Ob G (settle G st n cut c) (P++[(n,cut,c)]) c/\∀k d,fM st k d->fM (settle G st n cut c) k d:=by
 unfold settle;cases hf:aJ st.best (cS G n cut) with
 | some v=>
  obtain⟨m,k⟩:=v;obtain⟨_,_,_,W⟩:=o.bst _ _ _ _ hf;refine⟨I,⟨o.zero,λy j H=>?_,λy j pt a i z hz=>?_,λy j pt a i=>?_,o.pair,λkey y j=>?_,o.ends,o.bst,o.ord⟩,λ_ _ h=>h⟩
  .rcases jY j with z|z
   .exact o.fin y z H
   .subst z;exact⟨m,k,hf,W⟩
  .rcases jY j with q|q
   .exact o.wrd y q pt a i z hz
   .subst q;rw[A]at a;cases a
  .rcases jY j with q|q
   .exact o.nam y q pt a i
   .subst q;rw[A]at a;cases a
  .obtain⟨a,i⟩:=o.bgn key y j;exact⟨Bs _ a,i⟩
 | none=>
  simp only;have new:∀f,aJ (st.best++[(cS G n cut,c,n,cut)]) f=if cS G n cut=f then some (c,n,cut) else aJ st.best f:=λf=>by
   rw[AF]
   by_cases h:cS G n cut=f
   .subst h;rw[if_pos rfl,if_pos rfl,hf];rfl
   .rw[if_neg h,if_neg h,Option.or_none]
  have mono:∀f v,aJ st.best f=some v->aJ (st.best++[(cS G n cut,c,n,cut)]) f=some v:=λf v h=>by
   rw[new,if_neg (λe=>by rw[<-e,hf]at h;cases h)];exact h
  obtain⟨r,l⟩:∃z:SS,z = {st with best:=st.best++[(cS G n cut,c,n,cut)],ends:=e9 st.ends (cN G n,cut.headD 0) (cut.getLastD 0,c)}:=⟨_,rfl⟩;have F:r.best=st.best++[(cS G n cut,c,n,cut)]:=by rw[l]
  have Z:r.ends=e9 st.ends (cN G n,cut.headD 0) (cut.getLastD 0,c):=by rw[l]
  have S:r.begun=st.begun:=by rw[l]
  have V:r.reached=st.reached:=by rw[l]
  have q0:r.q=st.q:=by rw[l]
  have X:fN G r (P++[(n,cut,c)]) c:=by
   rw[l];exact⟨I.fall,λe R=>(I.item e R).mono mono,I.ge,I.nd,I.once,λy j=>let ⟨a,i,J⟩:=I.pr y j;⟨a,i,J.mono mono⟩,I.fresh,I.curq,I.hit⟩
  rw[<-l];obtain⟨K,C,M⟩:=sW (λy:b8=>(y.1,y.2.1++[cut.getLastD 0],eN y.2.2 c)) ((aJ st.begun (cN G n,cut.headD 0)).getD []) X λy j=>by
   obtain⟨a,i,J,U,T⟩:=o.bgn _ y j;obtain⟨_,_,L⟩:=I.pr y (Bs _ a);obtain⟨ry,w⟩:=L.rule;rw[part_of w]at i;refine⟨.name (k:=(n,cut)) (by rw[F];exact L.mono mono) w i J ?_,zaG T⟩;rw[F,new,if_pos (by show(cN G n,cut.headD 0,cut.getLastD 0)=(cN G n,y.2.1.getLastD 0,cut.getLastD 0);rw[U])]
  obtain⟨s,D⟩:∃z,z=((aJ st.begun (cN G n,cut.headD 0)).getD []).foldl (λst y=>reach st y.1 (y.2.1++[cut.getLastD 0]) (eN y.2.2 c)) r:=⟨_,rfl⟩;rw[<-D]at K C M⊢;have B:s.best=st.best++[(cS G n cut,c,n,cut)]:=C.best.trans F;have E:s.ends=e9 st.ends (cN G n,cut.headD 0) (cut.getLastD 0,c):=C.ends.trans Z;have N:s.begun=st.begun:=C.begun.trans S;have le:∀k d,fM st k d->fM s k d:=λk d h=>C.le k d (by
   obtain⟨z,a,i⟩:=h;exact⟨z,by rw[V];exact a,i⟩)
  have t:∀key z,z∈(aJ s.ends key).getD []↔z∈(aJ st.ends key).getD []\/(cN G n,cut.headD 0)=key/\z=(cut.getLastD 0,c):=λkey z=>by
   rw[E,sU]
   by_cases h:(cN G n,cut.headD 0)=key
   .rw[if_pos h,Bg,Aj];exact⟨λz=>z.imp id λq=>⟨h,q⟩,λz=>z.imp id λq=>q.2⟩
   .rw[if_neg h];exact⟨.inl,λz=>z.elim id λq=>absurd q.1 h⟩
  refine⟨K,⟨o.zero,λy j H=>?_,λy j pt a i z hz=>?_,λy j pt a i=>?_,λkey y j z hz=>?_,λkey y j=>?_,λnm b e m=>?_,λf m Y u e=>?_,λpre e x h=>?_⟩,le⟩
  .rw[B];rcases jY j with z|z
   .obtain⟨m,k,a,i⟩:=o.fin y z H;exact⟨m,k,mono _ _ a,i⟩
   .subst z;exact⟨c,(n,cut),by rw[new,if_pos rfl],Le.refl _⟩
  .rcases jY j with q|q
   .exact le _ _ (o.wrd y q pt a i z hz)
   .subst q;rw[A]at a;cases a
  .rw[N];rcases jY j with q|q
   .exact o.nam y q pt a i
   .subst q;rw[A]at a;cases a
  .rw[N]at j;rcases(t key z).mp hz with q|⟨Q,O⟩
   .exact le _ _ (o.pair key y j z q)
   .subst O;rw[<-Q]at j;exact M y j
  .rw[N]at j;obtain⟨a,i⟩:=o.bgn key y j;exact⟨Bs _ a,i⟩
  .rw[t,B,new,o.ends]
   by_cases h:cS G n cut=(nm,b,e)
   .rw[if_pos h];unfold cS at h;simp only[Dg]at h;obtain⟨rfl,rfl,rfl⟩:=h;constructor
    .rintro(⟨k,hk⟩|⟨_,hk⟩)
     .rw[show(cN G n,cut.headD 0,cut.getLastD 0)=cS G n cut from rfl,hf]at hk;cases hk
     .cases hk;exact⟨(n,cut),rfl⟩
    .rintro⟨k,hk⟩;cases hk;exact .inr ⟨rfl,rfl⟩
   .rw[if_neg h];constructor
    .rintro(hk|⟨a,i⟩)
     .exact hk
     .cases a;cases i;exact absurd rfl h
    .exact .inl
  .rw[B,new]at e
   by_cases h:cS G n cut=f
   .rw[if_pos h]at e;cases e;exact⟨A,h.symm,o.zero,Le.refl _⟩
   .rw[if_neg h]at e;exact o.bst f m Y u e
  .rw[B]at h;rcases Fj x with z|⟨ps,p,z⟩
   .subst z;have h':=List.append_inj' h rfl;have i:=h'.2;simp only[Ct,and_true]at i;rw[<-h'.1,<-i];exact⟨g,hf⟩
   .rw[Fl]at z;subst z;rw[show pre++e::(ps++[p])=(pre++e::ps)++[p] by simp]at h;have h':=List.append_inj' h rfl;exact o.ord pre e ps h'.1
theorem zaM{G:Sr}(ok:qM G){st:SS}{P:List b8}{c:aL}{n:Nat}{cut:List Int}(I:fN G st (P++[(n,cut,c)]) c)(o:Ob G st P c)(g:GI G st.best n cut c):
  fN G (process G st n cut c) (P++[(n,cut,c)]) c/\Ob G (process G st n cut c) (P++[(n,cut,c)]) c/\∀k d,fM st k d->fM (process G st n cut c) k d:=by
 unfold process;cases b:dC G n cut with
 | none=>exact zaL I o g b
 | some a=>
  simp only;cases e:G.own a with
  | true=>rw[if_pos rfl];exact zaK I o g b e
  | false=>rw[if_neg (by decide)];exact zaJ ok I o g b e
inductive DI(G:Sr):Nat->List Int->aL->Prop
 | start {n:Nat} {r:aI} {p:Int}:G.rs[n]? = some r->p∈G.places->DI G n [p] (G.wt n,1)
 | word {n:Nat} {r:aI} {cut:List Int} {c:aL} {part:Str} {e pr:Int}:DI G n cut c->G.rs[n]? = some r->r.parts[cut.length-1]? = some part->G.own part=false->(e,pr)∈G.steps part (cut.getLastD 0)->DI G n (cut++[e]) (c.1+pr,c.2)
 | name {n n':Nat} {r:aI} {cut cut':List Int} {c m:aL} {part:Str}:DI G n cut c->G.rs[n]? = some r->r.parts[cut.length-1]? = some part->G.own part=true->DI G n' cut' m->dC G n' cut'=none->cN G n'=part->cut'.headD 0=cut.getLastD 0->DI G n (cut++[cut'.getLastD 0]) (eN c m)
theorem DI.ne{n:Nat}(h:DI G n cut c):cut≠[]:=by cases h<;>simp
theorem L4{n:Nat}{e:Int}(h:bR n a=bR n b)(g:a≠[])(d:b≠[]):bR n (a++[e])=bR n (b++[e]):=by
 unfold bR at *;simp only[Dg,true_and]at h;obtain⟨f,c,i⟩:=h;have hl:∀l:List Int,(l++[e]).getLastD 0=e:=λl=>by simp[Gn]
 rw[hl,hl,Ak,Ak,f];cases a with
 | nil=>exact absurd rfl g
 | cons x a=>
  cases b with
  | nil=>exact absurd rfl d
  | cons y b=>
   simp only[List.headD_cons]at c;subst c;rfl
theorem vO{n c:Nat}(h:bR n a=bR c b):n=c/\dC G n a=dC G c b/\cS G n a=cS G c b/\a.getLastD 0=b.getLastD 0:=by
 unfold bR at h;simp only[Dg]at h;obtain⟨rfl,e,f,d⟩:=h;refine⟨rfl,?_,?_,d⟩
 .unfold dC;rw[e]
 .unfold cS;rw[f,d]
def AI(G:Sr)(st:SS):Prop:=∀n r p,G.rs[n]? = some r->p∈G.places->fM st (bR n [p]) (G.wt n,1)
theorem zaN{G:Sr}{st:SS}{P:List b8}{cur:aL}(I:fN G st P cur)(o:Ob G st P cur)(hi:AI G st)(Z:st.q=[]){n:Nat}{cut:List Int}{c:aL}(h:DI G n cut c):fM st (bR n cut) c:=by
 have done:∀{n:Nat} {cut:List Int} {c:aL},fM st (bR n cut) c->∃y∈P,mZ y=bR n cut/\Le y.2.2 c:=λ{n cut c} h=>by
  obtain⟨d,u,A⟩:=h;rcases I.hit _ _ u with⟨e,S,_⟩|⟨y,l,e1,V⟩
  .rw[Z]at S;cases S
  .exact⟨y,l,e1,by rw[V];exact A⟩
 induction h with
 | start a b=>exact hi _ _ _ a b
 | @word n r cut c f e pr hd O N Q X D=>
  obtain⟨y,l,w,t⟩:=done D;obtain⟨x,s,_,g⟩:=vO (G:=G) w;have k:=(I.pr y l).2.2.ne;have:=o.wrd y l f (by rw[s,part_of O];exact N) Q (e,pr) (by rw[g];exact X);obtain⟨d,u,A⟩:=this;refine⟨d,?_,A.trans ?_⟩
  .have j:bR n y.2.1=bR n cut:=by rw[<-w];unfold mZ;rw[x]
   rw[<-L4 j k hd.ne,<-x];exact u
  .unfold Le at t⊢;simp only at *;lia
 | @name n Y r cut i c m f hd O N Q W z L K D H=>
  obtain⟨y,l,w,t⟩:=done D;obtain⟨x,s,_,g⟩:=vO (G:=G) w;obtain⟨y',F,j,B⟩:=done H;obtain⟨hn',C,p,_⟩:=vO (G:=G) j;obtain⟨U,T,R,M⟩:=o.fin y' F (by rw[C];exact z);rw[p]at R;have E:aJ st.best (f,cut.getLastD 0,i.getLastD 0)=some (U,T):=by
   have:cS G Y i=(f,cut.getLastD 0,i.getLastD 0):=by unfold cS;rw[L,K]
   rw[<-this];exact R
  have hz:=(o.ends f (cut.getLastD 0) (i.getLastD 0) U).mpr ⟨T,E⟩;have v:=o.nam y l f (by rw[s,part_of O];exact N) Q;rw[g]at v;have k:=(I.pr y l).2.2.ne;obtain⟨d,u,A⟩:=o.pair _ y v _ hz;refine⟨d,?_,A.trans (zaC t (M.trans B))⟩;have J:bR n y.2.1=bR n cut:=by rw[<-w];unfold mZ;rw[x]
  rw[<-L4 J k hd.ne,<-x];exact u
theorem L5{G:Sr}{st:SS}{P:List b8}{cur:aL}(I:fN G st P cur)(o:Ob G st P cur)(hi:AI G st)(i:st.q=[]){n:Nat}{cut:List Int}{c:aL}(h:DI G n cut c)(hf:dC G n cut=none):∃m k,aJ st.best (cS G n cut)=some (m,k)/\Le m c:=by
 obtain⟨d,j,l⟩:=zaN I o hi i h;rcases I.hit _ _ j with⟨e,g,_⟩|⟨y,r,s,p⟩
 .rw[i]at g;cases g
 .obtain⟨_,b,a,_⟩:=vO (G:=G) s;obtain⟨m,k,f,t⟩:=o.fin y r (by rw[b];exact hf);rw[a]at f;exact⟨m,k,f,t.trans (by rw[p];exact l)⟩
theorem AJ(h:∀f m n cut,aJ B f=some (m,n,cut)->DI G n cut m/\dC G n cut=none/\f=cS G n cut){n:Nat}(g:GI G B n cut c):DI G n cut c:=by
 induction g with
 | start a b=>exact .start a b
 | word _ a b c d e=>exact .word e a b c d
 | name q v s w l e=>
  rename_i k;obtain⟨x,j⟩:=k;obtain⟨o,r,i⟩:=h _ _ _ _ l;unfold cS at i;simp only[Dg]at i;obtain⟨u,t,p⟩:=i;rw[p];exact .name e v s w o r u.symm t.symm
theorem vP{κ c:Type}[DecidableEq κ]{t:List (κ×c)}{k:κ}{v:c}(h:aJ t k=some v):∃a b,t=a++(k,v)::b:=by
 induction t with
 | nil=>cases h
 | cons e t d=>
  rw[dG]at h
  by_cases hk:e.1=k
  .rw[if_pos hk]at h;cases h;exact⟨[],t,by rw[<-hk];rfl⟩
  .rw[if_neg hk]at h;obtain⟨a,b,rfl⟩:=d h;exact⟨e::a,b,rfl⟩
theorem L6{G:Sr}{st:SS}{P:List b8}{cur:aL}(o:Ob G st P cur):∀(k:Nat) (pre:bL) (e:bJ×aL×Nat×List Int) (c:bL),pre.length=k->st.best=pre++e::c->DI G e.2.2.1 e.2.2.2 e.2.1:=by
 intro k
 induction k using Nat.strongRecOn with
 | _ k u=>
  intro pre e c hk s;obtain⟨g,_⟩:=o.ord pre e c s;refine AJ (B:=pre) (λf m n cut hf=>?_) g;obtain⟨a,b,l⟩:=vP hf;have i:st.best=a++(f,m,n,cut)::(b++e::c):=by rw[s,l];simp
  have j:a.length<k:=by rw[<-hk,l];simp
  have hd:=u a.length j a _ _ rfl i;have d:=(o.ord a _ _ i).2;have q:aJ st.best f=some (m,n,cut):=by
   rw[i];have:∀{a:bL} {x:bJ×aL×Nat×List Int} {r:bL},aJ a x.1=none->aJ (a++x::r) x.1=some x.2:=by
    intro a
    induction a with
    | nil=>intro x r _;rw[Fu,dG,if_pos rfl]
    | cons y a p=>
     intro x r h;rw[dG]at h;rw[List.cons_append,dG]
     by_cases t:y.1=x.1
     .rw[if_pos t]at h;cases h
     .rw[if_neg t]at h⊢;exact p h
   exact this (x:=(f,m,n,cut)) d
  obtain⟨v,w,_⟩:=o.bst f m n cut q;exact⟨hd,v,w⟩
theorem oR{G:Sr}{st:SS}{P:List b8}{cur:aL}(o:Ob G st P cur){f:bJ}{m:aL}{n:Nat}{cut:List Int}(h:aJ st.best f=some (m,n,cut)):DI G n cut m/\dC G n cut=none/\f=cS G n cut:=by
 obtain⟨a,b,c⟩:=vP h;obtain⟨e,d,_⟩:=o.bst f m n cut h;exact⟨L6 o a.length a _ b rfl c,e,d⟩
theorem L7(st:SS)(n:Nat)(cut:List Int)(c:aL):∃j,j<=1/\(a9 (reach st n cut c).q).length=(a9 st.q).length+j/\(reach st n cut c).reached.length<=st.reached.length+j:=by
 have a:∃j,j<=1/\(a9 (d8 c (n,cut) st.q)).length=(a9 st.q).length+j/\(dS st.reached (bR n cut) c).length<=st.reached.length+j:=⟨1,Ag _,vN _ _ _,vM _ _ _⟩;unfold reach;cases aJ st.reached (bR n cut) with
 | none=>exact a
 | some d=>
  simp only;split
  .exact a
  .exact⟨0,by lia,rfl,by lia⟩
theorem sX{a:Type}(f:a->Nat×List Int×aL):∀(xs:List a) (st:SS),∃j,j<=xs.length/\(a9 (xs.foldl (λst x=>reach st (f x).1 (f x).2.1 (f x).2.2) st).q).length=(a9 st.q).length+j/\(xs.foldl (λst x=>reach st (f x).1 (f x).2.1 (f x).2.2) st).reached.length<=st.reached.length+j
 | [],st=>⟨0,Ag _,rfl,Ag _⟩
 | x::xs,st=>by
  obtain⟨c,g,d,h⟩:=L7 st (f x).1 (f x).2.1 (f x).2.2;obtain⟨b,i,e,k⟩:=sX f xs (reach st (f x).1 (f x).2.1 (f x).2.2);refine⟨c+b,by rw[Br];lia,?_,?_⟩
  .rw[Cm,e,d];lia
  .rw[Cm];lia
def gX(G:Sr)(S:Nat)(st:SS)(y:b8):Nat:=match dC G y.1 y.2.1 with
 | none=>0
 | some a=>if G.own a=true then((aJ st.ends (a,y.2.1.getLastD 0)).getD []).length else S
structure Cn(G:Sr)(S I0:Nat)(st:SS)(P:List b8)(T:Nat):Prop where
 put:(a9 st.q).length+T<=I0+(P.map (gX G S st)).sum
 rch:st.reached.length<=(a9 st.q).length+T
 bnd:∀key,((aJ st.begun key).getD []).Nodup
 enn:∀key,(((aJ st.ends key).getD []).map Ck).Nodup
theorem vQ(f:b8->Nat)(P:List b8)(x:b8):((P++[x]).map f).sum=(P.map f).sum+f x:=by simp
theorem AK{G:Sr}{S:Nat}{st st':SS}(h:st'.ends=st.ends):gX G S st'=gX G S st:=by
 funext y;unfold gX;rw[h]
theorem zaO{G:Sr}{S h T:Nat}{st:SS}{P:List b8}{c:aL}{n:Nat}{cut:List Int}{a:Str}(C:Cn G S h st P T)(l:∀t p,(G.steps t p).length<=S)(w:dC G n cut=some a)(A:G.own a=false):Cn G S h (gB G st n cut c a) (P++[(n,cut,c)]) T:=by
 obtain⟨j,B,u,s⟩:=sX (λz:Int×Int=>(n,cut++[z.1],(c.1+z.2,c.2))) (G.steps a (cut.getLastD 0)) st;have keep:∀(xs:List (Int×Int)) (st:SS),(xs.foldl (λst z=>reach st n (cut++[z.1]) (c.1+z.2,c.2)) st).ends=st.ends/\(xs.foldl (λst z=>reach st n (cut++[z.1]) (c.1+z.2,c.2)) st).begun=st.begun:=by
  intro xs
  induction xs with
  | nil=>intro st;exact⟨rfl,rfl⟩
  | cons x xs m=>
   intro st;rw[Cm];obtain⟨y,r⟩:=m (reach st n (cut++[x.1]) (c.1+x.2,c.2));have i:(reach st n (cut++[x.1]) (c.1+x.2,c.2)).ends=st.ends/\(reach st n (cut++[x.1]) (c.1+x.2,c.2)).begun=st.begun:=by
    unfold reach;split
    .split<;>exact⟨rfl,rfl⟩
    .exact⟨rfl,rfl⟩
   exact⟨y.trans i.1,r.trans i.2⟩
 obtain⟨v,o⟩:=keep (G.steps a (cut.getLastD 0)) st;have b:(gB G st n cut c a).ends=st.ends:=v;have d:(gB G st n cut c a).begun=st.begun:=o;have e:(a9 (gB G st n cut c a).q).length=(a9 st.q).length+j:=u;have k:(gB G st n cut c a).reached.length<=st.reached.length+j:=s;have D:=l a (cut.getLastD 0);have g:=C.put;have f:=C.rch;refine⟨?_,by lia,λkey=>by rw[d];exact C.bnd key,λkey=>by rw[b];exact C.enn key⟩;rw[AK b,vQ,e];have:gX G S st (n,cut,c)=S:=by
  unfold gX;rw[w];simp only;rw[if_neg (by rw[A];decide)]
 lia
theorem zaP(st:SS)(n:Nat)(cut:List Int)(c:aL):(reach st n cut c).ends=st.ends/\(reach st n cut c).begun=st.begun/\(reach st n cut c).best=st.best:=by
 unfold reach;split
 .split<;>exact⟨rfl,rfl,rfl⟩
 .exact⟨rfl,rfl,rfl⟩
theorem AL{a:Type}(f:a->Nat×List Int×aL):∀(xs:List a) (st:SS),(xs.foldl (λst x=>reach st (f x).1 (f x).2.1 (f x).2.2) st).ends=st.ends/\(xs.foldl (λst x=>reach st (f x).1 (f x).2.1 (f x).2.2) st).begun=st.begun/\(xs.foldl (λst x=>reach st (f x).1 (f x).2.1 (f x).2.2) st).best=st.best
 | [],st=>⟨rfl,rfl,rfl⟩
 | x::xs,st=>by
  rw[Cm];obtain⟨b,d,c⟩:=AL f xs (reach st (f x).1 (f x).2.1 (f x).2.2);obtain⟨e,h,g⟩:=zaP st (f x).1 (f x).2.1 (f x).2.2;exact⟨b.trans e,d.trans h,c.trans g⟩
theorem zaQ{G:Sr}{S x T:Nat}{st:SS}{P:List b8}{cur c:aL}{n:Nat}{cut:List Int}{d:Str}(C:Cn G S x st P T)(o:Ob G st P cur)(i:(n,cut,c)∉P)(B:dC G n cut=some d)(D:G.own d=true):Cn G S x (fV st n cut c d) (P++[(n,cut,c)]) T:=by
 obtain⟨g,f⟩:∃z:SS,z = {st with begun:=e9 st.begun (d,cut.getLastD 0) (n,cut,c)}:=⟨_,rfl⟩;obtain⟨j,E,w,v⟩:=sX (λz:Int×aL=>(n,cut++[z.1],eN c z.2)) ((aJ st.ends (d,cut.getLastD 0)).getD []) g;obtain⟨y,u,_⟩:=AL (λz:Int×aL=>(n,cut++[z.1],eN c z.2)) ((aJ st.ends (d,cut.getLastD 0)).getD []) g;have k:(fV st n cut c d).ends=st.ends:=by
  have:(fV st n cut c d).ends=g.ends:=by rw[f]at y⊢;exact y
  rw[this,f]
 have l:(fV st n cut c d).begun=e9 st.begun (d,cut.getLastD 0) (n,cut,c):=by
  have:(fV st n cut c d).begun=g.begun:=by rw[f]at u⊢;exact u
  rw[this,f]
 have m:(a9 (fV st n cut c d).q).length=(a9 st.q).length+j:=by rw[f]at w;exact w
 have A:(fV st n cut c d).reached.length<=st.reached.length+j:=by rw[f]at v;exact v
 have s:=C.put;have r:=C.rch;refine⟨?_,by lia,λkey=>?_,λkey=>by rw[k];exact C.enn key⟩
 .rw[AK k,vQ,m];have:gX G S st (n,cut,c)=((aJ st.ends (d,cut.getLastD 0)).getD []).length:=by
   unfold gX;rw[B];simp only;rw[if_pos D]
  lia
 .rw[l,sU];split
  .rename_i h;rw[Dk];refine⟨C.bnd key,by simp,λa t b p e=>?_⟩;rw[Aj]at p;rw[e,p]at t;exact i (o.bgn key _ t).1
  .exact C.bnd key
theorem len_sub{i:Type}[DecidableEq i]:∀{a b:List i},a.Nodup->(∀x∈a,x∈b)->a.length<=b.length
 | [],b,_,_=>Bw _
 | x::a,b,c,f=>by
  rw[Cz]at c;have h:=f x Az;have j:=len_sub (a:=a) (b:=b.erase x) c.2 λy g=>by
   have d:y≠x:=λe=>c.1 (by rw[<-e];exact g);exact(List.mem_erase_of_ne d).mpr (f y (Ar _ g))
  rw[List.length_erase_of_mem h]at j;have:=List.length_pos_of_mem h;rw[Br];lia
theorem L8{f g:b8->Nat}{p:b8->Bool}:∀{P:List b8},(∀y∈P,g y=f y+if p y=true then 1 else 0)->(P.map g).sum=(P.map f).sum+(P.filter p).length
 | [],_=>rfl
 | y::P,h=>by
  have a:=L8 (P:=P) λz hz=>h z (Ar _ hz);rw[Aw,Aw,List.sum_cons,List.sum_cons,a,h y Az,Dw];split<;>simp<;>lia
theorem zaR{G:Sr}{S I T:Nat}{st:SS}{P:List b8}{cur c:aL}{n:Nat}{cut:List Int}(C:Cn G S I st P T)(o:Ob G st P cur)(U:dC G n cut=none):Cn G S I (settle G st n cut c) (P++[(n,cut,c)]) T:=by
 have f:∀st',gX G S st' (n,cut,c)=0:=λst'=>by unfold gX;rw[U]
 have D:=C.put;have B:=C.rch;unfold settle;cases hf:aJ st.best (cS G n cut) with
 | some v=>
  simp only;refine⟨?_,C.rch,C.bnd,C.enn⟩;rw[vQ,f];lia
 | none=>
  simp only;obtain⟨g,d⟩:∃z:SS,z = {st with best:=st.best++[(cS G n cut,c,n,cut)],ends:=e9 st.ends (cN G n,cut.headD 0) (cut.getLastD 0,c)}:=⟨_,rfl⟩;rw[<-d];obtain⟨j,t,w,x⟩:=sX (λy:b8=>(y.1,y.2.1++[cut.getLastD 0],eN y.2.2 c)) ((aJ st.begun (cN G n,cut.headD 0)).getD []) g;obtain⟨J,F,_⟩:=AL (λy:b8=>(y.1,y.2.1++[cut.getLastD 0],eN y.2.2 c)) ((aJ st.begun (cN G n,cut.headD 0)).getD []) g;obtain⟨p,s⟩:∃z,z=((aJ st.begun (cN G n,cut.headD 0)).getD []).foldl (λst y=>reach st y.1 (y.2.1++[cut.getLastD 0]) (eN y.2.2 c)) g:=⟨_,rfl⟩;rw[<-s]at w x J F⊢;have E:p.ends=e9 st.ends (cN G n,cut.headD 0) (cut.getLastD 0,c):=by rw[J,d]
  have N:p.begun=st.begun:=by rw[F,d]
  have W:(a9 g.q).length=(a9 st.q).length:=by rw[d]
  have X:g.reached.length=st.reached.length:=by rw[d]
  obtain⟨u,i⟩:∃u:b8->Bool,u=λy=>decide (dC G y.1 y.2.1=some (cN G n)/\G.own (cN G n)=true/\y.2.1.getLastD 0=cut.headD 0):=⟨_,rfl⟩;have r:(P.map (gX G S p)).sum=(P.map (gX G S st)).sum+(P.filter u).length:=L8 λy H=>by
   unfold gX;cases l:dC G y.1 y.2.1 with
   | none=>rw[i];simp[l]
   | some m=>
    simp only;cases K:G.own m with
    | false=>
     rw[i];simp only[l,Ge];rw[if_neg (by decide),if_neg (by decide),if_neg (by rw[decide_eq_true_eq];rintro⟨t,w,_⟩;rw[<-t,K]at w;cases w)];rfl
    | true=>
     rw[if_pos rfl,if_pos rfl,E,sU]
     by_cases h:(cN G n,cut.headD 0)=(m,y.2.1.getLastD 0)
     .rw[if_pos h];simp only[Dg]at h;rw[i];simp only[l,Ge];rw[if_pos (by rw[decide_eq_true_eq];exact⟨h.1.symm,by rw[h.1];exact K,h.2.symm⟩)];simp
     .rw[if_neg h];rw[i];simp only[l,Ge];rw[if_neg (by rw[decide_eq_true_eq];rintro⟨t,_,x⟩;exact h (by rw[t,x]))];lia
  have M:((aJ st.begun (cN G n,cut.headD 0)).getD []).length<=(P.filter u).length:=len_sub (C.bnd _) λy H=>by
   obtain⟨V,O,R,Q,_⟩:=o.bgn _ y H;rw[Dj,i];exact⟨V,decide_eq_true ⟨O,R,Q⟩⟩
  refine⟨?_,by lia,λkey=>by rw[N];exact C.bnd key,λkey=>?_⟩
  .rw[vQ,f,r];lia
  .rw[E,sU];split
   .rename_i h;rw[Bb,Dk];refine⟨C.enn key,by simp,λa L b A e=>?_⟩;obtain⟨z,hz,rfl⟩:=Am.mp L;rw[List.map_singleton,Aj]at A;rw[<-h]at hz;obtain⟨k,hk⟩:=(o.ends _ _ z.1 z.2).mp hz;rw[e,A]at hk;have:aJ st.best (cS G n cut)=some (z.2,k):=hk;rw[hf]at this;cases this
   .exact C.enn key
def kN(G:Sr)(st:SS):SS:=match iW st.q with
 | none=>st
 | some (c,(n,cut),q')=>match aJ st.reached (bR n cut) with
  | some d=>if cY d c=true then {st with q:=q'} else process G {st with q:=q'} n cut c
  | none=>{st with q:=q'}
structure All(G:Sr)(S I0:Nat)(st:SS)(P:List b8)(cur:aL)(T:Nat):Prop where
 inv:fN G st P cur
 ob:Ob G st P cur
 ini:AI G st
 cn:Cn G S I0 st P T
theorem Cn.q{G:Sr}{S I0 T:Nat}{st:SS}{P:List b8}{q':List (aL×List (Nat×List Int))}(C:Cn G S I0 st P T)(h:(a9 st.q).length=(a9 q').length+1):Cn G S I0 {st with q:=q'} P (T+1):=by
 have h1:=C.put;have h2:=C.rch;refine⟨?_,?_,C.bnd,C.enn⟩
 .show(a9 q').length+(T+1)<=_;rw[AK (st':={st with q:=q'}) (st:=st) rfl];lia
 .show st.reached.length<=(a9 q').length+(T+1);lia
theorem zaS{G:Sr}{S I0 T:Nat}{st:SS}{P:List b8}{cur c:aL}{n:Nat}{cut:List Int}(C:Cn G S I0 st P T)(o:Ob G st P cur)(hS:∀t p,(G.steps t p).length<=S)(hnew:(n,cut,c)∉P):Cn G S I0 (process G st n cut c) (P++[(n,cut,c)]) T:=by
 unfold process;cases hp:dC G n cut with
 | none=>exact zaR C o hp
 | some part=>
  simp only;cases ho:G.own part with
  | true=>rw[if_pos rfl];exact zaQ C o hnew hp ho
  | false=>rw[if_neg (by decide)];exact zaO C hS hp ho
theorem zaT{G:Sr}(ok:qM G){S I0 T:Nat}{st:SS}{P:List b8}{cur:aL}(A:All G S I0 st P cur T)(hS:∀t p,(G.steps t p).length<=S)(hq:st.q≠[]):∃P' cur',All G S I0 (kN G st) P' cur' (T+1):=by
 obtain⟨c,x,q',e1,f1,m1,l1,c1,_⟩:=oQ A.inv.fall hq;obtain⟨n,cut⟩:=x;have hin:(c,(n,cut))∈a9 st.q:=(m1 _).mpr (.inl rfl);obtain⟨d,hd,hle⟩:=A.inv.ge _ hin;unfold kN;rw[e1];simp only;rw[hd];simp only
 by_cases hl:cY d c=true
 .rw[if_pos hl];obtain⟨I1,hc⟩:=zaI A.inv e1 hd hl;exact⟨P,c,I1,A.ob.later hc q',A.ini,A.cn.q l1⟩
 .rw[if_neg hl];have hdc:d=c:=Le.antisymm hle (AE.mpr hl);subst hdc;obtain⟨I1,hc,g⟩:=zaH A.inv e1 hd;have o1:=A.ob.later hc q';obtain⟨I2,o2,le2⟩:=zaM ok I1 o1 g;refine⟨_,_,I2,o2,λn r p h1 h2=>le2 _ _ (A.ini n r p h1 h2),zaS (A.cn.q l1) o1 hS λhm=>?_⟩;have hn:=I1.once;rw[Bb,Dk]at hn;exact hn.2.2 _ (Am.mpr ⟨_,hm,rfl⟩) _ (by simp) rfl
def gY:SS:=⟨[],[],[],[],[]⟩
def jZ(G:Sr):List (Nat×Int):=(Cr G.rs.length).flatMap λn=>G.places.map λp=>(n,p)
def lS(G:Sr):SS:=(jZ G).foldl (λst x=>reach st x.1 [x.2] (G.wt x.1,1)) gY
theorem zaU(ok:qM G)(S:Nat):All G S (jZ G).length (lS G) [] (0,0) 0:=by
 have I0:fN G gY [] (0,0):=⟨trivial,(λe he=>nomatch he),(λe he=>nomatch he),Em,Em,(λy hy=>nomatch hy),(λe he=>nomatch he),(λe he=>nomatch he),(λk d hd=>nomatch hd)⟩;have hmem:∀x∈jZ G,(∃r,G.rs[x.1]? = some r)/\x.2∈G.places:=λx hx=>by
  obtain⟨n,hn,hx⟩:=Ef.mp hx;obtain⟨p,hp,rfl⟩:=Am.mp hx;exact⟨⟨_,Bj (Gg.mp hn)⟩,hp⟩
 obtain⟨I1,g1,r1⟩:=sW (λx:Nat×Int=>(x.1,[x.2],(G.wt x.1,(1:Int)))) (jZ G) I0 λx hx=>by
  obtain⟨⟨r,hr⟩,hp⟩:=hmem x hx;refine⟨.start hr hp,?_⟩;have:=ok.wt x.1;show Le (0,0) (G.wt x.1,1);unfold Le;simp only;lia
 obtain⟨j,h1,h2,h3⟩:=sX (λx:Nat×Int=>(x.1,[x.2],(G.wt x.1,(1:Int)))) (jZ G) gY;have b0:(lS G).best=[]:=g1.best;have e0:(lS G).ends=[]:=g1.ends;have n0:(lS G).begun=[]:=g1.begun;refine⟨I1,⟨Le.refl _,(λy hy=>nomatch hy),(λy hy=>nomatch hy),(λy hy=>nomatch hy),λkey y hy=>?_,λkey y hy=>?_,λnm b e m=>?_,λf m n cut e=>?_,λpre e post h=>?_⟩,λn r p hr hp=>?_,⟨?_,?_,λkey=>?_,λkey=>?_⟩⟩
 .rw[n0]at hy;cases hy
 .rw[n0]at hy;cases hy
 .rw[e0,b0];exact⟨(λz=>nomatch z),(λ⟨k,hk⟩=>nomatch hk)⟩
 .rw[b0]at e;cases e
 .rw[b0]at h;cases pre<;>cases h
 .exact r1 (n,p) (Ef.mpr ⟨n,Gg.mpr (Ap.mp hr).1,Am.mpr ⟨p,hp,rfl⟩⟩)
 .have h2:(a9 (lS G).q).length=(a9 gY.q).length+j:=h2;have:(a9 gY.q).length=0:=rfl;simp only[Hz,List.sum_nil];lia
 .have h2:(a9 (lS G).q).length=(a9 gY.q).length+j:=h2;have h3:(lS G).reached.length<=gY.reached.length+j:=h3;have e1:(a9 gY.q).length=0:=rfl;have e2:gY.reached.length=0:=rfl;lia
 .rw[n0];exact Em
 .rw[e0];exact Em
structure qN(G:Sr)(V:List Int)(N L:Nat):Prop where
 pl:∀p∈G.places,p∈V
 st:∀t p e c,p∈V->(e,c)∈G.steps t p->e∈V
 few:G.rs.length<=N
 len:∀r∈G.rs,r.parts.length+1<=L
theorem qO{l:List Int}(h:l≠[]):l.getLastD 0∈l:=by
 rcases Fj l with z|⟨a,b,z⟩
 .exact absurd z h
 .rw[z,Fl];simp[Gn]
theorem L9{l:List Int}(h:l≠[]):l.headD 0∈l:=by
 cases l with
 | nil=>exact absurd rfl h
 | cons a b=>simp
theorem sY{G:Sr}{V:List Int}{N L:Nat}(v:qN G V N L){n:Nat}{cut:List Int}{c:aL}(h:DI G n cut c):(∀x∈cut,x∈V)/\n<N/\cut.length<=L:=by
 induction h with
 | @start n r p hr hp=>
  have hn:=(Ap.mp hr).1;have:=v.len r (Au hr);have:=v.few;exact⟨λx hx=>by rw[Aj.mp hx];exact v.pl p hp,by lia,by simp;lia⟩
 | @word n r cut c part e pr hd hr hp ho hs ih=>
  obtain⟨h1,h2,h3⟩:=ih;have hl:=(Ap.mp hp).1;have:=v.len r (Au hr);have hne:=Eh.mpr hd.ne;refine⟨λx hx=>?_,h2,by rw[Ak,Bp];lia⟩;rcases Bg.mp hx with z|z
  .exact h1 x z
  .rw[Aj.mp z];exact v.st _ _ _ _ (h1 _ (qO hd.ne)) hs
 | @name n n' r cut cut' c m part hd hr hp ho hd' hf hn hh ih ih'=>
  obtain⟨h1,h2,h3⟩:=ih;obtain⟨g1,_,_⟩:=ih';have hl:=(Ap.mp hp).1;have:=v.len r (Au hr);have hne:=Eh.mpr hd.ne;refine⟨λx hx=>?_,h2,by rw[Ak,Bp];lia⟩;rcases Bg.mp hx with z|z
  .exact h1 x z
  .rw[Aj.mp z];exact g1 _ (qO hd'.ne)
def vR(V:List Int)(N L:Nat):List K4:=(Cr N).flatMap λn=>(Cr (L+1)).flatMap λl=>V.flatMap λa=>V.map λb=>(n,l,a,b)
theorem sZ{α β:Type}{f:α->List β}{k:Nat}:∀{l:List α},(∀x∈l,(f x).length=k)->(l.flatMap f).length=l.length*k
 | [],_=>by simp
 | x::l,h=>by
  rw[Lc,Ak,h x Az,sZ λy hy=>h y (Ar _ hy),Br,Md];lia
theorem zaV(V:List Int)(N L:Nat):(vR V N L).length=N*((L+1)*(V.length*V.length)):=by
 unfold vR;rw[sZ (k:=(L+1)*(V.length*V.length)) λn _=>?_,Gy];rw[sZ (k:=V.length*V.length) λl _=>?_,Gy];rw[sZ (k:=V.length) λa _=>by rw[Ab]]
theorem MA{G:Sr}{V:List Int}{N L S I0 T:Nat}{st:SS}{P:List b8}{cur:aL}(v:qN G V N L)(A:All G S I0 st P cur T):P.length<=N*((L+1)*(V.length*V.length))/\(∀key,((aJ st.ends key).getD []).length<=V.length)/\(a9 st.q).length+T<=I0+N*((L+1)*(V.length*V.length))*(S+V.length):=by
 have hin:∀{B:bL} {n cut c},B=st.best->GI G B n cut c->DI G n cut c:=λ{B n cut c} e g=>AJ (B:=B) (λf m n' cut' h=>oR A.ob (by rw[<-e];exact h)) g;have hP:P.length<=N*((L+1)*(V.length*V.length)):=by
  have:=len_sub (b:=vR V N L) A.inv.once λk hk=>by
   obtain⟨y,hy,rfl⟩:=Am.mp hk;have hd:=hin rfl (A.inv.pr y hy).2.2;obtain⟨h1,h2,h3⟩:=sY v hd;unfold vR;refine Ef.mpr ⟨y.1,Gg.mpr h2,Ef.mpr ⟨y.2.1.length,Gg.mpr (by lia),Ef.mpr ⟨_,h1 _ (L9 hd.ne),Am.mpr ⟨_,h1 _ (qO hd.ne),rfl⟩⟩⟩⟩
  rw[Ab,zaV]at this;exact this
 have hE:∀key,((aJ st.ends key).getD []).length<=V.length:=λkey=>by
  have:=len_sub (b:=V) (A.cn.enn key) λe he=>by
   obtain⟨z,hz,rfl⟩:=Am.mp he;obtain⟨k,hk⟩:=(A.ob.ends key.1 key.2 z.1 z.2).mp hz;obtain⟨n,cut⟩:=k;obtain⟨hd,_,hf⟩:=oR A.ob hk;unfold cS at hf;simp only[Dg]at hf;rw[hf.2.2];exact(sY v hd).1 _ (qO hd.ne)
  rw[Ab]at this;exact this
 refine⟨hP,hE,?_⟩;have hsum:(P.map (gX G S st)).sum<=P.length*(S+V.length):=by
  have hd:∀y,gX G S st y<=S+V.length:=λy=>by
   unfold gX;split
   .lia
   .rename_i part _;split
    .have:=hE (part,y.2.1.getLastD 0);lia
    .lia
  have:∀l:List b8,(l.map (gX G S st)).sum<=l.length*(S+V.length):=by
   intro l
   induction l with
   | nil=>simp
   | cons y l ih=>rw[Aw,List.sum_cons,Br,Md];have:=hd y;lia
  exact this P
 have h1:=A.cn.put;have h2:P.length*(S+V.length)<=N*((L+1)*(V.length*V.length))*(S+V.length):=Nat.mul_le_mul_right _ hP;lia
mutual
inductive LD(rs:List aI):Str->Int->Prop
 | mk {r:aI} {l:Int}:r∈rs->gK rs r.parts l->LD rs r.name l
inductive gK(rs:List aI):List Str->Int->Prop
 | nil:gK rs [] 0
 | word {t:Str} {ts:List Str} {l:Int}:ownB rs t=false->gK rs ts l->gK rs (t::ts) (1+l)
 | name {t:Str} {ts:List Str} {a l:Int}:ownB rs t=true->LD rs t a->gK rs ts l->gK rs (t::ts) (a+l)
end
theorem gK.append:∀{xs ys:List Str} {a b:Int},gK rs xs a->gK rs ys b->gK rs (xs++ys) (a+b)
 | [],ys,_,b,.nil,h=>by rw[Fu,Int.zero_add];exact h
 | t::xs,ys,_,b,.word h1 h2,h=>by rw[Int.add_assoc];exact .word h1 (gK.append h2 h)
 | t::xs,ys,_,b,.name h1 h3 h2,h=>by rw[Int.add_assoc];exact .name h1 h3 (gK.append h2 h)
theorem gK.one(h:ownB rs t=false):gK rs [t] 1:=.word h .nil
theorem gK.oneN{a:Int}(h:ownB rs t=true)(d:LD rs t a):gK rs [t] a:=by
 have:=gK.name h d .nil;rwa [Int.add_zero]at this
def d4(rs:List aI)(ws:List Str):Sr:=⟨rs,ownB rs,[0],λt p=>if p=0/\t∈ws then [(0,1)] else [],λ_=>0⟩
theorem nU{α:Type}{l:List α}{k:Nat}{x:α}(h:l[k]? = some x):l.take (k+1)=l.take k++[x]:=by
 rw[List.take_succ,h];rfl
section
variable {rs:List aI}{ws:List Str}
theorem tB{n:Nat}(h:rs[n]? = some r):cN (d4 rs ws) n=r.name:=by
 unfold cN;rw[show(d4 rs ws).rs[n]? = some r from h]
theorem vS{n:Nat}(h:rs[n]? = some r):dC (d4 rs ws) n cut=r.parts[cut.length-1]?:=by
 unfold dC;rw[show(d4 rs ws).rs[n]? = some r from h]
def qP(rs:List aI)(ws:List Str):Prop:=∀r∈rs,∀t∈r.parts,ownB rs t=false->t∈ws
theorem vT{cut:List Int}(h:∀x∈cut,x=0):cut.getLastD 0=0:=by
 cases cut with
 | nil=>rfl
 | cons a l=>exact h _ (qO (by simp))
theorem qQ{n:Nat}{cut:List Int}{c:aL}(h:DI (d4 rs ws) n cut c):∀x∈cut,x=0:=by
 induction h with
 | start _ hp=>intro x hx;rw[Aj.mp hx];exact Aj.mp hp
 | word _ _ _ _ hs ih=>
  intro x hx;rcases Bg.mp hx with z|z
  .exact ih x z
  .rw[Aj.mp z];have hs:=(show(_,_)∈(if _ then [((0:Int),(1:Int))] else []) from hs);split at hs
   .exact congrArg Ck (Aj.mp hs)
   .cases hs
 | name _ _ _ _ _ _ _ _ ih ih'=>
  intro x hx;rcases Bg.mp hx with z|z
  .exact ih x z
  .rw[Aj.mp z];exact vT ih'
theorem AN{cut:List Int}(h:∀x∈cut,x=0):cut.headD 0=0:=by
 cases cut with
 | nil=>rfl
 | cons a l=>exact h a Az
theorem zaW{n:Nat}{cut:List Int}{c:aL}(h:DI (d4 rs ws) n cut c):∃r,rs[n]? = some r/\cut.length-1<=r.parts.length/\gK rs (r.parts.take (cut.length-1)) c.1:=by
 induction h with
 | @start n r p hr _=>exact⟨r,hr,by simp,by simp;exact .nil⟩
 | @word n r cut c part e pr hd hr hp ho hs ih=>
  obtain⟨r',hr',h1,h2⟩:=ih;have hr:rs[n]? = some r:=hr;rw[hr']at hr;cases hr;have hne:=Eh.mpr hd.ne;have hl:=(Ap.mp hp).1;have hk:(cut++[e]).length-1=(cut.length-1)+1:=by rw[Ak,Bp];lia
  have hpr:pr=1:=by
   have hs:(e,pr)∈(if cut.getLastD 0=0/\part∈ws then [((0:Int),(1:Int))] else []):=hs;split at hs
   .simp at hs;exact hs.2
   .cases hs
  refine⟨r,hr',by lia,?_⟩;rw[hk,nU hp,hpr];exact h2.append (.one ho)
 | @name n n' r cut cut' c m part hd hr hp ho hd' hfin hnm hhd ih ih'=>
  obtain⟨r',hr',h1,h2⟩:=ih;obtain⟨r2,hr2,g1,g2⟩:=ih';have hr:rs[n]? = some r:=hr;rw[hr']at hr;cases hr;have hne:=Eh.mpr hd.ne;have hl:=(Ap.mp hp).1;have hk:(cut++[cut'.getLastD 0]).length-1=(cut.length-1)+1:=by rw[Ak,Bp];lia
  refine⟨r,hr',by lia,?_⟩;rw[hk,nU hp];refine h2.append (.oneN ho ?_);rw[vS hr2]at hfin;rw[tB hr2]at hnm;rw[Fz (Gp.mp hfin)]at g2;rw[<-hnm];exact .mk (Au hr2) g2
variable {S I0 T:Nat}{st:SS}{P:List b8}{cur:aL}
theorem AQ(A:All (d4 rs ws) S I0 st P cur T):(st.best.map (·.1)).Nodup:=by
 have:∀(k:Nat),k<=st.best.length->((st.best.take k).map (·.1)).Nodup:=by
  intro k
  induction k with
  | zero=>intro _;simp
  | succ k ih=>
   intro hk;have hlt:k<st.best.length:=hk;have e:st.best[k]? = some st.best[k]:=Bj hlt;rw[nU e,Bb,Dk];refine⟨ih (by lia),by simp,λa ha b hb=>?_⟩;have hb:b=st.best[k].1:=by simpa using hb
   subst hb;have hs:st.best=st.best.take k++st.best[k]::st.best.drop (k+1):=by rw[List.getElem_cons_drop,Mg]
   have hn:=(A.ob.ord _ _ _ hs).2;intro hab;obtain⟨x,hx,rfl⟩:=Am.mp ha;have:∀{t:bL} {x},x∈t->(aJ t x.1).isSome=true:=by
    intro t
    induction t with
    | nil=>intro x h;cases h
    | cons y t ih2=>
     intro x h;rw[dG]
     by_cases hy:y.1=x.1
     .rw[if_pos hy];rfl
     .rw[if_neg hy];rcases Ba.mp h with z|z
      .exact absurd (by rw[z]) hy
      .exact ih2 z
   have:=this hx;rw[hab,hn]at this;cases this
 have:=this st.best.length (Ag _);rwa [Cd]at this
theorem vU(A:All (d4 rs ws) S I0 st P cur T)(h:e∈st.best):aJ st.best e.1=some e.2:=by
 have nd:=AQ A;have:∀{t:bL},(t.map (·.1)).Nodup->e∈t->aJ t e.1=some e.2:=by
  intro t
  induction t with
  | nil=>intro _ h;cases h
  | cons y t ih=>
   intro nd h;rw[Aw,Cz]at nd;rw[dG];rcases Ba.mp h with z|z
   .subst z;rw[if_pos rfl]
   .rw[if_neg (λz2=>nd.1 (by rw[z2];exact Am.mpr ⟨e,z,rfl⟩))];exact ih nd.2 z
 exact this nd h
theorem AR(A:All (d4 rs ws) S I0 st P cur T){e:bJ×aL×Nat×List Int}(h:e∈st.best):∃r,rs[e.2.2.1]? = some r/\e.1=(r.name,0,0):=by
 obtain⟨f,m,n,cut⟩:=e;have hb:aJ st.best f=some (m,n,cut):=vU A h;obtain⟨h1,h2,h3⟩:=oR A.ob hb;obtain⟨r,hr,_⟩:=zaW h1;refine⟨r,hr,?_⟩;rw[h3];unfold cS;rw[tB hr,AN (qQ h1),vT (qQ h1)]
theorem zaX(A:All (d4 rs ws) S I0 st P cur T):st.best.length<=(namesOf rs).length:=by
 have nd:=AQ A;have:=len_sub (a:=st.best.map (·.1)) (b:=(namesOf rs).map λx=>((x,0,0):bJ)) nd λf hf=>by
  obtain⟨e,he,rfl⟩:=Am.mp hf;obtain⟨r,hr,e1⟩:=AR A he;exact Am.mpr ⟨r.name,mX.mpr ⟨r,Au hr,rfl⟩,e1.symm⟩
 rwa [Ab,Ab]at this
theorem MB(rs:List aI):(namesOf rs).length<=rs.length:=by
 have:∀(qs:List aI) (acc:List Str),(oP acc qs).length<=acc.length+qs.length:=by
  intro qs
  induction qs with
  | nil=>intro acc;exact Ag _
  | cons r qs ih=>
   intro acc;have h1:=ih (dE acc r.name);have h2:(dE acc r.name).length<=acc.length+1:=by unfold dE;split<;>simp
   show(oP (dE acc r.name) qs).length<=_;rw[Br];lia
 have:=this rs [];rw[List.length_nil,Mc]at this;exact this
def tD(B:bL)(X:Str):Option Int:=(aJ B (X,0,0)).map λv=>v.1.1
end
end Rg
namespace PySem
namespace Dp
open PyProof.Rows L2 PySem.Spec
section
variable {prog:Ax}{w:Bl}{A:Cs}{E:Ae->Ah->Prop}{s:Ah}
theorem zaY:typeLookup (.type "list") "keys" = pure none:=by rw[typeLookup_type,builtinLookup_eq_fast];kernel_rfl
theorem keys_miss{k:Nat}{Q:Option Ae->Ah->Prop}(hx:s.heap.get? a=some {cls:=.type "list",data:=.seq xs k})(hA:A.handled=none)(h:∀h' tk,(∀b o,s.heap.get? b=some o->h'.get? b=some o)->Q none {s with heap:=h',toks:=tk}):Bh (Bu prog w) A (getAttr? (.ref a) (Bx "keys")) Q E s:=by
 obtain⟨hp,g,d,tk,os⟩:=s;have hT:∀tk',(⟨hp,g,d,tk',os⟩:Ah).TypeIs (.ref a) "list":=λ_=>⟨_,hx,rfl⟩
 have f1:=sub_AttributeError;have f3:=Lr.lookup;have f4:=Lr.bind (.ref a);have f5:=am_list_getattr_none;unfold getAttr? getAttrBy? getAttrBy
 repeat (any_goals (first|assumption|exact hT _|((with_reducible show Bh _ _ (call (Value.builtin "list.__getattribute__") _ _) _ _ _);refine Kh Lr (hT _) am_entry_list_getattribute (F.args_list_getattribute_2 _ _) (meets_getattribute_miss_list a xs k #[] (Bx "keys") _ zaY (by decide +kernel) (by decide +kernel)) ⟨hx,hA,λh' tk' e hx'=>?_⟩)|wp_step))
 obtain⟨t',u',he⟩:=hx'.there;have hx2:=hx'.of.keeps;show Bh _ _ (getattributeRaised _ _ _ _ _ _ _) _ _ _;unfold getattributeRaised
 repeat (any_goals (first|assumption|wp_step))
 exact h _ _ hx2
theorem entry_loop:entryFor table "dict.update.loop" = some Ly.«dict.update.loop»:=entryFor_of_tree (by kernel_rfl)
theorem plain_loop:plainId "dict.update.loop" = true:=by decide +kernel
variable {K:Type}[DecidableEq K]{knd:KeyKind prog w K}
theorem zaZ(kvs:List (K×Ae))(k:K)(v:Ae):(stored kvs k v).length<=kvs.length+1:=by
 unfold stored;split
 .rw[Ab];lia
 .rw[Ak,Bp];exact Ag _
def all(kvs:List (K×Ae))(ps:List (K×Ae)):List (K×Ae):=ps.foldl (λkvs p=>stored kvs p.1 p.2) kvs
theorem loop{d I l:Addr}{items:Array Ae}{ps:List (K×Ae)}{R:Result->Ah->Prop}(hh:A.handled=none)(hdI:d≠I)(hdl:d≠l)(hlI:l≠I)(hn:ps.length=items.size)(hz:items.size<=An):
  ∀(k i:Nat) (s:Ah) (kvs:List (K×Ae)),items.size-i=k->i<=items.size->kvs.length<=i->s.heap.IsListIter I l i->s.heap.IsList l items->s.heap.DictOf knd d kvs->
  (∀(j:Nat) (p:K×Ae),ps[j]? = some p->∃(a:Addr) (key:Ae),items[j]? = some (.ref a)/\a≠d/\a≠I/\s.heap.IsTuple a #[key,p.2]/\knd.is p.1 key=true)->
  (∀h' tk,(∀b o,b≠d->b≠I->s.heap.get? b=some o->h'.get? b=some o)->h'.DictOf knd d (all kvs (ps.drop i))->R (.ok (.ret .none)) {s with heap:=h',toks:=tk})->
  Kz (Bu prog w) A (.builtin "dict.update.loop" ⟨[.ref d,.ref I,Jm (i:Int),.none],[]⟩) R s:=by
 intro k
 induction k with
 | zero=>
  intro i s kvs hk hi hl hit mE hd hp hR;have hin:i=items.size:=by lia
  refine Nb entry_loop ?_;rw[Ju plain_loop _];show Bh _ A.in1 (Iy (.ref I)>>=_) _ _ s;have W:=Ll (prog:=prog) (w:=w) (A:=A.in1) hh I l hlI items;refine Aa (W.done s _ _ (by rw[<-hin];exact⟨hit,mE⟩) λh' tk hm=>?_);show Bh _ A.in1 (Builtin.Dict.addKeywords d []>>=_) _ _ _;have hd':h'.DictOf knd d kvs:=by
   obtain⟨o,es,ep,ho,rest⟩:=hd;exact⟨o,es,ep,hm d o (by simp[hdI]) ho,rest⟩
  refine Aa (Af (Af (hR h' tk (λb o _ hb e=>hm b o (by simp[hb]) e) ?_)));rw[List.drop_of_length_le (by lia)];exact hd'
 | succ k ih=>
  intro i s kvs hk hi hl hit mE hd hp hR;have hlt:i<items.size:=by lia
  refine Nb entry_loop ?_;rw[Ju plain_loop _];show Bh _ A.in1 (Iy (.ref I)>>=_) _ _ s;have W:=Ll (prog:=prog) (w:=w) (A:=A.in1) hh I l hlI items;refine Aa (W.item i s _ _ hlt ⟨hit,mE⟩ λv h' tk hv hst hm=>?_);obtain⟨p,hpi⟩:∃p,ps[i]? = some p:=⟨_,Bj (by lia)⟩;obtain⟨a,key,ha,had,haI,hat,hkey⟩:=hp i p hpi;rw[ha]at hv;cases hv;have hd':h'.DictOf knd d kvs:=by
   obtain⟨o,es,ep,ho,rest⟩:=hd;exact⟨o,es,ep,hm d o (by simp[hdI]) ho,rest⟩
  have hat':h'.IsTuple a #[key,p.2]:=by
   obtain⟨o,ho,rest⟩:=hat;exact⟨o,hm a o (by simp[haI]) ho,rest⟩
  show Bh _ A.in1 (Hy [Value.ref a] _>>=_) _ _ _;refine Aa (Dd (Aa (wpAny_tryCatch ?_)));unfold Builtin.Dict.pairItems;obtain⟨o,ho,hc,n,hd2⟩:=hat';refine Aa (Mu (T:="tuple") ⟨o,ho,hc⟩ ?_);rw[if_pos (by decide)];refine Aa (Jw ho hd2 (Af ?_));show Bh _ _ (Hy [key,p.2] (dictSet d key p.2)) _ _ _;refine Dd (wpAny_dictSet_pairs hkey hd' (hsz:=by lia) λh2 hd3 hs2=>?_);have e1:ps.drop i=p::ps.drop (i+1):=by rw[Gq (by lia)];congr 1;exact(Ap.mp hpi).2
  refine Af ⟨Nr plain_loop _,?_⟩;refine ih (i+1) _ (stored kvs p.1 p.2) (by lia) hlt (by have:=zaZ kvs p.1 p.2;lia) (hst.1.at λo e=>(hs2.2 I (Bz hdI)).trans e) (hst.2.at λo e=>(hs2.2 l (Bz hdl)).trans e) hd3 (λj q hq=>?_) λh3 tk3 hk3 hd4=>?_
  .obtain⟨a,key,g1,g2,g3,⟨o,g4,g5⟩,g6⟩:=hp j q hq;exact⟨a,key,g1,g2,g3,⟨o,(hs2.2 a g2).trans (hm a o (by simp[g3]) g4),g5⟩,g6⟩
  .refine hR h3 tk3 (λb o h1 h2 e=>hk3 b o h1 h2 ((hs2.2 b h1).trans (hm b o (by simp[h2]) e))) ?_;rw[e1];exact hd4
theorem call_pairs{l:Addr}{items:Array Ae}{c:Nat}{ps:List (K×Ae)}{Q:Ae->Ah->Prop}(hh:A.handled=none)(hx:s.heap.get? l=some {cls:=.type "list",data:=.seq items c})(hn:ps.length=items.size)(hz:items.size<=An)(hp:∀(j:Nat) (p:K×Ae),ps[j]? = some p->∃(a:Addr) (key:Ae),items[j]? = some (.ref a)/\s.heap.IsTuple a #[key,p.2]/\knd.is p.1 key=true)(h:∀h' tk,(∀b o,s.heap.get? b=some o->h'.get? b=some o)->h'.DictOf knd s.heap.objs.size (all [] ps)->Q (.ref s.heap.objs.size) {s with heap:=h',toks:=tk}):
  Bh (Bu prog w) A (call (.type "dict") [.ref l]) Q E s:=by
 refine callType_codes (Q₁:=λobj s₁=>obj=.ref s.heap.objs.size/\s₁ = {s with heap:=s.heap.push {cls:=.type "dict",data:=.dict #[]}}) F.kt_called_dict (F.kt_typeCall_dict_1 _) F.entry_dict_init (kt_code_dict_new _ ⟨rfl,rfl⟩) ?_;rintro obj s₁ ⟨rfl,rfl⟩;have lt:l<s.heap.objs.size:=Be hx;have hnew:(s.heap.push {cls:=.type "dict",data:=.dict #[]}).DictOf knd s.heap.objs.size []:=Heap.DictOf.new s.heap;have hx':(s.heap.push {cls:=.type "dict",data:=.dict #[]}).get? l=some {cls:=.type "list",data:=.seq items c}:=Ai _ hx;refine⟨hnew.typeIs,F.args_dict_init_2 _ _,?_⟩;unfold Ly.«dict.__init__»;refine Aa ?_;unfold Builtin.Dict.selfAndRest;refine Aa (Fo hnew.typeIs ?_);show Bh _ _ (pure (s.heap.objs.size,[Value.ref l])) _ _ _;refine Af ?_;show Bh _ _ (Hw "dict.__init__" s.heap.objs.size (.ref l) [] .none) _ _ _;unfold Hw;refine Aa (Mu (T:="list") ⟨_,hx',rfl⟩ ?_);rw[if_pos (by decide)];refine Aa (keys_miss hx' hh λh1 tk1 hk1=>?_);rw[if_pos (by decide)];have hx1:=hk1 _ _ hx';have hd1:h1.DictOf knd s.heap.objs.size []:=by
  obtain⟨o,es,ep,ho,rest⟩:=hnew;exact⟨o,es,ep,hk1 _ o ho,rest⟩
 refine Aa (Hm (Aa (Hx (items:=items) ⟨_,hx1,rfl,c,rfl⟩ ?_)));have gI:(h1.push {cls:=.type "list_iterator",data:=.fields #[.ref l,.int 0 0]}).IsListIter h1.objs.size l 0:=⟨_,Bc _ rfl,rfl,rfl⟩;have up:∀b o,s.heap.get? b=some o->(h1.push {cls:=.type "list_iterator",data:=.fields #[.ref l,.int 0 0]}).get? b=some o:=λb o e=>Ai _ (hk1 b o (Ai _ e));have l1:s.heap.objs.size<h1.objs.size:=by
  obtain⟨o,es,ep,ho,rest⟩:=hd1;exact Be ho
 refine Af ⟨Nr plain_loop _,?_⟩;refine loop (A:=A.in1) (knd:=knd) (d:=s.heap.objs.size) (I:=h1.objs.size) (l:=l) (items:=items) (ps:=ps) hh (Bn l1) (Ga lt) (Bn (Ih lt l1)) hn hz items.size 0 _ [] rfl (Bw _) (Ag _) gI ⟨_,Ai _ hx1,rfl,c,rfl⟩ (by
  obtain⟨o,es,ep,ho,rest⟩:=hd1;exact⟨o,es,ep,Ai _ ho,rest⟩) (λj p hj=>?_) λh2 tk2 hk2 hd2=>?_
 .obtain⟨a,key,g1,⟨o,g2,g3⟩,g4⟩:=hp j p hj;have la:=Be g2;exact⟨a,key,g1,Bn la,Bn (Ih la l1),⟨o,up a o g2,g3⟩,g4⟩
 .exact⟨rfl,h h2 tk2 (λb o e=>hk2 b o (Bn (Be e)) (Bn (Ih (Be e) l1)) (up b o e)) hd2⟩
end
end Dp
end PySem
namespace L3
open PySem PySem.Spec PyProof.Rows L2
section
variable {X:Cx}
def j0(kvs:List (aF×W))(ps:List (aF×W)):List (aF×W):=ps.foldl (λkvs p=>b9 kvs p.1 p.2) kvs
def kO(ps:List (aF×W)):List W:=ps.map λp=>.tup [wK p.1,p.2]
def AU:List W->Mm->K3->Prop
 | [.rl ws],M,R=>∃ps:List (aF×W),ws=kO ps/\ws.length<=An/\lE (j0 [] ps) M R
 | _,_,_=>False
theorem AW(I:L2.Inv X pins σ H s):∀{ps:List (aF×W)} {vs:List V} {its:List Ae},aN X.K H M vs (kO ps)->a7 vs its->
  ∃(ks:List (aF×V)) (rs:List (aF×Ae)),bZ X.K H M aF ks ps/\KV ks rs/\rs.length=its.length/\
   ∀(j:Nat) (p:aF×Ae),rs[j]? = some p->∃(a:Addr) (key:Ae),its[j]? = some (.ref a)/\s.heap.IsTuple a #[key,p.2]/\(b7 X.prog X.w).is p.1 key=true
 | [],_,_,.nil,.nil=>⟨[],[],.nil,.nil,rfl,λj p h=>by simp at h⟩
 | (k,w)::ps,_,_,.cons av avs,.cons rv rvs=>by
  obtain⟨ks,rs,h1,h2,h3,h4⟩:=AW I avs rvs;obtain⟨a,xs,ev,e,q⟩:=av.inv;rw[ev]at rv;obtain⟨u1,u2,ex,a1,a2⟩:=q.two;obtain⟨its2,r2,pl,_⟩:=I.tuple (cD.of e);rw[ex,a1.key]at r2;obtain⟨y1,y2,ey,x1,x2⟩:=vals2 r2;rw[ey]at pl;refine⟨(k,u2)::ks,(k,y2)::rs,.cons ⟨rfl,a2⟩ h1,.cons ⟨rfl,x2⟩ h2,congrArg (· + 1) h3,λj p hj=>?_⟩;cases j with
  | zero=>rw[<-Ci hj];exact⟨a,y1,congrArg some rv,pl,k9 x1⟩
  | succ j=>exact h4 j p hj
theorem AX:∀{ps:List (aF×W)} {ks:List (aF×V)} {rs:List (aF×Ae)} {kvs:List (aF×W)} {ls:List (aF×V)} {us:List (aF×Ae)},bZ X.K H M aF ks ps->KV ks rs->bZ X.K H M aF ls kvs->KV ls us->
  ∃ls':List (aF×V),bZ X.K H M aF ls' (j0 kvs ps)/\KV ls' (Dp.all us rs)/\ls'.length<=ls.length+ps.length
 | [],_,_,_,ls,_,.nil,.nil,h1,h2=>⟨ls,h1,h2,Ag _⟩
 | p::ps,_,_,_,ls,_,.cons (a:=a) x r,.cons (b:=b) y t,h1,h2=>by
  obtain⟨k,w⟩:=p;obtain⟨k1,v⟩:=a;obtain⟨k2,u⟩:=b;obtain⟨x1,x2⟩:=x;obtain⟨y1,y2⟩:=y;cases x1;cases y1;obtain⟨ls',g1,g2,g3⟩:=AX (kvs:=b9 _ k w) r t (uZ h1 k x2) (h2.put k y2);have:=rX ls k v;exact⟨ls',g1,g2,by simp at g3⊢;lia⟩
theorem MC(hc:X.calm=true):c0 X (.type "dict") (fT X.K AU):=by
 rintro pins s σ H xs us Q I rs ⟨ws,M,R,am,axs,h,k⟩
 match ws,h with
 | [.rl ws],h=>
  obtain⟨v,rfl,av⟩:=axs.one;obtain⟨ps,rfl,hz,r⟩:=h;obtain⟨u,rfl,ru⟩:=vals1 rs;cases av with
  | rl f n q=>
   cases ru;obtain⟨z,its,c,rv,hl,e⟩:=I.lstM f;obtain⟨ks,rs',h1,h2,h3,h4⟩:=AW I q rv;obtain⟨ls,g1,g2,g3⟩:=AX h1 h2 .nil .nil;refine Dp.call_pairs (knd:=b7 X.prog X.w) (items:=its.toArray) (ps:=rs') (I.ok.hd hc) e (by simpa using h3) (by rw[Bf];lia) (λj p hj=>by simpa using h4 j p hj) λh' tk hk hd=>?_;have hz2:ps.length<=An:=by simpa [kO] using hz
   have hfr:=I.hok.fresh (Ag _);refine⟨.ref s.heap.objs.size,aT H s.heap.objs.size (.dK ls),I.laid (o:=.dK ls) (t':=tk) hk (Ag _) ⟨by simp at g3;lia,beq_eq_false_iff_ne.mpr (Bz (Bn I.big)),_,g2,hd⟩,rfl,?_⟩;obtain⟨am2,k2⟩:=am.laid (o:=.dK (j0 [] ps)) (u:=.dK ls) hfr ⟨ls,cU,pkv_new hfr g1⟩;exact k _ _ _ _ k2 am2 (.ref _) (r _ (am.nonM hfr))
where
 pkv_new:∀{H:Hp} {M:Mm} {p:Addr} {ks ls:List (aF×V)} {kvs kus:List (aF×W)},H p=none->bZ X.K H M aF ks kvs->bZ X.K (aT H p (.dK ls)) (put M p (.dK kus)) aF ks kvs:=λhp h=>pY h.keys (h.vals.newL hp)
def MD:List W->Mm->K3->Prop
 | [.rl ws],M,R=>∃ps:List (aF×W),ws=kO ps/\ws.length<=An/\R (.dk (j0 [] ps)) M
 | _,_,_=>False
theorem za0(hc:X.calm=true):c0 X (.type "dict") (fT X.K MD):=by
 rintro pins s σ H xs us Q I rs ⟨ws,M,R,am,axs,h,k⟩
 match ws,h with
 | [.rl ws],h=>
  obtain⟨v,rfl,av⟩:=axs.one;obtain⟨ps,rfl,hz,r⟩:=h;obtain⟨u,rfl,ru⟩:=vals1 rs;cases av with
  | rl f n q=>
   cases ru;obtain⟨z,its,c,rv,hl,e⟩:=I.lstM f;obtain⟨ks,rs',h1,h2,h3,h4⟩:=AW I q rv;obtain⟨ls,g1,g2,g3⟩:=AX h1 h2 .nil .nil;refine Dp.call_pairs (knd:=b7 X.prog X.w) (items:=its.toArray) (ps:=rs') (I.ok.hd hc) e (by simpa using h3) (by rw[Bf];lia) (λj p hj=>by simpa using h4 j p hj) λh' tk hk hd=>?_;have hz2:ps.length<=An:=by simpa [kO] using hz
   have hfr:=I.hok.fresh (Ag _);refine⟨.ref s.heap.objs.size,aT H s.heap.objs.size (.dK ls),I.laid (o:=.dK ls) (t':=tk) hk (Ag _) ⟨by simp at g3;lia,beq_eq_false_iff_ne.mpr (Bz (Bn I.big)),_,g2,hd⟩,rfl,?_⟩;obtain⟨am2,k2⟩:=am.tup (u:=.dK ls) hfr;exact k _ _ _ _ k2 am2 (.dk cU (am.nonM hfr) g1.keys (g1.vals.newT hfr)) r
end
def cE(f:Str)(w:W):List (Str×W)->List (Str×W)
 | []=>[(f,w)]
 | (k,x)::r=>if k=f then(k,w)::r else(k,x)::cE f w r
section
variable {K:Ac}{H:Hp}{M:Mm}
theorem bZ.look:∀{gs:List (Str×V)} {fs:List (Str×W)},bZ K H M Str gs fs->fs.lookup f=some w->∃v,gs.lookup f=some v/\AV K H M v w
 | _,_,.nil,h=>by cases h
 | _,_,.cons (a:=(k,v)) (b:=(k',w')) r t,h=>by
  obtain⟨rfl,av⟩:=r
  by_cases hk:(f==k)=true
  .simp only[Cb,hk]at h⊢;cases h;exact⟨v,rfl,av⟩
  .have hk':(f==k)=false:=by simpa using hk
   simp only[Cb,hk']at h⊢;exact bZ.look t h
theorem bZ.lookN:∀{gs:List (Str×V)} {fs:List (Str×W)},bZ K H M Str gs fs->fs.lookup f=none->gs.lookup f=none
 | _,_,.nil,_=>rfl
 | _,_,.cons (a:=(k,v)) (b:=(k',w')) r t,h=>by
  obtain⟨rfl,av⟩:=r
  by_cases hk:(f==k)=true
  .simp only[Cb,hk]at h;cases h
  .have hk':(f==k)=false:=by simpa using hk
   simp only[Cb,hk']at h⊢;exact bZ.lookN t h
theorem bZ.putF{f:Str}{v:V}{w:W}(av:AV K H M v w):∀{gs:List (Str×V)} {fs:List (Str×W)},bZ K H M Str gs fs->bZ K H M Str (L2.putF f v gs) (cE f w fs)
 | _,_,.nil=>.cons ⟨rfl,av⟩ .nil
 | _,_,.cons (a:=(k,v')) (b:=(k',w')) r t=>by
  obtain⟨rfl,av'⟩:=r;show bZ K H M Str (if k=f then(k,v)::_ else(k,v')::L2.putF f v _) (if k=f then(k,w)::_ else(k,w')::cE f w _)
  by_cases hk:k=f
  .rw[if_pos hk,if_pos hk];exact .cons ⟨rfl,av⟩ t
  .rw[if_neg hk,if_neg hk];exact .cons ⟨rfl,av'⟩ (bZ.putF av t)
theorem bZ.len{κ:Type}{gs:List (κ×V)}{fs:List (κ×W)}(h:bZ K H M κ gs fs):gs.length=fs.length:=by
 have:=congrArg Ec h.keys;simpa using this
end
section
variable {X:Cx}{C:Addr}{f m:Str}{pos apos cpos:Pos}{ta tv:aZ}{o e value:Expr}{es:List Expr}{t:eJ}{sp:bF}
def cZ(C:Addr)(ta:aZ)(f:Str):aZ:=λτ M R=>ta τ M λx M1=>∃a dx fs w,x=.ref a/\M1 a=some (.ins C dx fs)/\fs.lookup f=some w/\R w M1
theorem dJ(c:gO X.K C)(n:fZ X.K C f)(he:E3 X o ta)(hb:Ft o f X.env (eval o X.env)=eval o X.env:=by rfl):E3 X (.Attribute o f pos) (cZ C ta f):=
 (UW he hb).weak λσ H Q z0=>z0.el λτ M R as am h k=>⟨τ,M,_,as,am,h,λx H1 wx M1 k1 am1 ax ⟨a,dx,fs,w,e1,e2,e3,r⟩=>by
  subst e1;obtain rfl:=ax.inv;obtain⟨gs,e4,q⟩:=am1 a _ e2;obtain⟨v,e5,av⟩:=q.look e3;exact⟨a,C,dx,gs,v,rfl,e4,c,n,e5,k _ _ _ _ k1 am1 av r⟩⟩
def j3(C:Addr)(ta:aZ)(f:Str)(tv:aZ):aH:=λD τ M=>tv τ M λy M1=>ta τ M1 λx M2=>∃a dx fs,x=.ref a/\M2 a=some (.ins C dx fs)/\fs.length<1000/\D.nx τ (put M2 a (.ins C dx (cE f y fs)))
theorem kP(c:gO X.K C)(n:fZ X.K C f)(ha:E3 X o ta)(hv:E3 X value tv)(hs:Hq value (some (.Attribute o f apos)) pos.line X.env=pure false:=by rfl):P3 X (.Assign [.Attribute o f apos] value pos) (j3 C ta f tv):=
 (UX ha hv hs).weak λD σ H z0=>z0.el λτ M D' as am h k=>⟨τ,M,_,as,am,h,λy H1 wy M1 k1 am1 ay h1=>⟨τ,M1,_,as.kp am k1,am1,h1,λx H2 wx M2 k2 am2 ax ⟨a,dx,fs,e1,e2,hl,r⟩=>by
  subst e1;obtain rfl:=ax.inv;obtain⟨gs,e4,q⟩:=am2 a _ e2;refine⟨a,C,dx,gs,rfl,e4,c,n,by rw[q.len];exact hl,?_⟩;obtain⟨am3,k3⟩:=am2.write (o:=.ins C dx (cE f wy fs)) (u:=.ins C dx (L2.putF f y gs)) e2 ⟨_,cU,((q.putF (ay.kp am1 k2))).go (oG am2 e2)⟩;exact k.nx _ _ _ _ ((k1.trans k2).trans k3) am3 (((as.kp am k1).kp am1 k2).kp am2 k3) r⟩⟩
variable {k:Nat}{g:Addr}{fd:Bi}{ps:List Str}
def fA(C:Addr)(m:Str)(sp:bF)(ta:aZ)(t:eJ):aZ:=λτ M R=>ta τ M λx M1=>∃a dx fs,x=.ref a/\M1 a=some (.ins C dx fs)/\fs.lookup m=none/\t τ M1 λws M2=>sp (.ref a::ws) M2 R
theorem za1(h:up X.K (fA C m sp ta t) σ H Q):yB C m (iA X.K sp) [] E0 (up X.K ta) (pZ X.K t) σ H Q:=by
 obtain⟨τ,M,R,as,am,h,k⟩:=h;refine⟨τ,M,_,as,am,h,λx H1 wx M1 k1 am1 ax ⟨a,dx,fs,e1,e2,e3,h1⟩=>?_⟩;subst e1;obtain rfl:=ax.inv;obtain⟨gs,e4,q⟩:=am1 a _ e2;refine⟨a,dx,gs,rfl,e4,q.lookN e3,τ,M1,_,as.kp am k1,am1,h1,λvs H2 ws M2 k2 am2 avs h2=>⟨.ref a::ws,M2,R,am2,?_,h2,k.kp (k1.trans k2)⟩⟩;rw[Gv];exact .cons (.ref a) avs
theorem jL(c:gO X.K C)(hm:pQ X.K C m g)(F:fE X.prog X.w X.K X.mg X.base gP k g fd ps (iA X.K sp))(hr:c8 k X.A)(hb:Binds X.K fd ps [])(he:E3 X o ta)(ha:A3 X (e::es) t)(hst:Bk (e::es) X.env=(false,eval e X.env)::Bk es X.env:=by rfl)(hpl:(Fv pos (Bk es X.env)).any (·.1)=false:=by rfl)(ht:eval (.Call (.Attribute o m apos) (e::es) [] pos) X.env=(do
   let ov <-eval o X.env
   Nl apos.atName
   let (f,first) <-Hy [ov] (Nm ov m pl)
   callWith pos f first (Fv pos (Bk (e::es) X.env)) (Mi pos (Jr [] X.env))):=by rfl):
  E3 X (.Call (.Attribute o m apos) (e::es) [] pos) (fA C m sp ta t):=(U8 (pl:=pl) he c hm F hr hb .nil pU ha hst hpl ht).weak λ_ _ _ h=>za1 h
theorem qR(c:gO X.K C)(hm:pQ X.K C m g)(F:fE X.prog X.w X.K X.mg X.base gP k g fd ps (iA X.K sp))(hr:c8 k X.A)(hb:Binds X.K fd ps [])(he:E3 X o ta)(ht:eval (.Call (.Attribute o m apos) [] [] pos) X.env=(do
   let ov <-eval o X.env
   Nl apos.atName
   let (f,first) <-Hy [ov] (Nm ov m pl)
   callWith pos f first (Fv pos (Bk [] X.env)) (Mi pos (Jr [] X.env))):=by rfl):
  E3 X (.Call (.Attribute o m apos) [] [] pos) (fA C m sp ta aE):=(U9 (pl:=pl) he c hm F hr hb .nil pU ht).weak λσ H Q h=>by
 obtain⟨τ,M,R,as,am,h,k⟩:=h;refine⟨τ,M,_,as,am,h,λx H1 wx M1 k1 am1 ax ⟨a,dx,fs,e1,e2,e3,h1⟩=>?_⟩;subst e1;obtain rfl:=ax.inv;obtain⟨gs,e4,q⟩:=am1 a _ e2;exact⟨a,dx,gs,rfl,e4,q.lookN e3,[.ref a],M1,R,am1,.cons (.ref a) .nil,h1,k.kp k1⟩
def oS(C:Addr)(sp:bF)(t:eJ):aZ:=λτ M R=>t τ M λws M1=>∀a dx,M1 a=none->M1 dx=none->dx≠a->sp (.ref a::ws) (put M1 a (.ins C dx [])) λw M2=>w=.non/\R (.ref a) M2
theorem AM.made{K:Ac}{H:Hp}{M:Mm}{x dx:Addr}(am:AM K H M)(hx:H x=none)(hd:H dx=none)(ne:dx≠x):AM K (aT (aT H dx (.own x)) x (.ins C dx [])) (put M x (.ins C dx []))/\Kp H M (aT (aT H dx (.own x)) x (.ins C dx [])) (put M x (.ins C dx [])):=by
 obtain⟨am1,k1⟩:=am.tup (u:=.own x) hd;have hx1:aT H dx (.own x) x=none:=by rw[bD (Bz ne)];exact hx
 obtain⟨am2,k2⟩:=am1.laid (o:=.ins C dx []) (u:=.ins C dx []) hx1 ⟨[],cU,.nil⟩;exact⟨am2,k1.trans k2⟩
theorem ME(am:AM X.K H M)(avs:aN X.K H M vs ws)(h:∀a dx,M a=none->M dx=none->dx≠a->sp (.ref a::ws) (put M a (.ins C dx [])) λw M2=>w=.non/\R (.ref a) M2)(k:Up X.K H M R Q):
  ∀x dx,H x=none->H dx=none->dx≠x->iA X.K sp (.ref x::(vs++[])) (aT (aT H dx (.own x)) x (.ins C dx [])) (λv H2=>v=.non/\Q (.ref x) H2) E0:=by
 intro x dx hx hd ne;obtain⟨am1,k1⟩:=am.made (C:=C) hx hd ne;refine⟨.ref x::ws,_,_,am1,?_,h x dx (am.nonM hx) (am.nonM hd) ne,λv H2 w M2 k2 am2 av r=>?_⟩
 .rw[Gv];exact .cons (.ref x) (avs.kp am k1)
 .obtain⟨rfl,r⟩:=r;obtain rfl:=av.inv;exact⟨rfl,k _ _ _ _ (k1.trans k2) am2 (.ref x) r⟩
theorem za2(M:Mk X.K C g)(F:fE X.prog X.w X.K X.mg X.base gP k g fd ps (iA X.K sp))(hr:c8 (k+1) X.A)(hg:Gl X x)(hm:X.mg x=some (.ref C))(hb:Binds X.K fd ps [])(ha:A3 X (e::es) t)(hdb:(x==("__debug__" : Str))=false:=by decide)(he:Bk (e::es) X.env=(false,eval e X.env)::Bk es X.env:=by rfl)(hpl:(Fv pos (Bk es X.env)).any (·.1)=false:=by rfl):
  E3 X (.Call (.Name x p) (e::es) [] pos) (oS C sp t):=(VA M F hr hg hm hb .nil pU ha hdb he hpl).weak λσ H Q z0=>z0.el λτ M R as am h k=>⟨τ,M,_,as,am,h,λvs H1 ws M1 k1 am1 avs h1=>ME am1 avs h1 (k.kp k1)⟩
theorem vV(M:Mk X.K C g)(F:fE X.prog X.w X.K X.mg X.base gP k g fd ps (iA X.K sp))(hr:c8 (k+1) X.A)(hg:Gl X x)(hm:X.mg x=some (.ref C))(hb:Binds X.K fd ps [])(hdb:(x==("__debug__" : Str))=false:=by decide):E3 X (.Call (.Name x p) [] [] pos) (oS C sp aE):=(VB M F hr hg hm hb .nil pU hdb).weak λσ H Q z0=>z0.el λτ M R as am h k=>ME am .nil h k
end
end L3
namespace L2
open PySem PySem.Spec PyProof.Rows
section
variable {prog:Ax}{w:Bl}{K:Type}[DecidableEq K]{knd:HeapKind prog w K}{A:Cs}{E:Ae->Ah->Prop}{s:Ah}{d a:Addr}{k:K}{xs:List (K×Addr×Ae)}
theorem MF{Q:Ae->Ah->Prop}(hu:knd.room A)(hkey:knd.is s.heap k a)(hm:s.heap.DictOfH knd d xs)(hsz:xs.length<=An)(h1:∀p,Ke xs k=some p->Q p.2 {s with toks:=s.toks+knd.draws k})(h2:Ke xs k=none->∀h',h'.DictOfH knd d (Lv xs k a y)->Ex d s.heap h'->Q y {s with heap:=h',toks:=s.toks+knd.draws k}):
  Bh (Bu prog w) A (dictSetDefault d (.ref a) y) Q E s:=by
 obtain⟨o,es,ep,ho,hc,hd,he,his,hn⟩:=hm;unfold dictSetDefault;refine Dd (Aa (knd.pyHash hu hkey (Aa (wpAny_dictFind_heap (s:={s with toks:=s.toks+knd.draws k}) hu hkey ho hd he his hn (λhno=>?_) λj p hj=>?_))))
 .have hk:=atKey_none_of_get hno;have hnot:k∉xs.map (·.1):=not_mem_keys_of_get hno;refine Aa (Hm (Aa (wpAny_updateDictKeys (hz:=by have e:=Ks he;lia) (s:={s with toks:=s.toks+knd.draws k}) ho hd (Af (h2 hk _ ⟨_,_,ep+1,Gk _ ho (Obj.isFreed_of_dict (Kd hd _)),
   hc.mapDictKeys _,Kd hd _,?_,λx hx=>?_,?_⟩ (Dy ..))))))
  .rw[storedH_new hk];simp[he,entryOfKey]
  .rw[storedH_new hk]at hx;rcases Bg.mp hx with q|q
   .exact knd.keeps (his x q) ho hd (Dy ..)
   .obtain rfl:=Aj.mp q;exact knd.keeps hkey ho hd (Dy ..)
  .rw[storedH_new hk,Bb,Dk];refine⟨hn,by simp,λx hx y hy=>?_⟩;simp only[Aw,Hz,Aj]at hy;subst hy;exact λe=>hnot (e▸hx)
 .refine Aa (Fh (s:={s with toks:=s.toks+knd.draws k}) ho hd ?_);rw[entry_at he j,hj];exact Aa (Hm (Af (h1 p (atKey_of_get hn hj))))
theorem MG:∀{xs:List (K×Addr×Ae)} {j:Nat} {p:Addr×Ae},(xs.map (·.1)).Nodup->xs[j]? = some (k,p)->xs.eraseIdx j=xs.filter λx=>decide (x.1≠k)
 | [],j,p,_,h=>by simp at h
 | x::r,0,p,hn,h=>by
  have e:x=(k,p):=by simpa using h
  subst e;rw[Aw,Cz]at hn;rw[List.eraseIdx_zero,List.tail_cons,List.filter_cons_of_neg (by simp)];refine(List.filter_eq_self.mpr λy hy=>?_).symm;rw[decide_eq_true_eq];exact λe=>hn.1 (Am.mpr ⟨y,hy,e⟩)
 | x::r,j+1,p,hn,h=>by
  rw[Aw,Cz]at hn;have hj:r[j]? = some (k,p):=by simpa using h
  have hx:x.1≠k:=λe=>hn.1 (Am.mpr ⟨(k,p),Au hj,e.symm⟩);rw[List.eraseIdx_cons_succ,MG hn.2 hj,List.filter_cons_of_pos (by simpa using hx)]
theorem za3{Q:Option Dn->Ah->Prop}(hu:knd.room A)(hkey:knd.is s.heap k a)(hm:s.heap.DictOfH knd d xs)(hsz:xs.length<=An)(hv:Ke xs k=some (b,v))(h:∀h',h'.DictOfH knd d (xs.filter λx=>decide (x.1≠k))->Ex d s.heap h'->Q (some ⟨knd.hash k,.ref b,v⟩) {s with heap:=h',toks:=s.toks+knd.draws k}):
  Bh (Bu prog w) A (Builtin.Dict.takeOut d (.ref a)) Q E s:=by
 obtain⟨o,es,ep,ho,hc,hd,he,his,hn⟩:=hm;unfold Builtin.Dict.takeOut;refine Dd (Aa (knd.pyHash hu hkey (Aa (wpAny_dictFind_heap (s:={s with toks:=s.toks+knd.draws k}) hu hkey ho hd he his hn (λhno=>?_) λj p hj=>?_))))
 .rw[atKey_none_of_get hno]at hv;cases hv
 .rw[atKey_of_get hn hj]at hv;cases hv;have hej:=MG hn hj;refine Aa (Fh (s:={s with toks:=s.toks+knd.draws k}) ho hd ?_);rw[entry_at he j,hj];refine Aa (wpAny_updateDictKeys (hz:=by have e:=Ks he;lia) (s:={s with toks:=s.toks+knd.draws k}) ho hd (Af (h _ ⟨_,_,ep+1,Gk _ ho (Obj.isFreed_of_dict (Kd hd _)),
   hc.mapDictKeys _,Kd hd _,?_,λx hx=>knd.keeps (his x (Dj.mp hx).1) ho hd (Dy ..),?_⟩ (Dy ..))))
  .rw[<-hej];have e2:(xs.eraseIdx j).map (entryOfKey knd)=(xs.map (entryOfKey knd)).eraseIdx j:=by simp[List.eraseIdx_eq_take_drop_succ,List.map_take,List.map_drop]
   rw[e2,<-he];obtain⟨l⟩:=es;simp
  .exact hn.sublist (List.filter_sublist.map _)
end
section
variable {X:Cx}{pins:List (Addr×Obj)}{σ:St}{H:Hp}{s:Ah}{a b:Addr}{v:V}{r:Ae}{A:Cs}{E:Ae->Ah->Prop}{kvs:List (List aF×V)}{k:List aF}
theorem KT.drop(b:KT H kvs xs)(k:List aF):KT H (oB kvs k) (xs.filter λx=>decide (x.1≠k)):=by
 induction b with
 | nil=>exact .nil
 | @cons p q ps qs h t a=>
  unfold oB at a⊢;rw[Dw,Dw,<-h.1];split
  .exact .cons h a
  .exact a
theorem za4{Q:Ae->Ah->Prop}(V:A.units+1<Eu)(I:Inv X pins σ H s)(e:H a=some (.dT kvs))(C:H b=some (.tup (k.map kV)))(K:RelV v r)(hl:kvs.length<An)(W:∀i G h,gH kvs k=some i->Inv X pins σ H h->RelV i G->Q G h)(N:gH kvs k=none->∀h,Inv X pins σ (aT H a (.dT (e8 kvs k v))) h->Q r h):
  Bh (Bu X.prog X.w) A (call (.builtin "dict.setdefault") [.ref a,.ref b,r]) Q E s:=by
 obtain⟨z,hd,xs,g,D⟩:=uJ I.hok e;have hz:xs.length<=An:=by rw[<-Cw g];exact z
 have f:=g.val k;refine Iu Jy D.typeIs PySem.F.entry_dict_setdefault (PySem.F.args_dict_setdefault_3 _ _ _)
  (S:=λA R d=>(Fy (b7 X.prog X.w)).room A.in1/\(Fy (b7 X.prog X.w)).is d.heap k b/\d.heap.DictOfH (Fy (b7 X.prog X.w)) a xs/\
   (∀p,Ke xs k=some p->R (.ok (.ret p.2)) {d with toks:=d.toks+(k.length+1)})/\
   (Ke xs k=none->∀h',h'.DictOfH (Fy (b7 X.prog X.w)) a (Lv xs k b r)->Ex a d.heap h'->R (.ok (.ret r)) {d with heap:=h',toks:=d.toks+(k.length+1)}))
  (.of_wp λA R d ⟨T,j,y,P,U⟩=>?_) ⟨Fb V,jS I.hok C,D,λp t=>?_,λo h' l L=>?_⟩
 .unfold Ly.«dict.setdefault»;refine Aa ?_;unfold Jt;refine Aa (Fo y.typeIs ?_);refine Af ?_;dsimp only;rw[if_neg (by rw[hd];exact Ao)];exact Aa (MF T j y hz (λp t=>Af ⟨_,rfl,P p t⟩) λo h' n m=>Af ⟨_,rfl,U o h' n m⟩)
 .rw[t]at f;cases q:gH kvs k with
  | none=>rw[q]at f;exact(show False from f).elim
  | some i=>rw[q]at f;exact W i _ _ q (I.tok _) f
 .rw[o]at f;have q:gH kvs k=none:=by
   cases q:gH kvs k with
   | none=>rfl
   | some i=>rw[q]at f;exact(show False from f).elim
  have u:(e8 kvs k v).length<=An:=by have:=rX kvs k v;lia
  obtain⟨j,es,ep,x,M,Y,O,_,J⟩:=l;refine N q _ (pT (t':=s.toks+(k.length+1)) I (by rw[e];exact True.intro) L ⟨j,x⟩ ⟨u,hd,_,(g.put k C K).keeps λc ys B=>?_,j,es,ep,x,M,Y,O,J⟩);rw[bD (tW B e (λz=>nomatch z))];exact B
theorem za5{Q:Ae->Ah->Prop}(V:A.units+1<Eu)(I:Inv X pins σ H s)(e:H a=some (.dT kvs))(O:H b=some (.tup (k.map kV)))(l:gH kvs k=some v)(h:∀u G,Inv X pins σ (aT H a (.dT (oB kvs k))) G->RelV v u->Q u G):Bh (Bu X.prog X.w) A (call (.builtin "dict.pop") [.ref a,.ref b]) Q E s:=by
 obtain⟨z,hd,xs,d,D⟩:=uJ I.hok e;have hz:xs.length<=An:=by rw[<-Cw d];exact z
 obtain⟨u,hw,t⟩:=fY.some_of (v:=v) (o:=(Ke xs k).map (·.2)) (by rw[<-l];exact d.val k);obtain⟨⟨c,C⟩,hc,rfl⟩:=Bd.mp hw;refine Iu PySem.F.slot_dict_pop D.typeIs PySem.F.entry_dict_pop (PySem.F.args_dict_pop_2 _ _)
  (S:=λA R f=>(Fy (b7 X.prog X.w)).room A.in1/\(Fy (b7 X.prog X.w)).is f.heap k b/\f.heap.DictOfH (Fy (b7 X.prog X.w)) a xs/\
   ∀h',h'.DictOfH (Fy (b7 X.prog X.w)) a (xs.filter λx=>decide (x.1≠k))->Ex a f.heap h'->R (.ok (.ret C)) {f with heap:=h',toks:=f.toks+(k.length+1)})
  (.of_wp λA R f ⟨U,g,m,P⟩=>?_) ⟨Fb V,jS I.hok O,D,λh' j L=>?_⟩
 .unfold Ly.«dict.pop»;refine Aa ?_;unfold Jt;refine Aa (Fo m.typeIs ?_);refine Af ?_;dsimp only;rw[if_neg (show ¬((keyPart (Value.ref b)).isSome=true) from Ao)];obtain⟨o,es,ep,ho,Z,q,Y,T,hn⟩:=id m;have i:es.isEmpty=false:=by
   have J:=Ks Y;cases xs with
   | nil=>cases hc
   | cons x r=>rw[Array.isEmpty_eq_false_iff];intro z;rw[z]at J;simp at J
  refine Aa (Fh ho q ?_);refine Aa (Af ?_);rw[i,if_neg Ao];refine Aa (za3 U g m hz hc λh' p n=>?_);rw[if_neg (by simp)];exact Aa (wpAny_letGo (Af ⟨_,rfl,P h' p n⟩))
 .obtain⟨g,es,ep,y,M,W,N,_,K⟩:=j;refine h C _ (pT (t':=s.toks+(k.length+1)) I (by rw[e];exact True.intro) L ⟨g,y⟩ ⟨Ay (WW kvs k) z,hd,_,(d.drop k).keeps λc ys B=>?_,g,es,ep,y,M,W,N,K⟩) t;rw[bD (tW B e (λz=>nomatch z))];exact B
end
end L2
namespace L3
open PySem PySem.Spec PyProof.Rows L2
section
variable {X:Cx}
def vW:W->List W->Mm->K3->Prop
 | d,[y],M,R=>∃o,fI M d y o/\R (o.getD .non) M
 | d,[y,v],M,R=>∃o,fI M d y o/\R (o.getD v) M
 | _,_,_,_=>False
theorem AY(j:X.A.units+1<Eu):f9 X "dict.get" (kB X.K vW):=by
 rintro pins s σ H x xs v us Q I w rs ⟨F,ws,M,R,e,t,f,h,k⟩
 match ws,h with
 | [y],h=>
  obtain⟨z,rfl,n⟩:=f.one;obtain⟨o,g,r⟩:=h;obtain⟨a,rfl,l⟩:=u0 e t n g;cases w;obtain⟨u,rfl,ru⟩:=rs.one;rcases l with⟨rfl,d⟩|⟨C,B,rfl,d,av⟩
  .exact IW j I d ru λq m c b=>⟨_,H,c,b,k.at e .non r⟩
  .exact IW j I d ru λq m c b=>⟨_,H,c,b,k.at e av r⟩
 | [y,E],h=>
  obtain⟨z,z1,rfl,n,p⟩:=f.two;obtain⟨o,g,r⟩:=h;obtain⟨a,rfl,l⟩:=u0 e t n g;cases w;obtain⟨u,D,rfl,ru,i⟩:=vals2 rs;rcases l with⟨rfl,d⟩|⟨C,B,rfl,d,av⟩
  .exact IX j I d ru i λq m c b=>⟨_,H,c,b,k.at e p r⟩
  .exact IX j I d ru i λq m c b=>⟨_,H,c,b,k.at e av r⟩
def tE:W->List W->Mm->K3->Prop
 | .ref a,[.tup ks,v],M,R=>∃kvs k,M a=some (.dT kvs)/\ks=k.map wK/\kvs.length<An/\(∀w,aX kvs k=some w->R w M)/\(aX kvs k=none->R v (put M a (.dT (b9 kvs k v))))
 | _,_,_,_=>False
theorem MH(J:X.A.units+1<Eu):f9 X "dict.setdefault" (kB X.K tE):=by
 rintro pins s σ H x xs v us Q I D rs ⟨P,ws,M,R,d,C,l,h,k⟩
 match P,ws,h with
 | .ref a,[.tup ks,F],h=>
  obtain⟨z,z1,rfl,O,g⟩:=l.two;obtain⟨kvs,i,e,rfl,hl,N,B⟩:=h;obtain rfl:=C.inv;cases D;obtain⟨u,T,rfl,ru,f⟩:=vals2 rs;obtain⟨w,G,q⟩:=d _ _ e;cases O with
  | @tup b vs _ r y=>
   cases (show u=Value.ref b from ru);rw[y.keys]at r;have p:=uY q i;refine za4 J I G r f (by rw[q.len];exact hl) (λU V L c j n=>?_) λc L j=>?_
   .rcases p with⟨_,l2⟩|⟨E,t,l1,l2,av⟩
    .rw[l2]at c;cases c
    .rw[l2]at c;cases c;exact⟨_,H,j,n,k.at d av (N t l1)⟩
   .rcases p with⟨l1,l2⟩|⟨E,t,l1,l2,av⟩
    .obtain⟨m,S⟩:=d.write (o:=.dT (b9 kvs i F)) (u:=.dT (e8 w i z1)) e ⟨_,cU,(uZ q i g).go (oG d e)⟩;exact⟨_,_,j,f,k _ _ _ _ S m (g.wr d e) (B l1)⟩
    .rw[l2]at c;cases c
def j4{κ:Type}[DecidableEq κ](kvs:List (κ×W))(k:κ):List (κ×W):=kvs.filter λa=>decide (a.1≠k)
theorem za6{κ:Type}[DecidableEq κ]{K:Ac}{H:Hp}{M:Mm}{b:List (κ×V)}{kvs:List (κ×W)}(h:bZ K H M κ b kvs)(k:κ):bZ K H M κ (oB b k) (j4 kvs k):=by
 induction h with
 | nil=>exact .nil
 | @cons p q ps qs r t a=>
  unfold oB j4 at a⊢;rw[Dw,Dw,<-r.1];split
  .exact .cons r a
  .exact a
def MI:W->List W->Mm->K3->Prop
 | .ref a,[.tup ks],M,R=>∃kvs k w,M a=some (.dT kvs)/\ks=k.map wK/\aX kvs k=some w/\R w (put M a (.dT (j4 kvs k)))
 | _,_,_,_=>False
theorem za7(C:X.A.units+1<Eu):f9 X "dict.pop" (kB X.K MI):=by
 rintro pins s σ H x xs v us Q I y rs ⟨E,ws,M,R,c,t,f,h,k⟩
 match E,ws,h with
 | .ref a,[.tup ks],h=>
  obtain⟨z,rfl,D⟩:=f.one;obtain⟨kvs,d,w,e,rfl,l,r⟩:=h;obtain rfl:=t.inv;cases y;obtain⟨u,rfl,ru⟩:=rs.one;obtain⟨m,B,q⟩:=c _ _ e;cases D with
  | @tup b vs _ j n=>
   cases (show u=Value.ref b from ru);rw[n.keys]at j;rcases uY q d with⟨l1,l2⟩|⟨G,J,l1,l2,av⟩
   .rw[l1]at l;cases l
   .rw[l1]at l;cases l;obtain⟨g,F⟩:=c.write (o:=.dT (j4 kvs d)) (u:=.dT (oB m d)) e ⟨_,cU,(za6 q d).go (oG c e)⟩;exact za5 C I B j l2 λN L p i=>⟨_,_,p,i,k _ _ _ _ F g (av.wr c e) r⟩
end
end L3
namespace L2
open PySem PySem.Spec PyProof.Rows
section
variable {X:Cx}{pins:List (Addr×Obj)}{σ:St}{H:Hp}{s:Ah}{a b:Addr}{v:V}{r:Ae}{A:Cs}{E:Ae->Ah->Prop}{es:List (bS×Addr×V)}{tl:List Int}{x:bS}
theorem za8{o e:Expr}{args:List Expr}{q:TE}{t:TA}{name:Str}{d b:Pos}{T j:String}{u:V->List V->Hp->VK->Prop}{tq:V->Hp->Prop}(F:Mw T)(slot:Slot T name j)(m:typeOf (.builtin j)=pure (.type "method_descriptor"))(D:f9 X j u)(K:PE X o q)(G:PA X (e::args) t)(tp:∀pins σ H s x v,Inv X pins σ H s->RelV x v->tq x H->s.TypeIs v T/\∀a,v=.ref a->∃ob,s.heap.get? a=some ob/\ob.dict=none)(g:Ft o name X.env (eval o X.env)=eval o X.env)(i:((Fv b (Bk (e::args) X.env)).all (λx=>!x.1)&&(Mi b (Jr [] X.env)).all (λx=>x.1.isSome)&&decide ((e::args).length+([]:List Nn).length+(if ([]:List Nn).isEmpty then 0 else 1)<30))=true)(f:(d.endLine==b.line)=true)(A:Bk (e::args) X.env=(false,eval e X.env)::Bk args X.env)(c:(Fv b (Bk args X.env)).any (·.1)=false):
  PE X (.Call (.Attribute o name d) (e::args) [] b) (λσ H Q=>q σ H λx k=>tq x k/\t σ k λxs l=>u x xs l Q):=by
 intro pins s σ H Q I h;refine wpAny_Call_method_late g i f rfl (a8 (K pins s σ H _ I h) λv w ⟨x,k,p,r,ty,E⟩=>?_);obtain⟨J,B⟩:=tp _ _ _ _ _ _ p r ty;refine⟨T,j,F,slot,m,J,B,?_⟩;have n:=G b pins w σ k _ p E;rw[A]at n⊢;refine Jh (by show(false||(Fv b (Bk args X.env)).any (·.1))=false;rw[c]<;>rfl) (Calls.evalArgs_plain ?_);exact a8 n λus y ⟨vs,l,L,z,C⟩=>D pins y σ l x vs v us Q L r z C
theorem za9{o:Expr}{k:TE}{name:Str}{b c:Pos}{T f:String}{m:V->List V->Hp->VK->Prop}{tq:V->Hp->Prop}(t:Mw T)(slot:Slot T name f)(i:typeOf (.builtin f)=pure (.type "method_descriptor"))(q:f9 X f m)(w:PE X o k)(tp:∀pins σ H s x v,Inv X pins σ H s->RelV x v->tq x H->s.TypeIs v T/\∀a,v=.ref a->∃ob,s.heap.get? a=some ob/\ob.dict=none)(e:Ft o name X.env (eval o X.env)=eval o X.env)(d:(b.endLine==c.line)=true):PE X (.Call (.Attribute o name b) [] [] c) (λσ H Q=>k σ H λx g=>tq x g/\m x [] g Q):=by
 intro pins s σ H Q I h;refine wpAny_Call_method0_late e d (a8 (w pins s σ H _ I h) λv n ⟨x,g,j,l,ty,r⟩=>?_);obtain⟨u,p⟩:=tp _ _ _ _ _ _ j l ty;exact⟨T,f,t,slot,i,u,p,Jh rfl (PySem.evalArgs_none (q pins n σ g x [] v [] Q j l .nil r))⟩
theorem AZ{f e:Type}{F:f->e->Prop}:∀{a c:List f} {b d:List e},Es F a b->Es F c d->Es F (a++c) (b++d)
 | _,_,_,_,.nil,h=>h
 | _,_,_,_,.cons r t,h=>.cons r (AZ t h)
theorem qS(I:Inv X pins σ H s)(e:H a=some (.ext (dU X.prog X.w tl a es))):dU X.prog X.w tl a es s.heap:=(show cC X.prog X.w H s.heap a (.ext (dU X.prog X.w tl a es)) from I.hok a _ e).1
theorem NX.val(q:NX es xs)(x:bS):(Ke xs x=none/\∀e∈es,e.1≠x)\/∃b v u,Ke xs x=some (b,u)/\(x,b,v)∈es/\RelV v u:=by
 induction q with
 | nil=>exact .inl ⟨rfl,λe a=>nomatch a⟩
 | @cons p z ps l h t d=>
  obtain⟨f,i,j⟩:=p;obtain⟨z1,z2,z3⟩:=z;obtain⟨rfl,rfl,k⟩:=h;unfold Ke at d⊢;rw[Du]
  by_cases c:f=x
  .subst c;rw[decide_eq_true rfl];exact .inr ⟨i,j,z3,rfl,Az,k⟩
  .rw[decide_eq_false c];rcases d with⟨i1,i2⟩|⟨b,v,u,i1,i2,g⟩
   .refine .inl ⟨i1,λe a=>?_⟩;rcases Ba.mp a with rfl|a
    .exact c
    .exact i2 e a
   .exact .inr ⟨b,v,u,i1,Ar _ i2,g⟩
theorem zba{Q:Ae->Ah->Prop}(m:A.units+2<Eu)(I:Inv X pins σ H s)(e:H a=some (.ext (dU X.prog X.w tl a es)))(ks:∀z∈es,iQ H tl z.1 z.2.1)(eb:iQ H tl x b)(W:RelV v r)(hl:es.length<An)(h1:∀c C T B,(x,c,C)∈es->Inv X pins σ H B->RelV C T->Q T B)(h2:(∀z∈es,z.1≠x)->∀B,Inv X pins σ (aT H a (.ext (dU X.prog X.w tl a (es++[(x,b,v)])))) B->Q r B):
  Bh (Bu X.prog X.w) A (call (.builtin "dict.setdefault") [.ref a,.ref b,r]) Q E s:=by
 obtain⟨o,n,ep,xs,ho,hc,hd,he,nx,L,hz,f⟩:=qS I e;have g:∀z∈xs,(jT X.prog X.w tl).is s.heap z.1 z.2.1:=by
  have:∀{es:List (bS×Addr×V)} {xs:List (bS×Addr×Ae)},NX es xs->(∀z∈es,iQ H tl z.1 z.2.1)->∀z∈xs,(jT X.prog X.w tl).is s.heap z.1 z.2.1:=by
   intro es xs q
   induction q with
   | nil=>intro _ z hz;cases hz
   | @cons p z ps zs h t ih=>
    intro hk u m;rcases Ba.mp m with rfl|m
    .have:=(hk p Az).is I.hok;rw[h.1,h.2.1]at this;exact this
    .exact ih (λy hy=>hk y (Ar _ hy)) u m
  exact this nx ks
 have P:s.heap.DictOfH (jT X.prog X.w tl) a xs:=⟨o,n,ep,ho,hc,hd,he,g,L⟩;have l:xs.length=es.length:=(Cw nx).symm;refine Iu Jy P.typeIs PySem.F.entry_dict_setdefault (PySem.F.args_dict_setdefault_3 _ _ _)
  (S:=λA R d=>(jT X.prog X.w tl).room A.in1/\(jT X.prog X.w tl).is d.heap x b/\d.heap.DictOfH (jT X.prog X.w tl) a xs/\
   (∀p,Ke xs x=some p->R (.ok (.ret p.2)) {d with toks:=d.toks+(jT X.prog X.w tl).draws x})/\
   (Ke xs x=none->∀h',h'.DictOfH (jT X.prog X.w tl) a (Lv xs x b r)->Ex a d.heap h'->R (.ok (.ret r)) {d with heap:=h',toks:=d.toks+(jT X.prog X.w tl).draws x}))
  (.of_wp λA R d ⟨q0,D,O,q3,q4⟩=>?_) ⟨m,eb.is I.hok,P,λp j=>?_,λi h' k Y=>?_⟩
 .unfold Ly.«dict.setdefault»;refine Aa ?_;unfold Jt;refine Aa (Fo O.typeIs (Af ?_));dsimp only;rw[if_neg (by rw[f];exact Ao)];exact Aa (MF q0 D O hz (λp j=>Af ⟨_,rfl,q3 p j⟩) λL h' K J=>Af ⟨_,rfl,q4 L h' K J⟩)
 .rcases nx.val x with⟨i1,_⟩|⟨c,C,u,i1,i2,i3⟩
  .rw[i1]at j;cases j
  .rw[i1]at j;cases j;exact h1 c C u _ i2 (I.tok _) i3
 .rcases nx.val x with⟨_,i2⟩|⟨c,C,u,i1,_,_⟩
  .rw[storedH_new i]at k;obtain⟨D,G,M,N,Z,g3,g4,_,U⟩:=k;refine h2 i2 _ (pT (t':=s.toks+(jT X.prog X.w tl).draws x) I (by rw[e];exact True.intro) Y ⟨D,N⟩ (dU.ok ⟨D,G,M,_,N,Z,g3,g4,AZ nx (.cons ⟨rfl,rfl,W⟩ .nil),U,?_,f⟩));rw[Ak,l];simp;lia
  .rw[i1]at i;cases i
end
end L2
namespace L3
open PySem PySem.Spec PyProof.Rows L2
def fW(tl:List Int)(x:bS):W:=.tup (wK x.1::.tup (x.2.map wK)::tl.map W.int)
section
variable {K:Ac}{H:Hp}{M:Mm}
theorem MJ(k:aF):AV K H M (kV k) (wK k):=by cases k<;>first|exact .int _|exact .str _
theorem A1:∀ks:List aF,aN K H M (ks.map kV) (ks.map wK)
 | []=>.nil
 | k::r=>.cons (MJ k) (A1 r)
theorem MK:∀tl:List Int,aN K H M (tl.map V.int) (tl.map W.int)
 | []=>.nil
 | i::r=>.cons (.int i) (MK r)
theorem aN.intsN:∀{tl:List Int} {vs:List V},aN K H M vs (tl.map W.int)->vs=tl.map V.int
 | [],_,h=>by cases h;rfl
 | i::r,_,h=>by
  cases h with
  | cons a b=>cases a;rw[aN.intsN b];rfl
theorem iQ.av(n:iQ H tl x b):AV K H M (.ref b) (fW tl x):=by
 obtain⟨d,c,a⟩:=n;exact .tup c (.cons (MJ x.1) (.cons (.tup a (A1 x.2)) (MK tl)))
theorem zbb{tl:List Int}{x:bS}{v:V}(h:AV K H M v (fW tl x)):∃b,v=.ref b/\iQ H tl x b:=by
 unfold fW at h;cases h with
 | @tup b xs _ e q=>
  cases q with
  | @cons o k _ _ c m=>
   cases m with
   | @cons p l _ _ i f=>
    have d:=c.key;subst d;have j:=f.intsN;subst j;cases i with
    | @tup n ys _ a g=>
     rw[g.keys]at a;exact⟨b,rfl,n,e,a⟩
end
section
variable {X:Cx}
def ML(P:Ax)(w:Bl)(tl:List Int):aZ:=λa M R=>∀p,M p=none->R (.ref p) (put M p (.dn P w tl []))
theorem zbc:E3 X (.Dict [] [] pos) (ML X.prog X.w tl):=by
 rintro pins s σ H Q I ⟨g,M,R,f,c,h,k⟩;have hf:=I.hok.fresh (Ag s.heap.objs.size);have e:=I.big;obtain⟨b,d⟩:=c.laid (o:=.dn X.prog X.w tl []) (u:=.ext (dU X.prog X.w tl s.heap.objs.size [])) hf ⟨[],cU,.nil⟩;refine wpAny_Dict_empty ⟨.ref s.heap.objs.size,_,I.laid (a:=s.heap.objs.size) (o:=.ext (dU X.prog X.w tl s.heap.objs.size [])) (t':=s.toks) (λ_ _ q=>Ai _ q) (Ag _) (dU.ok ⟨_,#[],0,[],Bc _ rfl,⟨rfl,rfl,rfl⟩,rfl,rfl,.nil,Em,Bw _,?_⟩),rfl,k _ _ _ _ d b (.ref _) (h _ (c.nonM hf))⟩;rw[beq_eq_false_iff_ne];exact Ga e
abbrev zbd(P:Ax)(w:Bl)(tl:List Int)(x:W)(M:Mm):Prop:=∃a kvs,x=.ref a/\M a=some (.dn P w tl kvs)
theorem MM{P:Ax}{w:Bl}{tl:List Int}{pins:List (Addr×Obj)}{σ:SV}{H:Hp}{s:Ah}{v:V}{u:Ae}(I:Inv X pins σ H s)(r:RelV v u)(h:∃a es,v=.ref a/\H a=some (.ext (dU P w tl a es))):s.TypeIs u "dict"/\∀a,u=.ref a->∃ob,s.heap.get? a=some ob/\ob.dict=none:=by
 obtain⟨a,es,rfl,e⟩:=h;cases (show u=Value.ref a from r);obtain⟨o,d,ep,xs,c,hc,hd,_⟩:=(show cC X.prog X.w H s.heap a (.ext (dU P w tl a es)) from I.hok a _ e).1;refine⟨⟨o,c,hc.1⟩,λb f=>?_⟩;cases f;exact⟨o,c,hc.2.1⟩
def MN(P:Ax)(w:Bl)(tl:List Int)(h:aZ)(tk j:aZ):aZ:=λc M R=>h c M λd f=>zbd P w tl d f/\tk c f λg i=>j c i λv b=>∃a kvs x,d=.ref a/\b a=some (.dn P w tl kvs)/\g=fW tl x/\kvs.length<An/\
 (∀e,aX kvs x=some e->R e b)/\(aX kvs x=none->R v (put b a (.dn P w tl (kvs++[(x,v)]))))
abbrev PN(K:Ac)(H:Hp)(M:Mm)(tl:List Int)(es:List (bS×Addr×V))(kvs:List (bS×W)):Prop:=Es (λ(e:bS×Addr×V) (p:bS×W)=>e.1=p.1/\iQ H tl e.1 e.2.1/\AV K H M e.2.2 p.2) es kvs
theorem PN.look{K:Ac}{H:Hp}{M:Mm}{tl:List Int}{es:List (bS×Addr×V)}{kvs:List (bS×W)}(q:PN K H M tl es kvs)(f:(es.map (·.1)).Nodup)(x:bS):(aX kvs x=none/\∀e∈es,e.1≠x)\/∃w,aX kvs x=some w/\∀c v,(x,c,v)∈es->AV K H M v w:=by
 induction q with
 | nil=>exact .inl ⟨rfl,λe b=>nomatch b⟩
 | @cons p z ps m h t g=>
  rw[Aw,Cz]at f;obtain⟨i,k,l⟩:=p;obtain⟨z1,z2⟩:=z;obtain⟨rfl,_,j⟩:=h;unfold aX at g⊢;rw[Du]
  by_cases d:i=x
  .subst d;rw[decide_eq_true rfl];refine .inr ⟨z2,rfl,λc v a=>?_⟩;rcases Ba.mp a with e|a
   .cases e;exact j
   .exact absurd (Am.mpr ⟨_,a,rfl⟩) f.1
  .rw[decide_eq_false d];rcases g f.2 with⟨i1,i2⟩|⟨w,i1,i2⟩
   .refine .inl ⟨i1,λe b=>?_⟩;rcases Ba.mp b with rfl|b
    .exact d
    .exact i2 e b
   .refine .inr ⟨w,i1,λc v a=>?_⟩;rcases Ba.mp a with e|a
    .cases e;exact absurd rfl d
    .exact i2 c v a
theorem zbe(nx:NX es xs):es.map (·.1)=xs.map (·.1):=by
 induction nx with
 | nil=>rfl
 | cons h _ a=>rw[Aw,Aw,a,h.1]
theorem dU.nodup(x:dU P w tl a es h):(es.map (·.1)).Nodup:=by
 obtain⟨o,b,ep,xs,_,_,_,_,nx,c,_⟩:=x;rw[zbe nx];exact c
theorem PN.keys{K:Ac}{H:Hp}{M:Mm}{tl:List Int}{es:List (bS×Addr×V)}{kvs:List (bS×W)}(q:PN K H M tl es kvs):aN K H M (es.map λe=>V.ref e.2.1) (kvs.map λp=>fW tl p.1):=by
 induction q with
 | nil=>exact .nil
 | @cons p z ps b h _ a=>
  refine .cons ?_ a;show AV K H M (.ref p.2.1) (fW tl z.1);rw[<-h.1];exact iQ.av h.2.1
theorem PN.vals{K:Ac}{H:Hp}{M:Mm}{tl:List Int}{es:List (bS×Addr×V)}{kvs:List (bS×W)}(q:PN K H M tl es kvs):aN K H M (es.map λe=>e.2.2) (kvs.map λp=>p.2):=by
 induction q with
 | nil=>exact .nil
 | cons h _ a=>exact .cons h.2.2 a
theorem PN.ats{K:Ac}{H:Hp}{M:Mm}{tl:List Int}{es:List (bS×Addr×V)}{kvs:List (bS×W)}(q:PN K H M tl es kvs):∀z∈es,iQ H tl z.1 z.2.1:=by
 induction q with
 | nil=>intro z hz;cases hz
 | cons h _ a=>
  intro z hz;rcases Ba.mp hz with rfl|hz
  .exact h.2.1
  .exact a z hz
theorem zbf(hu:X.A.units+2<Eu)(ho:E3 X o to)(hk:E3 X E tk)(hv:E3 X j tv)(C:Ft o "setdefault" X.env (eval o X.env)=eval o X.env:=by rfl)(J:((Fv f (Bk [E,j] X.env)).all (λx=>!x.1)&&(Mi f (Jr [] X.env)).all (λx=>x.1.isSome)&&decide (([E,j]:List Expr).length+([]:List Nn).length+(if ([]:List Nn).isEmpty then 0 else 1)<30))=true:=by rfl)(B:(l.endLine==f.line)=true:=by rfl)(hs:Bk [E,j] X.env=(false,eval E X.env)::Bk [j] X.env:=by rfl)(U:Bk [j] X.env=(false,eval j X.env)::Bk [] X.env:=by rfl)(i:(Fv f (Bk [j] X.env)).any (·.1)=false:=by rfl):
  E3 X (.Call (.Attribute o "setdefault" l) [E,j] [] f) (MN X.prog X.w tl to tk tv):=by
 have P:f9 X "dict.setdefault" (λd vs H Q=>∃M R w D n a kvs x y z,AM X.K H M/\d=.ref a/\vs=[y,z]/\AV X.K H M y D/\AV X.K H M z n/\M a=some (.dn X.prog X.w tl kvs)/\D=fW tl x/\kvs.length<An/\(∀L,aX kvs x=some L->R L M)/\(aX kvs x=none->R n (put M a (.dn X.prog X.w tl (kvs++[(x,n)]))))/\w=()/\Up X.K H M R Q):=by
  rintro pins s σ H d vs v us Q I rd rs ⟨M,R,_,D,n,a,kvs,x,y,z,m,rfl,rfl,ay,T,e,rfl,hl,h1,h2,_,k⟩;cases (show v=Value.ref a from rd);obtain⟨u,u1,rfl,ru,G⟩:=vals2 rs;obtain⟨es,S,q⟩:=m _ _ e;obtain⟨b,rfl,nb⟩:=zbb ay;cases (show u=Value.ref b from ru);have nd:=dU.nodup (qS I S);have lk:=PN.look q nd x;refine zba hu I S (PN.ats q) nb G (by rw[Cw q];exact hl) (λc v0 w' s' P Y rw'=>?_) λZ s' Y=>?_
  .rcases lk with⟨_,l2⟩|⟨w,l1,l2⟩
   .exact absurd rfl (l2 _ P)
   .exact⟨_,H,Y,rw',k.at m (l2 c v0 P) (h1 w l1)⟩
  .rcases lk with⟨l1,_⟩|⟨w,l1,l2⟩
   .have g:=oG (o:=.dn X.prog X.w tl (kvs++[(x,n)])) (u:=.ext (dU X.prog X.w tl a (es++[(x,b,z)]))) m e;obtain⟨am3,k3⟩:=m.write (o:=.dn X.prog X.w tl (kvs++[(x,n)])) (u:=.ext (dU X.prog X.w tl a (es++[(x,b,z)]))) e ⟨_,cU,AZ (Paired.mapP q λp r t=>⟨t.1,let ⟨pa,n1,n2⟩:=t.2.1;⟨pa,g.ht _ _ n1,g.ht _ _ n2⟩,t.2.2.go g⟩) (.cons ⟨rfl,let ⟨pa,n1,n2⟩:=nb;⟨pa,g.ht _ _ n1,g.ht _ _ n2⟩,T.go g⟩ .nil)⟩;exact⟨_,_,Y,G,k _ _ _ _ k3 am3 (T.wr m e) (h2 l1)⟩
   .exfalso;have:∀{es:List (bS×Addr×V)} {kvs:List (bS×W)},PN X.K H M tl es kvs->(∀z∈es,z.1≠x)->aX kvs x=none:=by
     intro es kvs q
     induction q with
     | nil=>intro _;rfl
     | @cons p r ps rs h t ih=>
      intro hz;unfold aX at ih⊢;rw[Du,decide_eq_false (by rw[<-h.1];exact hz p Az)];exact ih λy hy=>hz y (Ar _ hy)
    rw[this q Z]at l1;cases l1
 refine(za8 (tq:=λx H=>∃a es,x=.ref a/\H a=some (.ext (dU X.prog X.w tl a es))) PySem.F.plainAttrs_dict Jy PySem.F.type_dict_setdefault P ho (aC hk (aC hv aG U) hs) (λpins σ H s x v I r h=>MM I r h) C J B hs i).weak ?_;rintro σ H Q ⟨τ,M,R,as,m,h,k⟩;refine⟨τ,M,_,as,m,h,λd H1 wd M1 k1 N ad ⟨⟨a,kvs,S,e2⟩,h1⟩=>?_⟩;subst S;cases ad;obtain⟨es,e3,q⟩:=N _ _ e2;refine⟨⟨a,es,rfl,e3⟩,τ,M1,λws M3=>match ws with | [D,v]=>∃O kvs x,W.ref a=.ref O/\M3 O=some (.dn X.prog X.w tl kvs)/\D=fW tl x/\kvs.length<An/\(∀L,aX kvs x=some L->R L M3)/\(aX kvs x=none->R v (put M3 O (.dn X.prog X.w tl (kvs++[(x,v)]))))|_=>False,as.kp m k1,N,?_,λvs H2 ws M2 k2 am2 avs r=>?_⟩
 .exact h1
 .match ws,r with
  | [D,n],⟨O,kvs,x,ea,e4,e5,hl,g1,g2⟩=>
   cases ea;obtain⟨y,z,rfl,ay,T⟩:=avs.two;exact⟨M2,R,(),D,n,a,kvs,x,y,z,am2,rfl,rfl,ay,T,e4,e5,hl,g1,g2,rfl,k.kp (k1.trans k2)⟩
end
end L3
namespace L2
open PySem PySem.Spec PyProof.Rows
section
variable {X:Cx}{pins:List (Addr×Obj)}{σ:St}{H:Hp}{s:Ah}{a d:Addr}{es:List (bS×Addr×V)}{tl:List Int}{A:Cs}{E:Ae->Ah->Prop}
theorem zbg{prog:Ax}{w:Bl}{a:Array Dn}{ep:Nat}{Q:Ae->Ah->Prop}(hd:(d==Ep)=false)(c:gR s.heap d a ep)(f:Q (.ref s.heap.objs.size) {s with heap:=s.heap.push {cls:=.type "dict_values",data:=.fields #[.ref d]}}):Bh (Bu prog w) A (call (.builtin "dict.values") [.ref d]) Q E s:=
 Iu PySem.F.slot_dict_values c.typeIs PySem.F.entry_dict_values (PySem.F.args_dict_values_1 _) (S:=λ_ R b=>gR b.heap d a ep/\R (.ok (.ret (.ref b.heap.objs.size))) {b with heap:=b.heap.push {cls:=.type "dict_values",data:=.fields #[.ref d]}})
  (.of_wp λA R b ⟨g,e⟩=>by
   refine Aa ?_;unfold Builtin.Dict.noArgs;refine Aa (Fo g.typeIs (Af ?_));show Bh _ _ (Iv d>>=_) _ _ _;unfold Iv;rw[if_neg (by rw[hd];exact Ao)];exact Aa (Af (Aa (De (Af ⟨_,rfl,e⟩))))) ⟨c,f⟩
theorem tF(x:dU P w tl a es h):∃b ep,gR h a b ep/\b.size=es.length/\b.size<=An/\(a==Ep)=false/\
  (∀(j:Nat) (e:Dn),b[j]? = some e->∃z:bS×Addr×V,es[j]? = some z/\e.key=.ref z.2.1/\RelV z.2.2 e.val):=by
 obtain⟨o,b,ep,xs,g,v,k,d,nx,_,y,s⟩:=x;have A:=Ks d;have B:=Cw nx;refine⟨b,ep,⟨o,g,v,k⟩,by lia,by lia,s,λj e f=>?_⟩;rw[entry_at d j]at f;obtain⟨q,r,rfl⟩:=Bd.mp f;have key:∀{es:List (bS×Addr×V)} {xs:List (bS×Addr×Ae)} {j:Nat} {q:bS×Addr×Ae},NX es xs->xs[j]? = some q->∃z,es[j]? = some z/\z.2.1=q.2.1/\RelV z.2.2 q.2.2:=by
  intro es xs j q n
  induction n generalizing j with
  | nil=>intro h;simp at h
  | @cons p z ps C h t l=>
   intro c;cases j with
   | zero=>simp at c;subst c;exact⟨p,rfl,h.2.1,h.2.2⟩
   | succ j=>rw[Ez]at c⊢;exact l c
 obtain⟨z,m,u,i⟩:=key nx r;exact⟨z,m,by show Value.ref q.2.1=_;rw[u],i⟩
theorem MP{n:Nat}{P:Nat->Ae->Prop}{e:Heap->Prop}(hc:X.calm=true)(I:Inv X pins σ H s)(S:PySem.W.KdlSrc X.prog X.w T r d n P e)(ok:e s.heap)(c:n<=An)(i:xs.length=n)(h:∀j v,P j v->∃x,xs[j]? = some x/\RelV x v)(q:∀l,H l=none->Q (.ref l) (aT H l (.lst xs))):Bh (Bu X.prog X.w) X.A (call (.type "list") [.ref r]) (EP X pins σ Q) X.xe s:=by
 refine PySem.W.kdl_call S (I.ok.hd hc) ok c λh' tk a k hk f b=>?_;refine⟨.ref s.heap.objs.size,_,I.laid (o:=.lst xs) (t':=tk) hk (Ag _) ⟨by rw[i];exact c,a.toList,k,?_,by rw[Kb];exact f⟩,rfl,q _ (I.hok.fresh (Ag _))⟩;refine uN (by have m:=b.1;have p:a.toList.length=a.size:=Fw;lia) λj v g=>?_;exact h j v (b.2 j v (by rw[<-Gi];exact g))
end
end L2
namespace L3
open PySem PySem.Spec PyProof.Rows L2
section
variable {X:Cx}
def MQ(P:Ax)(w:Bl)(tl:List Int)(e:aZ):aZ:=λc M R=>e c M λd b=>∃a kvs,d=.ref a/\b a=some (.dn P w tl kvs)/\∀p,b p=none->R (.ref p) (put b p (.vw a))
theorem zbh(t:E3 X o C)(g:Ft o "values" X.env (eval o X.env)=eval o X.env:=by rfl)(f:(b.endLine==c.line)=true:=by rfl):
  E3 X (.Call (.Attribute o "values" b) [] [] c) (MQ X.prog X.w tl C):=by
 have J:f9 X "dict.values" (λx vs H Q=>∃M R a kvs,AM X.K H M/\x=.ref a/\vs=[]/\M a=some (.dn X.prog X.w tl kvs)/\(∀p,M p=none->R (.ref p) (put M p (.vw a)))/\Up X.K H M R Q):=by
  rintro pins s σ H x vs v us Q I D rs ⟨M,R,a,kvs,j,rfl,rfl,e,h,k⟩;cases (show v=Value.ref a from D);cases rs;obtain⟨es,n,q⟩:=j _ _ e;obtain⟨y,ep,U,_,_,i,_⟩:=tF (qS I n);have hf:=I.hok.fresh (Ag s.heap.objs.size);obtain⟨m,G⟩:=j.laid (o:=.vw a) (u:=.ext λh=>h.IsValuesView s.heap.objs.size a) hf cU;refine zbg i U ⟨.ref s.heap.objs.size,_,I.laid (a:=s.heap.objs.size) (o:=.ext λh=>h.IsValuesView s.heap.objs.size a) (t':=s.toks) (λ_ _ z=>Ai _ z) (Ag _) ⟨⟨_,Bc _ rfl,rfl,rfl⟩,⟨_,Bc _ rfl⟩,λA V ⟨o,t,r⟩ S=>⟨o,S o t,r⟩⟩,rfl,k _ _ _ _ G m (.ref _) (h _ (j.nonM hf))⟩
 refine(za9 (tq:=λx H=>∃a es,x=.ref a/\H a=some (.ext (dU X.prog X.w tl a es))) PySem.F.plainAttrs_dict PySem.F.slot_dict_values PySem.F.type_dict_values J t (λpins σ H s x v I r h=>MM I r h) g f).weak ?_;rintro σ H Q ⟨P,M,R,E,j,h,k⟩;refine⟨P,M,_,E,j,h,λd W wd L T l N ⟨a,kvs,n,B,A⟩=>?_⟩;subst n;cases N;obtain⟨es,O,q⟩:=l _ _ B;exact⟨⟨a,es,rfl,O⟩,L,R,a,kvs,l,rfl,rfl,B,A,k.kp T⟩
def A2(P:Ax)(w:Bl)(tl:List Int):List W->Mm->K3->Prop
 | [.ref a],M,R=>(∃kvs,M a=some (.dn P w tl kvs)/\aY (kvs.map λp=>fW tl p.1) M R)\/∃d kvs,M a=some (.vw d)/\M d=some (.dn P w tl kvs)/\aY (kvs.map λp=>p.2) M R
 | _,_,_=>False
theorem MR(hc:X.calm=true):c0 X (.type "list") (fT X.K (A2 X.prog X.w tl)):=by
 rintro pins s σ H xs us Q I rs ⟨ws,M,R,i,x,h,k⟩
 match ws,h with
 | [.ref a],h=>
  obtain⟨v,rfl,av⟩:=x.one;cases av;obtain⟨u,rfl,ru⟩:=vals1 rs;cases (show u=Value.ref a from ru);rcases h with⟨kvs,e,r⟩|⟨d,kvs,A,e,r⟩
  .obtain⟨es,n,q⟩:=i _ _ e;obtain⟨c,ep,t,m,y,f,b⟩:=tF (qS I n);refine MP hc I (YO (es:=c) (ep:=ep) f) t y (xs:=es.map λe=>V.ref e.2.1) (by rw[Ab];exact m.symm) (λj v ⟨en,p,g⟩=>?_) λl hl=>iS i k hl (PN.keys q) r;obtain⟨z,o,D,_⟩:=b j en p;exact⟨.ref z.2.1,by rw[Av,o];rfl,by rw[g,D];rfl⟩
  .obtain⟨es,n,q⟩:=i _ _ e;have B:H a=some (.ext λh=>h.IsValuesView a d):=i _ _ A;have g:s.heap.IsValuesView a d:=(show cC X.prog X.w H s.heap a (.ext λh=>h.IsValuesView a d) from I.hok a _ B).1;obtain⟨c,ep,t,m,y,f,b⟩:=tF (qS I n);refine MP hc I (YQ (r:=a) (d:=d) (es:=c) (ep:=ep)) ⟨g,t⟩ y (xs:=es.map λe=>e.2.2) (by rw[Ab];exact m.symm) (λj v ⟨en,p,g⟩=>?_) λl hl=>iS i k hl (PN.vals q) r;obtain⟨z,o,_,C⟩:=b j en p;exact⟨z.2.2,by rw[Av,o];rfl,by rw[g];exact C⟩
end
end L3
namespace PySem
namespace Zd
open PyProof.Rows L2 PySem.Spec Zt
section
variable {prog:Ax}{w:Bl}{A:Cs}{E:Ae->Ah->Prop}{s:Ah}
variable {z TI TO i1 i2 l1 l2:Addr}{xs ys:Array Ae}{S1 S2:Nat->Heap->Prop}
abbrev TK(prog:Ax)(w:Bl):=Fy (b7 prog w)
def allH(es:List (List aF×Addr×Ae))(ps:List (List aF×Addr×Ae)):List (List aF×Addr×Ae):=ps.foldl (λes p=>Lv es p.1 p.2.1 p.2.2) es
theorem MS(es:List (List aF×Addr×Ae))(k:List aF)(a:Addr)(v:Ae):(Lv es k a v).length<=es.length+1:=by
 unfold Lv;split
 .rw[Ab];lia
 .rw[Ak,Bp];exact Ag _
theorem tG(x:(TK prog w).is h k a)(e:∀o,h.get? a=some o->h'.get? a=some o):(TK prog w).is h' k a:=by
 obtain⟨o,items,n,b,r⟩:=x;exact⟨o,items,n,e o b,r⟩
end
end Zd
end PySem
namespace L2
open PySem PySem.Spec PyProof.Rows
def oT(ks:List (List aF×V))(ps:List (List aF×V)):List (List aF×V):=ps.foldl (λk p=>e8 k p.1 p.2) ks
theorem zbi(h:Es (λ(q:List aF×Addr×V) (p:List aF×Addr×Ae)=>q.1=p.1/\q.2.1=p.2.1/\RelV q.2.2 p.2.2) qs ps):
  ∀{kvs:List (List aF×V)} {es:List (List aF×Addr×Ae)},(∀q∈qs,H q.2.1=some (.tup (q.1.map kV)))->KT H kvs es->KT H (oT kvs (qs.map λq=>(q.1,q.2.2))) (Zd.allH es ps):=by
 induction h with
 | nil=>intro kvs es _ k;exact k
 | @cons q p qs ps r t c=>
  intro kvs es a k;obtain⟨d,f,j⟩:=q;obtain⟨e,g,i⟩:=p;obtain⟨rfl,rfl,b⟩:=r;exact c (λz hz=>a z (Ar _ hz)) (k.put d (a _ Az) b)
theorem MT:∀(ps:List (List aF×V)) (ks:List (List aF×V)),(oT ks ps).length<=ks.length+ps.length
 | [],ks=>Ag _
 | p::ps,ks=>by
  have a:=MT ps (e8 ks p.1 p.2);have b:=rX ks p.1 p.2;show(oT (e8 ks p.1 p.2) ps).length<=ks.length+(ps.length+1);lia
end L2
namespace L3
open PySem PySem.Spec PyProof.Rows L2
def m7(kvs:List (List aF×W))(ps:List (List aF×W)):List (List aF×W):=ps.foldl (λkvs p=>b9 kvs p.1 p.2) kvs
structure Dm(K:Ac)(C:Addr)(x qual:Str)(st:Stmt)(ps:List Str)(f:Addr)(fd:Bi):Prop where
 fn:lA K x qual st f fd
 me:pQ K C x f
 bi:Binds K fd ps []
structure Di(K:Ac)(C:Addr)(x qual:Str)(st:Stmt)(ps:List Str)(f:Addr)(fd:Bi):Prop where
 fn:lA K x qual st f fd
 mak:Mk K C f
 bi:Binds K fd ps []
theorem A5{k:Nat}(a:c8 k A):A.units+2<Eu:=by have:=a.un;lia
end L3
namespace L2
open PySem PySem.Spec PyProof.Rows
def iH(a b:Int×Int):Bool:=decide (a.1<b.1)||(decide (a.1=b.1)&&decide (a.2<b.2))
section
variable {prog:Ax}{w:Bl}{A:Cs}{E:Ae->Ah->Prop}{s:Ah}
theorem zbj{K nb:Nat}{x1 x2 c d:Int}{Q:Ae->Ah->Prop}(J:A.units+1<Eu)(i:s.heap.get? a=some m)(C:m.cls=.type "tuple")(x:m.data=.seq xs K)(l:s.heap.get? b=some ob)(D:ob.cls=.type "tuple")(y:ob.data=.seq ys nb)(ex:xs.toList=[.int x1 t,.int x2 n])(H:ys.toList=[.int c p,.int d o])(h:Q (.bool (iH (x1,x2) (c,d))) s):Bh (Bu prog w) A (Co .Lt (.ref a) (.ref b)) Q E s:=by
 have g:s.TypeIs (.ref a) "tuple":=⟨m,i,C⟩;have k:s.TypeIs (.ref b) "tuple":=⟨ob,l,D⟩;show Bh _ _ (richCompare .Lt (.ref a) (.ref b)) Q E s;refine Ky (op:=.Lt) g k PySem.F.slot_tuple_lt (Dl PySem.F.slot_tuple_lt g PySem.F.entry_tuple_lt ?_ (PySem.F.args_tuple_lt_2 _ _)) (Jn J);show Bh _ _ (isInstance (.ref b) (.type "tuple")>>=_) _ _ s;refine Aa (Hf k Hv ?_);simp only[Hi,Dq,if_false];refine Aa (Gr i x ?_);refine Aa (Gr l y ?_);refine Aa ?_;rw[ex,H];show Bh _ _ (forIn [(Value.int x1 t,Value.int c p),(Value.int x2 n,Value.int d o)] _ _) _ _ s;have hsz:xs.size=2/\ys.size=2:=by
  have I:=congrArg Ec ex;have G:=congrArg Ec H;simp at I G;exact⟨I,G⟩
 refine Ir _
  (λrest q B=>q.1=none/\B=s/\(rest=[(Value.int x1 t,Value.int c p),(Value.int x2 n,Value.int d o)]\/(rest=[(Value.int x2 n,Value.int d o)]/\x1=c)\/(rest=[]/\x1=c/\x2=d)))
  _ ?_ ?_ _ _ ⟨rfl,rfl,.inl rfl⟩
 .rintro⟨u,v⟩ rest q B ⟨r,rfl,hc⟩;rcases hc with z|⟨z,f⟩|⟨z,_⟩
  .simp only[Ct,Dg]at z;obtain⟨⟨rfl,rfl⟩,rfl⟩:=z;refine Aa (Kg ?_)
   by_cases f:x1=c
   .rw[show(x1==c)=true by simpa using f];simp only[Hi,Dq,if_false];exact Af ⟨rfl,rfl,by simp[f]⟩
   .rw[show(x1==c)=false by simpa using f];simp only[Kq,if_true];have e:iH (x1,x2) (c,d)=decide (x1<c):=by simp[iH,f]
    rw[e]at h;refine Aa (Hm (Aa (PyProof.Rows.lt_int ?_)));exact Aa (Af (Af (Af ⟨_,rfl,(λe=>nomatch e),h⟩)))
  .simp only[Ct,Dg]at z;obtain⟨⟨rfl,rfl⟩,rfl⟩:=z;refine Aa (Kg ?_)
   by_cases j:x2=d
   .rw[show(x2==d)=true by simpa using j];simp only[Hi,Dq,if_false];exact Af ⟨rfl,rfl,by simp[f,j]⟩
   .rw[show(x2==d)=false by simpa using j];simp only[Kq,if_true];have e:iH (x1,x2) (c,d)=decide (x2<d):=by simp[iH,f]
    rw[e]at h;refine Aa (Hm (Aa (PyProof.Rows.lt_int ?_)));exact Aa (Af (Af (Af ⟨_,rfl,(λe=>nomatch e),h⟩)))
  .cases z
 .rintro⟨M,L⟩ B ⟨r,rfl,hc⟩;simp only at r;subst r;rcases hc with z|⟨z,_⟩|⟨_,f,j⟩
  .cases z
  .cases z
  .refine Af ⟨_,rfl,(λe=>nomatch e),?_⟩;subst f;subst j;have e:iH (x1,x2) (x1,x2)=decide (xs.size<ys.size):=by rw[hsz.1,hsz.2];simp[iH]
   rw[e]at h;exact h
theorem zbk{K nb:Nat}{x1 x2 c d:Int}{Q:Ae->Ah->Prop}(J:A.units+1<Eu)(i:s.heap.get? a=some m)(C:m.cls=.type "tuple")(x:m.data=.seq xs K)(l:s.heap.get? b=some ob)(D:ob.cls=.type "tuple")(y:ob.data=.seq ys nb)(ex:xs.toList=[.int x1 t,.int x2 n])(H:ys.toList=[.int c p,.int d o])(h:Q (.bool (iH (c,d) (x1,x2))) s):Bh (Bu prog w) A (Co .Gt (.ref a) (.ref b)) Q E s:=by
 have g:s.TypeIs (.ref a) "tuple":=⟨m,i,C⟩;have k:s.TypeIs (.ref b) "tuple":=⟨ob,l,D⟩;show Bh _ _ (richCompare .Gt (.ref a) (.ref b)) Q E s;refine Ky (op:=.Gt) g k PySem.F.slot_tuple_gt (Dl PySem.F.slot_tuple_gt g PySem.F.entry_tuple_gt ?_ (PySem.F.args_tuple_gt_2 _ _)) (Jn J);show Bh _ _ (isInstance (.ref b) (.type "tuple")>>=_) _ _ s;refine Aa (Hf k Hv ?_);simp only[Hi,Dq,if_false];refine Aa (Gr i x ?_);refine Aa (Gr l y ?_);refine Aa ?_;rw[ex,H];show Bh _ _ (forIn [(Value.int x1 t,Value.int c p),(Value.int x2 n,Value.int d o)] _ _) _ _ s;have hsz:xs.size=2/\ys.size=2:=by
  have I:=congrArg Ec ex;have G:=congrArg Ec H;simp at I G;exact⟨I,G⟩
 refine Ir _
  (λrest q B=>q.1=none/\B=s/\(rest=[(Value.int x1 t,Value.int c p),(Value.int x2 n,Value.int d o)]\/(rest=[(Value.int x2 n,Value.int d o)]/\x1=c)\/(rest=[]/\x1=c/\x2=d)))
  _ ?_ ?_ _ _ ⟨rfl,rfl,.inl rfl⟩
 .rintro⟨u,v⟩ rest q B ⟨r,rfl,hc⟩;rcases hc with z|⟨z,f⟩|⟨z,_⟩
  .simp only[Ct,Dg]at z;obtain⟨⟨rfl,rfl⟩,rfl⟩:=z;refine Aa (Kg ?_)
   by_cases f:x1=c
   .rw[show(x1==c)=true by simpa using f];simp only[Hi,Dq,if_false];exact Af ⟨rfl,rfl,by simp[f]⟩
   .rw[show(x1==c)=false by simpa using f];simp only[Kq,if_true];have e:iH (c,d) (x1,x2)=decide (c<x1):=by simp[iH,Bz f]
    rw[e]at h;refine Aa (Hm (Aa (PyProof.Rows.gt_int ?_)));exact Aa (Af (Af (Af ⟨_,rfl,(λe=>nomatch e),h⟩)))
  .simp only[Ct,Dg]at z;obtain⟨⟨rfl,rfl⟩,rfl⟩:=z;refine Aa (Kg ?_)
   by_cases j:x2=d
   .rw[show(x2==d)=true by simpa using j];simp only[Hi,Dq,if_false];exact Af ⟨rfl,rfl,by simp[f,j]⟩
   .rw[show(x2==d)=false by simpa using j];simp only[Kq,if_true];have e:iH (c,d) (x1,x2)=decide (d<x2):=by simp[iH,f]
    rw[e]at h;refine Aa (Hm (Aa (PyProof.Rows.gt_int ?_)));exact Aa (Af (Af (Af ⟨_,rfl,(λe=>nomatch e),h⟩)))
  .cases z
 .rintro⟨M,L⟩ B ⟨r,rfl,hc⟩;simp only at r;subst r;rcases hc with z|⟨z,_⟩|⟨_,f,j⟩
  .cases z
  .cases z
  .refine Af ⟨_,rfl,(λe=>nomatch e),?_⟩;subst f;subst j;have e:iH (x1,x2) (x1,x2)=decide (xs.size > ys.size):=by rw[hsz.1,hsz.2];simp[iH]
   rw[e]at h;exact h
end
section
variable {X:Cx}
def rInsert:V->List V->Hp->VK->Prop:=λx vs H Q=>∃l xs y i,x=.ref l/\vs=[.int (i:Nat),y]/\H l=some (.lst xs)/\xs.length<An/\i<=xs.length/\Q .non (aT H l (.lst (xs.take i++y::xs.drop i)))
theorem a7.splitAt:∀{xs:List V} {us:List Ae} (i:Nat),a7 xs us->a7 (xs.take i) (us.take i)/\a7 (xs.drop i) (us.drop i)
 | _,_,0,h=>⟨.nil,h⟩
 | _,_,i+1,.nil=>⟨.nil,.nil⟩
 | _,_,i+1,.cons r t=>by
  obtain⟨a,b⟩:=a7.splitAt i t;exact⟨.cons r a,b⟩
theorem zbl:uG X "list.insert" rInsert:=by
 intro k s C H x vs v us Q I p u h;obtain⟨l,xs,y,i,rfl,rfl,f,hz,hi,q⟩:=h;cases p;obtain⟨D,c,rfl,A,w⟩:=vals2 u;obtain⟨tk,rfl⟩:=A;obtain⟨z,its,n,r,hl,e⟩:=I.lstM f;have g:its.length=xs.length:=r.length.symm;have B:An=16777216:=Lw;have a:¬(!Builtin.List.listFitsIndex ((i:Nat):Int))=true:=by
  have b:Builtin.List.listFitsIndex ((i:Nat):Int)=true:=by
   unfold Builtin.List.listFitsIndex;rw[Cq,decide_eq_true_eq,decide_eq_true_eq];lia
  rw[b];decide
 have d:its.toArray.size<=An:=by rw[Bf];lia
 generalize t:((i:Nat):Int)=j at a e⊢;have o:=PySem.AutoSeq1.list_insert_list_int_val_1 l its.toArray n j tk c a d;refine Kh F.slot_list_insert ⟨_,e,rfl⟩ F.entry_list_insert (F.args_list_insert_3 _ _ _) o ⟨e,?_⟩;obtain⟨b,m⟩:=a7.splitAt i r;refine⟨.non,_,I.lset (its':=its.take i++c::its.drop i) f e ?_ (b.append (.cons w m)) ?_,rfl,q⟩
 .have hk:(if j<0 then(j+(its.toArray.size:Int)).toNat else min j.toNat its.toArray.size)=i:=by
   rw[<-t,if_neg (by lia),Dc,Bf];lia
  show(its.toArray.extract 0 (if j<0 then(j+(its.toArray.size:Int)).toNat else min j.toNat its.toArray.size)).push c++its.toArray.extract (if j<0 then(j+(its.toArray.size:Int)).toNat else min j.toNat its.toArray.size)=_;rw[hk];apply Array.toList_inj.mp;simp[Mx,Array.toList_push];rw[Fz (by rw[Ia];lia)]
 .rw[Ak,Br,Ce,Ia];lia
end
end L2
namespace L3
open PySem PySem.Spec PyProof.Rows L2
section
variable {X:Cx}
def A6:R3:=λx y M R=>∃a b c d:Int,x=.tup [.int a,.int b]/\y=.tup [.int c,.int d]/\R (.bl (iH (a,b) (c,d))) M
def MU:R3:=λx y M R=>∃a b c d:Int,x=.tup [.int a,.int b]/\y=.tup [.int c,.int d]/\R (.bl (iH (c,d) (a,b))) M
theorem vX{c:List (Addr×Obj)}{f:SV}{H:Hp}{M:Mm}{s:Ah}{x:V}{v:Ae}{a b:Int}(I:Inv X c f H s)(j:RelV x v)(k:AV X.K H M x (.tup [.int a,.int b])):∃p o its n t u,v=.ref p/\s.heap.get? p=some o/\o.cls=.type "tuple"/\o.data=.seq its n/\its.toList=[.int a t,.int b u]:=by
 cases k with
 | @tup p xs _ e q=>
  cases (show v=Value.ref p from j);obtain⟨y,z,rfl,A,h⟩:=q.two;obtain rfl:=A.inv;obtain rfl:=h.inv;obtain⟨_,its,r,o,i,g,m,C⟩:=(show cC X.prog X.w H s.heap p (.tup [.int a,.int b]) from I.hok p _ e);obtain⟨E,F,rfl,D,B⟩:=vals2 r;obtain⟨d,rfl⟩:=D;obtain⟨l,rfl⟩:=B;exact⟨p,o,_,m,d,l,rfl,i,g,C,by simp⟩
theorem MV(i:X.A.units+1<Eu):bC X (Co .Lt) (cM X.K A6):=by
 rintro e s S H x y v u Q I f D ⟨N,P,M,R,q,g,E,⟨a,b,c,d,rfl,rfl,r⟩,k⟩;obtain⟨p,o,its,n,J,G,rfl,C,z,m,h⟩:=vX I f g;obtain⟨T,O,its',L,B,j,rfl,l,w,F,t⟩:=vX I D E;exact zbj i C z m l w F h t ⟨.bl _,H,I,rfl,k.at q (.bl _) r⟩
theorem zbm(i:X.A.units+1<Eu):bC X (Co .Gt) (cM X.K MU):=by
 rintro e s S H x y v u Q I f D ⟨N,P,M,R,q,g,E,⟨a,b,c,d,rfl,rfl,r⟩,k⟩;obtain⟨p,o,its,n,J,G,rfl,C,z,m,h⟩:=vX I f g;obtain⟨T,O,its',L,B,j,rfl,l,w,F,t⟩:=vX I D E;exact zbk i C z m l w F h t ⟨.bl _,H,I,rfl,k.at q (.bl _) r⟩
def MW:W->List W->Mm->K3->Prop
 | .ref l,[.int i,y],M,R=>∃ws,M l=some (.lst ws)/\ws.length<An/\0<=i/\i<=ws.length/\R .non (put M l (.lst (ws.take i.toNat++y::ws.drop i.toNat)))
 | _,_,_,_=>False
theorem MX{K:Ac}{H:Hp}{M:Mm}:∀{vs:List V} {ws:List W} (i:Nat),aN K H M vs ws->aN K H M (vs.take i) (ws.take i)/\aN K H M (vs.drop i) (ws.drop i)
 | _,_,0,h=>⟨.nil,h⟩
 | _,_,i+1,.nil=>⟨.nil,.nil⟩
 | _,_,i+1,.cons r t=>by
  obtain⟨a,b⟩:=MX i t;exact⟨.cons r a,b⟩
theorem zbn:f9 X "list.insert" (kB X.K MW):=by
 rintro a s d H x xs v us Q I m rs ⟨t,ws,M,R,c,o,b,h,k⟩
 match t,ws,h with
 | .ref l,[.int i,y],h=>
  obtain⟨u,z,rfl,p,g⟩:=b.two;obtain rfl:=o.inv;obtain rfl:=p.inv;obtain⟨ws,e,hl,j,A,r⟩:=h;obtain⟨i,rfl⟩:=Lq j;obtain⟨vs,f,q⟩:=c.lst e;obtain⟨w,n⟩:=MX i q;rw[Dc]at r;exact zbl a s d H _ _ v us Q I m rs ⟨l,vs,z,i,rfl,rfl,f,by rw[q.length];exact hl,by rw[q.length];lia,uS c k e (w.append (.cons g n)) .non r⟩
end
end L3
namespace Rg
open PySem PySem.Spec PyProof.Rows L2 L3
theorem oU{κ:Type}[DecidableEq κ]{kvs:List (κ×W)}{k j:κ}{w:W}:aX (b9 kvs k w) j=if k=j then some w else aX kvs j:=mY kvs k j w
theorem nV{κ:Type}[DecidableEq κ](e:κ×W)(t:List (κ×W))(k:κ):aX (e::t) k=if e.1=k then some e.2 else aX t k:=dG e t k
theorem vY{κ:Type}[DecidableEq κ]{k j:κ}:∀{kvs:List (κ×W)},aX (j4 kvs k) j=if k=j then none else aX kvs j
 | []=>by unfold j4;rw[List.filter_nil];split<;>rfl
 | e::t=>by
  have b:=vY (k:=k) (j:=j) (kvs:=t);unfold j4 at b⊢;rw[Dw]
  by_cases h:e.1=k
  .rw[if_neg (by simp[h]),b,nV]
   by_cases a:k=j
   .rw[if_pos a,if_pos a]
   .rw[if_neg a,if_neg a,if_neg (by rw[h];exact a)]
  .rw[if_pos (by simp[h]),nV,b,nV]
   by_cases a:k=j
   .rw[if_pos a,if_pos a,if_neg (by rw[<-a];exact h)]
   .rw[if_neg a,if_neg a]
theorem A7{κ:Type}[DecidableEq κ](kvs:List (κ×W))(k:κ)(w:W):(b9 kvs k w).length<=kvs.length+1:=vM kvs k w
theorem MY{κ:Type}[DecidableEq κ]{k:κ}:∀{kvs:List (κ×W)},(aX kvs k).isSome=true->(j4 kvs k).length<kvs.length
 | [],h=>by cases h
 | e::t,h=>by
  unfold j4;rw[Dw];have c:(t.filter λb=>decide (b.1≠k)).length<=t.length:=Js _ _
  by_cases a:e.1=k
  .rw[if_neg (by simp[a]),Br];lia
  .rw[if_pos (by simp[a]),Br,Br];rw[nV,if_neg a]at h;have:=MY h;unfold j4 at this;lia
structure eT{κ:Type}(kk:κ->List aF)(M0 M:Mm)(a:Addr)(kvs:List (List aF×W))(g:κ->Option (List W)):Prop where
 sub:L3.Sub M0 M
 new:M0 a=none
 at_:M a=some (.dT kvs)
 non:∀k,g k=none->aX kvs (kk k)=none
 som:∀k ws,g k=some ws->∃p,aX kvs (kk k)=some (.ref p)/\p≠a/\M0 p=none/\M p=some (.lst ws)
 inj:∀k j p,aX kvs (kk k)=some (.ref p)->aX kvs (kk j)=some (.ref p)->k=j
theorem iI(h:L3.Sub M0 M)(n:M0 p=none):L3.Sub M0 (put M p o):=λa u e=>by
 rw[aQ (λz=>by rw[z,n]at e;cases e)];exact h a u e
section
variable {κ:Type}[DecidableEq κ]{kk:κ->List aF}{M0 M:Mm}{a p:Addr}{kvs:List (List aF×W)}{g:κ->Option (List W)}{o:MO}{k:κ}{ws:List W}
theorem eT.lift(h:eT kk M0 M a kvs g)(l:M p=none\/∃u,M0 p=some u):eT kk (put M0 p o) (put M p o) a kvs g:=by
 have ne:∀{b:Addr},M0 b=none->(∃u,M b=some u)->b≠p:=λ{b} j ⟨u,c⟩ e=>by
  subst e;rcases l with z|⟨v,z⟩
  .rw[c]at z;cases z
  .rw[j]at z;cases z
 refine⟨Sub.put h.sub,?_,?_,h.non,λk ws e=>?_,h.inj⟩
 .rw[aQ (ne h.new ⟨_,h.at_⟩)];exact h.new
 .rw[aQ (ne h.new ⟨_,h.at_⟩)];exact h.at_
 .obtain⟨q,c,i,f,d⟩:=h.som k ws e;have:=ne f ⟨_,d⟩;exact⟨q,c,i,by rw[aQ this];exact f,by rw[aQ this];exact d⟩
theorem eT.more(h:eT kk M0 M a kvs g)(f:M p=none):eT kk M0 (put M p o) a kvs g:=by
 have ne:∀{b:Addr},(∃u,M b=some u)->b≠p:=λ{b} ⟨u,c⟩ e=>by subst e;rw[f]at c;cases c
 refine⟨iI h.sub (h.sub.non f),h.new,by rw[aQ (ne ⟨_,h.at_⟩)];exact h.at_,h.non,λk ws e=>?_,h.inj⟩;obtain⟨q,c,i,j,d⟩:=h.som k ws e;exact⟨q,c,i,j,by rw[aQ (ne ⟨_,d⟩)];exact d⟩
theorem eT.has(h:eT kk M0 M a kvs g)(e:g k=some ws):∃p,aX kvs (kk k)=some (.ref p)/\M p=some (.lst ws):=by
 obtain⟨q,b,_,_,c⟩:=h.som k ws e;exact⟨q,b,c⟩
theorem eT.look(h:eT kk M0 M a kvs g)(k:κ):(aX kvs (kk k)).isSome=(g k).isSome:=by
 cases e:g k with
 | none=>rw[h.non k e];rfl
 | some ws=>obtain⟨q,b,_⟩:=h.has e;rw[b];rfl
theorem eT.wr(h:eT kk M0 M a kvs g)(hk:aX kvs (kk k)=some (.ref p)):eT kk M0 (put M p (.lst ws)) a kvs (λj=>if k=j then some ws else g j):=by
 obtain⟨b,o⟩:∃b,g k=some b:=by
  cases e:g k with
  | none=>rw[h.non k e]at hk;cases hk
  | some ws=>exact⟨_,rfl⟩
 obtain⟨q,f,d,l,s⟩:=h.som k b o;rw[hk]at f;cases f;refine⟨iI h.sub l,h.new,by rw[aQ (Bz d)];exact h.at_,λj e=>?_,λj us e=>?_,h.inj⟩
 .by_cases c:k=j
  .rw[if_pos c]at e;cases e
  .rw[if_neg c]at e;exact h.non j e
 .by_cases c:k=j
  .rw[if_pos c]at e;cases e;subst c;exact⟨p,hk,d,l,aR⟩
  .rw[if_neg c]at e;obtain⟨q,i,n,r,m⟩:=h.som j us e;refine⟨q,i,n,r,?_⟩;rw[aQ (λz=>c (h.inj k j p hk (by rw[<-z];exact i)))];exact m
theorem eT.add(c:∀k j,kk k=kk j->k=j)(h:eT kk M0 M a kvs g)(A:g k=none)(s:M p=none):eT kk M0 (put (put M p (.lst ws)) a (.dT (b9 kvs (kk k) (.ref p)))) a (b9 kvs (kk k) (.ref p)) (λj=>if k=j then some ws else g j):=by
 have ne:∀{b:Addr},(∃u,M b=some u)->b≠p:=λ{b} ⟨u,l⟩ e=>by subst e;rw[s]at l;cases l
 have r:p≠a:=Bz (ne ⟨_,h.at_⟩);have d:∀j q,aX kvs (kk j)=some (.ref q)->∃u,M q=some u:=λj q e=>by
  cases w:g j with
  | none=>rw[h.non j w]at e;cases e
  | some us=>
   obtain⟨B,v,_,_,t⟩:=h.som j us w;rw[e]at v;cases v;exact⟨_,t⟩
 refine⟨iI (iI h.sub (h.sub.non s)) h.new,h.new,aR,λj e=>?_,λj us e=>?_,λi j q m n=>?_⟩
 .by_cases f:k=j
  .rw[if_pos f]at e;cases e
  .rw[if_neg f]at e;rw[oU,if_neg (λz=>f (c _ _ z))];exact h.non j e
 .by_cases f:k=j
  .rw[if_pos f]at e;cases e;subst f;exact⟨p,by rw[oU,if_pos rfl],r,h.sub.non s,by rw[aQ r,aR]⟩
  .rw[if_neg f]at e;obtain⟨q,v,x,y,t⟩:=h.som j us e;exact⟨q,by rw[oU,if_neg (λz=>f (c _ _ z))];exact v,x,y,by rw[aQ x,aQ (ne ⟨_,t⟩)];exact t⟩
 .rw[oU]at m n
  by_cases l:kk k=kk i
  .by_cases o:kk k=kk j
   .exact(c _ _ l).symm.trans (c _ _ o)
   .rw[if_pos l]at m;rw[if_neg o]at n;cases m;obtain⟨u,z⟩:=d j p n;rw[s]at z;cases z
  .by_cases o:kk k=kk j
   .rw[if_neg l]at m;rw[if_pos o]at n;cases n;obtain⟨u,z⟩:=d i p m;rw[s]at z;cases z
   .rw[if_neg l]at m;rw[if_neg o]at n;exact h.inj i j q m n
theorem eT.del(c:∀k j,kk k=kk j->k=j)(h:eT kk M0 M a kvs g):eT kk M0 (put M a (.dT (j4 kvs (kk k)))) a (j4 kvs (kk k)) (λj=>if k=j then none else g j):=by
 refine⟨iI h.sub h.new,h.new,aR,λj e=>?_,λj us e=>?_,λi j q d f=>?_⟩
 .rw[vY]
  by_cases b:k=j
  .rw[if_pos (by rw[b])]
  .rw[if_neg b]at e;rw[if_neg (λz=>b (c _ _ z))];exact h.non j e
 .by_cases b:k=j
  .rw[if_pos b]at e;cases e
  .rw[if_neg b]at e;obtain⟨q,n,l,o,m⟩:=h.som j us e;exact⟨q,by rw[vY,if_neg (λz=>b (c _ _ z))];exact n,l,o,by rw[aQ l];exact m⟩
 .rw[vY]at d f;split at d
  .cases d
  .split at f
   .cases f
   .exact h.inj i j q d f
theorem eT.same{g':κ->Option (List W)}(h:eT kk M0 M a kvs g)(e:∀k,g' k=g k):eT kk M0 M a kvs g':=by
 have:g'=g:=funext e;rw[this];exact h
end
structure Cc where
 q:Addr
 s:Addr
 f:Addr
 g:Addr
 p:Addr
def cW(c:aL):W:=.tup [.int c.1,.int c.2]
def cK(c:aL):List aF:=[Sum.inl c.1,Sum.inl c.2]
theorem zbo(c:aL):cW c=.tup ((cK c).map wK):=rfl
theorem MZ:∀a b:aL,cK a=cK b->a=b:=λa b h=>by
 unfold cK at h;simp only[Ct,Kt,and_true]at h;exact Lj h.1 h.2
def gL(cut:List Int):W:=.tup (cut.map W.int)
def kQ(x:Nat×List Int):W:=.tup [.int x.1,gL x.2]
section
variable {α:Type}
theorem qT{κ b:Type}[DecidableEq κ]{t:List (κ×b)}{k:κ}(h:∀e∈t,e.1≠k):aJ t k=none:=by
 induction t with
 | nil=>rfl
 | cons e t c=>rw[dG,if_neg (h e Az)];exact c λx a=>h x (Ar _ a)
theorem vZ(h:cY a b=true):a≠b:=λe=>by subst e;exact sR h
theorem M8(c:aL)(x:α)(d:aL):∀{q:List (aL×List α)},iG q->aJ (d8 c x q) d=if c=d then some ((aJ q c).getD []++[x]) else aJ q d
 | [],_=>by rw[d8,dG];rfl
 | (e,xs)::r,h=>by
  obtain⟨_,f,j⟩:=h;rw[d8]
  by_cases a:cY c e=true
  .rw[if_pos a,dG,M8 c x d j,dG,dG,if_neg (Bz (vZ a))]
   by_cases hd:e=d
   .rw[if_pos hd,if_pos hd,if_neg (λz=>vZ a (z.trans hd.symm))]
   .rw[if_neg hd,if_neg hd]
  .rw[if_neg a]
   by_cases b:e=c
   .subst b;rw[if_pos rfl,dG,dG,dG,if_pos rfl]
    by_cases hd:e=d
    .rw[if_pos hd,if_pos hd];rfl
    .rw[if_neg hd,if_neg hd,if_neg hd]
   .rw[if_neg b,dG];have i:aJ ((e,xs)::r) c=none:=qT λz hz=>by
     rcases Ba.mp hz with y|y
     .rw[y];exact b
     .intro g;have:=f z y;rw[g]at this;exact a this
    rw[i];rfl
def pos(c:aL):List aL->Nat
 | []=>0
 | d::r=>if cY c d=true then pos c r+1 else 0
theorem M9(c:aL):∀cs:List aL,pos c cs<=cs.length
 | []=>Ag _
 | d::r=>by
  rw[pos];split
  .have:=M9 c r;simp;lia
  .simp
theorem A8(c:aL)(x:α):∀{q:List (aL×List α)},iG q->(aJ q c).isSome=false->(d8 c x q).map (·.1)=(q.map (·.1)).take (pos c (q.map (·.1)))++c::(q.map (·.1)).drop (pos c (q.map (·.1)))
 | [],_,_=>rfl
 | (e,xs)::r,h,a=>by
  obtain⟨_,g,f⟩:=h;rw[dG]at a
  by_cases d:e=c
  .rw[if_pos d]at a;cases a
  .rw[if_neg d]at a;rw[d8,Aw,pos]
   by_cases b:cY c e=true
   .rw[if_pos b,if_pos b,Aw,A8 c x f a];rfl
   .rw[if_neg b,if_neg b,if_neg d];rfl
theorem NA(c:aL)(x:α):∀{q:List (aL×List α)},iG q->(aJ q c).isSome=true->(d8 c x q).map (·.1)=q.map (·.1)
 | [],_,h=>by cases h
 | (e,xs)::r,h,d=>by
  obtain⟨_,f,l⟩:=h;rw[dG]at d;rw[d8]
  by_cases a:cY c e=true
  .rw[if_neg (Bz (vZ a))]at d;rw[if_pos a,Aw,NA c x l d];rfl
  .rw[if_neg a]
   by_cases i:e=c
   .rw[if_pos i];rfl
   .rw[if_neg i]at d;obtain⟨ys,m⟩:=Fm.mp d;have:∃z∈r,z.1=c:=by
     have:∀{t:List (aL×List α)},aJ t c=some ys->∃z∈t,z.1=c:=by
      intro t
      induction t with
      | nil=>intro e;cases e
      | cons b t j=>
       intro e;rw[dG]at e
       by_cases g:b.1=c
       .exact⟨b,Az,g⟩
       .rw[if_neg g]at e;obtain⟨z,a,f⟩:=j e;exact⟨z,Ar _ a,f⟩
     exact this m
    obtain⟨z,hz,k⟩:=this;have:=f z hz;rw[k]at this;exact absurd this a
theorem A9:∀{q:List (aL×List α)},iG q->q.length<=(a9 q).length
 | [],_=>Ag _
 | (e,xs)::r,h=>by
  obtain⟨b,_,a⟩:=h;have:=A9 a;have:=Eh.mpr b;rw[a9,Ak,Ab,Br];lia
theorem NB:∀{q:List (aL×List α)} {c:aL},((aJ q c).getD []).length<=(a9 q).length
 | [],_=>Ag _
 | (e,xs)::r,c=>by
  rw[dG,a9,Ak,Ab];split
  .show xs.length<=_;lia
  .have:=NB (q:=r) (c:=c);lia
theorem NC:∀{q a:List (aL×List α)} {c:aL} {x:α},iG q->iW q=some (c,x,a)->∃r ys,q=r++[(c,ys++[x])]/\a=(if ys.isEmpty then r else r++[(c,ys)])
 | [],a,c,x,_,h=>by cases h
 | [(d,xs)],a,c,x,hf,h=>by
  obtain⟨b,_,_⟩:=hf;rcases Fj xs with z|⟨ys,y,z⟩
  .exact absurd z b
  .rw[Fl]at z;subst z;simp[iW]at h;obtain⟨rfl,rfl,rfl⟩:=h;refine⟨[],ys,rfl,?_⟩;cases ys<;>simp
 | e::k::r,a,c,x,hf,h=>by
  obtain⟨_,_,i⟩:=hf;rw[iW]at h;split at h
  .cases h
  .rename_i l x1 j g;simp only[Ge,Dg]at h;obtain⟨rfl,rfl,rfl⟩:=h;obtain⟨f,ys,z1,z2⟩:=NC i g;refine⟨e::f,ys,by rw[z1];rfl,?_⟩;rw[z2];split<;>rfl
theorem v3{κ b:Type}[DecidableEq κ]{t:List (κ×b)}{k:κ}{v:b}(h:∀e∈t,e.1≠k)(j:κ):aJ (t++[(k,v)]) j=if k=j then some v else aJ t j:=by
 rw[AF]
 by_cases a:k=j
 .subst a;rw[if_pos rfl,if_pos rfl,qT h];rfl
 .rw[if_neg a,if_neg a,Option.or_none]
theorem ND:∀{r:List (aL×List α)} {c:aL} {ys:List α},iG (r++[(c,ys)])->∀e∈r,e.1≠c
 | [],_,_,_,e,h=>nomatch h
 | b::r,c,ys,h,e,d=>by
  obtain⟨_,f,a⟩:=h;rcases Ba.mp d with z|z
  .rw[z];exact Bz (vZ (f (c,ys) (by simp)))
  .exact ND a e z
theorem NF:∀{q:List (aL×List α)},iG q->(q.map (·.1)).Pairwise λa b=>cY b a=true
 | [],_=>.nil
 | (e,xs)::r,h=>by
  obtain⟨_,f,c⟩:=h;rw[Aw,List.pairwise_cons];refine⟨λa d=>?_,NF c⟩;obtain⟨z,hz,rfl⟩:=Am.mp d;exact f z hz
end
theorem NG:∀{cs:List aL} {k:Nat},k<=cs.length->(∀i d,i<k->cs[i]? = some d->cY c d=true)->(∀i d,k<=i->cs[i]? = some d->cY c d=false)->pos c cs=k
 | [],k,h,_,_=>by simp at h;subst h;rfl
 | d::r,k,h,b,f=>by
  rw[pos];cases k with
  | zero=>rw[if_neg (by rw[f 0 d (Ag _) rfl];decide)]
  | succ k=>
   rw[if_pos (b 0 d (by lia) rfl),NG (k:=k) (by simpa using h) (λi e hi a=>b (i+1) e (by lia) (by simpa using a)) λi e hi a=>f (i+1) e (by lia) (by simpa using a)]
structure Aq where
 o:Addr
 d:Addr
 c:Addr
 w:Addr
def qf(A:Aq):List (Str×W):=[("costs",.ref A.c),("waiting",.ref A.w)]
theorem qU:Cb ("costs" : Str) (qf A)=some (W.ref A.c):=by kernel_rfl
theorem qV:Cb ("waiting" : Str) (qf A)=some (W.ref A.w):=by kernel_rfl
theorem zbp:Cb ("place_of" : Str) (qf A)=none:=by kernel_rfl
theorem zbq:Cb ("put" : Str) (qf A)=none:=by kernel_rfl
theorem zbr:Cb ("take" : Str) (qf A)=none:=by kernel_rfl
theorem zbs:Cb ("is_done" : Str) (qf A)=none:=by kernel_rfl
structure Qm(C:Cc)(M0 M:Mm)(A:Aq)(cs:List aL):Prop where
 sub:L3.Sub M0 M
 no:M0 A.o=none
 nc:M0 A.c=none
 ne:A.o≠A.c
 ob:M A.o=some (.ins C.q A.d (qf A))
 co:M A.c=some (.lst (cs.map cW))
abbrev Qu:=List (aL×List (Nat×List Int))
abbrev wG(q:Qu):aL->Option (List W):=λc=>(aJ q c).map λxs=>xs.map kQ
structure QR(C:Cc)(M0 M:Mm)(A:Aq)(q:Qu):Prop where
 fall:iG q
 ex:∃M1 kvs,Qm C M0 M1 A (q.map (·.1))/\eT cK M1 M A.w kvs (wG q)/\kvs.length<=q.length
theorem Qm.lift{C:Cc}{M0 M:Mm}{A:Aq}{cs:List aL}{p:Addr}{o:MO}(h:Qm C M0 M A cs)(g:M p=none\/∃u,M0 p=some u):Qm C (put M0 p o) (put M p o) A cs:=by
 have ne:∀{b:Addr},M0 b=none->(∃u,M b=some u)->b≠p:=λ{b} d ⟨u,f⟩ e=>by
  subst e;rcases g with z|⟨v,z⟩
  .rw[f]at z;cases z
  .rw[d]at z;cases z
 have a:=ne h.no ⟨_,h.ob⟩;have c:=ne h.nc ⟨_,h.co⟩;exact⟨Sub.put h.sub,by rw[aQ a];exact h.no,by rw[aQ c];exact h.nc,h.ne,by rw[aQ a];exact h.ob,by rw[aQ c];exact h.co⟩
theorem Qm.costs{C:Cc}{M0 M:Mm}{A:Aq}{cs cs':List aL}(h:Qm C M0 M A cs):Qm C M0 (put M A.c (.lst (cs'.map cW))) A cs':=
 ⟨iI h.sub h.nc,h.no,h.nc,h.ne,by rw[aQ h.ne];exact h.ob,aR⟩
theorem QR.lift(h:QR C M0 M A q)(c:M p=none\/∃u,M0 p=some u):QR C (put M0 p o) (put M p o) A q:=by
 obtain⟨d,kvs,b,a,e⟩:=h.ex;refine⟨h.fall,put d p o,kvs,b.lift ?_,a.lift ?_,e⟩
 .rcases c with z|z
  .exact .inl (a.sub.non z)
  .exact .inr z
 .rcases c with z|⟨u,z⟩
  .exact .inl z
  .exact .inr ⟨u,b.sub _ _ z⟩
theorem QR.more(h:QR C M0 M A q)(e:M p=none):QR C M0 (put M p o) A q:=by
 obtain⟨c,kvs,b,a,d⟩:=h.ex;exact⟨h.fall,c,kvs,b,a.more e,d⟩
theorem QR.sub(h:QR C M0 M A q):L3.Sub M0 M:=by
 obtain⟨c,kvs,b,a,d⟩:=h.ex;exact b.sub.trans a.sub
theorem QR.ob(h:QR C M0 M A q):M A.o=some (.ins C.q A.d (qf A)):=by
 obtain⟨c,kvs,b,a,e⟩:=h.ex;exact a.sub _ _ b.ob
theorem QR.co(h:QR C M0 M A q):M A.c=some (.lst ((q.map (·.1)).map cW)):=by
 obtain⟨d,kvs,b,a,e⟩:=h.ex;exact a.sub _ _ b.co
def BA(C:Cc):bF:=λws M R=>∃M0 a dx,ws=[.ref a]/\M=put M0 a (.ins C.q dx [])/\M0 a=none/\∀b (A:Aq),A.o=a->QR C M0 b A []->R .non b
def BB(C:Cc):bF:=λws M R=>∃M0 A q,ws=[.ref A.o]/\QR C M0 M A q/\R (.bl (decide (q=[]))) M
def BC(C:Cc):bF:=λws M R=>∃(A:Aq) (cs:List aL) (c:aL),ws=[.ref A.o,cW c]/\M A.o=some (.ins C.q A.d (qf A))/\M A.c=some (.lst (cs.map cW))/\cs.Pairwise (λa b=>cY b a=true)/\cs.length<10000000/\R (.int (pos c cs:Nat)) M
def v5(C:Cc):bF:=λws M R=>∃M0 A q c x,ws=[.ref A.o,cW c,kQ x]/\QR C M0 M A q/\(a9 (d8 c x q)).length<10000000/\∀a,QR C M0 a A (d8 c x q)->R .non a
def BD(C:Cc):bF:=λws M R=>∃M0 A q c x b,ws=[.ref A.o]/\QR C M0 M A q/\iW q=some (c,x,b)/\∀a,QR C M0 a A b->R (.tup [cW c,kQ x]) a
abbrev zbt:List Str:=["self"]
def zbu(C:Cc):aH:=
   (aM (j3 C.q (aA 0) "costs" (jE aE))
   (j3 C.q (aA 0) "waiting" oM))
abbrev zbv:List Str:=["self"]
def zbw(C:Cc):aH:=
   (bU (aD (rEq false) (bM dP (aB (cZ C.q (aA 0) "costs") aE)) (vC (.int 0))))
abbrev zbx:List Str:=["self","cost","thing"]
def zby(C:Cc):aH:=
   (aM (cV (bP (aD (rIn true) (aA 1) (cZ C.q (aA 0) "waiting")))
    (aM (iV (jE aE) (kG (cZ C.q (aA 0) "waiting") (aA 1)))
   (dB (eQ "list" MW (cZ C.q (aA 0) "costs") (aB (fA C.q "place_of" (BC C) (aA 0) (aB (aA 1) aE)) (aB (aA 1) aE)))))
    dQ)
   (dB (eQ "list" fU (aD aV (cZ C.q (aA 0) "waiting") (aA 1)) (aB (aA 2) aE))))
abbrev zbz:List Str:=["self","cost","low","high","middle"]
def zbA(C:Cc):aH:=
   (a5 2 (vC (.int 0)))
def zbB(C:Cc):aH:=
   (a5 3 (bM dP (aB (cZ C.q (aA 0) "costs") aE)))
def zbC(C:Cc):aH:=
   (aM (a5 4 (aD kF (aD dY (aA 2) (aA 3)) (vC (.int 2))))
   (cV (bP (aD MU (aD aV (cZ C.q (aA 0) "costs") (aA 4)) (aA 1)))
    (a5 2 (aD dY (aA 4) (vC (.int 1))))
    (a5 3 (aA 4))))
def zbD(C:Cc):aH:=
   (qH (bP (aD oK (aA 2) (aA 3))) (zbC C))
def zbE(C:Cc):aH:=
   (bU (aA 2))
def zbF(C:Cc):aH:=(aM (zbA C) (aM (zbB C) (aM (zbD C) (zbE C))))
abbrev zbG:List Str:=["self","cost","things","thing"]
def zbH(C:Cc):aH:=
   (a5 1 (aD aV (cZ C.q (aA 0) "costs") (lG lN (vC (.int 1)))))
def zbI(C:Cc):aH:=
   (a5 2 (aD aV (cZ C.q (aA 0) "waiting") (aA 1)))
def zbJ(C:Cc):aH:=
   (a5 3 (oI "list" rPop (aA 2)))
def zbK(C:Cc):aH:=
   (cV (bP (aD (rEq false) (bM dP (aB (aA 2) aE)) (vC (.int 0))))
    (aM (dB (oI "list" rPop (cZ C.q (aA 0) "costs")))
   (dB (eQ "dict" MI (cZ C.q (aA 0) "waiting") (aB (aA 1) aE))))
    dQ)
def zbL(C:Cc):aH:=
   (bU (bH (aB (aA 1) (aB (aA 3) aE))))
def zbM(C:Cc):aH:=(aM (zbH C) (aM (zbI C) (aM (zbJ C) (aM (zbK C) (zbL C)))))
theorem zbN:∀ws M R,BA C ws M R->ws.length=1:=by rintro ws M R ⟨_,_,_,rfl,_⟩;rfl
theorem zbO:∀ws M R,BB C ws M R->ws.length=1:=by rintro ws M R ⟨_,_,_,rfl,_⟩;rfl
theorem zbP:∀ws M R,BC C ws M R->ws.length=2:=by rintro ws M R ⟨_,_,_,rfl,_⟩;rfl
theorem zbQ:∀ws M R,v5 C ws M R->ws.length=3:=by rintro ws M R ⟨_,_,_,_,_,rfl,_⟩;rfl
theorem zbR:∀ws M R,BD C ws M R->ws.length=1:=by rintro ws M R ⟨_,_,_,_,_,_,rfl,_⟩;rfl
theorem z1:1<=An:=by decide
theorem z2:2<=An:=by decide
theorem z3:3<=An:=by decide
theorem z4:4<=An:=by decide
theorem cP{b:Bool}{P Q:Prop}(a:b=true->P)(c:b=false->Q):if b=true then P else Q:=by cases b;exact c rfl;exact a rfl
theorem qW{R:List W->(Mm->Prop)->Mm->Prop}(e:w=.rl ws)(h:R ws (λ_=>True) M):L3.kH w M R:=by rw[e];exact h
theorem oV(h:M a=some (.dT kvs))(hl:aX kvs k=some w)(r:R w M):L3.aV (.ref a) (.tup (k.map wK)) M R:=⟨w,.inr ⟨kvs,k,h,rfl,hl.symm⟩,r⟩
theorem iX(h:M a=some (.lst ws)):mO "list" (.ref a) M:=.inl ⟨rfl,_,h⟩
theorem tH(h:M a=some (.dT kvs)):mO "dict" (.ref a) M:=.inr ⟨rfl,.inr ⟨_,h⟩⟩
theorem zbS(h:BB C ws M R):zbw C (bI R) (bT zbv ws) M:=by
 obtain⟨M0,A,q,rfl,a,r⟩:=h;refine⟨_,rfl,A.o,A.d,qf A,_,rfl,a.ob,qU,.inl ⟨_,a.co,M,Sub.refl _,?_⟩⟩;show R (.bl (decide (((Ko cW (q.map λx=>x.1)).length:Int)=0))) M;have e:decide (((Ko cW (q.map λx=>x.1)).length:Int)=0)=decide (q=[]):=by
  cases q<;>simp;lia
 rw[e];exact r
theorem zbT(h:BA C ws M R):zbu C (bI R) (bT zbt ws) M:=by
 obtain⟨M0,a,dx,rfl,rfl,m,r⟩:=h;refine⟨Bw _,λp l=>?_⟩;have c:p≠a:=λe=>by rw[e,aR]at l;cases l
 have i:M0 p=none:=by rw[aQ c]at l;exact l
 refine⟨_,rfl,a,dx,[],rfl,by rw[aQ (Bz c),aR],by decide,λw hw=>?_⟩;have d:w≠a:=λe=>by rw[e,aR]at hw;cases hw
 have f:w≠p:=λe=>by rw[e,aQ c,aR]at hw;cases hw
 have g:M0 w=none:=by rw[aQ d,aQ f,aQ d]at hw;exact hw
 refine⟨_,rfl,a,dx,cE "costs" (.ref p) [],rfl,by rw[aQ (Bz d),aR],(show(1:Nat)<1000 by decide),_,Sub.refl _,r _ ⟨a,dx,p,w⟩ rfl ⟨trivial,put (put M0 p (.lst [])) a (.ins C.q dx (qf ⟨a,dx,p,w⟩)),[],⟨iI (iI (Sub.refl _) i) m,m,i,Bz c,aR,by rw[aQ c,aR];rfl⟩,?_,Ag _⟩⟩;have e:put (put (put (put (put M0 a (.ins C.q dx [])) p (.lst [])) a (.ins C.q dx (cE "costs" (.ref p) []))) w (.dT [])) a (.ins C.q dx (cE "waiting" (.ref w) (cE "costs" (.ref p) [])))=put (put (put M0 p (.lst [])) a (.ins C.q dx (qf ⟨a,dx,p,w⟩))) w (.dT []):=by
  have eq:cE "waiting" (.ref w) (cE "costs" (.ref p) [])=qf ⟨a,dx,p,w⟩:=by
   show(if (("costs" : Str)=("waiting" : Str)) then _ else _)=_;rw[if_neg (by decide +kernel)];rfl
  rw[eq];funext b;unfold put
  by_cases o:b=a<;>by_cases n:b=w<;>by_cases s:b=p<;>simp_all
 rw[e];exact⟨iI (Sub.refl _) (by rw[aQ d,aQ f];exact g),by rw[aQ d,aQ f];exact g,aR,(λ_ _=>rfl),(λk ws e=>nomatch e),(λk j p e=>nomatch e)⟩
theorem zbU(h:BC C ws M R):zbF C (bI R) (bT zbz ws) M:=by
 obtain⟨A,cs,c,rfl,y,hc,pw,hl,r⟩:=h;refine⟨_,rfl,A.o,A.d,qf A,_,rfl,y,qU,.inl ⟨_,hc,?_⟩⟩;refine⟨λm x B=>∃lo hi:Nat,∃o,x=[some (.ref A.o),some (cW c),some (.int lo),some (.int hi),o]/\B=M/\lo<=hi/\hi<=cs.length/\(∀i d,i<lo->cs[i]? = some d->cY c d=true)/\(∀i d,hi<=i->cs[i]? = some d->cY c d=false)/\m=hi-lo,⟨_,0,cs.length,none,by rw[Ab];rfl,rfl,Bw _,Ag _,(λi d hi=>absurd hi (Nat.not_lt_zero _)),(λi d hi e=>by rw[List.getElem?_eq_none hi]at e;cases e),rfl⟩,?_⟩;rintro m x B ⟨lo,hi,o,rfl,rfl,L,z,w,v,rfl⟩;refine⟨_,rfl,_,rfl,_,rfl,cP (λs=>?_) λs=>?_⟩
 .have q:=of_decide_eq_true s;refine⟨_,rfl,_,rfl,⟨by decide,by decide⟩,?_⟩;obtain⟨f,K⟩:∃f,f=(lo+hi)/2:=⟨_,rfl⟩;have F:((lo:Int)+(hi:Int))/2=(f:Nat):=by lia
  dsimp only;rw[F];obtain⟨d,hd⟩:∃d,cs[f]? = some d:=⟨_,Bj (by lia)⟩;refine⟨_,rfl,A.o,A.d,qf A,_,rfl,y,qU,_,rfl,.inl ⟨_,cW d,hc,gF (by rw[Av,hd];rfl),_,rfl,d.1,d.2,c.1,c.2,rfl,rfl,_,rfl,?_⟩⟩;have pg:∀i j a b,i<j->cs[i]? = some a->cs[j]? = some b->cY b a=true:=λi j a b u l t=>by
   obtain⟨J,E⟩:=Ap.mp l;obtain⟨D,H⟩:=Ap.mp t;rw[<-E,<-H];exact Kw.mp pw i j J D u
  show if cY c d=true then _ else _
  by_cases g:cY c d=true
  .rw[if_pos g];refine⟨_,rfl,_,_,?_,Sub.refl _,f+1,hi,_,rfl,rfl,by lia,z,λi e l n=>?_,v,rfl⟩
   .lia
   .by_cases p:i<f
    .exact sS g (Le.of_lt (pg i f e d p n hd))
    .have:i=f:=by lia
     rw[this,hd]at n;cases n;exact g
  .rw[if_neg g];refine⟨_,rfl,_,_,?_,Sub.refl _,lo,f,_,rfl,rfl,by lia,by lia,w,λi e l n=>?_,rfl⟩
   .lia
   .by_cases p:f<i
    .have G:=pg f i d e p hd n;cases I:cY c e with
     | false=>rfl
     | true=>exact absurd (sS I (Le.of_lt G)) g
    .have:i=f:=by lia
     rw[this,hd]at n;cases n;simpa using g
 .have q:=of_decide_eq_false s;have:lo=hi:=by lia
  subst this;refine⟨_,rfl,_,Sub.refl _,?_⟩;rw[<-NG (c:=c) (cs:=cs) (k:=lo) z w v];exact r
theorem zbV(h:v5 C ws M R):zby C (bI R) (bT zbx ws) M:=by
 obtain⟨M0,A,q,c,x,rfl,v,hl,r⟩:=h;have G:=vN c x q;have hf:=v.fall;have I:=A9 hf;have u:=NB (q:=q) (c:=c);have y:=AG c x hf;obtain⟨H,kvs,i,m,J⟩:=v.ex;refine⟨_,rfl,_,rfl,A.o,A.d,qf A,_,rfl,v.ob,qV,.inr ⟨_,.inr ⟨kvs,cK c,m.at_,zbo c,rfl⟩,_,rfl,?_⟩⟩;rw[m.look c];have l:∀j,wG (d8 c x q) j=if c=j then some (((aJ q c).getD []).map kQ++[kQ x]) else wG q j:=λj=>by
  show(aJ (d8 c x q) j).map _=_;rw[M8 c x j hf]
  by_cases g:c=j
  .rw[if_pos g,if_pos g,Lo,Bb];rfl
  .rw[if_neg g,if_neg g]
 cases t:aJ q c with
 | some xs=>
  have f:wG q c=some (xs.map kQ):=by show(aJ q c).map _=_;rw[t];rfl
  rw[f];rw[t]at u l;have u:xs.length<=(a9 q).length:=u;refine cP (λh=>nomatch (show false=true from h)) λ_=>?_;obtain⟨p,a,b⟩:=m.has f;have n:=NA c x hf (by rw[t];rfl);refine⟨_,rfl,A.o,A.d,qf A,_,rfl,v.ob,qV,_,rfl,oV m.at_ a ⟨iX b,_,rfl,_,b,eS (by rw[Ab];lia),_,Sub.refl _,r _ ⟨y,H,kvs,?_,(m.wr a).same l,?_⟩⟩⟩
  .rw[n];exact i
  .have:=congrArg Ec n;rw[Ab,Ab]at this;rw[this];exact J
 | none=>
  have f:wG q c=none:=by show(aJ q c).map _=_;rw[t];rfl
  rw[f];rw[t]at l;refine cP (λ_=>⟨Bw _,λp z=>?_⟩) λh=>nomatch (show true=false from h);have s:=m.add MZ (ws:=[]) f z;have E:A.o≠p:=λe=>by rw[<-e,v.ob]at z;cases z
  have w:((q.map (·.1)).map cW).length=q.length:=by rw[Ab,Ab]
  have D:=M9 c (q.map (·.1));rw[Ab]at D;refine⟨_,rfl,A.o,A.d,qf A,_,rfl,by rw[aQ E];exact v.ob,qV,_,rfl,sP (k:=cK c) (kvs:=kvs) (by rw[aQ (λe=>by rw[<-e,m.at_]at z;cases z)];exact m.at_) (eS (by lia)) ?_⟩;refine⟨_,rfl,A.o,A.d,qf A,_,rfl,s.sub _ _ i.ob,qU,iX (s.sub _ _ i.co),?_⟩;have B:=s.lift (p:=A.c) (o:=.lst ((((q.map (·.1)).take (pos c (q.map (·.1)))++c::(q.map (·.1)).drop (pos c (q.map (·.1)))).map cW))) (.inr ⟨_,i.co⟩);have F:=i.costs (cs':=(q.map (·.1)).take (pos c (q.map (·.1)))++c::(q.map (·.1)).drop (pos c (q.map (·.1))));refine⟨_,rfl,A.o,A.d,qf A,rfl,s.sub _ _ i.ob,zbp,_,rfl,A,q.map (·.1),c,rfl,s.sub _ _ i.ob,s.sub _ _ i.co,NF hf,by rw[Ab];lia,_,rfl,_,s.sub _ _ i.co,eS (by rw[w];lia),by lia,by rw[w];lia,?_⟩;have L:((q.map (·.1)).map cW).take (Int.toNat (pos c (q.map (·.1)):Nat))++cW c::((q.map (·.1)).map cW).drop (Int.toNat (pos c (q.map (·.1)):Nat))=(((q.map (·.1)).take (pos c (q.map (·.1)))++c::(q.map (·.1)).drop (pos c (q.map (·.1)))).map cW):=by
   rw[Dc,Bb,Aw,List.map_take,List.map_drop]
  rw[L];obtain⟨O,a,b⟩:=B.has (k:=c) (ws:=[]) (by rw[if_pos rfl]);refine⟨_,rfl,A.o,A.d,qf A,_,rfl,B.sub _ _ F.ob,qV,_,rfl,oV B.at_ a ⟨iX b,_,rfl,_,b,eS (by simp),_,Sub.refl _,r _ ⟨y,_,_,?_,(B.wr a).same (λj=>?_),?_⟩⟩⟩
  .rw[A8 c x hf (by rw[t];rfl)];exact F
  .rw[l j]
   by_cases g:c=j
   .rw[if_pos g,if_pos g];rfl
   .rw[if_neg g,if_neg g,if_neg g]
  .have K:=congrArg Ec (A8 c x hf (by rw[t];rfl));have N:=A7 kvs (cK c) (W.ref p);rw[Ab,Ak,Br,Ce,Ia,Ab]at K;lia
theorem zbW{C:Cc}{ws:List W}{M:Mm}{R:K3}(h:BD C ws M R):zbM C (bI R) (bT zbG ws) M:=by
 obtain⟨M0,A,q,c,x,E,rfl,t,ht,r⟩:=h;have hf:=t.fall;have ⟨_,_,_,e0,hf',_,_,_,_⟩:=oQ hf (λe=>by rw[e]at ht;cases ht);rw[ht]at e0;cases e0;obtain⟨F,kvs,u,w,B⟩:=t.ex;obtain⟨s,ys,g,l⟩:=NC hf ht;have a:∀e∈s,e.1≠c:=by rw[g]at hf;exact ND hf
 have z:wG q c=some (ys.map kQ++[kQ x]):=by
  show(aJ q c).map _=_;rw[g,v3 a,if_pos rfl,Lo,Bb];rfl
 obtain⟨p,f,n⟩:=w.has z;have hc:M A.c=some (.lst (((s.map (·.1)).map cW)++[cW c])):=by rw[t.co,g];simp
 refine⟨_,rfl,A.o,A.d,qf A,_,rfl,t.ob,qU,.inl ⟨_,_,hc,IK _ _,_,rfl,A.o,A.d,qf A,_,rfl,t.ob,qV,_,rfl,oV w.at_ f ⟨_,rfl,iX n,⟨_,_,n,_,rfl,.inl ⟨_,aR,_,rfl,?_⟩⟩⟩⟩⟩;have m:=w.wr (ws:=ys.map kQ) f;cases ys with
 | nil=>
  refine cP (λ_=>?_) λh=>nomatch (show true=false from h);have i:F A.c=some (.lst (((s.map (·.1)).map cW)++[cW c])):=by rw[u.co,g];simp
  have D:=u.costs (cs':=s.map (·.1));have v:=m.lift (p:=A.c) (o:=.lst ((s.map (·.1)).map cW)) (.inr ⟨_,i⟩);have G:=v.del (k:=c) MZ;refine⟨_,rfl,A.o,A.d,qf A,_,rfl,m.sub _ _ u.ob,qU,iX (m.sub _ _ i),_,_,m.sub _ _ i,_,rfl,A.o,A.d,qf A,_,rfl,v.sub _ _ D.ob,qV,tH v.at_,_,rfl,_,cK c,_,v.at_,rfl,f,?_⟩;refine⟨_,rfl,_,rfl,z2,_,Sub.refl _,r _ ⟨hf',_,_,?_,G.same (λj=>?_),?_⟩⟩
  .rw[l];exact D
  .show(aJ E j).map _=_;rw[l,if_pos (by rfl:([]:List (Nat×List Int)).isEmpty=true)]
   by_cases b:c=j
   .subst b;rw[if_pos rfl,qT a];rfl
   .rw[if_neg b,if_neg b];show _=(aJ q j).map _;rw[g,v3 a,if_neg b]
  .have H:=MY (kvs:=kvs) (k:=cK c) (by rw[f];rfl);rw[g,Ak,Bp]at B;rw[l,if_pos (by rfl:([]:List (Nat×List Int)).isEmpty=true)];lia
 | cons y ys=>
  refine cP (λh=>?_) λ_=>?_
  .have h:=of_decide_eq_true (show decide (((Ko kQ (y::ys)).length:Int)=0)=true from h);rw[Aw,Br]at h;lia
  refine⟨_,rfl,_,rfl,z2,_,Sub.refl _,r _ ⟨hf',_,_,?_,m.same (λj=>?_),?_⟩⟩
  .rw[l,if_neg (by simp)];rw[g]at u;simpa using u
  .show(aJ E j).map _=_;rw[l,if_neg (by simp),v3 a]
   by_cases b:c=j
   .rw[if_pos b,if_pos b];rfl
   .rw[if_neg b,if_neg b];show _=(aJ q j).map _;rw[g,v3 a,if_neg b]
  .rw[g]at B;rw[l,if_neg (by simp)];simpa using B
end Rg
namespace L3
open PySem PySem.Spec PyProof.Rows L2
section
variable {X:Cx}
def oW:R3:=λx y M R=>∃i j,x=.str i/\y=.str j/\i.length+j.length<=An/\R (.str (i++j)) M
def v7:R3:=λx y M R=>∃z n,x=.str z/\y=.int n/\z.length<=16/\-(2 ^ 63)<=n/\n<=1048576/\R (.str (Hc z n)) M
theorem qX:bC X (Dr .Add) (cM X.K oW):=by
 rintro a s b H x y v u Q I e g ⟨m,n,M,R,l,f,h,⟨i,j,rfl,rfl,d,c⟩,k⟩;exact UI a s b H _ _ v u Q I e g ⟨i,j,f.inv,h.inv,d,k.at l (.str _) c⟩
theorem BE:bC X (Dr .Mult) (cM X.K v7):=by
 rintro a s b H x y v u Q I e h ⟨m,o,M,R,l,f,i,⟨z,n,rfl,rfl,d,c,j,g⟩,k⟩;exact X0 a s b H _ _ v u Q I e h ⟨z,n,f.inv,i.inv,d,c,j,k.at l (.str _) g⟩
end
end L3
namespace Rg
open PySem PySem.Spec PyProof.Rows L2 L3
def v8:bF:=λws M R=>∃z g:Str,ws=[.str z,.str g]/\z.length<=1000/\R (.bl (mJ z g)) M
def BF:bF:=λws M R=>∃z:Str,ws=[.str z]/\z.length<=1000/\R (.bl (i5 z)) M
def kR:bF:=λws M R=>∃rs:List aI,ws=[.rl (rs.map bE)]/\rs.length<=400/\aY ((namesOf rs).map W.str) M R
def v9:bF:=λws M R=>∃(r:aI) (rs:List aI),ws=[.rl ((r::rs).map bE)]/\R (.str r.name) M
def BG:bF:=λws M R=>∃(r:aI) (ns:List Str),ws=[bE r,.rl (ns.map W.str)]/\0<=r.cost/\(∀t∈r.parts,t.length<=1000/\(i5 t=true->t∈ns))/\R .non M
def wA:bF:=λws M R=>∃(a:List W) (k:Int),(ws=[.sc a,.int k]\/ws=[.rl a,.int k])/\qK a/\0<=k/\∀i,R (.int i) M
def BH:bF:=λws M R=>∃c k:Int,ws=[.int c,.int k]/\0<=k/\k<=1000/\∀z:Int,0<=z->z<10 ^ 61->R (.int z) M
def tI:bF:=λws M R=>∃(c:Int) (a:List Int),ws=[.int c,.rl (a.map W.int)]/\a.length<=100/\(∀s∈a,0<s/\s<=10 ^ 59)/\∀b,Drawn b a->aY (b.map W.int) M R
def wB:bF:=λws M R=>∃(n m:Int) (g:Bool),ws=[.int n,.int m,.bl g]/\0<=m/\m<=12/\∀ts:List Str,ts.length=m.toNat->(∀t∈ts,sQ g t)->aY (ts.map W.str) M R
def BI:bF:=λws M R=>∃(c:Int) (b wds:List Str) (a:Int),ws=[.int c,.rl (b.map W.str),.rl (wds.map W.str),.int a]/\0<b.length/\b.length<=12/\wds.length=3/\0<=a/\a<=4/\∀r:aI,nS b wds r->(r.parts.length:Int)<=a->R (bE r) M
def BJ:bF:=λws M R=>∃(d:List W) (a b:Int),ws=[.rl d,.int a,.int b]/\qK d/\d.length<=40/\1<=a/\a<=12/\1<=b/\b<=4/\∀rs:List aI,nT rs->(∀r∈rs,(r.parts.length:Int)<=b)->(∃c wds:List Str,(c.length:Int)<=a/\wds.length=3/\(∀t∈c,lP t)/\(∀t∈wds,jK t)/\(∀r∈rs,nS c wds r)/\(∀t∈c,∃r∈rs,r.name=t)/\(rs.length:Int)<=d.length+a)->aY (rs.map bE) M R
abbrev zbX:List Str:=["text","signs"]
def zbY:aH:=
   (bU (sA (aD (rEq true) (aA 0) (vC (.str ""))) (bM zG (aB (b5 (d7 (cB cX (aA 0)) (bB 0) fL (aD (rIn false) (aA 0) (aA 1)) [none,some 1])) aE))))
abbrev zbZ:List Str:=["part","pieces","right_end"]
def zb0:aH:=
   (a5 1 (eQ "str" zR (aA 0) (aB (vC (.str "_")) aE)))
def zb1:aH:=
   (a5 2 (sC (aD (rEq false) (aD aV (aA 1) (vC (.int 1))) (vC (.str ""))) (bG v8 (aB (aD aV (aA 1) (vC (.int 2))) (aB (vC (.str "0123456789")) aE)))))
def NH:aH:=
   (bU (sA (aA 2) (bG v8 (aB (aD aV (aA 1) (vC (.int 0))) (aB (vC (.str "ABCDEFGHIJKLMNOPQRSTUVWXYZ")) aE)))))
def zb2:aH:=(aM zb0 (aM zb1 NH))
abbrev zb3:List Str:=["grammar","found","rule"]
def zb4:aH:=
   (a5 1 u7)
def zb5:aH:=
   (iV (vC (.bl true)) (kG (aA 1) (aD aV (aA 2) (vC (.int 0)))))
def zb6:aH:=
   (eR (cB cX (aA 0)) (bB 2) zb5)
def zb7:aH:=
   (bU (bM u5 (aB (aA 1) aE)))
def zb8:aH:=(aM zb4 (aM zb6 zb7))
abbrev zb9:List Str:=["grammar"]
def zca:aH:=
   (bU (aD aV (aD aV (aA 0) (vC (.int 0))) (vC (.int 0))))
abbrev zcb:List Str:=["rule","known","part"]
def zcc:aH:=
   (aM (cV (bP (aD oK (aD aV (aA 0) (vC (.int 2))) (vC (.int 0))))
    zQ
    dQ)
   (eR (cB cX (aD aV (aA 0) (vC (.int 1)))) (bB 2)
    (cV (kD (gA (bG BF (aB (aA 2) aE))) (bP (aD (rIn true) (aA 2) (aA 1))))
    zQ
    dQ)))
abbrev zcd:List Str:=["script","k"]
def zce:aH:=
   (aM (cV (bP (aD oK (aA 1) (bM dP (aB (aA 0) aE))))
    (bU (aD aV (aA 0) (aA 1)))
    dQ)
   (bU (vC (.int 0))))
abbrev zcf:List Str:=["cell","k","number"]
def zcg:aH:=
   (a5 2 (aD dY (aD dY (aD mU (aD iT (aA 0) (aD lL (vC (.int 10)) (vC (.int 40)))) (vC (.int 48271))) (aD mU (aD mU (aD lL (vC (.int 3)) (vC (.int 60))) (aD dY (aA 1) (vC (.int 1)))) (aD dY (aA 1) (vC (.int 1))))) (aA 1)))
def zch:aH:=
   (a5 2 (aD dY (aD mU (aA 2) (aA 2)) (aD mU (vC (.int 69621)) (aA 2))))
def zci:aH:=
   (bU (aD kF (aD iT (aD mU (aA 2) (aA 2)) (aD dY (aD lL (vC (.int 10)) (vC (.int 61))) (vC (.int 7)))) (vC (.int 8))))
def zcj:aH:=(aM zcg (aM zch zci))
abbrev zck:List Str:=["cell","sizes","found","rest","k"]
def zcl:aH:=
   (a5 2 (jE aE))
def zcm:aH:=
   (a5 3 (aD nN (aA 0) (aD lL (vC (.int 10)) (vC (.int 18)))))
def zcn:aH:=
   (cV (bP (aD KC (aA 0) (aD lL (vC (.int 10)) (vC (.int 18)))))
    (aM (dB (eQ "list" fU (aA 2) (aB (aD iT (aA 3) (aD aV (aA 1) (aA 4))) aE)))
   (a5 3 (aD kF (aA 3) (aD aV (aA 1) (aA 4)))))
    (dB (eQ "list" fU (aA 2) (aB (aD iT (bG BH (aB (aA 0) (aB (aA 4) aE))) (aD aV (aA 1) (aA 4))) aE))))
def zco:aH:=
   (eR (vA (aB (bM dP (aB (aA 1) aE)) aE)) (bB 4) zcn)
def zcp:aH:=
   (bU (aA 2))
def zcq:aH:=(aM zcl (aM zcm (aM zco zcp)))
abbrev zcr:List Str:=["number","many","great","letters","pad","size","at","first","found","k","sign"]
def zcs:aH:=
   (a5 3 (vC (.str "abcdefghijklmnopqrstuvwxyz")))
def zct:aH:=
   (cV (gA (aA 2))
    (a5 3 (oI "str" K8 (aA 3)))
    dQ)
def NI:aH:=
   (a5 4 (aD aV (aA 3) (aD iT (aA 0) (vC (.int 26)))))
def NJ:aH:=
   (a5 5 (aD dY (vC (.int 1)) (aD iT (aD kF (aA 0) (vC (.int 26))) (vC (.int 8)))))
def NK:aH:=
   (a5 6 (aD iT (aD kF (aA 0) (vC (.int 208))) (aA 5)))
def NL:aH:=
   (a5 7 (aD iT (aD kF (aA 0) (vC (.int 1664))) (vC (.int 26))))
def NM:aH:=
   (a5 8 (jE aE))
def zcu:aH:=
   (aM (a5 10 (aD aV (aA 3) (aD iT (aD dY (aA 7) (aD mU (vC (.int 3)) (aA 9))) (vC (.int 26)))))
   (aM (dB (eQ "list" fU (aA 8) (aB (aD oW (aD oW (aD v7 (aA 4) (aA 6)) (aA 10)) (aD v7 (aA 4) (aD nN (aD nN (aA 5) (aA 6)) (vC (.int 1))))) aE)))
   (cV (kD (gA (aA 2)) (kD (bP (aD (rEq false) (aD iT (aD kF (aA 0) (vC (.int 43264))) (vC (.int 3))) (vC (.int 1)))) (bP (aD (rEq false) (aD J8 (aD J7 (aD kF (aA 0) (vC (.int 129792))) (aA 9)) (vC (.int 1))) (vC (.int 1))))))
    (iV (aD oW (aD oW (aD aV (aA 8) (aA 9)) (vC (.str "_"))) (bM zF (aB (aD iT (aD kF (aA 0) (vC (.int 129792))) (vC (.int 10000))) aE))) (kG (aA 8) (aA 9)))
    dQ)))
def NN:aH:=
   (eR (vA (aB (aA 1) aE)) (bB 9) zcu)
def NO:aH:=
   (bU (aA 8))
def zcv:aH:=(aM zcs (aM zct (aM NI (aM NJ (aM NK (aM NL (aM NM (aM NN NO))))))))
abbrev zcw:List Str:=["cell","heads","words","most","drawn","parts","place"]
def zcx:aH:=
   (a5 4 (b5 (bG tI (aB (aA 0) (aB (aD dY (gV (aB (bM dP (aB (aA 1) aE)) (aB (aD dY (aA 3) (vC (.int 1))) (aB (vC (.int 3)) (aB (aD lL (vC (.int 10)) (vC (.int 59))) aE))))) (aD mU (gV (aB (vC (.int 6)) aE)) (aA 3))) aE)))))
def zcy:aH:=
   (a5 5 (jE aE))
def zcz:aH:=
   (cV (bP (aD oK (aA 6) (vC (.int 3))))
    (dB (eQ "list" fU (aA 5) (aB (aD aV (aA 2) (aA 6)) aE)))
    (dB (eQ "list" fU (aA 5) (aB (aD aV (aA 1) (aD iT (aD dY (aD nN (aA 6) (vC (.int 3))) (aD aV (aA 4) (vC (.int 0)))) (bM dP (aB (aA 1) aE)))) aE))))
def zcA:aH:=
   (eR (cB cX (vE (aA 4) (qE (vC (.int 4))) (qE (aD dY (vC (.int 4)) (aD aV (aA 4) (vC (.int 1))))))) (bB 6) zcz)
def zcB:aH:=
   (bU (bH (aB (aD aV (aA 1) (aD aV (aA 4) (vC (.int 0)))) (aB (bM u6 (aB (aA 5) aE)) (aB (aD iT (aD aV (aA 4) (vC (.int 3))) (aD aV (gV (aB (vC (.int 1)) (aB (vC (.int 10)) (aB (aD lL (vC (.int 10)) (vC (.int 59))) aE)))) (aD aV (aA 4) (vC (.int 2))))) aE)))))
def zcC:aH:=(aM zcx (aM zcy (aM zcA zcB)))
abbrev zcD:List Str:=["cells","many","most","one","other","heads","words","rules","name"]
def zcE:aH:=
   (iV (b5 (bG tI (aB (bG wA (aB (aA 0) (aB (vC (.int 0)) aE))) (aB (gV (aB (aD lL (vC (.int 10)) (vC (.int 9))) (aB (aD lL (vC (.int 10)) (vC (.int 9))) aE))) aE)))) (iD 2 (dD (bB 3) (dD (bB 4) iC))))
def zcF:aH:=
   (a5 5 (b5 (bG wB (aB (aA 3) (aB (aA 1) (aB (vC (.bl true)) aE))))))
def zcG:aH:=
   (a5 6 (b5 (bG wB (aB (aA 4) (aB (vC (.int 3)) (aB (vC (.bl false)) aE))))))
def zcH:aH:=
   (a5 7 (d7 (cB cX (vE (aA 0) (qE (vC (.int 1))) zB)) (bB 0) fL (bG BI (aB (aA 0) (aB (aA 1) (aB (aA 2) (aB (aA 3) aE))))) [none,some 5,some 6,some 2]))
def zcI:aH:=
   (cV (bP (aD (rIn true) (aA 8) (b5 (d7 (cB cX (aA 7)) (bB 0) fL (aD aV (aA 0) (vC (.int 0))) [none]))))
    (dB (eQ "list" fU (aA 7) (aB (bH (aB (aA 8) (aB (bH (aB (aD aV (aA 6) (vC (.int 0))) aE)) (aB (vC (.int 0)) aE)))) aE)))
    dQ)
def zcJ:aH:=
   (eR (cB cX (aA 5)) (bB 8) zcI)
def zcK:aH:=
   (bU (aA 7))
def zcL:aH:=(aM zcE (aM zcF (aM zcG (aM zcH (aM zcJ zcK)))))
end Rg
namespace L3
open PySem PySem.Spec PyProof.Rows L2
theorem zjR{n:Bool}:L3.rIn n (.str i) (.str j) M R=R (.bl (if n then !occ i j else occ i j)) M:=rfl
theorem zjS{n:Bool}:L3.rIn n (.str i) (.rl ws) M R=(fQ (.str i)=true/\ws.all fQ=true/\R (.bl (if n then !inW (.str i) ws else inW (.str i) ws)) M):=rfl
end L3
namespace Rg
open PySem PySem.Spec PyProof.Rows L2 L3
theorem zcM:∀ws M R,v8 ws M R->ws.length=2:=by rintro ws M R ⟨_,_,rfl,_⟩;rfl
theorem zcN:∀ws M R,BF ws M R->ws.length=1:=by rintro ws M R ⟨_,rfl,_⟩;rfl
theorem zcO:∀ws M R,kR ws M R->ws.length=1:=by rintro ws M R ⟨_,rfl,_⟩;rfl
theorem zcP:∀ws M R,v9 ws M R->ws.length=1:=by rintro ws M R ⟨_,_,rfl,_⟩;rfl
theorem zcQ:∀ws M R,BG ws M R->ws.length=2:=by rintro ws M R ⟨_,_,rfl,_⟩;rfl
theorem zcR:∀ws M R,wA ws M R->ws.length=2:=by rintro ws M R ⟨_,_,rfl|rfl,_⟩<;>rfl
theorem zcS:∀ws M R,BH ws M R->ws.length=2:=by rintro ws M R ⟨_,_,rfl,_⟩;rfl
theorem zcT:∀ws M R,tI ws M R->ws.length=2:=by rintro ws M R ⟨_,_,rfl,_⟩;rfl
theorem zcU:∀ws M R,wB ws M R->ws.length=3:=by rintro ws M R ⟨_,_,_,rfl,_⟩;rfl
theorem zcV:∀ws M R,BI ws M R->ws.length=4:=by rintro ws M R ⟨_,_,_,_,rfl,_⟩;rfl
theorem zcW:∀ws M R,BJ ws M R->ws.length=3:=by rintro ws M R ⟨_,_,_,rfl,_⟩;rfl
theorem BK(c:Nat)(g:Str):occ ⟨#[c]⟩ g=decide (c∈cs g):=StrLaws.found_one g c
theorem d9{b:Bool}{P Q:Prop}(a:b=true->P)(c:b=false->Q):if b=true then P else Q:=by cases b;exact c rfl;exact a rfl
theorem zcX{P Q:Prop}(h:P):if true=true then P else Q:=h
theorem zcY(h:v8 ws M R):zbY (bI R) (bT zbX ws) M:=by
 obtain⟨z,g,rfl,hz,r⟩:=h;have b:mJ z g=(!decide (z = "")&&(cs z).all λc=>decide (c∈cs g)):=by rw[<-uX];rfl
 refine⟨_,rfl,_,rfl,d9 (λa=>⟨_,rfl,oO (rest:=[some (.str g)]) (λw=>match w with|.str x=>.bl (occ x g)|_=>.non) (cJ (by rw[Ab];exact Ay (Fp (lC z)) (Ay hz (by decide)))) (λ_ _=>trivial) (λw hw e C sb d=>?_) (aY.frz ⟨(cs z).map λc=>decide (c∈cs g),?_,_,Sub.refl _,?_⟩)⟩) λa=>⟨_,Sub.refl _,?_⟩⟩
 .obtain⟨c,_,rfl⟩:=Am.mp hw;exact⟨_,rfl,_,rfl,d⟩
 .rw[b,show(!decide (z = ""))=false from a,Ms]at r;exact r
 .unfold bools;rw[Bo,Bo];exact Ff λc _=>congrArg W.bl (BK c g)
 .rw[b,show(!decide (z = ""))=true from a,Bool.true_and]at r;rw[List.all_map];exact r
theorem zcZ(z:Str):(Cp z "_").1.length<=z.length/\(Cp z "_").2.2.length<=z.length:=by
 have:=fact_partition z "_";exact⟨this.1,this.2.2⟩
theorem zc0(z:Str):i5 z=((decide ((Cp z "_").2.1 = "")||mJ (Cp z "_").2.2 mI)&&mJ (Cp z "_").1 h8):=by
 unfold i5;rw[uX]
theorem zc1(h:BF ws M R):zb2 (bI R) (bT zbZ ws) M:=by
 obtain⟨z,rfl,hz,r⟩:=h;obtain⟨d,c⟩:=zcZ z;rw[zc0 z]at r;have go:∀{b:Bool} {M:Mm},R (.bl (b&&mJ (Cp z "_").1 h8)) M->NH (bI R) [some (.str z),some (.tup [.str (Cp z "_").1,.str (Cp z "_").2.1,.str (Cp z "_").2.2]),some (.bl b)] M:=λ{b M} r=>⟨_,rfl,_,rfl,d9 (λa=>⟨_,rfl,_,rfl,_,_,rfl,Ay d hz,_,Sub.refl _,by rw[a]at r;exact r⟩) λa=>⟨_,Sub.refl _,by rw[a]at r;exact r⟩⟩
 exact⟨_,rfl,rfl,by decide +kernel,Ay hz (by decide),_,rfl,_,rfl,_,rfl,d9 (λa=>go (by rw[show decide ((Cp z "_").2.1 = "")=true from a]at r;exact r)) λa=>⟨_,rfl,_,rfl,_,_,rfl,Ay c hz,go (by rw[show decide ((Cp z "_").2.1 = "")=false from a]at r;exact r)⟩⟩
def cL(t:Str):aF×W:=(Sum.inr t,.bl true)
theorem wC(acc:List Str)(t:Str):b9 (acc.map cL) (Sum.inr t:aF) (.bl true)=(dE acc t).map cL:=by
 unfold b9 dE;have e:((acc.map cL).any λkv=>decide (kv.1=Sum.inr t))=decide (t∈acc):=by
  rw[Lx,Dv];simp[cL,Jp]
 rw[e]
 by_cases h:t∈acc
 .rw[if_pos (decide_eq_true h),if_pos h,Bo];refine Ff λu hu=>?_;simp[cL,Jp]
 .rw[if_neg (by simpa using h),if_neg h,Bb];rfl
theorem gZ{R:List W->(Mm->Prop)->Mm->Prop}(h:R ws (λ_=>True) M):cX (.rl ws) M R:=h
theorem zc2(h:kR ws M R):zb8 (bI R) (bT zb3 ws) M:=by
 obtain⟨rs,rfl,hl,r⟩:=h;refine λp g=>⟨_,rfl,gZ (eL (λi b d=>∃o,b=[some (.rl (rs.map bE)),some (.ref p),o]/\d=put M p (.dK ((namesOf (rs.take i)).map cL))) ⟨_,rfl,rfl⟩ (λ_ _ _ _ _=>trivial) ?_ ?_)⟩
 .rintro i w b d hw ⟨o,rfl,rfl⟩;rw[Av]at hw;obtain⟨q,a,rfl⟩:=Bd.mp hw;have hi:i<rs.length:=(Ap.mp a).1;have e:namesOf (rs.take (i+1))=dE (namesOf (rs.take i)) q.name:=by
   rw[Cu,a];unfold namesOf oP;simp
  have f:(namesOf (rs.take i)).length<=i:=by
   have:=vJ ((rs.take i).map aI.name) [];unfold namesOf oP;simp at this;simp;lia
  refine⟨_,rfl,_,rfl,_,rfl,z7 aR (by rw[Ab];exact eS (by lia)) ⟨_,Sub.refl _,_,rfl,?_⟩⟩;rw[eW,wC,e]
 .rintro b d ⟨o,rfl,rfl⟩;rw[Ab,Cd];refine⟨_,rfl,.inr ⟨_,aR,λq a=>?_⟩⟩;have c:q≠p:=λe=>by subst e;rw[aR]at a;cases a
  rw[aQ c]at a;refine⟨_,?_,r q a⟩;rw[Bo];exact Sub.put (Sub.new g)
theorem zc3(h:v9 ws M R):zca (bI R) (bT zb9 ws) M:=by
 obtain⟨q,rs,rfl,r⟩:=h;exact⟨_,rfl,_,gF (j:=0) rfl,_,rfl,_,Sub.refl _,r⟩
theorem oX{t:Str}{ts:List Str}:inW (.str t) (ts.map W.str)=decide (t∈ts):=by
 unfold inW;rw[Lx,Dv,Ib,decide_eq_true_eq];exact⟨λ⟨x,h,e⟩=>eq_of_beq (show(x==t)=true from e)▸h,λh=>⟨t,h,beq_self_eq_true t⟩⟩
theorem m8(ts:List Str):(ts.map W.str).all fQ=true:=by
 rw[List.all_map,Gd];intro t _;rfl
theorem zc4{ws:List W}{M:Mm}{R:K3}(h:BG ws M R):zcc (bI R) (bT zcb ws) M:=by
 obtain⟨q,ns,rfl,hc,g,r⟩:=h;refine⟨_,rfl,_,rfl,_,rfl,d9 (λd=>absurd (of_decide_eq_true d) (Int.not_lt.mpr hc)) λ_=>⟨_,rfl,_,rfl,?_⟩⟩;refine eL (ws:=q.parts.map W.str) (λi b c=>∃o,b=[some (bE q),some (.rl (ns.map W.str)),o]/\c=M) ⟨_,rfl,rfl⟩ (λ_ _ _ _ _=>trivial) ?_ ?_
 .rintro i w b c hw ⟨o,rfl,rfl⟩;obtain⟨t,ht,rfl⟩:=Am.mp (Au hw);obtain⟨f,e⟩:=g t ht;refine⟨_,rfl,t,rfl,f,d9 (λd=>⟨_,rfl,_,rfl,rfl,m8 ns,_,rfl,d9 (λa=>?_) λ_=>⟨_,Sub.refl _,_,rfl,rfl⟩⟩) λ_=>⟨_,Sub.refl _,_,rfl,rfl⟩⟩;rw[show(!inW (.str t) (ns.map W.str))=false by rw[oX,decide_eq_true (e d)];rfl]at a;cases a
 .rintro b c ⟨o,rfl,rfl⟩;exact⟨_,Sub.refl _,r⟩
theorem zc5(h:wA ws M R):zce (bI R) (bT zcd ws) M:=by
 obtain⟨a,k,e,hi,hk,r⟩:=h;have go:decide (k<a.length)=true->∃w,cA a k=some w/\∃b,L3.Sub b M/\R w b:=λhd=>by
  obtain⟨x,e,_,m⟩:=z5 hk (of_decide_eq_true hd);obtain⟨i,rfl⟩:=hi x m;exact⟨_,e,_,Sub.refl _,r i⟩
 rcases e with rfl|rfl
 .exact⟨_,rfl,_,rfl,_,rfl,d9 (λhd=>⟨_,rfl,_,rfl,go hd⟩) λ_=>⟨_,Sub.refl _,r 0⟩⟩
 .exact⟨_,rfl,_,rfl,_,rfl,d9 (λhd=>⟨_,rfl,_,rfl,go hd⟩) λ_=>⟨_,Sub.refl _,r 0⟩⟩
abbrev g7(c k:Int):Int:=c % 10 ^ 40*48271+3 ^ 60*(k+1)*(k+1)+k
theorem zc6(h:BH ws M R):zcj (bI R) (bT zcf ws) M:=by
 obtain⟨c,k,rfl,l,q,r⟩:=h;have f:(g7 c k).natAbs<2 ^ 200:=X9 (a:=c % 10 ^ 40) (k:=k) (Ey _ (by decide)) (Dz _ (by decide)) l q;have j:(g7 c k*g7 c k).natAbs<2 ^ 400:=JP f f;have o:(69621*g7 c k:Int).natAbs<2 ^ 400:=yR (JP (m:=17) (i:=69621) (by decide) f) (by decide);have n:(g7 c k*g7 c k+69621*g7 c k).natAbs<2 ^ 401:=YA j o;have e:(g7 c k).natAbs<2 ^ 4096:=yR f (by decide);have d:(g7 c k*g7 c k+69621*g7 c k).natAbs<2 ^ 4096:=yR n (by decide);have b:(0:Int)<10 ^ (61:Int).toNat+7:=by decide
 refine⟨_,rfl,⟨by decide,by decide,by decide⟩,(by decide:(0:Int)<10 ^ (40:Int).toNat),.inl (.inr ⟨by decide,by decide⟩),⟨by decide,by decide,by decide⟩,_,rfl,.inl (.inr ⟨by lia,by lia⟩),_,rfl,.inl (.inr ⟨by lia,by lia⟩),_,rfl,_,rfl,_,rfl,.inr ⟨e,e⟩,_,rfl,.inl (.inl ⟨by decide,by decide⟩),_,rfl,_,rfl,.inr ⟨d,d⟩,⟨by decide,by decide,by decide⟩,b,⟨by decide,by decide⟩,_,Sub.refl _,r _ ?_ ?_⟩
 .exact Int.ediv_nonneg (Ey _ (Int.ne_of_gt b)) (by decide)
 .have g:=Dz ((g7 c k*g7 c k+69621*g7 c k)*(g7 c k*g7 c k+69621*g7 c k)) b;have p:(10:Int) ^ (61:Int).toNat+7=10 ^ 61+7:=rfl;rw[p]at g;refine Int.ediv_lt_of_lt_mul (by decide) ?_;refine Int.lt_trans g (by decide)
def eK(k:Str×Int):List aF:=[Sum.inr k.1,Sum.inl k.2]
def j5(z:Int×aL):W:=.tup [.int z.1,cW z.2]
def j6(y:b8):W:=.tup [.int y.1,gL y.2.1,cW y.2.2]
def lU(k:K4):List aF:=[Sum.inl k.1,Sum.inl k.2.1,Sum.inl k.2.2.1,Sum.inl k.2.2.2]
def fK(f:bJ):List aF:=[Sum.inr f.1,Sum.inl f.2.1,Sum.inl f.2.2]
def fR(e:aL×Nat×List Int):W:=.tup [cW e.1,.int e.2.1,gL e.2.2]
theorem NQ:∀a b:Str×Int,eK a=eK b->a=b:=λa b h=>by
 unfold eK at h;simp only[Ct,Kt,Mo,and_true]at h;exact Lj h.1 h.2
theorem wF:∀a b:K4,lU a=lU b->a=b:=λa b h=>by
 unfold lU at h;simp only[Ct,Kt,and_true,Int.natCast_inj]at h;obtain⟨n,o,i,k⟩:=a;obtain⟨j,g,m,l⟩:=b;simp only at h;obtain⟨e,c,d,f⟩:=h;rw[e,c,d,f]
theorem nW:∀a b:bJ,fK a=fK b->a=b:=λa b h=>by
 unfold fK at h;simp only[Ct,Kt,Mo,and_true]at h;obtain⟨k,l,g⟩:=a;obtain⟨i,f,j⟩:=b;simp only at h;obtain⟨e,c,d⟩:=h;rw[e,c,d]
section
variable {κ β:Type}[DecidableEq κ]{kk:κ->List aF}{f:β->W}
abbrev eA(kk:κ->List aF)(f:β->W)(t:List (κ×β)):List (List aF×W):=t.map λe=>(kk e.1,f e.2)
theorem nX(c:∀a b,kk a=kk b->a=b)(t:List (κ×β))(k:κ):aX (eA kk f t) (kk k)=(aJ t k).map f:=by
 induction t with
 | nil=>rfl
 | cons e t d=>
  show aX ((kk e.1,f e.2)::eA kk f t) (kk k)=_;rw[nV,dG,d]
  by_cases h:e.1=k
  .rw[if_pos (by rw[h]),if_pos h];rfl
  .rw[if_neg (λz=>h (c _ _ z)),if_neg h]
theorem BL(c:∀a b,kk a=kk b->a=b)(t:List (κ×β))(k:κ)(v:β):b9 (eA kk f t) (kk k) (f v)=eA kk f (dS t k v):=by
 unfold b9 dS;rw[show((eA kk f t).any λd=>decide (d.1=kk k))=(aX (eA kk f t) (kk k)).isSome from lR _ _,nX c,lR];cases aJ t k with
 | none=>simp
 | some w=>
  simp only[Lo,Option.isSome_some,if_true,Bo];apply Ff;intro e _;simp only[Jp]
  by_cases h:e.1=k
  .rw[if_pos (by rw[h]),if_pos h]
  .rw[if_neg (λz=>h (c _ _ z)),if_neg h]
end
structure Env where
 rs:List aI
 own:List (aF×W)
 stp:List (List aF×W)
structure Ad where
 s:Addr
 d:Addr
 Q:Aq
 r:Addr
 b:Addr
 e:Addr
 g:Addr
def sf(E:Env)(A:Ad):List (Str×W):=[("grammar",(cI E.rs)),("own",(.dk E.own)),("steps",(.dt E.stp)),("queue",(.ref A.Q.o)),("reached",(.ref A.r)),("best",(.ref A.b)),("ends",(.ref A.e)),("begun",(.ref A.g))]
theorem NR:Cb ("grammar" : Str) (sf E A)=some (cI E.rs):=by kernel_rfl
theorem zc7:Cb ("own" : Str) (sf E A)=some (W.dk E.own):=by kernel_rfl
theorem zc8:Cb ("steps" : Str) (sf E A)=some (W.dt E.stp):=by kernel_rfl
theorem BM:Cb ("queue" : Str) (sf E A)=some (W.ref A.Q.o):=by kernel_rfl
theorem wH:Cb ("reached" : Str) (sf E A)=some (W.ref A.r):=by kernel_rfl
theorem BN:Cb ("best" : Str) (sf E A)=some (W.ref A.b):=by kernel_rfl
theorem NS:Cb ("ends" : Str) (sf E A)=some (W.ref A.e):=by kernel_rfl
theorem NT:Cb ("begun" : Str) (sf E A)=some (W.ref A.g):=by kernel_rfl
theorem wI:Cb ("reach" : Str) (sf E A)=none:=by kernel_rfl
theorem zc9:Cb ("take_next" : Str) (sf E A)=none:=by kernel_rfl
theorem zda:Cb ("step_by_name" : Str) (sf E A)=none:=by kernel_rfl
theorem zdb:Cb ("settle" : Str) (sf E A)=none:=by kernel_rfl
structure Mn(C:Cc)(E:Env)(M0 M:Mm)(A:Ad)(rc:List (K4×aL))(bs:bL):Prop where
 sub:L3.Sub M0 M
 ns:M0 A.s=none
 nr:M0 A.r=none
 nb:M0 A.b=none
 sr:A.s≠A.r
 sb:A.s≠A.b
 rb:A.r≠A.b
 os:M A.s=some (.ins C.s A.d (sf E A))
 or:M A.r=some (.dT (eA lU cW rc))
 ob:M A.b=some (.dT (eA fK fR bs))
abbrev eG(t:List ((Str×Int)×List (Int×aL))):Str×Int->Option (List W):=λk=>(aJ t k).map λxs=>xs.map j5
abbrev gG(t:List ((Str×Int)×List b8)):Str×Int->Option (List W):=λk=>(aJ t k).map λxs=>xs.map j6
def Kept(M:Mm):Option (Addr×List W)->Prop
 | none=>True
 | some x=>M x.1=some (.lst x.2)
structure SK(C:Cc)(E:Env)(M0 M:Mm)(A:Ad)(st:SS)(kp:Option (Addr×List W)):Prop where
 ex:∃M1 M2 M3 e g,Mn C E M0 M1 A st.reached st.best/\eT eK M1 M2 A.e e (eG st.ends)/\eT eK M2 M3 A.g g (gG st.begun)/\QR C M3 M A.Q st.q/\e.length<=st.ends.length/\g.length<=st.begun.length/\Kept M3 kp
abbrev SR(C:Cc)(E:Env)(M0 M:Mm)(A:Ad)(st:SS):Prop:=SK C E M0 M A st none
section
variable {C:Cc}{E:Env}{M0 M:Mm}{A:Ad}{st:SS}{kp:Option (Addr×List W)}
theorem SK.os(h:SK C E M0 M A st kp):M A.s=some (.ins C.s A.d (sf E A)):=by
 obtain⟨j,i,k,e,g,c,a,b,f,_⟩:=h.ex;exact f.sub _ _ (b.sub _ _ (a.sub _ _ c.os))
theorem SK.or(h:SK C E M0 M A st kp):M A.r=some (.dT (eA lU cW st.reached)):=by
 obtain⟨i,f,j,e,g,c,a,b,d,_⟩:=h.ex;exact d.sub _ _ (b.sub _ _ (a.sub _ _ c.or))
theorem SK.ob(h:SK C E M0 M A st kp):M A.b=some (.dT (eA fK fR st.best)):=by
 obtain⟨j,i,k,e,g,d,a,c,f,_⟩:=h.ex;exact f.sub _ _ (c.sub _ _ (a.sub _ _ d.ob))
theorem SK.fall(h:SK C E M0 M A st kp):iG st.q:=by
 obtain⟨d,b,j,e,g,i,c,f,a,_⟩:=h.ex;exact a.fall
theorem SK.free(h:SK C E M0 M A st kp):SR C E M0 M A st:=by
 obtain⟨f,a,l,e,g,j,b,i,k,d,c,_⟩:=h.ex;exact⟨f,a,l,e,g,j,b,i,k,d,c,trivial⟩
theorem SK.kept(h:SK C E M0 M A st (some (p,ws))):M p=some (.lst ws):=by
 obtain⟨j,c,m,e,g,l,d,k,b,i,f,a⟩:=h.ex;exact b.sub _ _ a
theorem Mn.rput(h:Mn C E M0 b A c bs)(a:List (K4×aL)):Mn C E M0 (put b A.r (.dT (eA lU cW a))) A a bs:=
 ⟨iI h.sub h.nr,h.ns,h.nr,h.nb,h.sr,h.sb,h.rb,by rw[aQ h.sr];exact h.os,aR,by rw[aQ (Bz h.rb)];exact h.ob⟩
theorem Mn.bput(h:Mn C E M0 d A c bs)(a:bL):Mn C E M0 (put d A.b (.dT (eA fK fR a))) A c a:=
 ⟨iI h.sub h.nb,h.ns,h.nr,h.nb,h.sr,h.sb,h.rb,by rw[aQ h.sb];exact h.os,by rw[aQ h.rb];exact h.or,aR⟩
theorem SK.rput(h:SK C E M0 M A st kp)(a:List (K4×aL)):SK C E M0 (put M A.r (.dT (eA lU cW a))) A {st with reached:=a} kp:=by
 obtain⟨p,o,k,e,g,c,d,i,n,m,l,b⟩:=h.ex;have f:=d.sub _ _ c.or;have j:=i.sub _ _ f;refine⟨_,_,_,e,g,c.rput a,d.lift (.inr ⟨_,c.or⟩),i.lift (.inr ⟨_,f⟩),n.lift (.inr ⟨_,j⟩),m,l,?_⟩;cases kp with
 | none=>trivial
 | some x=>
  have b:k x.1=some (.lst x.2):=b;show put k A.r _ x.1=some (.lst x.2);rw[aQ (λz=>by rw[z,j]at b;cases b)];exact b
theorem SK.bput(h:SR C E M0 M A st)(a:bL):SR C E M0 (put M A.b (.dT (eA fK fR a))) A {st with best:=a}:=by
 obtain⟨p,n,q,e,g,c,d,i,m,k,j,o⟩:=h.ex;have f:=d.sub _ _ c.ob;have l:=i.sub _ _ f;exact⟨_,_,_,e,g,c.bput a,d.lift (.inr ⟨_,c.ob⟩),i.lift (.inr ⟨_,f⟩),m.lift (.inr ⟨_,l⟩),k,j,trivial⟩
theorem SK.que(h:SK C E M0 M A st kp):∃a,QR C a M A.Q st.q/\∀c b,QR C a c A.Q b->SK C E M0 c A {st with q:=b} kp:=by
 obtain⟨l,d,a,e,g,o,f,n,p,k,i,j⟩:=h.ex;exact⟨a,p,λc b m=>⟨l,d,a,e,g,o,f,n,m,k,i,j⟩⟩
theorem NU{κ β:Type}[DecidableEq κ]{t:List (κ×β)}{k:κ}{v:β}(h:(aJ t k).isSome=true):(dS t k v).length=t.length:=by
 unfold dS;rw[lR,if_pos h,Ab]
theorem wJ{κ β:Type}[DecidableEq κ]{t:List (κ×β)}{k:κ}{v:β}(h:aJ t k=none):dS t k v=t++[(k,v)]:=by
 unfold dS;rw[lR,h,if_neg (by simp)]
theorem wL{a:Type}(f:a->W)(t:List ((Str×Int)×List a))(k:Str×Int)(z:a)(j:Str×Int):((aJ (e9 t k z) j).map λxs=>xs.map f)=if k=j then some (((aJ t k).getD []).map f++[f z]) else(aJ t j).map λxs=>xs.map f:=by
 unfold e9;rw[mY]
 by_cases h:k=j
 .rw[if_pos h,if_pos h,Lo,Bb];rfl
 .rw[if_neg h,if_neg h]
theorem SK.epush(h:SR C E M0 M A st){k:Str×Int}{z:Int×aL}{R:K3}(S:st.ends.length<10000000)(hl:((aJ st.ends k).getD []).length<10000000)(r:∀F,SR C E M0 F A {st with ends:=e9 st.ends k z}->R .non F):
  ∃kvs,M A.e=some (.dT kvs)/\kvs.length<An/\∀p,M p=none->put M p (.lst []) A.e=some (.dT kvs)/\(∀w,aX kvs (eK k)=some w->mO "list" w (put M p (.lst []))/\fU w [j5 z] (put M p (.lst [])) R)/\
   (aX kvs (eK k)=none->mO "list" (.ref p) (put (put M p (.lst [])) A.e (.dT (b9 kvs (eK k) (.ref p))))/\fU (.ref p) [j5 z] (put (put M p (.lst [])) A.e (.dT (b9 kvs (eK k) (.ref p)))) R):=by
 obtain⟨Q,K,U,e,g,D,b,l,x,N,H,T⟩:=h.ex;have v:M A.e=some (.dT e):=x.sub _ _ (l.sub _ _ b.at_);refine⟨e,v,eS (by lia),λp f=>⟨by rw[aQ (λz=>by rw[<-z,v]at f;cases f)];exact v,λw hw=>?_,λhw=>?_⟩⟩
 .obtain⟨xs,c⟩:∃xs,aJ st.ends k=some xs:=by
   cases q:aJ st.ends k with
   | none=>have:=b.non k (by show(aJ _ _).map _=_;rw[q];rfl);rw[hw]at this;cases this
   | some xs=>exact⟨_,rfl⟩
  have i:eG st.ends k=some (xs.map j5):=by show(aJ _ _).map _=_;rw[c];rfl
  obtain⟨J,a,m⟩:=b.has i;rw[hw]at a;cases a;have t:=l.sub _ _ m;have s:=x.more (o:=.lst []) f;have n:=s.sub _ _ t;rw[c]at hl;refine⟨iX n,_,n,eS (by rw[Ab];exact hl),r _ ⟨_,_,_,e,g,D,(b.wr (ws:=xs.map j5++[j5 z]) hw).same λj=>?_,l.lift (.inr ⟨_,m⟩),s.lift (.inr ⟨_,t⟩),?_,H,trivial⟩⟩
  .refine(wL _ _ k z j).trans ?_;rw[c];rfl
  .show _<=(dS _ _ _).length;rw[NU (by rw[c];rfl)];exact N
 .have c:aJ st.ends k=none:=by
   cases q:aJ st.ends k with
   | none=>rfl
   | some xs=>obtain⟨J,a,_⟩:=b.has (k:=k) (ws:=xs.map j5) (by show(aJ _ _).map _=_;rw[q];rfl);rw[hw]at a;cases a
  have i:eG st.ends k=none:=by show(aJ _ _).map _=_;rw[c];rfl
  have B:=x.sub.non f;have O:=l.sub.non B;have P:=b.add NQ (ws:=[]) i O;have d:p≠A.e:=λz=>by rw[z,v]at f;cases f
  have G:=(l.lift (o:=.lst []) (.inl B)).lift (p:=A.e) (o:=.dT (b9 e (eK k) (.ref p))) (.inr ⟨.dT e,by rw[aQ (Bz d)];exact b.at_⟩);have I:=(x.lift (o:=.lst []) (.inl f)).lift (p:=A.e) (o:=.dT (b9 e (eK k) (.ref p))) (.inr ⟨.dT e,by rw[aQ (Bz d)];exact l.sub _ _ b.at_⟩);have L:aX (b9 e (eK k) (.ref p)) (eK k)=some (.ref p):=by rw[oU,if_pos rfl]
  have y:put (put K p (.lst [])) A.e (.dT (b9 e (eK k) (.ref p))) p=some (.lst []):=by rw[aQ d,aR]
  have t:=G.sub _ _ y;have n:=I.sub _ _ t;refine⟨iX n,_,n,eS (by simp),r _ ⟨_,_,_,_,g,D,(P.wr (ws:=[j5 z]) L).same λj=>?_,G.lift (.inr ⟨_,y⟩),I.lift (.inr ⟨_,t⟩),?_,H,trivial⟩⟩
  .refine(wL _ _ k z j).trans ?_;rw[c]
   by_cases u:k=j
   .rw[if_pos u,if_pos u];rfl
   .rw[if_neg u,if_neg u,if_neg u]
  .show _<=(dS _ _ _).length;rw[wJ c,Ak,Bp];have:=A7 e (eK k) (W.ref p);lia
theorem SK.gpush(h:SR C E M0 M A st){k:Str×Int}{z:b8}{R:K3}(O:st.begun.length<10000000)(hl:((aJ st.begun k).getD []).length<10000000)(r:∀B,SR C E M0 B A {st with begun:=e9 st.begun k z}->R .non B):
  ∃kvs,M A.g=some (.dT kvs)/\kvs.length<An/\∀p,M p=none->put M p (.lst []) A.g=some (.dT kvs)/\(∀w,aX kvs (eK k)=some w->mO "list" w (put M p (.lst []))/\fU w [j6 z] (put M p (.lst [])) R)/\
   (aX kvs (eK k)=none->mO "list" (.ref p) (put (put M p (.lst [])) A.g (.dT (b9 kvs (eK k) (.ref p))))/\fU (.ref p) [j6 z] (put (put M p (.lst [])) A.g (.dT (b9 kvs (eK k) (.ref p)))) R):=by
 obtain⟨N,Q,J,e,g,y,x,f,u,D,L,P⟩:=h.ex;have t:M A.g=some (.dT g):=u.sub _ _ f.at_;refine⟨g,t,eS (by lia),λp c=>⟨by rw[aQ (λz=>by rw[<-z,t]at c;cases c)];exact t,λw hw=>?_,λhw=>?_⟩⟩
 .obtain⟨xs,b⟩:∃xs,aJ st.begun k=some xs:=by
   cases q:aJ st.begun k with
   | none=>have:=f.non k (by show(aJ _ _).map _=_;rw[q];rfl);rw[hw]at this;cases this
   | some xs=>exact⟨_,rfl⟩
  have d:gG st.begun k=some (xs.map j6):=by show(aJ _ _).map _=_;rw[b];rfl
  obtain⟨H,a,i⟩:=f.has d;rw[hw]at a;cases a;have n:=u.more (o:=.lst []) c;have m:=n.sub _ _ i;rw[b]at hl;refine⟨iX m,_,m,eS (by rw[Ab];exact hl),r _ ⟨_,_,_,e,g,y,x,(f.wr (ws:=xs.map j6++[j6 z]) hw).same λj=>?_,n.lift (.inr ⟨_,i⟩),D,?_,trivial⟩⟩
  .refine(wL _ _ k z j).trans ?_;rw[b];rfl
  .show _<=(dS _ _ _).length;rw[NU (by rw[b];rfl)];exact L
 .have b:aJ st.begun k=none:=by
   cases q:aJ st.begun k with
   | none=>rfl
   | some xs=>obtain⟨H,a,_⟩:=f.has (k:=k) (ws:=xs.map j6) (by show(aJ _ _).map _=_;rw[q];rfl);rw[hw]at a;cases a
  have d:gG st.begun k=none:=by show(aJ _ _).map _=_;rw[b];rfl
  have G:=u.sub.non c;have I:=f.add NQ (ws:=[]) d G;have l:p≠A.g:=λz=>by rw[z,t]at c;cases c
  have F:=(u.lift (o:=.lst []) (.inl c)).lift (p:=A.g) (o:=.dT (b9 g (eK k) (.ref p))) (.inr ⟨.dT g,by rw[aQ (Bz l)];exact f.at_⟩);have K:aX (b9 g (eK k) (.ref p)) (eK k)=some (.ref p):=by rw[oU,if_pos rfl]
  have v:put (put J p (.lst [])) A.g (.dT (b9 g (eK k) (.ref p))) p=some (.lst []):=by rw[aQ l,aR]
  have m:=F.sub _ _ v;refine⟨iX m,_,m,eS (by simp),r _ ⟨_,_,_,e,_,y,x,(I.wr (ws:=[j6 z]) K).same λj=>?_,F.lift (.inr ⟨_,v⟩),D,?_,trivial⟩⟩
  .refine(wL _ _ k z j).trans ?_;rw[b]
   by_cases s:k=j
   .rw[if_pos s,if_pos s];rfl
   .rw[if_neg s,if_neg s,if_neg s]
  .show _<=(dS _ _ _).length;rw[wJ b,Ak,Bp];have:=A7 g (eK k) (W.ref p);lia
theorem SK.ends_at(h:SR C E M0 M A st)(k:Str×Int):∃kvs,M A.e=some (.dT kvs)/\((aX kvs (eK k)=none/\aJ st.ends k=none)\/∃p xs,aX kvs (eK k)=some (.ref p)/\aJ st.ends k=some xs/\SK C E M0 M A st (some (p,xs.map j5))):=by
 obtain⟨m,i,o,e,g,n,a,d,f,l,j,r⟩:=h.ex;refine⟨e,f.sub _ _ (d.sub _ _ a.at_),?_⟩;cases q:aJ st.ends k with
 | none=>exact .inl ⟨a.non k (by show(aJ _ _).map _=_;rw[q];rfl),rfl⟩
 | some xs=>
  obtain⟨p,b,c⟩:=a.has (k:=k) (ws:=xs.map j5) (by show(aJ _ _).map _=_;rw[q];rfl);exact .inr ⟨p,xs,b,rfl,m,i,o,e,g,n,a,d,f,l,j,d.sub _ _ c⟩
theorem SK.begun_at(h:SR C E M0 M A st)(k:Str×Int):∃kvs,M A.g=some (.dT kvs)/\((aX kvs (eK k)=none/\aJ st.begun k=none)\/∃p xs,aX kvs (eK k)=some (.ref p)/\aJ st.begun k=some xs/\SK C E M0 M A st (some (p,xs.map j6))):=by
 obtain⟨m,f,o,e,g,n,i,a,d,l,j,r⟩:=h.ex;refine⟨g,d.sub _ _ a.at_,?_⟩;cases q:aJ st.begun k with
 | none=>exact .inl ⟨a.non k (by show(aJ _ _).map _=_;rw[q];rfl),rfl⟩
 | some xs=>
  obtain⟨p,b,c⟩:=a.has (k:=k) (ws:=xs.map j6) (by show(aJ _ _).map _=_;rw[q];rfl);exact .inr ⟨p,xs,b,rfl,m,f,o,e,g,n,i,a,d,l,j,c⟩
theorem SK.eput(h:SR C E M0 M A st){b:Int}(m:c[0]? = some (some (.ref A.s)))(l:∀a Q,Q (W.tup [.str nm,.int b]) a->tk c a Q)(j:∀a Q,Q [j5 z] a->t c a Q)(e:st.ends.length<10000000)(hl:((aJ st.ends (nm,b)).getD []).length<10000000)(r:∀i,SR C E M0 i A {st with ends:=e9 st.ends (nm,b) z}->R .non i):
  eQ "list" fU (eQ "dict" tE (cZ C.s (aA 0) "ends") (aB tk (aB (jE aE) aE))) t c M R:=by
 obtain⟨kvs,q,k,o⟩:=h.epush e hl r;refine⟨_,m,A.s,A.d,_,_,rfl,h.os,NS,tH q,l _ _ ⟨Bw _,λp n=>?_⟩⟩;obtain⟨u,g,f⟩:=o p n;exact⟨kvs,eK (nm,b),u,rfl,k,λw hw=>⟨(g w hw).1,j _ _ (g w hw).2⟩,λe=>⟨(f e).1,j _ _ (f e).2⟩⟩
theorem SK.gput(h:SR C E M0 M A st){b:Int}(m:c[0]? = some (some (.ref A.s)))(l:∀a Q,Q (W.tup [.str nm,.int b]) a->tk c a Q)(j:∀a Q,Q [j6 z] a->t c a Q)(e:st.begun.length<10000000)(hl:((aJ st.begun (nm,b)).getD []).length<10000000)(r:∀i,SR C E M0 i A {st with begun:=e9 st.begun (nm,b) z}->R .non i):
  eQ "list" fU (eQ "dict" tE (cZ C.s (aA 0) "begun") (aB tk (aB (jE aE) aE))) t c M R:=by
 obtain⟨kvs,q,k,o⟩:=h.gpush e hl r;refine⟨_,m,A.s,A.d,_,_,rfl,h.os,NT,tH q,l _ _ ⟨Bw _,λp n=>?_⟩⟩;obtain⟨u,g,f⟩:=o p n;exact⟨kvs,eK (nm,b),u,rfl,k,λw hw=>⟨(g w hw).1,j _ _ (g w hw).2⟩,λe=>⟨(f e).1,j _ _ (f e).2⟩⟩
end
def m9:bF:=λws M R=>∃ts:List Str,ws=[.rl (ts.map W.str)]/\ts.length<=400/\R (.dk ((ts.foldl dE []).map cL)) M
def ownOf(rs:List aI):List (aF×W):=((namesOf rs).foldl dE []).map cL
def wM:bF:=λws M R=>∃a b:aL,ws=[cW a,cW b]/\R (cW (eN a b)) M
structure Sm(st:SS)(k:Nat):Prop where
 q:(a9 st.q).length+k<10000000
 r:st.reached.length+k<10000000
def qY(C:Cc):bF:=λws M R=>∃(E:Env) (M0:Mm) (A:Ad) (st:SS) (n:Nat) (cut:List Int) (c:aL) (kp:Option (Addr×List W)),ws=[.ref A.s,.int n,gL cut,cW c]/\SK C E M0 M A st kp/\cut≠[]/\Sm st 1/\∀a,SK C E M0 a A (reach st n cut c) kp->R .non a
def BO(C:Cc):bF:=λws M R=>∃(E:Env) (M0:Mm) (A:Ad) (st:SS) (n:Nat) (cut:List Int) (c:aL) (a:Str),ws=[.ref A.s,.int n,gL cut,cW c,.tup [.str a,.int (cut.getLastD 0)]]/\SR C E M0 M A st/\cut≠[]/\cut.length<1000/\Sm st ((aJ st.ends (a,cut.getLastD 0)).getD []).length/\st.begun.length<10000000/\((aJ st.begun (a,cut.getLastD 0)).getD []).length<10000000/\∀b,SR C E M0 b A (fV st n cut c a)->R .non b
def BP(C:Cc):bF:=λws M R=>∃(G:Sr) (E:Env) (M0:Mm) (A:Ad) (st:SS) (n:Nat) (cut:List Int) (c:aL),ws=[.ref A.s,.int n,gL cut,cW c]/\SR C E M0 M A st/\G.rs=E.rs/\n<E.rs.length/\cut≠[]/\(∀key,∀y∈(aJ st.begun key).getD [],y.2.1.length<1000/\y.2.1≠[])/\Sm st ((aJ st.begun (cN G n,cut.headD 0)).getD []).length/\st.best.length<10000000/\st.ends.length<10000000/\((aJ st.ends (cN G n,cut.headD 0)).getD []).length<10000000/\∀a,SR C E M0 a A (settle G st n cut c)->R .non a
structure NV(G:Sr)(E:Env):Prop where
 rs:G.rs=E.rs
 own:∀t,(aX E.own (Sum.inr t:aF)).isSome=G.own t
 stp:∀t p,(aX E.stp (eK (t,p))=none/\G.steps t p=[])\/aX E.stp (eK (t,p))=some (.rl ((G.steps t p).map λz=>.tup [.int z.1,.int z.2]))
structure Rm(G:Sr)(st:SS):Prop where
 item:∀c n cut q',iW st.q=some (c,(n,cut),q')->cut≠[]/\cut.length<1000/\n<G.rs.length/\∃d,aJ st.reached (bR n cut)=some d
 bg:∀key,∀y∈(aJ st.begun key).getD [],y.2.1.length<1000/\y.2.1≠[]
 b:st.best.length<10000000
 e:st.ends.length<10000000
 g:st.begun.length<10000000
 el:∀key,((aJ st.ends key).getD []).length<10000000/\Sm st ((aJ st.ends key).getD []).length
 gl:∀key,((aJ st.begun key).getD []).length<10000000/\Sm st ((aJ st.begun key).getD []).length
 sl:∀t p,Sm st (G.steps t p).length
def BQ(C:Cc):bF:=λws M R=>∃(G:Sr) (E:Env) (M0:Mm) (A:Ad) (st:SS),ws=[.ref A.s]/\SR C E M0 M A st/\NV G E/\st.q≠[]/\Rm G st/\∀a,SR C E M0 a A (kN G st)->R .non a
def BR(C:Cc):bF:=λws M R=>∃(M0:Mm) (s dx:Addr) (rs:List aI) (stp:List (List aF×W)),ws=[.ref s,cI rs,.dt stp]/\rs.length<=100/\M=put M0 s (.ins C.s dx [])/\M0 s=none/\∀a (A:Ad),A.s=s->SR C ⟨rs,ownOf rs,stp⟩ M0 a A gY->R .non a
def oY(G:Sr):Nat->SS
 | 0=>lS G
 | n+1=>kN G (oY G n)
def jC(G:Sr)(B:bL):Prop:=∃(S a:Nat) (st:SS) (P:List b8) (cur:aL) (T:Nat),All G S a st P cur T/\st.q=[]/\st.best=B/\st=oY G T
def wN(C:Cc):bF:=λws M R=>∃(G:Sr) (E:Env) (V:List Int) (L S:Nat),ws=[cI E.rs,.rl (G.places.map W.int),.dt E.stp,.rl ((Cr G.rs.length).map λn=>.int (G.wt n))]/\E.rs.length<=100/\E.own=ownOf E.rs/\NV G E/\qM G/\qN G V G.rs.length L/\L<1000/\G.places.length<=1000/\(∀t p,(G.steps t p).length<=S)/\
 (jZ G).length+G.rs.length*((L+1)*(V.length*V.length))*(S+V.length)+G.rs.length*((L+1)*(V.length*V.length))+V.length+S+1<10000000/\∀B,jC G B->kA (eA fK fR B) M R
abbrev zdc:List Str:=["things"]
def zdd:aH:=
   (bU (bM MD (aB (b5 (d7 (cB cX (aA 0)) (bB 0) fL (bH (aB (aA 0) (aB (vC (.bl true)) aE))) [none])) aE)))
abbrev zde:List Str:=["cost","other"]
def zdf:aH:=
   (bU (bH (aB (aD dY (aD aV (aA 0) (vC (.int 0))) (aD aV (aA 1) (vC (.int 0)))) (aB (aD dY (aD aV (aA 0) (vC (.int 1))) (aD aV (aA 1) (vC (.int 1)))) aE))))
abbrev zdg:List Str:=["self","grammar","steps"]
def zdh(C:Cc):aH:=
   (j3 C.s (aA 0) "grammar" (aA 1))
def zdi(C:Cc):aH:=
   (j3 C.s (aA 0) "own" (bG m9 (aB (b5 (bG kR (aB (aA 1) aE))) aE)))
def zdj(C:Cc):aH:=
   (j3 C.s (aA 0) "steps" (aA 2))
def NW(C:Cc):aH:=
   (j3 C.s (aA 0) "queue" (oS C.q (BA C) aE))
def zdk(C:Cc):aH:=
   (j3 C.s (aA 0) "reached" oM)
def zdl(C:Cc):aH:=
   (j3 C.s (aA 0) "best" oM)
def zdm(C:Cc):aH:=
   (j3 C.s (aA 0) "ends" oM)
def zdn(C:Cc):aH:=
   (j3 C.s (aA 0) "begun" oM)
def zdo(C:Cc):aH:=(aM (zdh C) (aM (zdi C) (aM (zdj C) (aM (NW C) (aM (zdk C) (aM (zdl C) (aM (zdm C) (zdn C))))))))
abbrev zdp:List Str:=["self","number","cut","cost","key"]
def zdq(C:Cc):aH:=
   (aM (a5 4 (bH (aB (aA 1) (aB (bM dP (aB (aA 2) aE)) (aB (aD aV (aA 2) (vC (.int 0))) (aB (aD aV (aA 2) (lG lN (vC (.int 1)))) aE))))))
   (cV (iR (bP (aD (rIn true) (aA 4) (cZ C.s (aA 0) "reached"))) (bP (aD A6 (aA 3) (aD aV (cZ C.s (aA 0) "reached") (aA 4)))))
    (aM (iV (aA 3) (kG (cZ C.s (aA 0) "reached") (aA 4)))
   (dB (fA C.q "put" (v5 C) (cZ C.s (aA 0) "queue") (aB (aA 3) (aB (bH (aB (aA 1) (aB (aA 2) aE))) aE)))))
    dQ))
abbrev zdr:List Str:=["self","taken","cost","number","cut","parts","end","price"]
def zds(C:Cc):aH:=
   (a5 1 (fA C.q "take" (BD C) (cZ C.s (aA 0) "queue") aE))
def zdt(C:Cc):aH:=
   (a5 2 (aD aV (aA 1) (vC (.int 0))))
def zdu(C:Cc):aH:=
   (a5 3 (aD aV (aD aV (aA 1) (vC (.int 1))) (vC (.int 0))))
def zdv(C:Cc):aH:=
   (a5 4 (aD aV (aD aV (aA 1) (vC (.int 1))) (vC (.int 1))))
def zdw(C:Cc):aH:=
   (cV (bP (aD A6 (aD aV (cZ C.s (aA 0) "reached") (bH (aB (aA 3) (aB (bM dP (aB (aA 4) aE)) (aB (aD aV (aA 4) (vC (.int 0))) (aB (aD aV (aA 4) (lG lN (vC (.int 1)))) aE)))))) (aA 2)))
    zJ
    dQ)
def zdx(C:Cc):aH:=
   (a5 5 (aD aV (aD aV (cZ C.s (aA 0) "grammar") (aA 3)) (vC (.int 1))))
def zdy(C:Cc):aH:=
   (cV (bP (aD KA (bM dP (aB (aA 4) aE)) (bM dP (aB (aA 5) aE))))
    (dB (fA C.s "settle" (BP C) (aA 0) (aB (aA 3) (aB (aA 4) (aB (aA 2) aE)))))
    (cV (bP (aD (rIn false) (aD aV (aA 5) (aD nN (bM dP (aB (aA 4) aE)) (vC (.int 1)))) (cZ C.s (aA 0) "own")))
    (dB (fA C.s "step_by_name" (BO C) (aA 0) (aB (aA 3) (aB (aA 4) (aB (aA 2) (aB (bH (aB (aD aV (aA 5) (aD nN (bM dP (aB (aA 4) aE)) (vC (.int 1)))) (aB (aD aV (aA 4) (lG lN (vC (.int 1)))) aE))) aE))))))
    (eR (cB kH (eQ "dict" vW (cZ C.s (aA 0) "steps") (aB (bH (aB (aD aV (aA 5) (aD nN (bM dP (aB (aA 4) aE)) (vC (.int 1)))) (aB (aD aV (aA 4) (lG lN (vC (.int 1)))) aE))) (aB (gV aE) aE)))) (iD 2 (dD (bB 6) (dD (bB 7) iC)))
    (dB (fA C.s "reach" (qY C) (aA 0) (aB (aA 3) (aB (aD dY (aA 4) (bH (aB (aA 6) aE))) (aB (bH (aB (aD dY (aD aV (aA 2) (vC (.int 0))) (aA 7)) (aB (aD aV (aA 2) (vC (.int 1))) aE))) aE))))))))
def zdz(C:Cc):aH:=(aM (zds C) (aM (zdt C) (aM (zdu C) (aM (zdv C) (aM (zdw C) (aM (zdx C) (zdy C)))))))
abbrev zdA:List Str:=["self","number","cut","cost","key","end","more"]
def zdB(C:Cc):aH:=
   (aM (dB (eQ "list" fU (eQ "dict" tE (cZ C.s (aA 0) "begun") (aB (aA 4) (aB (jE aE) aE))) (aB (bH (aB (aA 1) (aB (aA 2) (aB (aA 3) aE)))) aE)))
   (eR (cB kH (eQ "dict" vW (cZ C.s (aA 0) "ends") (aB (aA 4) (aB (gV aE) aE)))) (iD 2 (dD (bB 5) (dD (bB 6) iC)))
    (dB (fA C.s "reach" (qY C) (aA 0) (aB (aA 1) (aB (aD dY (aA 2) (bH (aB (aA 5) aE))) (aB (bG wM (aB (aA 3) (aB (aA 6) aE))) aE)))))))
abbrev zdC:List Str:=["self","number","cut","cost","key","fact","other","before","paid"]
def zdD(C:Cc):aH:=
   (a5 4 (bH (aB (aD aV (aD aV (cZ C.s (aA 0) "grammar") (aA 1)) (vC (.int 0))) (aB (aD aV (aA 2) (vC (.int 0))) aE))))
def zdE(C:Cc):aH:=
   (a5 5 (aD dY (aA 4) (bH (aB (aD aV (aA 2) (lG lN (vC (.int 1)))) aE))))
def zdF(C:Cc):aH:=
   (cV (bP (aD (rIn false) (aA 5) (cZ C.s (aA 0) "best")))
    zJ
    dQ)
def zdG(C:Cc):aH:=
   (iV (bH (aB (aA 3) (aB (aA 1) (aB (aA 2) aE)))) (kG (cZ C.s (aA 0) "best") (aA 5)))
def zdH(C:Cc):aH:=
   (dB (eQ "list" fU (eQ "dict" tE (cZ C.s (aA 0) "ends") (aB (aA 4) (aB (jE aE) aE))) (aB (bH (aB (aD aV (aA 2) (lG lN (vC (.int 1)))) (aB (aA 3) aE))) aE)))
def zdI(C:Cc):aH:=
   (dB (fA C.s "reach" (qY C) (aA 0) (aB (aA 6) (aB (aD dY (aA 7) (bH (aB (aD aV (aA 2) (lG lN (vC (.int 1)))) aE))) (aB (bG wM (aB (aA 8) (aB (aA 3) aE))) aE)))))
def zdJ(C:Cc):aH:=
   (eR (cB kH (eQ "dict" vW (cZ C.s (aA 0) "begun") (aB (aA 4) (aB (gV aE) aE)))) (iD 3 (dD (bB 6) (dD (bB 7) (dD (bB 8) iC)))) (zdI C))
def zdK(C:Cc):aH:=(aM (zdD C) (aM (zdE C) (aM (zdF C) (aM (zdG C) (aM (zdH C) (zdJ C))))))
abbrev zdL:List Str:=["grammar","places","steps","weights","search","number","place"]
def zdM(C:Cc):aH:=
   (a5 4 (oS C.s (BR C) (aB (aA 0) (aB (aA 2) aE))))
def zdN(C:Cc):aH:=
   (eR (cB cX (aA 1)) (bB 6)
    (dB (fA C.s "reach" (qY C) (aA 4) (aB (aA 5) (aB (bH (aB (aA 6) aE)) (aB (bH (aB (aD aV (aA 3) (aA 5)) (aB (vC (.int 1)) aE))) aE))))))
def zdO(C:Cc):aH:=
   (eR (vA (aB (bM dP (aB (aA 0) aE)) aE)) (bB 5) (zdN C))
def zdP(C:Cc):aH:=
   (dB (fA C.s "take_next" (BQ C) (aA 4) aE))
def zdQ(C:Cc):aH:=
   (qH (jV (gA (fA C.q "is_done" (BB C) (cZ C.s (aA 4) "queue") aE))) (zdP C))
def zdR(C:Cc):aH:=
   (bU (cZ C.s (aA 4) "best"))
def zdS(C:Cc):aH:=(aM (zdM C) (aM (zdO C) (aM (zdQ C) (zdR C))))
theorem zdT:∀ws M R,m9 ws M R->ws.length=1:=by rintro ws M R ⟨_,rfl,_⟩;rfl
theorem zdU:∀ws M R,wM ws M R->ws.length=2:=by rintro ws M R ⟨_,_,rfl,_⟩;rfl
theorem zdV:∀ws M R,qY C ws M R->ws.length=4:=by rintro ws M R ⟨_,_,_,_,_,_,_,_,rfl,_⟩;rfl
theorem zdW:∀ws M R,BO C ws M R->ws.length=5:=by rintro ws M R ⟨_,_,_,_,_,_,_,_,rfl,_⟩;rfl
theorem zdX:∀ws M R,BP C ws M R->ws.length=4:=by rintro ws M R ⟨_,_,_,_,_,_,_,_,rfl,_⟩;rfl
theorem zdY:∀ws M R,BQ C ws M R->ws.length=1:=by rintro ws M R ⟨_,_,_,_,_,rfl,_⟩;rfl
theorem zdZ:∀ws M R,BR C ws M R->ws.length=3:=by rintro ws M R ⟨_,_,_,_,_,rfl,_⟩;rfl
theorem zd0:∀ws M R,wN C ws M R->ws.length=4:=by rintro ws M R ⟨_,_,_,_,_,rfl,_⟩;rfl
theorem NY:∀(ts acc:List Str),j0 (acc.map cL) (ts.map cL)=(ts.foldl dE acc).map cL
 | [],acc=>rfl
 | t::r,acc=>by
  show j0 (b9 (acc.map cL) (Sum.inr t) (.bl true)) (r.map cL)=_;rw[wC,NY,Cm]
theorem zd1(h:m9 ws M R):zdd (bI R) (bT zdc ws) M:=by
 obtain⟨ts,rfl,hl,r⟩:=h;have l:(ts.map W.str).length<=An:=cJ (by rw[Ab];exact Ay hl (by decide));refine⟨_,rfl,gZ (oO (rest:=[]) (λw=>.tup [w,.bl true]) l (λ_ _=>trivial) (λw hw b C sb a=>⟨_,rfl,z2,a⟩) (aY.frz ⟨ts.map cL,?_,by rw[Ab];exact l,_,Sub.refl _,?_⟩))⟩
 .unfold kO;rw[Bo,Bo];rfl
 .rw[show([]:List (aF×W))=([]:List Str).map cL from rfl,NY];exact r
theorem zd2(h:wM ws M R):zdf (bI R) (bT zde ws) M:=by
 obtain⟨a,b,rfl,r⟩:=h;exact⟨_,rfl,_,rfl,_,rfl,_,rfl,_,rfl,_,rfl,_,rfl,_,rfl,z2,_,Sub.refl _,r⟩
variable {α:Type}
theorem BS(h:cut≠[]):cA (cut.map W.int) 0=some (.int (cut.headD 0)):=by
 cases cut with
 | nil=>exact absurd rfl h
 | cons a t=>exact zZ _ _
theorem oZ(h:cut≠[]):cA (cut.map W.int) (-1)=some (.int (cut.getLastD 0)):=by
 rcases Fj cut with z|⟨a,b,z⟩
 .exact absurd z h
 .rw[z,Fl,Bb];refine(IK _ _).trans ?_;simp[Gn]
theorem NZ{n:Nat}:W.tup [.int n,.int (cut.map W.int).length,.int (cut.headD 0),.int (cut.getLastD 0)]=.tup ((lU (bR n cut)).map wK):=by
 rw[Ab];rfl
theorem zd3{n:Nat}(h:M a=some (.dT (eA lU cW t)))(hd:aJ t (bR n cut)=some d)(r:R (cW d) M):L3.aV (.ref a) (.tup [.int n,.int (cut.map W.int).length,.int (cut.headD 0),.int (cut.getLastD 0)]) M R:=by rw[NZ];exact oV h (by rw[nX wF,hd];rfl) r
theorem N0{C:Cc}{E:Env}{h M:Mm}{A:Ad}{st:SS}{n:Nat}{cut:List Int}{c:aL}{R:K3}{kp:Option (Addr×List W)}(f:SK C E h M A st kp)(sm:Sm st 1)(r:∀a,SK C E h a A {st with reached:=dS st.reached (bR n cut) c,q:=d8 c (n,cut) st.q} kp->R .non a):
  aM (iV (aA 3) (kG (cZ C.s (aA 0) "reached") (aA 4))) (dB (fA C.q "put" (v5 C) (cZ C.s (aA 0) "queue") (aB (aA 3) (aB (bH (aB (aA 1) (aB (aA 2) aE))) aE)))) (bI R) [some (W.ref A.s),some (W.int n),some (gL cut),some (cW c),some (W.tup (Ko wK (lU (bR n cut))))] M:=by
 have i:=sm.q;have k:=sm.r;refine⟨_,rfl,_,rfl,A.s,A.d,_,_,rfl,f.os,wH,_,rfl,sP f.or (eS (by rw[Ab];lia)) ?_⟩;rw[BL wF];have b:=f.rput (dS st.reached (bR n cut) c);obtain⟨j,g,e⟩:=b.que;exact⟨_,rfl,A.s,A.d,_,_,rfl,b.os,BM,A.Q.o,A.Q.d,qf A.Q,rfl,g.ob,zbq,_,rfl,_,rfl,_,rfl,z2,j,A.Q,_,c,(n,cut),rfl,g,(by rw[vN];exact i),λa h'=>⟨a,Sub.refl _,r a (e a _ h')⟩⟩
theorem zd4{C:Cc}{ws:List W}{M:Mm}{R:K3}(h:qY C ws M R):zdq C (bI R) (bT zdp ws) M:=by
 obtain⟨E,g,A,st,n,cut,c,kp,rfl,b,a,sm,r⟩:=h;refine⟨_,rfl,_,rfl,_,rfl,_,BS a,_,rfl,_,oZ a,z4,?_⟩;rw[NZ];refine⟨_,rfl,_,rfl,A.s,A.d,_,_,rfl,b.os,wH,.inr ⟨_,.inr ⟨_,_,b.or,rfl,rfl⟩,_,rfl,?_⟩⟩;rw[nX wF];cases e:aJ st.reached (bR n cut) with
 | none=>
  refine cP (λ_=>zcX (N0 b sm λf h'=>r f ?_)) λh=>nomatch (show true=false from h);unfold reach;rw[e];exact h'
 | some d=>
  refine cP (λh=>nomatch (show false=true from h)) λ_=>⟨_,rfl,_,rfl,A.s,A.d,_,_,rfl,b.os,wH,_,rfl,oV b.or (by rw[nX wF,e];rfl) ⟨c.1,c.2,d.1,d.2,rfl,rfl,_,rfl,cP (λhl=>N0 b sm λf h'=>r f ?_) λhl=>⟨M,Sub.refl _,r M ?_⟩⟩⟩
  .unfold reach;rw[e];simp only;rw[if_pos (show cY c d=true from hl)];exact h'
  .unfold reach;rw[e];simp only;rw[if_neg (ne_true_of_eq_false (show cY c d=false from hl))];exact b
theorem Sm.reach{st:SS}{k:Nat}(h:Sm st (k+1))(n:Nat)(cut:List Int)(c:aL):Sm (Rg.reach st n cut c) k:=by
 obtain⟨j,d,b,a⟩:=L7 st n cut c;have:=h.q;have:=h.r;exact⟨by lia,by lia⟩
theorem Sm.le{st:SS}{k j:Nat}(h:Sm st k)(a:j<=k):Sm st j:=⟨by have:=h.q;lia,by have:=h.r;lia⟩
def eY(f:α->Nat×List Int×aL)(xs:List α)(st:SS):SS:=xs.foldl (λst x=>reach st (f x).1 (f x).2.1 (f x).2.2) st
theorem wO{f:α->Nat×List Int×aL}{xs:List α}{st:SS}{i:Nat}{x:α}(h:xs[i]? = some x):eY f (xs.take (i+1)) st=reach (eY f (xs.take i) st) (f x).1 (f x).2.1 (f x).2.2:=by
 unfold eY;rw[Cu,h,Ei];rfl
theorem qZ{f:α->Nat×List Int×aL}:∀{xs:List α} {st:SS} {k:Nat},Sm st (xs.length+k)->Sm (eY f xs st) k
 | [],st,k,h=>by simp at h;exact h
 | x::xs,st,k,h=>by
  show Sm (eY f xs (reach st (f x).1 (f x).2.1 (f x).2.2)) k;exact qZ (Sm.reach (by rw[Br]at h;exact h.le (by lia)) _ _ _)
theorem tJ{f:α->Nat×List Int×aL}:∀{xs:List α} {st:SS},(eY f xs st).ends=st.ends/\(eY f xs st).begun=st.begun/\(eY f xs st).best=st.best
 | [],st=>⟨rfl,rfl,rfl⟩
 | x::xs,st=>by
  have a:=tJ (f:=f) (xs:=xs) (st:=reach st (f x).1 (f x).2.1 (f x).2.2);have d:∀n cut c,(reach st n cut c).ends=st.ends/\(reach st n cut c).begun=st.begun/\(reach st n cut c).best=st.best:=by
   intro n cut c;unfold reach;split
   .split<;>exact⟨rfl,rfl,rfl⟩
   .exact⟨rfl,rfl,rfl⟩
  obtain⟨b,e,g⟩:=d (f x).1 (f x).2.1 (f x).2.2;exact⟨a.1.trans b,a.2.1.trans e,a.2.2.trans g⟩
theorem zd5{C:Cc}{ws:List W}{M:Mm}{R:K3}(h:BO C ws M R):zdB C (bI R) (bT zdA ws) M:=by
 obtain⟨E,J,A,st,n,cut,c,a,rfl,N,t,G,sm,L,D,r⟩:=h;refine SK.gput N (z:=(n,cut,c)) rfl (λH Q h=>⟨_,rfl,h⟩) (λH Q h=>⟨_,rfl,_,rfl,_,rfl,z3,h⟩) L D λH l=>?_;have hf:=l.ends_at (a,cut.getLastD 0);obtain⟨kvs,I,hc⟩:=hf;refine⟨_,rfl,A.s,A.d,_,_,rfl,l.os,NS,tH I,_,rfl,Bw _,_,.inr ⟨kvs,eK (a,cut.getLastD 0),I,rfl,rfl⟩,?_⟩;rcases hc with⟨x,u⟩|⟨p,xs,x,u,hk⟩
 .rw[x];refine qW rfl (eL (λi m k=>k=H) rfl (λ_ _ _ _ _=>trivial) (λi w m k hw=>nomatch hw) λm k e=>⟨_,Sub.refl _,r _ ?_⟩);rw[e];unfold fV;rw[show aJ st.ends (a,cut.getLastD 0)=none from u];exact l
 .rw[x];obtain⟨f,hf⟩:∃f:Int×aL->Nat×List Int×aL,f=λz=>(n,cut++[z.1],eN c z.2):=⟨_,rfl⟩;obtain⟨g,j⟩:∃g,g = {st with begun:=e9 st.begun (a,cut.getLastD 0) (n,cut,c)}:=⟨_,rfl⟩;rw[<-j]at hk;have v:Sm g xs.length:=by
   rw[show aJ st.ends (a,cut.getLastD 0)=some xs from u]at sm;rw[j];exact⟨sm.q,sm.r⟩
  refine⟨_,hk.kept,eL (λi m k=>∃F y,m=[some (.ref A.s),some (.int n),some (gL cut),some (cW c),some (.tup [.str a,.int (cut.getLastD 0)]),F,y]/\SK C E J k A (eY f (xs.take i) g) (some (p,xs.map j5))) ⟨_,_,rfl,hk⟩ (λi m k _ ⟨_,_,_,h⟩=>h.kept) ?_ ?_⟩
  .rintro i w m k hw ⟨F,y,rfl,b⟩;rw[Av]at hw;obtain⟨z,hz,rfl⟩:=Bd.mp hw;have hi:=(Ap.mp hz).1;have B:Sm (eY f (xs.take i) g) 1:=qZ (v.le (by rw[Ce];lia));have O:W.tup (Ko W.int cut++[W.int z.1])=gL (cut++[z.1]):=by unfold gL;rw[Bb];rfl
   refine⟨rfl,rfl,_,rfl,A.s,A.d,_,rfl,b.os,wI,_,rfl,_,rfl,_,rfl,z1,by simpa using t,by rw[Ab];exact Ay G (cJ (by decide)),_,rfl,_,rfl,c,z.2,rfl,E,J,A,_,n,cut++[z.1],eN c z.2,_,by rw[O],b,by simp,B,λK o=>⟨K,Sub.refl _,_,_,rfl,?_⟩⟩;rw[wO hz,hf];rw[hf]at o;exact o
  .rintro m k ⟨F,y,rfl,b⟩;rw[Ab,Cd]at b;refine⟨_,Sub.refl _,r _ ?_⟩;unfold fV;rw[show aJ st.ends (a,cut.getLastD 0)=some xs from u];rw[j,hf]at b;exact b.free
end Rg
namespace Rg
open PySem PySem.Spec PyProof.Rows L2 L3
theorem tK{rs:List aI}{n:Nat}(h:n<rs.length):∃r,rs[n]? = some r/\cA (rs.map bE) (n:Int)=some (bE r):=by
 refine⟨rs[n],Bj h,gF ?_⟩;rw[Av,Bj h];rfl
theorem zd6{bs:bL}{k:bJ}{v:aL×Nat×List Int}(h:aJ bs k=none):b9 (eA fK fR bs) (fK k) (fR v)=eA fK fR (bs++[(k,v)]):=by
 rw[BL nW,wJ h]
theorem zd7{C:Cc}{ws:List W}{M:Mm}{R:K3}(h:BP C ws M R):zdK C (bI R) (bT zdC ws) M:=by
 obtain⟨G,E,M0,A,st,n,cut,c,rfl,F,hG,hn,g,U,sm,hb,he,K,r⟩:=h;obtain⟨ru,Y,hr2⟩:=tK hn;have H:cN G n=ru.name:=by unfold cN;rw[hG,Y]
 have o:cS G n cut=(ru.name,cut.headD 0,cut.getLastD 0):=by unfold cS;rw[H]
 rw[H]at sm K;refine⟨_,rfl,A.s,A.d,_,_,rfl,F.os,NR,_,rfl,_,hr2,_,rfl,_,rfl,_,BS g,z2,_,rfl,_,rfl,_,oZ g,z1,(λh=>nomatch h),z3,_,rfl,_,rfl,A.s,A.d,_,_,rfl,F.os,BN,.inr ⟨_,.inr ⟨_,fK (ru.name,cut.headD 0,cut.getLastD 0),F.ob,rfl,rfl⟩,_,rfl,?_⟩⟩;rw[nX nW];cases m:aJ st.best (ru.name,cut.headD 0,cut.getLastD 0) with
 | some v=>
  refine cP (λ_=>⟨M,Sub.refl _,r M ?_⟩) λh=>nomatch (show true=false from h);unfold settle;rw[o,m];exact F
 | none=>
  refine cP (λh=>nomatch (show false=true from h)) λ_=>⟨_,rfl,_,rfl,_,rfl,z3,_,rfl,A.s,A.d,_,_,rfl,F.os,BN,_,rfl,sP (k:=fK (ru.name,cut.headD 0,cut.getLastD 0)) F.ob (eS (by rw[Ab];exact hb)) ?_⟩
  rw[show b9 (eA fK fR st.best) _ (W.tup [cW c,W.int n,gL cut])=_ from zd6 (v:=(c,n,cut)) m];have V:=F.bput (st.best++[((ru.name,cut.headD 0,cut.getLastD 0),c,n,cut)]);refine SK.eput V (nm:=ru.name) (b:=cut.headD 0) (z:=(cut.getLastD 0,c)) rfl (λL Q h=>⟨_,rfl,h⟩) (λL Q h=>⟨_,rfl,_,oZ g,_,rfl,z2,h⟩) he K λL t=>?_;obtain⟨a,j⟩:∃a:SS,a = {st with best:=st.best++[((ru.name,cut.headD 0,cut.getLastD 0),c,n,cut)],ends:=e9 st.ends (ru.name,cut.headD 0) (cut.getLastD 0,c)}:=⟨_,rfl⟩;have t:SR C E M0 L A a:=by rw[j];exact t
  have B:∀xs,(aJ st.begun (ru.name,cut.headD 0)).getD []=xs->settle G st n cut c=eY (λy:b8=>(y.1,y.2.1++[cut.getLastD 0],eN y.2.2 c)) xs a:=λxs hx=>by
   unfold settle;rw[o,m,H,hx,j];rfl
  have x:a.begun=st.begun:=by rw[j]
  obtain⟨kvs,hg,hc⟩:=t.begun_at (ru.name,cut.headD 0);refine⟨_,rfl,A.s,A.d,_,_,rfl,t.os,NT,tH hg,_,rfl,Bw _,_,.inr ⟨kvs,eK (ru.name,cut.headD 0),hg,rfl,rfl⟩,?_⟩;rcases hc with⟨P,D⟩|⟨p,xs,P,D,hk⟩
  .rw[P];refine qW rfl (eL (λi I u=>u=L) rfl (λ_ _ _ _ _=>trivial) (λi w I u hw=>nomatch hw) λI u e=>⟨_,Sub.refl _,r _ ?_⟩);rw[B [] (by rw[x]at D;rw[D];rfl),e];exact t
  .rw[P];rw[x]at D;obtain⟨f,hf⟩:∃f:b8->Nat×List Int×aL,f=λy=>(y.1,y.2.1++[cut.getLastD 0],eN y.2.2 c):=⟨_,rfl⟩;have N:Sm a xs.length:=by
    rw[D]at sm;rw[j];exact⟨sm.q,sm.r⟩
   refine⟨_,hk.kept,eL (λi I u=>∃T O Z,I=[some (.ref A.s),some (.int n),some (gL cut),some (cW c),some (.tup [.str ru.name,.int (cut.headD 0)]),some (.tup ([.str ru.name,.int (cut.headD 0)]++[.int (cut.getLastD 0)])),T,O,Z]/\SK C E M0 u A (eY f (xs.take i) a) (some (p,xs.map j6))) ⟨_,_,_,rfl,hk⟩ (λi I u _ ⟨_,_,_,_,h⟩=>h.kept) ?_ ?_⟩
   .rintro i w I u hw ⟨T,O,Z,rfl,l⟩;rw[Av]at hw;obtain⟨y,S,rfl⟩:=Bd.mp hw;have hi:=(Ap.mp S).1;obtain⟨hyl,X⟩:=U (ru.name,cut.headD 0) y (by rw[D];exact Au S);refine⟨rfl,rfl,_,rfl,A.s,A.d,_,rfl,l.os,wI,_,rfl,_,rfl,_,rfl,_,oZ g,z1,by simpa using X,by rw[Ab];exact cJ (Ay hyl (by decide)),_,rfl,_,rfl,y.2.2,c,rfl,E,M0,A,_,y.1,y.2.1++[cut.getLastD 0],eN y.2.2 c,_,by rw[gL,Bb];rfl,l,by simp,qZ (N.le (by rw[Ce];lia)),λM2 J=>⟨M2,Sub.refl _,_,_,_,rfl,?_⟩⟩;rw[wO S,hf];rw[hf]at J;exact J
   .rintro I u ⟨T,O,Z,rfl,l⟩;rw[Ab,Cd]at l;refine⟨_,Sub.refl _,r _ ?_⟩;rw[B xs (by rw[D];rfl),<-hf];exact l.free
theorem zd8{C:Cc}{ws:List W}{M:Mm}{R:K3}(h:BQ C ws M R):zdz C (bI R) (bT zdr ws) M:=by
 obtain⟨G,E,S,A,st,rfl,hs,J,hq,u,r⟩:=h;obtain⟨c,x,B,e1,f1,m1,l1,_,_⟩:=oQ hs.fall hq;obtain⟨n,cut⟩:=x;obtain⟨j,N,hn,d,hd⟩:=u.item c n cut B e1;obtain⟨M3,hQ,O⟩:=hs.que;refine⟨_,rfl,A.s,A.d,_,_,rfl,hs.os,BM,A.Q.o,A.Q.d,_,rfl,hQ.ob,zbr,M3,A.Q,_,c,(n,cut),B,rfl,hQ,e1,λM1 U=>?_⟩;have l:=O M1 B U;have y:∀k,Sm st k->Sm {st with q:=B} k:=λk h=>⟨by have:=h.q;show(a9 B).length+k<_;lia,h.r⟩
 have ht:kN G st=if cY d c=true then {st with q:=B} else process G {st with q:=B} n cut c:=by
  unfold kN;simp only[e1,hd]
 obtain⟨f,p⟩:∃f:SS,f = {st with q:=B}:=⟨_,rfl⟩;have T:f.begun=st.begun:=by rw[p]
 have b2:f.ends=st.ends:=by rw[p]
 have b3:f.best=st.best:=by rw[p]
 have b4:f.reached=st.reached:=by rw[p]
 rw[<-p]at l y ht;clear p;refine⟨_,rfl,_,rfl,_,rfl,_,rfl,_,rfl,_,rfl,_,rfl,_,rfl,_,rfl,A.s,A.d,_,_,rfl,l.os,wH,_,rfl,_,rfl,_,rfl,_,BS j,_,rfl,_,oZ j,z4,zd3 l.or (by rw[b4];exact hd) ⟨_,rfl,d.1,d.2,c.1,c.2,rfl,rfl,_,rfl,cP (λhl=>?_) λhl=>?_⟩⟩
 .rw[ht,if_pos (show cY d c=true from hl)]at r;exact⟨M1,Sub.refl _,r M1 l⟩
 rw[ht,if_neg (ne_true_of_eq_false (show cY d c=false from hl))]at r;rw[J.rs]at hn;obtain⟨ru,hr1,hr2⟩:=tK hn;have t:dC G n cut=ru.parts[cut.length-1]?:=by unfold dC;rw[J.rs,hr1]
 have hpos:=Eh.mpr j;have v:(Ko W.int cut).length=cut.length:=Ab _;have K:(Ko W.str ru.parts).length=ru.parts.length:=Ab _;refine⟨_,rfl,A.s,A.d,_,_,rfl,l.os,NR,_,rfl,_,hr2,_,rfl,_,rfl,_,rfl,_,rfl,cP (λm=>?_) λm=>?_⟩
 .have m:=of_decide_eq_true m;rw[v,K]at m;have P:dC G n cut=none:=by rw[t];exact List.getElem?_eq_none (by lia)
  refine⟨_,rfl,A.s,A.d,_,rfl,l.os,zdb,_,rfl,_,rfl,_,rfl,G,E,S,A,f,n,cut,c,rfl,l,J.rs,hn,j,by rw[T];exact u.bg,by rw[T];exact y _ (u.gl _).2,by rw[b3];exact u.b,by rw[b2];exact u.e,by rw[b2];exact(u.el _).1,λD H=>⟨D,Sub.refl _,r D ?_⟩⟩;unfold process;rw[P];exact H
 have m:=of_decide_eq_false m;rw[v,K]at m;obtain⟨a,P⟩:∃a,ru.parts[cut.length-1]? = some a:=⟨_,Bj (by lia)⟩;rw[P]at t;have I:cA (ru.parts.map W.str) ((Ko W.int cut).length-1)=some (.str a):=by
  rw[v,show((cut.length:Int)-1)=((cut.length-1:Nat):Int) by lia];exact gF (by rw[Av,P];rfl)
 have hpr:process G f n cut c=if G.own a=true then fV f n cut c a else eY (λz:Int×Int=>(n,cut++[z.1],(c.1+z.2,c.2))) (G.steps a (cut.getLastD 0)) f:=by
  unfold process;rw[t];rfl
 rw[hpr]at r;refine⟨_,rfl,_,rfl,_,I,_,rfl,A.s,A.d,_,_,rfl,l.os,zc7,_,⟨Sum.inr a,rfl,rfl⟩,_,rfl,cP (λho=>?_) λho=>?_⟩
 .rw[if_pos ((J.own a).symm.trans ho)]at r;exact⟨_,rfl,A.s,A.d,_,rfl,l.os,zda,_,rfl,_,rfl,_,rfl,_,rfl,_,rfl,_,I,_,rfl,_,oZ j,z2,E,S,A,f,n,cut,c,a,rfl,l,j,N,by rw[b2];exact y _ (u.el _).2,by rw[T];exact u.g,by rw[T];exact(u.gl _).1,λD H=>⟨D,Sub.refl _,r D H⟩⟩
 rw[if_neg (ne_true_of_eq_false ((J.own a).symm.trans ho))]at r;obtain⟨xs,F⟩:∃xs,xs=G.steps a (cut.getLastD 0):=⟨_,rfl⟩;have V:Sm f xs.length:=by rw[F];exact y _ (u.sl _ _)
 have L:(aX E.stp (eK (a,cut.getLastD 0))).getD (.rl [])=.rl (xs.map λz=>.tup [.int z.1,.int z.2]):=by
  rw[F];rcases J.stp a (cut.getLastD 0) with⟨X,h2⟩|X
  .rw[X,h2];rfl
  .rw[X];rfl
 rw[<-F]at r;refine⟨_,rfl,A.s,A.d,_,_,rfl,l.os,zc8,rfl,_,rfl,_,rfl,_,I,_,rfl,_,oZ j,z2,Bw _,_,⟨eK (a,cut.getLastD 0),rfl,rfl⟩,qW L (eL (λi τ M'=>∃Z o7,τ=[some (.ref A.s),some (.tup [cW c,kQ (n,cut)]),some (cW c),some (.int n),some (gL cut),some (.tup (ru.parts.map W.str)),Z,o7]/\SR C E S M' A (eY (λz:Int×Int=>(n,cut++[z.1],(c.1+z.2,c.2))) (xs.take i) f)) ⟨_,_,rfl,l⟩ (λ_ _ _ _ _=>trivial) ?_ ?_)⟩
 .rintro i w τ M' hw ⟨Z,o7,rfl,hk⟩;rw[Av]at hw;obtain⟨z,hz,rfl⟩:=Bd.mp hw;have hi:=(Ap.mp hz).1;exact⟨rfl,rfl,_,rfl,A.s,A.d,_,rfl,hk.os,wI,_,rfl,_,rfl,_,rfl,z1,by simpa using j,by rw[v];exact Ay N (cJ (by decide)),_,rfl,_,rfl,_,rfl,_,rfl,_,rfl,z2,E,S,A,_,n,cut++[z.1],(c.1+z.2,c.2),_,by rw[gL,Bb];rfl,hk,by simp,qZ (V.le (by rw[Ce];lia)),λD Y=>⟨D,Sub.refl _,_,_,rfl,by rw[wO hz];exact Y⟩⟩
 .rintro τ M' ⟨Z,o7,rfl,hk⟩;rw[Ab,Cd]at hk;exact⟨_,Sub.refl _,r _ hk⟩
theorem zd9:cE "begun" (.ref A.g) (cE "ends" (.ref A.e) (cE "best" (.ref A.b) (cE "reached" (.ref A.r) (cE "queue" (.ref A.Q.o) ([("grammar",(cI E.rs)),("own",(W.dk E.own)),("steps",(W.dt E.stp))]:List (Str×W))))))=sf E A:=by kernel_rfl
theorem wQ(c:QR C B a A q)(d:B s=some (.ins C.s dx fs))(b:a p=none):p≠s/\B p=none/\put a p (.dT []) s=some (.ins C.s dx fs)/\QR C (put (put B p (.dT [])) s (.ins C.s dx fs')) (put (put a p (.dT [])) s (.ins C.s dx fs')) A q:=by
 have f:=c.sub _ _ d;have ne:p≠s:=λe=>by rw[e,f]at b;cases b
 exact⟨ne,c.sub.non b,by rw[aQ (Bz ne)];exact f,(c.lift (.inl b)).lift (.inr ⟨_,by rw[aQ (Bz ne)];exact d⟩)⟩
theorem tL(f:Str)(w:W):∀fs:List (Str×W),(cE f w fs).length<=fs.length+1
 | []=>Ag _
 | (k,x)::r=>by
  rw[cE];split
  .simp
  .have:=tL f w r;simp only[Br];lia
theorem zea(h:BR C ws M R):zdo C (bI R) (bT zdg ws) M:=by
 obtain⟨B,s,dx,rs,stp,rfl,hl,rfl,h0,r⟩:=h;refine⟨_,rfl,_,rfl,s,dx,_,rfl,aR,by decide,?_⟩;rw[eW];have e2:∀w:W,cE "own" w (cE "grammar" (cI rs) [])=([("grammar",cI rs),("own",w)]:List (Str×W)):=λw=>by kernel_rfl
 have e3:∀w:W,cE "steps" w ([("grammar",cI rs),("own",.dk (ownOf rs))]:List (Str×W))=([("grammar",cI rs),("own",.dk (ownOf rs)),("steps",w)]:List (Str×W)):=λw=>by kernel_rfl
 refine⟨_,rfl,rs,rfl,Ay hl (by decide),aY.frz ⟨namesOf rs,rfl,?_,_,rfl,s,dx,_,rfl,aR,(show(1:Nat)<1000 by decide),_,rfl,_,rfl,s,dx,_,rfl,aR,?_,?_⟩⟩
 .have:=vJ (rs.map aI.name) [];rw[Ab]at this;unfold namesOf oP;simp at this;simp;lia
 .rw[e2];exact(show(2:Nat)<1000 by decide)
 rw[eW,eW,e2];show NW C _ _ (put B s (.ins C.s dx (cE "steps" (.dt stp) [("grammar",cI rs),("own",.dk (ownOf rs))])));rw[e3];refine λa da V hda hne=>?_;have hsa:s≠a:=λe=>by rw[<-e,aR]at V;cases V
 obtain⟨T,v⟩:∃F:List (Str×W),F=([("grammar",cI rs),("own",.dk (ownOf rs)),("steps",.dt stp)]:List (Str×W)):=⟨_,rfl⟩;rw[<-v]at V hda⊢;refine⟨_,a,da,rfl,rfl,V,λM1 Aq hAq hQ=>⟨rfl,_,rfl,s,dx,T,rfl,hQ.sub _ _ aR,by rw[v];exact(show(3:Nat)<1000 by decide),?_⟩⟩;have u:=hQ.lift (p:=s) (o:=.ins C.s dx (cE "queue" (.ref a) T)) (.inr ⟨_,aR⟩);rw[eW]at u;obtain⟨i,G⟩:∃F:List (Str×W),F=cE "queue" (.ref a) T:=⟨_,rfl⟩;have l4:i.length<=4:=by rw[G];have:=tL "queue" (.ref a) T;rw[v]at this⊢;exact this
 rw[<-G]at u⊢;obtain⟨Mt,hMt⟩:∃m,m=put M1 s (.ins C.s dx i):=⟨_,rfl⟩;rw[<-hMt]at u⊢;refine λc hp1=>?_;obtain⟨q,b1,o1,hQ2⟩:=wQ (fs':=cE "reached" (.ref c) i) u aR hp1;refine⟨_,rfl,s,dx,i,rfl,o1,by lia,λf X=>?_⟩;obtain⟨D,U,o2,hQ3⟩:=wQ (fs':=cE "best" (.ref f) (cE "reached" (.ref c) i)) hQ2 aR X;have l5:=tL "reached" (.ref c) i;refine⟨_,rfl,s,dx,_,rfl,o2,by lia,λd Z=>?_⟩;obtain⟨L,K,o3,hQ4⟩:=wQ (fs':=cE "ends" (.ref d) (cE "best" (.ref f) (cE "reached" (.ref c) i))) hQ3 aR Z;have l6:=tL "best" (.ref f) (cE "reached" (.ref c) i);refine⟨_,rfl,s,dx,_,rfl,o3,by lia,λl Y=>?_⟩;obtain⟨J,z,o4,y⟩:=wQ (fs':=cE "begun" (.ref l) (cE "ends" (.ref d) (cE "best" (.ref f) (cE "reached" (.ref c) i)))) hQ4 aR Y;have l7:=tL "ends" (.ref d) (cE "best" (.ref f) (cE "reached" (.ref c) i));refine⟨_,rfl,s,dx,_,rfl,o4,by lia,_,Sub.refl _,r _ ⟨s,dx,Aq,c,f,d,l⟩ rfl ?_⟩;obtain⟨A,N⟩:∃A:Ad,A=⟨s,dx,Aq,c,f,d,l⟩:=⟨_,rfl⟩;obtain⟨E,hE⟩:∃E:Env,E=⟨rs,ownOf rs,stp⟩:=⟨_,rfl⟩;have hsf:cE "begun" (.ref l) (cE "ends" (.ref d) (cE "best" (.ref f) (cE "reached" (.ref c) i)))=sf E A:=by
  rw[<-zd9,G,v,N,hE,<-hAq]
 rw[hsf]at y⊢;rw[<-N,<-hE];have n:f≠c:=λe=>by rw[e,aQ q,aR]at U;cases U
 have H:d≠c:=λe=>by rw[e,aQ q,aQ (Bz n),aQ q,aR]at K;cases K
 have I:d≠f:=λe=>by rw[e,aQ D,aR]at K;cases K
 have S:l≠c:=λe=>by rw[e,aQ q,aQ (Bz H),aQ q,aQ (Bz n),aQ q,aR]at z;cases z
 have P:l≠f:=λe=>by rw[e,aQ D,aQ (Bz I),aQ D,aR]at z;cases z
 have O:l≠d:=λe=>by rw[e,aQ L,aR]at z;cases z
 have z1:B c=none:=by rw[aQ q]at b1;exact b1
 have z2:B f=none:=by rw[aQ D,aQ n,aQ D]at U;exact U
 have z3:B d=none:=by rw[aQ L,aQ I,aQ L,aQ H,aQ L]at K;exact K
 have z4:B l=none:=by rw[aQ J,aQ O,aQ J,aQ P,aQ J,aQ S,aQ J]at z;exact z
 obtain⟨t,x⟩:∃m,m=put (put (put B s (.ins C.s dx (sf E A))) c (.dT [])) f (.dT []):=⟨_,rfl⟩;have hB:put (put (put (put (put (put (put (put (put B s (.ins C.s dx i)) c (.dT [])) s (.ins C.s dx (cE "reached" (.ref c) i))) f (.dT [])) s (.ins C.s dx (cE "best" (.ref f) (cE "reached" (.ref c) i)))) d (.dT [])) s (.ins C.s dx (cE "ends" (.ref d) (cE "best" (.ref f) (cE "reached" (.ref c) i))))) l (.dT [])) s (.ins C.s dx (sf E A))=put (put t d (.dT [])) l (.dT []):=by
  rw[x];funext b;unfold put
  by_cases g0:b=s
  .subst g0;simp[Bz q,Bz D,Bz L,Bz J]
  .simp only[if_neg g0]
 rw[hB]at y;have mn:Mn C E B t A [] []:=by
  rw[x,N];exact⟨iI (iI (iI (Sub.refl _) h0) z1) z2,h0,z1,z2,Bz q,Bz D,Bz n,by rw[aQ (Bz D),aQ (Bz q),aR],by rw[aQ (Bz n),aR];rfl,by rw[aR];rfl⟩
 have y3:t d=none:=by rw[x,aQ I,aQ H,aQ L];exact z3
 have y4:t l=none:=by rw[x,aQ P,aQ S,aQ J];exact z4
 have t1:eT eK t (put t d (.dT [])) A.e [] (eG []):=by rw[N];exact⟨Sub.new y3,y3,aR,(λ_ _=>rfl),(λk ws e=>nomatch e),(λk j p e=>nomatch e)⟩
 have x4:put t d (.dT []) l=none:=by rw[aQ O];exact y4
 have t2:eT eK (put t d (.dT [])) (put (put t d (.dT [])) l (.dT [])) A.g [] (gG []):=by rw[N];exact⟨Sub.new x4,x4,aR,(λ_ _=>rfl),(λk ws e=>nomatch e),(λk j p e=>nomatch e)⟩
 have hAQ:A.Q=Aq:=by rw[N]
 rw[<-hAQ]at y;exact⟨t,_,_,[],[],mn,t1,t2,y,Ag _,Ag _,trivial⟩
structure Ln(st:SS)(T:Nat):Prop where
 b:st.best.length<=T
 e:st.ends.length<=T
 g:st.begun.length<=T
theorem Ln.process{G:Sr}{st:SS}{T:Nat}(h:Ln st T)(n:Nat)(cut:List Int)(c:aL):Ln (Rg.process G st n cut c) (T+1):=by
 have l:=h.b;have k:=h.e;have m:=h.g;have keep:Ln st (T+1):=⟨by lia,by lia,by lia⟩;unfold Rg.process;split
 .unfold settle;split
  .exact keep
  .obtain⟨d,i,j⟩:=tJ (f:=λy:b8=>(y.1,y.2.1++[cut.getLastD 0],eN y.2.2 c)) (xs:=(aJ st.begun (cN G n,cut.headD 0)).getD []) (st:={st with best:=st.best++[(cS G n cut,c,n,cut)],ends:=e9 st.ends (cN G n,cut.headD 0) (cut.getLastD 0,c)});refine⟨?_,?_,?_⟩
   .refine Ay (Fp (congrArg Ec j)) ?_;show(st.best++[_]).length<=_;rw[Ak,Bp];lia
   .refine Ay (Fp (congrArg Ec d)) ?_;have:=vM st.ends (cN G n,cut.headD 0) ((aJ st.ends (cN G n,cut.headD 0)).getD []++[(cut.getLastD 0,c)]);show(dS _ _ _).length<=_;lia
   .refine Ay (Fp (congrArg Ec i)) ?_;exact keep.g
 .rename_i a _;split
  .unfold fV;obtain⟨d,i,j⟩:=tJ (f:=λz:Int×aL=>(n,cut++[z.1],eN c z.2)) (xs:=(aJ st.ends (a,cut.getLastD 0)).getD []) (st:={st with begun:=e9 st.begun (a,cut.getLastD 0) (n,cut,c)});refine⟨?_,?_,?_⟩
   .exact Ay (Fp (congrArg Ec j)) keep.b
   .exact Ay (Fp (congrArg Ec d)) keep.e
   .refine Ay (Fp (congrArg Ec i)) ?_;have:=vM st.begun (a,cut.getLastD 0) ((aJ st.begun (a,cut.getLastD 0)).getD []++[(n,cut,c)]);show(dS _ _ _).length<=_;lia
  .unfold gB;obtain⟨d,i,j⟩:=tJ (f:=λz:Int×Int=>(n,cut++[z.1],(c.1+z.2,c.2))) (xs:=G.steps a (cut.getLastD 0)) (st:=st);exact⟨Ay (Fp (congrArg Ec j)) keep.b,Ay (Fp (congrArg Ec d)) keep.e,Ay (Fp (congrArg Ec i)) keep.g⟩
theorem Ln.next{G:Sr}{st:SS}{T:Nat}(h:Ln st T):Ln (kN G st) (T+1):=by
 have d:=h.b;have c:=h.e;have i:=h.g;have keep:Ln st (T+1):=⟨by lia,by lia,by lia⟩;have f:∀a,Ln {st with q:=a} T:=λa=>⟨d,c,i⟩
 unfold kN;split
 .exact keep
 .split
  .split
   .exact⟨keep.b,keep.e,keep.g⟩
   .exact(f _).process _ _ _
  .exact⟨keep.b,keep.e,keep.g⟩
theorem zeb{G:Sr}{V:List Int}{L S o T:Nat}{st:SS}{P:List b8}{cur:aL}(v:qN G V G.rs.length L)(R:L<1000)(A:All G S o st P cur T)(C:∀t p,(G.steps t p).length<=S)(ln:Ln st T)(I:o+G.rs.length*((L+1)*(V.length*V.length))*(S+V.length)+G.rs.length*((L+1)*(V.length*V.length))+V.length+S+1<10000000):Rm G st:=by
 obtain⟨J,w,Q⟩:=MA v A;have a:∀{n cut c},GI G st.best n cut c->DI G n cut c:=λ{n cut c} g=>AJ (B:=st.best) (λf m H r h=>oR A.ob h) g;have O:=A.cn.rch;generalize G.rs.length*((L+1)*(V.length*V.length))=X at *;generalize X*(S+V.length)=Y at *;have F:=ln.b;have K:=ln.e;have M:=ln.g;have x:∀key,((aJ st.begun key).getD []).length<=X:=λkey=>by
  have:=len_sub (b:=P) (A.cn.bnd key) λy i=>(A.ob.bgn key y i).1;lia
 refine⟨λc n cut N e=>?_,λkey y i=>?_,by lia,by lia,by lia,λkey=>?_,λkey=>?_,λt p=>?_⟩
 .have j:st.q≠[]:=λz=>by rw[z]at e;cases e
  obtain⟨_,_,_,l,_,D,_⟩:=oQ A.inv.fall j;rw[e]at l;cases l;have u:(c,(n,cut))∈a9 st.q:=(D _).mpr (.inl rfl);have hd:=a (A.inv.item _ u);obtain⟨_,s,k⟩:=sY v hd;obtain⟨d,E,_⟩:=A.inv.ge _ u;exact⟨hd.ne,by have k:cut.length<=L:=k;lia,s,d,E⟩
 .have hd:=a (A.inv.pr y (A.ob.bgn key y i).1).2.2;obtain⟨_,s,k⟩:=sY v hd;exact⟨by lia,hd.ne⟩
 .have:=w key;exact⟨by lia,⟨by lia,by lia⟩⟩
 .have:=x key;exact⟨by lia,⟨by lia,by lia⟩⟩
 .have:=C t p;exact⟨by lia,by lia⟩
def lX(G:Sr)(i:Nat):List (Nat×Int):=(Cr i).flatMap λn=>G.places.map λp=>(n,p)
theorem zec(G:Sr)(i:Nat):lX G (i+1)=lX G i++G.places.map λp=>(i,p):=by
 unfold lX;rw[List.range_succ,List.flatMap_append];simp
theorem wR(G:Sr)(i:Nat):(lX G i).length=i*G.places.length:=by
 unfold lX;rw[sZ (k:=G.places.length) λn _=>by rw[Ab],Gy]
abbrev pA(G:Sr):Nat×Int->Nat×List Int×aL:=λx=>(x.1,[x.2],(G.wt x.1,1))
theorem zed{α:Type}{f:α->Nat×List Int×aL}{xs ys:List α}{st:SS}:eY f (xs++ys) st=eY f ys (eY f xs st):=by
 unfold eY;rw[Ei]
theorem SK.told{C:Cc}{E:Env}{a M:Mm}{A:Ad}{st:SS}{kp:Option (Addr×List W)}(h:SK C E a M A st kp):a A.b=none/\L3.Sub (put a A.b (.dT (eA fK fR st.best))) M:=by
 obtain⟨p,k,o,e,g,d,i,j,f,m,n,l⟩:=h.ex;refine⟨d.nb,λb u e=>?_⟩
 by_cases c:b=A.b
 .subst c;rw[aR]at e;cases e;exact h.ob
 .rw[aQ c]at e;exact f.sub _ _ (j.sub _ _ (i.sub _ _ (d.sub _ _ e)))
theorem zee{n i:Nat}(h:(mT 0 n)[i]? = some w):i<n/\w=.int (i:Nat):=by
 unfold mT at h;rw[Av]at h;obtain⟨j,c,rfl⟩:=Bd.mp h;obtain⟨b,a⟩:=Ap.mp c;rw[List.getElem_range]at a;rw[Gy]at b;exact⟨b,by rw[<-a,Int.zero_add]⟩
theorem zef{lo:Int}{n:Nat}:(mT lo n).length=n:=by unfold mT;simp
theorem zeg{C:Cc}{ws:List W}{M:Mm}{R:K3}(h:wN C ws M R):zdS C (bI R) (bT zdL ws) M:=by
 obtain⟨G,E,V,L,S,rfl,U,D,ev,ok,v,hL,hpl,hS,hb,r⟩:=h;refine⟨_,rfl,_,rfl,λa dx ha hdx hne=>⟨M,a,dx,E.rs,E.stp,rfl,U,rfl,ha,λM1 A hA J=>⟨rfl,?_⟩⟩⟩;rw[<-D]at J;have J:SR C E M M1 A gY:=J;subst hA;have y:(jZ G).length=G.rs.length*G.places.length:=wR G G.rs.length;obtain⟨N,hN⟩:∃N,N=G.rs.length:=⟨_,rfl⟩;have K:E.rs.length=N:=by rw[hN,ev.rs]
 refine⟨_,rfl,(N:Int),by rw[Ab,K],by lia,by lia,?_⟩;rw[Dc];have Y:Sm gY ((jZ G).length+1):=⟨by show 0+_<_;lia,by show 0+_<_;lia⟩;refine eL (λi k z=>∃u g,k=[some (cI E.rs),some (.rl (G.places.map W.int)),some (.dt E.stp),some (.rl ((Cr G.rs.length).map λn=>.int (G.wt n))),some (.ref A.s),u,g]/\SR C E M z A (eY (pA G) (lX G i) gY)) ⟨_,_,rfl,J⟩ (λ_ _ _ _ _=>trivial) ?_ ?_
 .rintro i w k M2 hw ⟨u,g,rfl,e⟩;obtain⟨hi,rfl⟩:=zee hw;have hmul:(i+1)*G.places.length<=N*G.places.length:=Nat.mul_le_mul_right _ hi;rw[<-hN]at y;refine⟨_,rfl,gZ (eL (λj k z=>∃g,k=[some (cI E.rs),some (.rl (G.places.map W.int)),some (.dt E.stp),some (.rl ((Cr G.rs.length).map λn=>.int (G.wt n))),some (.ref A.s),some (.int i),g]/\SR C E M z A (eY (pA G) ((G.places.map λp=>(i,p)).take j) (eY (pA G) (lX G i) gY))) ⟨_,rfl,e⟩ (λ_ _ _ _ _=>trivial) ?_ ?_)⟩
  .rintro j w k Z hw ⟨g,rfl,c⟩;rw[Av]at hw;obtain⟨pl,l,rfl⟩:=Bd.mp hw;have hj:=(Ap.mp l).1;have hx:(G.places.map λp=>(i,p))[j]? = some (i,pl):=by rw[Av,l];rfl
   have O:cA ((Cr G.rs.length).map λn=>W.int (G.wt n)) (i:Int)=some (.int (G.wt i)):=gF (by rw[Av,List.getElem?_range (by lia)];rfl);have smj:Sm (eY (pA G) ((G.places.map λp=>(i,p)).take j) (eY (pA G) (lX G i) gY)) 1:=by
    refine qZ (qZ (Y.le ?_));rw[wR,Ce,Ab,y,Md]at *;lia
   refine⟨_,rfl,A.s,A.d,_,rfl,c.os,wI,_,rfl,_,rfl,z1,_,rfl,_,rfl,_,O,z2,E,M,A,_,i,[pl],(G.wt i,1),none,rfl,c,by simp,smj,λM4 hs4=>⟨M4,Sub.refl _,_,rfl,?_⟩⟩;rw[wO hx];exact hs4
  .rintro k Z ⟨g,rfl,c⟩;refine⟨Z,Sub.refl _,_,_,rfl,?_⟩;rw[zec,zed];rw[Ab,Fz (by rw[Ab];exact Ag _)]at c;exact c
 .rintro k M2 ⟨u,g,rfl,e⟩;rw[zef]at e;have H:eY (pA G) (lX G N) gY=lS G:=by rw[hN];rfl
  rw[H]at e;have X:Ln (lS G) 0:=by
   obtain⟨a1,a2,a3⟩:=tJ (f:=pA G) (xs:=lX G N) (st:=gY);rw[H]at a1 a2 a3;exact⟨by rw[a3];exact Ag _,by rw[a1];exact Ag _,by rw[a2];exact Ag _⟩
  obtain⟨F,hBm⟩:∃F,F=(jZ G).length+G.rs.length*((L+1)*(V.length*V.length))*(S+V.length):=⟨_,rfl⟩;refine⟨λm k z=>∃st P cur T u g,k=[some (cI E.rs),some (.rl (G.places.map W.int)),some (.dt E.stp),some (.rl ((Cr G.rs.length).map λn=>.int (G.wt n))),some (.ref A.s),u,g]/\SR C E M z A st/\All G S (jZ G).length st P cur T/\Ln st T/\m=F-T/\st=oY G T,⟨_,_,_,_,_,_,_,rfl,e,zaU ok S,X,rfl,rfl⟩,?_⟩;rintro m k Z ⟨st,P,cur,T,u,g,rfl,c,A3,B,rfl,t⟩;obtain⟨M4,hQ,back⟩:=c.que;refine⟨_,rfl,A.s,A.d,_,_,rfl,c.os,BM,A.Q.o,A.Q.d,_,rfl,hQ.ob,zbs,M4,A.Q,st.q,rfl,hQ,cP (b:=!decide (st.q=[])) (λh=>?_) λh=>?_⟩
  .have I:¬st.q=[]:=of_decide_eq_false (by rw[<-Ie (decide _),h];rfl);have rm:=zeb v hL A3 hS B hb;obtain⟨_,_,f3⟩:=MA v A3;rw[<-hBm]at f3;have hpos:=Eh.mpr I;have hql:=A9 c.fall;obtain⟨P',x,A4⟩:=zaT ok A3 hS I;exact⟨_,rfl,A.s,A.d,_,rfl,c.os,zc9,G,E,M,A,st,rfl,c,ev,I,rm,λM5 hs5=>⟨_,M5,(by lia:F-(T+1)<F-T),Sub.refl _,_,P',x,T+1,_,_,rfl,hs5,A4,B.next,rfl,congrArg (kN G) t⟩⟩
  .have I:st.q=[]:=of_decide_eq_true (by rw[<-Ie (decide _),h];rfl);obtain⟨y1,y2⟩:=c.told;exact⟨_,rfl,A.s,A.d,_,_,rfl,c.os,BN,_,y2,r st.best ⟨S,_,st,P,cur,T,A3,I,rfl,t⟩ A.b y1⟩
end Rg
namespace L2
open PySem PySem.Spec PyProof.Rows
section
variable {X:Cx}{pins:List (Addr×Obj)}{σ:St}{H:Hp}{s:Ah}{a:Addr}{u:HO}
def IsDict(u:HO):Prop:=(∃ks,u=.dK ks)\/∃ks,u=.dT ks
theorem Inv.frzD(I:Inv X pins σ H s)(e:H a=some u)(hd:IsDict u):∃o,Inv X pins σ (aT H a (.frz o u)) s:=by
 obtain⟨o,p⟩:∃o,s.heap.get? a=some o:=by
  have:=I.hok a u e;rcases hd with⟨ks,rfl⟩|⟨ks,rfl⟩
  .obtain⟨_,_,_,_,o,_,_,e,_⟩:=this;exact⟨o,e⟩
  .obtain⟨_,_,_,_,o,_,_,e,_⟩:=this;exact⟨o,e⟩
 refine⟨o,?_⟩;have ne:∀{b:Addr} {v:HO},H b=some v->v≠u->b≠a:=λ{b v} f h z=>by subst z;rw[e]at f;exact h (Ci f).symm
 have l:∀{b:Addr},H b=none->b≠a:=λ{b} f z=>by subst z;rw[e]at f;cases f
 have g:∀b xs,H b=some (.tup xs)->aT H a (.frz o u) b=some (.tup xs):=λb xs d=>by
  rw[bD (ne d (λz=>by rcases hd with⟨ks,rfl⟩|⟨ks,rfl⟩<;>cases z))];exact d
 have j:∀b y,H b=some (.own y)->aT H a (.frz o u) b=some (.own y):=λb y d=>by
  rw[bD (ne d (λz=>by rcases hd with⟨ks,rfl⟩|⟨ks,rfl⟩<;>cases z))];exact d
 refine I.step (h':=s.heap) (g':=s.gens) (d':=s.drawn) (t':=s.toks) (ch:=[]) (λ_ z=>nomatch z) (λb o _ _ _ f _=>f) (λb o _ _ _ f _=>⟨o.slots,f⟩) (λb o _ _ n=>by rw[bD (l n)];exact n) (λb o _ f=>⟨o,f⟩) g
  (λb ob v d=>?_) (λb ps d=>⟨#[],?_⟩) (λm k=>k) (λb v d=>?_) I.bare
 .rw[bD (ne d (λz=>by rcases hd with⟨ks,rfl⟩|⟨ks,rfl⟩<;>cases z))];exact d
 .rw[bD (ne d (λz=>by rcases hd with⟨ks,rfl⟩|⟨ks,rfl⟩<;>cases z)),d];simp
 .by_cases i:b=a
  .subst i;rw[cU]at d;cases d;exact⟨p,(I.hok b u e).stay (λ_ _ _ q=>q) (λc q=>j c b q) g⟩
  .rw[bD i]at d;exact(I.hok b v d).stay (λ_ _ _ q=>q) (λc q=>j c b q) g
def zeh(Q:VK):VK:=λv H=>∃a u,v=.ref a/\H a=some u/\IsDict u/\∀o,Q v (aT H a (.frz o u))
theorem zei(h:PE X e t):PE X e (λσ H Q=>t σ H (zeh Q)):=λpins s σ H Q I q=>
 a8 (h pins s σ H _ I q) λv k ⟨x,j,g,f,a,u,l,b,i,c⟩=>by
  obtain⟨o,d⟩:=g.frzD b i;exact⟨x,_,d,f,c o⟩
def wU(a:Addr)(o:Obj)(u:HO)(xs:List V):It:=
 ⟨λi H=>H a=some (.frz o u)/\i<xs.length,λi H x b=>b=H/\xs[i]? = some x,λi H=>H a=some (.frz o u)/\xs.length<=i⟩
theorem N2{P:Ax}{w:Bl}{K:Ac}{M:Expr}(a f:Addr)(o:Obj)(u:HO)(xs:List V)(es:Array Dn)(ep:Nat)(hd:o.data=.dict es ep)(O:es.size=xs.length)(F:∀(i:Nat) (e:Dn),es[i]? = some e->∃x,xs[i]? = some x/\RelV x e.key):
  kW P w K M (wU a o u xs) [f] f (λi h=>h.IsKeyIter f a i es.size ep) where
 mem:=by simp
 obj:=λi h st b j=>by
  have e:b=f:=by simpa using j
  subst e;obtain⟨o,e,c,d⟩:=st;exact⟨o,e,λv z=>by rw[d]at z;cases z⟩
 keep:=λi h h' st k=>st.at λo e=>k f (by simp) o e
 item:=by
  intro X r hw l hc i pins s σ H E I hf st n;subst r hw l;obtain⟨m,hi⟩:=n;have p:s.heap.get? a=some o:=(show cC X.prog X.w H s.heap a (.frz o u) from I.hok a _ m).1;have g:i<es.size:=by lia
  obtain⟨x,t,y⟩:=F i es[i] (by simp[g]);obtain⟨L,A,N,D,B,G⟩:=hf f (by simp);refine yV st p hd g λh' st' sb=>?_;have C:Inv X pins σ H {s with heap:=h'}:=I.turned (t':=s.toks) (λb o j e=>(sb.2 b j).trans e) L A D B G;obtain⟨Q,e,c,d⟩:=id st';exact⟨_,rfl,rP (s:={s with heap:=h'}) e c d (by decide) ⟨x,H,C,y,⟨rfl,t⟩,st',λb j=>(hf b j).1⟩⟩
 done:=by
  intro X r hw l hc i pins s σ H E I hf st n;subst r hw l;obtain⟨m,hi⟩:=n;have p:s.heap.get? a=some o:=(show cC X.prog X.w H s.heap a (.frz o u) from I.hok a _ m).1;refine yW (I.ok.hd hc) st p hd (by lia) λh' hk=>⟨rfl,?_⟩
  exact I.turnedT (tk:=s.toks) hf λq o J eq=>hk q o (λz=>J (by simp[z])) eq
 self:=λ_ _ _ _ _ st h=>Nj st h
end
end L2
namespace L3
open PySem PySem.Spec PyProof.Rows L2
section
variable {X:Cx}{e:Expr}{te:aZ}
def BU(t:aZ):aZ:=λb M R=>t b M λw a=>∃p,w=.ref p/\((∃kvs,a p=some (.dK kvs)/\R (.fk kvs) (del a p))\/∃kvs,a p=some (.dT kvs)/\R (.ft kvs) (del a p))
theorem N3{K:Ac}{H:Hp}{M:Mm}{p:Addr}{o:Obj}{u:HO}{x:MO}(g:AM K H M)(e:M p=some x)(hd:IsDict u)(k:H p=some u):Go H M (aT H p (.frz o u)) (del M p)/\AM K (aT H p (.frz o u)) (del M p)/\Kp H M (aT H p (.frz o u)) (del M p):=by
 have f:∀{b:Addr},M b=none->b≠p:=λ{b} h z=>by subst z;rw[e]at h;cases h
 have go:Go H M (aT H p (.frz o u)) (del M p):=by
  refine⟨λb xs d=>?_,λb ob v d=>?_,λb v n d=>?_⟩
  .rw[bD (f (g.noTup d))];exact d
  .rw[bD (f (g.noFrz d))];exact d
  .rw[bD (f n),yX (f n)];exact⟨d,n⟩
 refine⟨go,λa j c=>?_,λa v n c=>?_,λa v c=>?_⟩
 .have ne:a≠p:=λz=>by rw[z,pX]at c;cases c
  rw[yX ne]at c;exact(g a j c).go go (bD ne)
 .rw[bD (f n),yX (f n)];exact⟨c,n⟩
 .by_cases i:a=p
  .subst i;exact⟨_,cU⟩
  .obtain⟨y,q⟩:=(g a v c).has;exact⟨y,by rw[bD i];exact q⟩
theorem N4(h:E3 X e te):E3 X e (BU te):=
 (zei h).weak λσ H Q z0=>z0.el λj M R i l h k=>⟨j,M,_,i,l,h,λv n w m d a av ⟨p,hw,r⟩=>by
  subst hw;obtain rfl:=av.inv;rcases r with⟨kvs,e,r⟩|⟨kvs,e,r⟩
  .obtain⟨ks,f,q⟩:=a _ _ e;refine⟨p,.dK ks,rfl,f,.inl ⟨_,rfl⟩,λo=>?_⟩;obtain⟨g,b,c⟩:=N3 (o:=o) a e (.inl ⟨_,rfl⟩) f;exact k _ _ _ _ (d.trans c) b (.fk cU q.keys (q.vals.go g)) r
  .obtain⟨ks,f,q⟩:=a _ _ e;refine⟨p,.dT ks,rfl,f,.inr ⟨_,rfl⟩,λo=>?_⟩;obtain⟨g,b,c⟩:=N3 (o:=o) a e (.inr ⟨_,rfl⟩) f;exact k _ _ _ _ (d.trans c) b (.ft cU q.keys (q.vals.go g)) r⟩
def rA:W->Mm->(List W->(Mm->Prop)->Mm->Prop)->Prop
 | .fk kvs,a,R=>R (kvs.map λp=>wK p.1) (λ_=>True) a
 | .ft kvs,a,R=>R (kvs.map λp=>.tup (p.1.map wK)) (λ_=>True) a
 | _,_,_=>False
theorem N5{K:Ac}{c:Hp}{d:Mm}{a:Addr}{o:Obj}{u:HO}{xs:List V}{ws:List W}(b:AM K c d)(e:c a=some (.frz o u))(g:aN K c d xs ws):jJ K c d (wU a o u xs) ws λ_=>True:=by
 have st:∀H M,Kp c d H M->H a=some (.frz o u):=λH M k=>(k.fr _ _ (b.noFrz e) e).1;refine⟨λi H M k f _ hi=>⟨st H M k,by rw[g.length];exact hi⟩,λH M k f _=>⟨st H M k,by rw[g.length];exact Ag _⟩,λi H M x h k f _ hi y=>?_⟩;obtain⟨rfl,y⟩:=y;obtain⟨w,hw,av⟩:=(g.kp b k).getV y;exact⟨w,hw,Kp.refl f,f,av⟩
theorem zej{K:Ac}{H:Hp}{M:Mm}:∀k:aF,AV K H M (kV k) (wK k)
 | .inl i=>.int i
 | .inr x=>.str x
theorem zek(ok:c9 P w H h)(e:H a=some (.frz o (.dK ks))):
  ∃es ep,gR h a es ep/\o.data=.dict es ep/\(a==Ep)=false/\es.size=ks.length/\∀(i:Nat) (en:Dn),es[i]? = some en->∃p,ks[i]? = some p/\RelV (kV p.1) en.key/\RelV p.2 en.val:=by
 obtain⟨m,hz,d,vs,c,C,es,ep,f,y,j,D,l,F⟩:=(show cC P w H h a (.frz o (.dK ks)) from ok a _ e);rw[m]at f;cases f;have G:=c.length;have B:=l.length;rw[Fw]at B;refine⟨es,ep,⟨o,m,y,j⟩,j,d,by lia,λi en b=>?_⟩;have hi:=(Array.getElem?_eq_some_iff.mp b).1;obtain⟨⟨k,x⟩,g⟩:∃v,vs[i]? = some v:=⟨_,Bj (by lia)⟩;obtain⟨z1,z2⟩:=l.get? (by rw[Gi];exact b) g;have:∀{ks:List (aF×V)} {vs:List (aF×Ae)} {i:Nat},KV ks vs->vs[i]? = some (k,x)->∃v,ks[i]? = some (k,v)/\RelV v x:=by
  intro ks vs i r
  induction r generalizing i with
  | nil=>intro h;simp at h
  | @cons p q ps qs n t s=>
   intro h;cases i with
   | zero=>simp at h;subst h;obtain⟨E,z⟩:=p;cases n.1;exact⟨z,rfl,n.2⟩
   | succ i=>rw[Ez]at h⊢;exact s h
 obtain⟨v,u,A⟩:=this c g;exact⟨(k,v),u,yT z1,by rw[z2];exact A⟩
theorem zel(ok:c9 P w H h)(e:H a=some (.frz o (.dT ks))):
  ∃es ep,gR h a es ep/\o.data=.dict es ep/\(a==Ep)=false/\es.size=ks.length/\∃l:List Addr,l.length=ks.length/\(∀(i:Nat) (p:List aF×V) (b:Addr),ks[i]? = some p->l[i]? = some b->H b=some (.tup (p.1.map kV)))/\
   ∀(i:Nat) (en:Dn),es[i]? = some en->∃p b,ks[i]? = some p/\l[i]? = some b/\en.key=.ref b/\RelV p.2 en.val:=by
 obtain⟨y,hz,k,xs,c,D,es,ep,n,B,u,v,F⟩:=(show cC P w H h a (.frz o (.dT ks)) from ok a _ e);rw[y]at n;cases n;have G:=Ks v;have E:=Cw c;refine⟨es,ep,⟨o,y,B,u⟩,u,k,by lia,xs.map λx=>x.2.1,by rw[Ab];lia,λi p b z s=>?_,λi en d=>?_⟩
 .rw[Av]at s;obtain⟨x,f,rfl⟩:=Bd.mp s;have:∀{ks:List (List aF×V)} {xs:List (List aF×Addr×Ae)} {i:Nat},Es (λ(p:List aF×V) (q:List aF×Addr×Ae)=>p.1=q.1/\H q.2.1=some (.tup (p.1.map kV))/\RelV p.2 q.2.2) ks xs->ks[i]? = some p->xs[i]? = some x->H x.2.1=some (.tup (p.1.map kV)):=by
   intro ks xs i r
   induction r generalizing i with
   | nil=>intro h;simp at h
   | @cons p q ps qs m t j=>
    intro h g;cases i with
    | zero=>simp at h g;subst h;subst g;exact m.2.1
    | succ i=>rw[Ez]at h g;exact j h g
  exact this c z f
 .rw[entry_at v i]at d;obtain⟨x,f,rfl⟩:=Bd.mp d;have:∀{ks:List (List aF×V)} {xs:List (List aF×Addr×Ae)} {i:Nat},Es (λ(p:List aF×V) (q:List aF×Addr×Ae)=>p.1=q.1/\H q.2.1=some (.tup (p.1.map kV))/\RelV p.2 q.2.2) ks xs->xs[i]? = some x->∃p,ks[i]? = some p/\RelV p.2 x.2.2:=by
   intro ks xs i r
   induction r generalizing i with
   | nil=>intro h;simp at h
   | @cons p q ps qs m t j=>
    intro h;cases i with
    | zero=>simp at h;subst h;exact⟨p,rfl,m.2.2⟩
    | succ i=>rw[Ez]at h⊢;exact j h
  obtain⟨p,A,C⟩:=this c f;exact⟨p,x.2.1,A,by rw[Av,f];rfl,rfl,C⟩
theorem zem{D:Expr}:mS X D (sI X.K rA):=by
 rintro pins s σ H x u E I A ⟨F,M,R,C,j,h,k⟩;cases C<;>first|exact(show False from h).elim|skip
 case fk a o ks kvs e ke q=>
  cases (show u=Value.ref a from A);obtain⟨es,ep,y,hd,g,hsz,f⟩:=zek I.hok e;have fp:∀b∈[s.heap.objs.size],hZ X pins H b:=λb v=>by
   have e:b=s.heap.objs.size:=by simpa using v
   subst e;exact I.fpOk (Ag _) (I.hok.fresh (Ag _))
  refine uP g y ⟨s.heap.objs.size,[s.heap.objs.size],_,wU a o (.dK ks) (ks.map λp=>kV p.1),H,rfl,I.kept (t':=s.toks) λb o e=>Ai _ e,N2 a _ o _ _ es ep hd (by rw[Ab];exact hsz) (λi en w=>?_),⟨_,Bc _ rfl,rfl,rfl⟩,fp,k _ _ _ _ _ (Kp.refl j) j (N5 j e ?_) h⟩
  .obtain⟨p,n,m,_⟩:=f i en w;exact⟨kV p.1,by rw[Av,n];rfl,m⟩
  .have hk:(ks.map λp=>kV p.1)=(ks.map Ck).map kV:=by rw[Bo];rfl
   have hw:(kvs.map λp=>wK p.1)=(kvs.map Ck).map wK:=by rw[Bo];rfl
   rw[hk,hw,ke];generalize kvs.map Ck=l
   induction l with
   | nil=>exact .nil
   | cons z l t=>exact .cons (zej z) t
 case ft a o ks kvs e ke q=>
  cases (show u=Value.ref a from A);obtain⟨es,ep,y,hd,g,hsz,c,hl,d,f⟩:=zel I.hok e;have fp:∀b∈[s.heap.objs.size],hZ X pins H b:=λb v=>by
   have e:b=s.heap.objs.size:=by simpa using v
   subst e;exact I.fpOk (Ag _) (I.hok.fresh (Ag _))
  refine uP g y ⟨s.heap.objs.size,[s.heap.objs.size],_,wU a o (.dT ks) (c.map V.ref),H,rfl,I.kept (t':=s.toks) λb o e=>Ai _ e,N2 a _ o _ _ es ep hd (by rw[Ab];lia) (λi en w=>?_),⟨_,Bc _ rfl,rfl,rfl⟩,fp,k _ _ _ _ _ (Kp.refl j) j (N5 j e ?_) h⟩
  .obtain⟨p,b,n,m,B,_⟩:=f i en w;exact⟨.ref b,by rw[Av,m];rfl,by rw[B];rfl⟩
  .have hw:(kvs.map λp=>W.tup (p.1.map wK))=(ks.map Ck).map λz=>W.tup (z.map wK):=by rw[ke,Bo];rfl
   rw[hw];have:∀(ks:List (List aF×V)) (c:List Addr),c.length=ks.length->(∀(i:Nat) (p:List aF×V) (b:Addr),ks[i]? = some p->c[i]? = some b->H b=some (.tup (p.1.map kV)))->aN X.K H M (c.map V.ref) ((ks.map Ck).map λz=>W.tup (z.map wK)):=by
    intro ks
    induction ks with
    | nil=>intro c hl _;cases c with
     | nil=>exact .nil
     | cons b r=>simp at hl
    | cons p ks t=>
     intro c hl d;cases c with
     | nil=>simp at hl
     | cons b r=>
      refine .cons (.tup (d 0 p b rfl rfl) (A1 p.1)) (t r (by simpa using hl) λi p b n m=>d (i+1) p b (by simpa using n) (by simpa using m))
   exact this ks c hl d
theorem BV(hl:E3 X l tl):PI X a l (gT X.K (cB rA tl)):=u9 hl zem
end
end L3
namespace PySem
namespace Dt
open PyProof.Rows L2 PySem.Spec
open Zd (TK allH MS tG)
section
variable {prog:Ax}{w:Bl}{A:Cs}{E:Ae->Ah->Prop}{s:Ah}
theorem loop{d I l:Addr}{items:Array Ae}{ps:List (List aF×Addr×Ae)}{R:Result->Ah->Prop}(hh:A.handled=none)(hu:(TK prog w).room A.in1)(D:d≠I)(Q:d≠l)(J:l≠I)(hn:ps.length=items.size)(hz:items.size<=An)(hk:∀p∈ps,p.2.1≠I/\p.2.1≠d):
  ∀(k i:Nat) (s:Ah) (es:List (List aF×Addr×Ae)),items.size-i=k->i<=items.size->es.length<=i->s.heap.IsListIter I l i->s.heap.IsList l items->s.heap.DictOfH (TK prog w) d es->(∀e∈es,e∈ps\/∃p∈ps,p.2.1=e.2.1)->
  (∀p∈ps,(TK prog w).is s.heap p.1 p.2.1)->
  (∀(j:Nat) (p:List aF×Addr×Ae),ps[j]? = some p->∃(a:Addr),items[j]? = some (.ref a)/\a≠d/\a≠I/\s.heap.IsTuple a #[.ref p.2.1,p.2.2])->
  (∀h' tk,(∀b o,b≠d->b≠I->s.heap.get? b=some o->h'.get? b=some o)->h'.DictOfH (TK prog w) d (allH es (ps.drop i))->R (.ok (.ret .none)) {s with heap:=h',toks:=tk})->
  Kz (Bu prog w) A (.builtin "dict.update.loop" ⟨[.ref d,.ref I,Jm (i:Int),.none],[]⟩) R s:=by
 intro k;have m:∀{h h':Heap} {es:List (List aF×Addr×Ae)},h.DictOfH (TK prog w) d es->(∀e∈es,e∈ps\/∃p∈ps,p.2.1=e.2.1)->(∀c o,c≠I->h.get? c=some o->h'.get? c=some o)->h'.DictOfH (TK prog w) d es:=by
  rintro h h' es ⟨o,en,ep,B,hc,U,C,O,hn⟩ f r;refine⟨o,en,ep,r d o D B,hc,U,C,λx E=>tG (O x E) λo' e=>?_,hn⟩;have:x.2.1≠I:=by
   rcases f x E with q|⟨p,q,e'⟩
   .exact(hk x q).1
   .have:=(hk p q).1;rw[e']at this;exact this
  exact r _ _ this e
 induction k with
 | zero=>
  intro i s es r hi hl hit mE hd f t S X;have hin:i=items.size:=by lia
  refine Nb Dp.entry_loop ?_;rw[Ju Dp.plain_loop _];show Bh _ A.in1 (Iy (.ref I)>>=_) _ _ s;have W:=Ll (prog:=prog) (w:=w) (A:=A.in1) hh I l J items;refine Aa (W.done s _ _ (by rw[<-hin];exact⟨hit,mE⟩) λh' tk r=>?_);show Bh _ A.in1 (Builtin.Dict.addKeywords d []>>=_) _ _ _;refine Aa (Af (Af (X h' tk (λb o _ hb e=>r b o (by simp[hb]) e) ?_)));rw[List.drop_of_length_le (by lia)];exact m hd f λc o hc e=>r c o (by simp[hc]) e
 | succ k ih=>
  intro i s es r hi hl hit mE hd f t S X;have G:i<items.size:=by lia
  refine Nb Dp.entry_loop ?_;rw[Ju Dp.plain_loop _];show Bh _ A.in1 (Iy (.ref I)>>=_) _ _ s;have W:=Ll (prog:=prog) (w:=w) (A:=A.in1) hh I l J items;refine Aa (W.item i s _ _ G ⟨hit,mE⟩ λv h' tk hv F r=>?_);obtain⟨p,z⟩:∃p,ps[i]? = some p:=⟨_,Bj (by lia)⟩;have K:p∈ps:=Au z;obtain⟨a,ha,had,haI,hat⟩:=S i p z;rw[ha]at hv;cases hv;have N:=m hd f λc o hc e=>r c o (by simp[hc]) e;have g:∀q∈ps,(TK prog w).is h' q.1 q.2.1:=λq y=>tG (t q y) λo e=>r _ o (by simp[(hk q y).1]) e;have H:h'.IsTuple a #[.ref p.2.1,p.2.2]:=by
   obtain⟨o,B,rest⟩:=hat;exact⟨o,r a o (by simp[haI]) B,rest⟩
  show Bh _ A.in1 (Hy [Value.ref a] _>>=_) _ _ _;refine Aa (Dd (Aa (wpAny_tryCatch ?_)));unfold Builtin.Dict.pairItems;obtain⟨o,B,hc,n,Y⟩:=H;refine Aa (Mu (T:="tuple") ⟨o,B,hc⟩ ?_);rw[if_pos (by decide)];refine Aa (Jw B Y (Af ?_));show Bh _ _ (Hy [Value.ref p.2.1,p.2.2] (dictSet d (.ref p.2.1) p.2.2)) _ _ _;refine Dd (wpAny_dictSet_heap (knd:=TK prog w) hu (g p K) N (hsz:=by lia) λZ V u=>?_);have e1:ps.drop i=p::ps.drop (i+1):=by rw[Gq (by lia)];congr 1;exact(Ap.mp z).2
  refine Af ⟨Nr Dp.plain_loop _,?_⟩;refine ih (i+1) _ (Lv es p.1 p.2.1 p.2.2) (by lia) G (by have:=MS es p.1 p.2.1 p.2.2;lia) (F.1.at λo e=>(u.2 I (Bz D)).trans e) (F.2.at λo e=>(u.2 l (Bz Q)).trans e) V (λe C=>?_) (λq y=>tG (g q y) λo e=>(u.2 _ (hk q y).2).trans e) (λj q y=>?_) λh3 tk3 P M=>?_
  .unfold Lv at C;split at C
   .obtain⟨L,he0,rfl⟩:=Am.mp C;have:(putAt p.1 p.2.2 L).2.1=L.2.1:=by unfold putAt;split<;>rfl
    rw[this];rcases f L he0 with q|⟨p',q,e'⟩
    .exact .inr ⟨L,q,rfl⟩
    .exact .inr ⟨p',q,e'⟩
   .rcases Bg.mp C with q|q
    .exact f e q
    .obtain rfl:=Aj.mp q;exact .inl K
  .obtain⟨a,g1,g2,g3,⟨o,g4,g5⟩⟩:=S j q y;exact⟨a,g1,g2,g3,⟨o,(u.2 a g2).trans (r a o (by simp[g3]) g4),g5⟩⟩
  .refine X h3 tk3 (λb o h1 Z e=>P b o h1 Z ((u.2 b h1).trans (r b o (by simp[Z]) e))) ?_;rw[e1];exact M
theorem call_pairs{l:Addr}{items:Array Ae}{c:Nat}{ps:List (List aF×Addr×Ae)}{Q:Ae->Ah->Prop}(hh:A.handled=none)(X:A.units+2<Eu)(t:s.heap.get? l=some {cls:=.type "list",data:=.seq items c})(P:ps.length=items.size)(hz:items.size<=An)(f:∀p∈ps,(TK prog w).is s.heap p.1 p.2.1)(g:∀(j:Nat) (p:List aF×Addr×Ae),ps[j]? = some p->∃(a:Addr),items[j]? = some (.ref a)/\s.heap.IsTuple a #[.ref p.2.1,p.2.2])(h:∀h' tk,(∀b o,s.heap.get? b=some o->h'.get? b=some o)->h'.DictOfH (TK prog w) s.heap.objs.size (allH [] ps)->Q (.ref s.heap.objs.size) {s with heap:=h',toks:=tk}):
  Bh (Bu prog w) A (call (.type "dict") [.ref l]) Q E s:=by
 refine callType_codes (Q₁:=λobj k=>obj=.ref s.heap.objs.size/\k = {s with heap:=s.heap.push {cls:=.type "dict",data:=.dict #[]}}) F.kt_called_dict (F.kt_typeCall_dict_1 _) F.entry_dict_init (kt_code_dict_new _ ⟨rfl,rfl⟩) ?_;rintro obj k ⟨rfl,rfl⟩;have lt:l<s.heap.objs.size:=Be t;have i:(s.heap.push {cls:=.type "dict",data:=.dict #[]}).DictOfH (TK prog w) s.heap.objs.size []:=Heap.DictOfH.new s.heap;have m:(s.heap.push {cls:=.type "dict",data:=.dict #[]}).get? l=some {cls:=.type "list",data:=.seq items c}:=Ai _ t;have B:({s with heap:=s.heap.push {cls:=.type "dict",data:=.dict #[]}}:Ah).TypeIs (.ref s.heap.objs.size) "dict":=i.typeIs;refine⟨B,F.args_dict_init_2 _ _,?_⟩;unfold Ly.«dict.__init__»;refine Aa ?_;unfold Builtin.Dict.selfAndRest;refine Aa (Fo B ?_);show Bh _ _ (pure (s.heap.objs.size,[Value.ref l])) _ _ _;refine Af ?_;show Bh _ _ (Hw "dict.__init__" s.heap.objs.size (.ref l) [] .none) _ _ _;unfold Hw;refine Aa (Mu (T:="list") ⟨_,m,rfl⟩ ?_);rw[if_pos (by decide)];refine Aa (Dp.keys_miss m hh λr U q=>?_);rw[if_pos (by decide)];have v:=q _ _ m;have y:r.DictOfH (TK prog w) s.heap.objs.size []:=by
  obtain⟨o,es,ep,z,J,L,D,S,C⟩:=i;exact⟨o,es,ep,q _ o z,J,L,D,(λx t=>nomatch t),C⟩
 refine Aa (Hm (Aa (Hx (items:=items) ⟨_,v,rfl,c,rfl⟩ ?_)));have Z:(r.push {cls:=.type "list_iterator",data:=.fields #[.ref l,.int 0 0]}).IsListIter r.objs.size l 0:=⟨_,Bc _ rfl,rfl,rfl⟩;have up:∀b o,s.heap.get? b=some o->(r.push {cls:=.type "list_iterator",data:=.fields #[.ref l,.int 0 0]}).get? b=some o:=λb o e=>Ai _ (q b o (Ai _ e));have u:s.heap.objs.size<r.objs.size:=by
  obtain⟨o,es,ep,z,rest⟩:=y;exact Be z
 have O:∀p∈ps,@LT.lt Nat _ p.2.1 s.heap.objs.size:=λp g=>by
  obtain⟨o,items,n,e,_⟩:=f p g;exact Be e
 refine Af ⟨Nr Dp.plain_loop _,?_⟩;refine loop (A:=A.in1) (d:=s.heap.objs.size) (I:=r.objs.size) (l:=l) (items:=items) (ps:=ps) hh (Fb (A:=A.in1) (show(A.units+1)+1<Eu from X)) (Bn u) (Ga lt) (Bn (Ih lt u)) P hz (λp g=>⟨Bn (Ih (O p g) u),Bn (O p g)⟩) items.size 0 _ [] rfl (Bw _) (Ag _) Z ⟨_,Ai _ v,rfl,c,rfl⟩ (by
  obtain⟨o,es,ep,z,J,L,D,S,C⟩:=y;exact⟨o,es,ep,Ai _ z,J,L,D,(λx t=>nomatch t),C⟩) (λe he=>nomatch he) (λp g=>tG (f p g) (up _)) (λj p Y=>?_) λV K H G=>?_
 .obtain⟨a,R,⟨o,M,W⟩⟩:=g j p Y;have N:=Be M;exact⟨a,R,Bn N,Bn (Ih N u),⟨o,up a o M,W⟩⟩
 .exact⟨rfl,h V K (λb o e=>H b o (Bn (Be e)) (Bn (Ih (Be e) u)) (up b o e)) G⟩
end
end Dt
end PySem
namespace L3
open PySem PySem.Spec PyProof.Rows L2
section
variable {X:Cx}
def pB(ps:List (List aF×W)):List W:=ps.map λp=>.tup [.tup (p.1.map wK),p.2]
theorem N6(I:L2.Inv X c A H s):∀{ps:List (List aF×W)} {vs:List V} {its:List Ae},aN X.K H M vs (pB ps)->a7 vs its->
  ∃(qs:List (List aF×Addr×V)) (rs:List (List aF×Addr×Ae)),bZ X.K H M (List aF) (qs.map λq=>(q.1,q.2.2)) ps/\(∀q∈qs,H q.2.1=some (.tup (q.1.map kV)))/\Es (λ(q:List aF×Addr×V) (p:List aF×Addr×Ae)=>q.1=p.1/\q.2.1=p.2.1/\RelV q.2.2 p.2.2) qs rs/\rs.length=its.length/\
   (∀z∈rs,H z.2.1=some (.tup (z.1.map kV)))/\∀(j:Nat) (p:List aF×Addr×Ae),rs[j]? = some p->∃(a:Addr),its[j]? = some (.ref a)/\s.heap.IsTuple a #[.ref p.2.1,p.2.2]
 | [],_,_,.nil,.nil=>⟨[],[],.nil,(λq f=>nomatch f),.nil,rfl,(λq f=>nomatch f),λj p h=>by simp at h⟩
 | (k,w)::ps,_,_,.cons av d,.cons l i=>by
  obtain⟨qs,rs,E,y,x,F,J,t⟩:=N6 I d i;obtain⟨a,xs,r,e,q⟩:=av.inv;rw[r]at l;obtain⟨P,D,ex,C,v⟩:=q.two;obtain⟨b,O,N,g,B⟩:=C.inv;rw[B.keys]at g;obtain⟨n,o,pl,_⟩:=I.tuple (cD.of e);rw[ex,N]at o;obtain⟨G,L,u,x1,x2⟩:=vals2 o;rw[u,show G=.ref b from x1]at pl;refine⟨(k,b,D)::qs,(k,b,L)::rs,.cons ⟨rfl,v⟩ E,List.forall_mem_cons.mpr ⟨g,y⟩,.cons ⟨rfl,rfl,x2⟩ x,congrArg (· + 1) F,List.forall_mem_cons.mpr ⟨g,J⟩,λj p m=>?_⟩;cases j with
  | zero=>rw[<-Ci m];exact⟨a,congrArg some l,pl⟩
  | succ j=>exact t j p m
def BW:List W->Mm->K3->Prop
 | [.rl ws],M,R=>∃ps:List (List aF×W),ws=pB ps/\ws.length<=An/\kA (m7 [] ps) M R
 | _,_,_=>False
theorem N7(hc:X.calm=true)(Y:X.A.units+2<Eu):c0 X (.type "dict") (fT X.K BW):=by
 rintro w s σ H xs us Q I rs ⟨ws,M,R,x,d,h,k⟩
 match ws,h with
 | [.rl ws],h=>
  obtain⟨v,rfl,av⟩:=d.one;obtain⟨ps,rfl,hz,r⟩:=h;obtain⟨u,rfl,ru⟩:=vals1 rs;cases av with
  | rl f n q=>
   cases ru;obtain⟨z,its,c,P,hl,e⟩:=I.lstM f;obtain⟨qs,l,y,T,O,h4,h5,D⟩:=N6 I q P;have G:ps.length<=An:=by simpa [pB] using hz
   have E:qs.length=ps.length:=by have:=Cw y;rwa [Ab]at this
   refine Dt.call_pairs (items:=its.toArray) (ps:=l) (I.ok.hd hc) Y e (by simpa using h4) (by rw[Bf];lia) (λp J=>jS I.hok (h5 p J)) (λj p Z=>by simpa using D j p Z) λh' tk hk N=>?_;have a:=I.hok.fresh (Ag _);have len:=MT (qs.map λq=>(q.1,q.2.2)) [];rw[Ab]at len;have b:∀{ps:List (List aF×W)} {qs:List (List aF×V)} {ks:List (List aF×V)} {kvs:List (List aF×W)},bZ X.K H M (List aF) qs ps->bZ X.K H M (List aF) ks kvs->bZ X.K H M (List aF) (oT ks qs) (m7 kvs ps):=by
    intro ps qs ks kvs h
    induction h generalizing ks kvs with
    | nil=>intro h;exact h
    | @cons q p qs ps r t S=>
     intro h;obtain⟨q1,q2⟩:=q;obtain⟨p1,p2⟩:=p;obtain⟨rfl,m⟩:=r;exact S (uZ h q1 m)
   have g:=b (ks:=[]) (kvs:=[]) y .nil;refine⟨.ref s.heap.objs.size,aT H s.heap.objs.size (.dT (oT [] (qs.map λq=>(q.1,q.2.2)))),I.laid (o:=.dT (oT [] (qs.map λq=>(q.1,q.2.2)))) (t':=tk) hk (Ag _) ⟨by simp at len;lia,beq_eq_false_iff_ne.mpr (Bz (Bn I.big)),_,(zbi O T .nil).keeps λc ys B=>?_,?_⟩,rfl,?_⟩
   .rw[bD (fP B a)];exact B
   .obtain⟨o,en,ep,U,m,F,L,_,C⟩:=N;exact⟨o,en,ep,U,m,F,L,C⟩
   .obtain⟨i,k2⟩:=x.laid (o:=.dT (m7 [] ps)) (u:=.dT (oT [] (qs.map λq=>(q.1,q.2.2)))) a ⟨_,cU,pY g.keys (g.vals.newL a)⟩;exact k _ _ _ _ k2 i (.ref _) (r _ (x.nonM a))
end
end L3
namespace Rg
open PySem PySem.Spec PyProof.Rows L2 L3
structure GL(rs:List aI):Prop where
 few:rs.length<=61
 prt:∀r∈rs,r.parts.length<=4
 wds:∃U:List Str,U.length<64/\qP rs U
theorem BX(h:acc.Nodup):(dE acc t).Nodup:=by
 unfold dE;split
 .exact h
 .rename_i d;rw[Dk];refine⟨h,by simp,λa f b c e=>d ?_⟩;have:b=t:=by simpa using c
  rw[<-this,<-e];exact f
theorem zen(rs:List aI):(namesOf rs).Nodup:=by
 have:∀(ts acc:List Str),acc.Nodup->(ts.foldl dE acc).Nodup:=by
  intro ts
  induction ts with
  | nil=>intro acc h;exact h
  | cons t ts a=>intro acc h;exact a _ (BX h)
 exact this _ _ Em
theorem zeo(rs:List aI)(ws:List Str):qM (d4 rs ws):=⟨λ_=>Ld _,λt p e c h=>by
 have h:(e,c)∈(if p=0/\t∈ws then [((0:Int),(1:Int))] else []):=h;split at h
 .simp at h;lia
 .cases h⟩
theorem zep(ws:List Str){k:Nat}(hk:∀r∈rs,r.parts.length<=k):qN (d4 rs ws) [0] (d4 rs ws).rs.length (k+1):=by
 refine⟨λp b=>b,λt p e c b a=>?_,Ag _,λr d=>by have:=hk r d;lia⟩;have a:(e,c)∈(if p=0/\t∈ws then [((0:Int),(1:Int))] else []):=a;split at a
 .simp at a;simp[a.1]
 .cases a
theorem zeq(rs:List aI)(ws:List Str)(t:Str)(p:Int):((d4 rs ws).steps t p).length<=1:=by
 show(if p=0/\t∈ws then [((0:Int),(1:Int))] else []).length<=1;split<;>simp
theorem N8{κ:Type}:∀{ps acc:List (aF×W)},((acc++ps).map (·.1)).Nodup->j0 acc ps=acc++ps
 | [],acc,_=>by simp[j0]
 | p::ps,acc,h=>by
  have c:aX acc p.1=none:=by
   rw[Bb,Dk]at h;exact qT λe a z=>h.2.2 _ (Am.mpr ⟨e,a,rfl⟩) p.1 (by simp) z
  have e:b9 acc p.1 p.2=acc++[p]:=by
   unfold b9;rw[if_neg (by rw[show(acc.any λb=>decide (b.1=p.1))=(aX acc p.1).isSome from lR acc p.1,c];decide)]
  show j0 (b9 acc p.1 p.2) ps=_;rw[e,N8 (κ:=κ) (by rw[Dx];exact h),Dx];rfl
def pC(B:bL):List (aF×W):=B.map λe=>(Sum.inr e.1.1,W.int e.2.1.1)
theorem zer{rs:List aI}{ws:List Str}{S I0 T:Nat}{st:SS}{P:List b8}{cur:aL}(A:All (d4 rs ws) S I0 st P cur T)(X:Str):aX (j0 [] (pC st.best)) (Sum.inr X:aF)=(tD st.best X).map W.int:=by
 have nd:((pC st.best).map (·.1)).Nodup:=by
  have h1:=AQ A;have h2:∀e∈st.best,e.1=(e.1.1,0,0):=λe he=>by
   obtain⟨r,hr,e1⟩:=AR A he;rw[e1]
  unfold pC;rw[Bo];have:∀{B:bL},(∀e∈B,e.1=(e.1.1,0,0))->(B.map (·.1)).Nodup->(B.map ((λx:aF×W=>x.1) ∘ λe=>(Sum.inr e.1.1,W.int e.2.1.1))).Nodup:=by
   intro B
   induction B with
   | nil=>intro _ _;simp
   | cons b B ih=>
    intro hf nd;rw[Aw,Cz]at nd⊢;refine⟨λhm=>?_,ih (λe he=>hf e (Ar _ he)) nd.2⟩;obtain⟨e,he,e1⟩:=Am.mp hm;apply nd.1;have e1:e.1.1=b.1.1:=by simpa using e1
    rw[hf b Az,<-e1,<-hf e (Ar _ he)];exact Am.mpr ⟨e,he,rfl⟩
  exact this h2 h1
 rw[N8 (κ:=aF) (by simpa using nd),Fu];unfold tD pC;have:∀{B:bL},(∀e∈B,e.1=(e.1.1,0,0))->aX (B.map λe=>((Sum.inr e.1.1:aF),W.int e.2.1.1)) (Sum.inr X)=((aJ B (X,0,0)).map λv=>v.1.1).map W.int:=by
  intro B
  induction B with
  | nil=>intro _;rfl
  | cons b B ih=>
   intro hf;rw[Aw,nV,dG,ih λe he=>hf e (Ar _ he)];have hb:=hf b Az
   by_cases h:b.1.1=X
   .rw[if_pos (by rw[h]),if_pos (by rw[hb,h])];rfl
   .rw[if_neg (λz=>h (Sum.inr.inj z)),if_neg (λz=>h (by rw[hb]at z;exact congrArg Ck z))]
 exact this λe he=>by
  obtain⟨r,hr,e1⟩:=AR A he;rw[e1]
inductive Fr(rs:List aI):Str->Prop
 | mk {r:aI}:r∈rs->(∀t∈r.parts,ownB rs t=true->Fr rs t)->Fr rs r.name
section
variable {rs:List aI}{ws:List Str}
theorem wV{e:Int}(h:cut≠[]):(cut++[e]).length-1=cut.length-1+1:=by
 rw[Ak,Bp,Nat.add_sub_cancel];exact(Nat.sub_add_cancel (Eh.mpr h)).symm
theorem zes{n:Nat}(h:DI (d4 rs ws) n cut c):∃r,rs[n]? = some r/\∀t∈r.parts.take (cut.length-1),ownB rs t=true->Fr rs t:=by
 induction h with
 | @start n r p d _=>exact⟨r,d,λt h=>nomatch (show t∈[] from h)⟩
 | @word n r cut c a e pr hd d l u A o=>
  obtain⟨y,f,q⟩:=o;cases f.symm.trans (show rs[n]? = some r from d);refine⟨r,d,λt ht i=>?_⟩;rw[wV hd.ne,nU l]at ht;rcases Bg.mp ht with z|z
  .exact q t z i
  .rw[Aj.mp z,show ownB rs a=false from u]at i;cases i
 | @name n B r cut v c m a hd d l u w b j x o k=>
  obtain⟨y,f,q⟩:=o;obtain⟨C,g,s⟩:=k;cases f.symm.trans (show rs[n]? = some r from d);refine⟨r,d,λt ht i=>?_⟩;rw[wV hd.ne,nU l]at ht;rcases Bg.mp ht with z|z
  .exact q t z i
  .rw[vS g]at b;rw[tB g]at j;rw[Fz (Gp.mp b)]at s;rw[Aj.mp z,<-j];exact .mk (Au g) s
theorem zet{n:Nat}(h:DI (d4 rs ws) n cut c)(hf:dC (d4 rs ws) n cut=none):Fr rs (cN (d4 rs ws) n):=by
 obtain⟨r,a,b⟩:=zes h;rw[vS a]at hf;rw[Fz (Gp.mp hf)]at b;rw[tB a];exact .mk (Au a) b
theorem zeu(o:qP rs ws)(h:Fr rs X):∃n cut c,DI (d4 rs ws) n cut c/\dC (d4 rs ws) n cut=none/\cN (d4 rs ws) n=X:=by
 induction h with
 | @mk r j _ m=>
  obtain⟨n,a⟩:=Mp j;have go:∀k,k<=r.parts.length->∃cut c,DI (d4 rs ws) n cut c/\cut.length-1=k:=by
   intro k
   induction k with
   | zero=>exact λ_=>⟨[0],_,.start a (Aj.mpr rfl),rfl⟩
   | succ k d=>
    intro hk;obtain⟨cut,c,hd,hl⟩:=d (Nat.le_of_succ_le hk);obtain⟨t,ht⟩:∃t,r.parts[k]? = some t:=⟨_,Bj hk⟩;rw[<-hl]at ht;have hz:=vT (qQ hd);have i:=Au ht;cases b:ownB rs t with
    | false=>exact⟨_,_,.word hd a ht b (e:=0) (pr:=1) (by show((0:Int),(1:Int))∈(if cut.getLastD 0=0/\t∈ws then [((0:Int),(1:Int))] else []);rw[if_pos ⟨hz,o r j t i b⟩];exact Aj.mpr rfl),by rw[wV hd.ne,hl]⟩
    | true=>
     obtain⟨q,g,s,f,l,p⟩:=m t i b;exact⟨_,_,.name hd a ht b f l p (by rw[AN (qQ f),hz]),by rw[wV hd.ne,hl]⟩
  obtain⟨cut,c,hd,hl⟩:=go _ (Ag _);exact⟨n,cut,c,hd,by rw[vS a,hl];exact Gp.mpr (Ag _),tB a⟩
open Classical in
def pD(rs:List aI)(t:Str):Bool:=decide (Fr rs t)
def lY(rs:List aI)(t:Str):Bool:=pD rs t||!ownB rs t
theorem BY:pD rs t=true↔Fr rs t:=by unfold pD;exact @decide_eq_true_iff _ (Classical.propDecidable _)
theorem zev(h:ownB rs t=true->Fr rs t):lY rs t=true:=by
 unfold lY;cases a:ownB rs t with
 | false=>exact Bool.or_true _
 | true=>rw[BY.mpr (h a)];rfl
variable {S I0 T:Nat}{st:SS}{P:List b8}{cur:aL}
theorem zew(g:qP rs ws)(A:All (d4 rs ws) S I0 st P cur T)(i:st.q=[])(X:Str):(tD st.best X).isSome=pD rs X:=by
 rw[Dv,BY];constructor
 .intro h;unfold tD at h;rw[Jc]at h;obtain⟨⟨m,n,cut⟩,f⟩:=Fm.mp h;obtain⟨a,d,b⟩:=oR A.ob f;rw[show X=cN (d4 rs ws) n from congrArg Ck b];exact zet a d
 .intro h;obtain⟨n,cut,c,a,d,b⟩:=zeu g h;obtain⟨m,k,e,_⟩:=L5 A.inv A.ob A.ini i a d;rw[show cS (d4 rs ws) n cut=(X,0,0) by unfold cS;rw[b,AN (qQ a),vT (qQ a)]]at e;unfold tD;rw[e];rfl
end
theorem N9{b a:List Int}{i:Nat}{s d:Int}(h:Drawn b (a.take i))(c:a[i]? = some s)(hd:Below d s):Drawn (b++[d]) (a.take (i+1)):=by
 rw[Cu,c];exact Paired.snoc h hd
theorem zex{f:Int->W}{a:List Int}{i:Nat}{s:Int}(h:a[i]? = some s):cA (a.map f) (i:Int)=some (f s):=gF (by rw[Av,h];rfl)
theorem OA{lo:Int}{n i:Nat}(h:(mT lo n)[i]? = some w):i<n/\w=.int (lo+i):=by
 unfold mT at h;rw[Av]at h;obtain⟨j,c,rfl⟩:=Bd.mp h;obtain⟨b,a⟩:=Ap.mp c;simp at b a;subst a;exact⟨b,rfl⟩
theorem OB{lo:Int}{n:Nat}:(mT lo n).length=n:=by unfold mT;simp
theorem wW{ts:List Str}{k:Int}(b:0<=k)(c:k<ts.length):∃t,cA (ts.map W.str) k=some (.str t)/\t∈ts:=by
 obtain⟨x,e,a,_⟩:=z5 (xs:=ts.map W.str) b (by rw[Ab];exact c);rw[Av]at a;obtain⟨t,ht,rfl⟩:=Bd.mp a;exact⟨t,e,Au ht⟩
theorem zey{ws:List W}{M:Mm}{R:K3}(h:tI ws M R):zcq (bI R) (bT zck ws) M:=by
 obtain⟨c,f,rfl,hl,m,r⟩:=h;have pw:rT 10 18:=⟨by decide,by decide,by decide⟩;refine⟨Bw _,λp q=>⟨_,rfl,pw,_,rfl,_,rfl,by rw[Ab];lia,by rw[Ab];lia,?_⟩⟩;rw[Ab,Dc];refine eL (λi k g=>∃b rest o,k=[some (.int c),some (.rl (f.map W.int)),some (.ref p),some (.int rest),o]/\g=put M p (.lst (b.map W.int))/\Drawn b (f.take i)) ⟨[],_,_,rfl,rfl,by rw[List.take_zero];exact .nil⟩ (λ_ _ _ _ _=>trivial) ?_ ?_
 .rintro i w k g hw ⟨b,rest,o,rfl,rfl,hd⟩;obtain⟨hi,rfl⟩:=OA hw;rw[Int.zero_add];obtain⟨s,a⟩:∃s,f[i]? = some s:=⟨_,Bj hi⟩;obtain⟨e,n⟩:=m s (Au a);have j:cA (f.map W.int) (i:Int)=some (.int s):=zex a;have l:=Cw hd;rw[Ce]at l;have d:(b.map W.int).length<An:=by rw[Ab];exact eS (by lia)
  refine⟨_,rfl,pw,_,rfl,d9 (λ_=>?_) λ_=>?_⟩
  .refine⟨_,rfl,.inl ⟨rfl,_,aR⟩,_,rfl,_,rfl,_,rfl,_,j,e,_,aR,d,_,rfl,_,rfl,_,rfl,_,j,⟨e,Int.lt_of_le_of_lt n (by decide)⟩,_,Sub.refl _,b++[rest % s],_,_,rfl,by rw[eW,Bb];rfl,N9 hd a ⟨Ey _ (by lia),Dz _ e⟩⟩
  .refine⟨_,rfl,.inl ⟨rfl,_,aR⟩,_,rfl,_,rfl,c,_,rfl,by lia,by lia,λz u t=>⟨_,rfl,_,rfl,_,j,e,_,aR,d,_,Sub.refl _,b++[z % s],_,_,rfl,by rw[eW,Bb];rfl,N9 hd a ⟨Ey _ (by lia),Dz _ e⟩⟩⟩
 .rintro k g ⟨b,rest,o,rfl,rfl,hd⟩;rw[OB,Cd]at hd;exact⟨_,rfl,_,Sub.refl _,r b hd p q⟩
theorem zez(h:wB ws M R):zcv (bI R) (bT zcr ws) M:=by
 obtain⟨n,m,g,rfl,h0,h1,r⟩:=h;have key:∀L,L=kK g->(aM NI (aM NJ (aM NK (aM NL (aM NM (aM NN NO)))))) (bI R) [some (.int n),some (.int m),some (.bl g),some (.str L),none,none,none,none,none,none,none] M:=by
  rintro L rfl;obtain⟨b,T,D⟩:=LX (AB g) n;have Z:(kK g).length<=16777216:=by rw[<-lC,AB];decide
  have N:0<=n/26 % 8:=Ey _ (by decide);have I:n/26 % 8<8:=Dz _ (by decide);have f:0<=n/208 % (1+n/26 % 8):=Ey _ (by lia);have o:n/208 % (1+n/26 % 8)<1+n/26 % 8:=Dz _ (by lia);have s:(0:Int)<26:=by decide
  have p8:(0:Int)<8:=by decide
  refine⟨_,rfl,_,rfl,s,Z,b,T,_,rfl,⟨by decide,by decide⟩,p8,_,rfl,⟨by decide,by decide⟩,_,rfl,show 0<1+n/26 % 8 by lia,_,rfl,⟨by decide,by decide⟩,s,Bw _,λp hp=>⟨_,rfl,m,rfl,by lia,by lia,?_⟩⟩;have k:(⟨#[b]⟩:Str).length=1:=rfl;obtain⟨y,S⟩:∃y,y=n/1664 % 26:=⟨_,rfl⟩;obtain⟨j,G⟩:∃j,j=n/26 % 8:=⟨_,rfl⟩;rw[<-G]at N I f o;obtain⟨av,H⟩:∃av,av=n/208 % (1+j):=⟨_,rfl⟩;rw[<-H]at f o;refine eL (λi X V=>∃(ts:List Str) (F e:Option W),X=[some (.int n),some (.int m),some (.bl g),some (.str (kK g)),some (.str ⟨#[b]⟩),some (.int (1+j)),some (.int av),some (.int y),some (.ref p),F,e]/\
   V=put M p (.lst (ts.map W.str))/\ts.length=i/\∀t∈ts,sQ g t) ⟨[],none,none,by rw[S,H,G];rfl,rfl,rfl,λt ht=>nomatch ht⟩ (λ_ _ _ _ _=>trivial) ?_ ?_
  .rintro i w X V hw ⟨ts,F,e,rfl,rfl,a,ht⟩;obtain⟨hi,rfl⟩:=OA hw;rw[Int.zero_add];obtain⟨d,hd,Q⟩:=LX (AB g) (y+3*(i:Int));have hm1:((Hc (⟨#[b]⟩:Str) av).length:Int)=av:=LW k f;have hm2:((Hc (⟨#[b]⟩:Str) (1+j-av-1)).length:Int)=1+j-av-1:=LW k (by lia);have P:(⟨#[d]⟩:Str).length=1:=rfl;have U:(Hc (⟨#[b]⟩:Str) av++(⟨#[d]⟩:Str)).length=(Hc (⟨#[b]⟩:Str) av).length+1:=by rw[Kj,P]
   have J:(Hc (⟨#[b]⟩:Str) av++(⟨#[d]⟩:Str)++Hc (⟨#[b]⟩:Str) (1+j-av-1)).length=(Hc (⟨#[b]⟩:Str) av).length+1+(Hc (⟨#[b]⟩:Str) (1+j-av-1)).length:=by rw[Kj,U]
   refine⟨_,rfl,_,rfl,_,rfl,.inl (.inl ⟨by decide,by decide⟩),s,Z,d,hd,?_⟩;refine⟨_,rfl,.inl ⟨rfl,_,aR⟩,_,rfl,_,rfl,_,_,rfl,rfl,by rw[k];decide,by lia,by lia,_,rfl,_,_,rfl,rfl,cJ (by lia),_,rfl,_,rfl,_,rfl,_,_,rfl,rfl,by rw[k];decide,by lia,by lia,_,_,rfl,rfl,cJ (by lia),_,aR,eS (by rw[Ab];lia),?_⟩;generalize hx:Hc (⟨#[b]⟩:Str) av++(⟨#[d]⟩:Str)++Hc (⟨#[b]⟩:Str) (1+j-av-1)=x at J⊢;have A:x.length<=8:=by lia
   have O:∀z∈cs x,z∈cs (kK g):=λz hz=>by
    rw[<-hx,pW,pW]at hz;rcases Bg.mp hz with q|q
    .rcases Bg.mp q with q|q
     .have:=LV q;rw[AD,Aj]at this;rw[this];exact D
     .rw[AD,Aj]at q;rw[q];exact Q
    .have:=LV q;rw[AD,Aj]at this;rw[this];exact D
   have E:cs x≠[]:=λz=>by
    have:x.length=0:=by rw[<-lC,z];rfl
    lia
   have e1:ts.map W.str++[W.str x]=(ts++[x]).map W.str:=by rw[Bb];rfl
   rw[eW,e1];have c:∀C l,∃B,L3.Sub B (put M p (.lst ((ts++[x]).map W.str)))/\∃(v:List Str) (F e:Option W),[some (.int n),some (.int m),some (.bl g),some (.str (kK g)),some (.str ⟨#[b]⟩),some (.int (1+j)),some (.int av),some (.int y),some (.ref p),C,l]=[some (.int n),some (.int m),some (.bl g),some (.str (kK g)),some (.str ⟨#[b]⟩),some (.int (1+j)),some (.int av),some (.int y),some (.ref p),F,e]/\
     B=put M p (.lst (v.map W.str))/\v.length=i+1/\∀t∈v,sQ g t:=λC l=>by
    refine⟨_,Sub.refl _,ts++[x],_,_,rfl,rfl,by rw[Ak,a];rfl,λt h=>?_⟩;rcases Bg.mp h with q|q
    .exact ht t q
    .rw[Aj.mp q];exact zav A E O
   refine⟨_,rfl,d9 (λhg=>⟨_,rfl,⟨by decide,by decide⟩,(by decide:(0:Int)<3),_,rfl,d9 (λ_=>⟨_,rfl,⟨by decide,by decide⟩,_,rfl,Int.natCast_nonneg i,_,rfl,d9 (λ_=>?_) λ_=>c _ _⟩) λ_=>c _ _⟩) λ_=>c _ _⟩;have hk:cA ((ts++[x]).map W.str) (i:Int)=some (.str x):=by
    refine gF ?_;rw[Av,Ht (by lia),a];simp
   have Y:("_" : Str).length=1:=by decide +kernel
   have u:0<=n/129792 % 10000:=Ey _ (by decide);have K:n/129792 % 10000<10000:=Dz _ (by decide);have hfl:(Bx (toString (n/129792 % 10000))).length<=10:=PySem.W.KT.len_num u (by lia);have hxu:(x++("_" : Str)).length=x.length+1:=by rw[Kj,Y]
   subst hg;refine⟨_,rfl,_,rfl,.inl ⟨_,_,aR,hk,_,_,rfl,rfl,cJ (by lia),_,rfl,⟨by decide,by decide⟩,(by decide:(0:Int)<10000),LY u K,_,_,rfl,rfl,cJ (by lia),_,rfl,_,rfl,zam aR (by lia) (by rw[Ab,Ak,Bp];lia) ⟨_,Sub.refl _,ts++[x++("_" : Str)++Bx (toString (n/129792 % 10000))],_,_,rfl,?_,by rw[Ak,a];rfl,λt h=>?_⟩⟩⟩
   .rw[eW,Bb,Bb];congr 2;rw[List.set_append_right _ _ (by rw[Ab,a];lia),Ab,a,Dc,Nat.sub_self];rfl
   .rcases Bg.mp h with q|q
    .exact ht t q
    .rw[Aj.mp q];exact zaw _ u K A E O
  .rintro X V ⟨ts,F,e,rfl,rfl,a,ht⟩;rw[OB]at a;exact⟨_,rfl,_,Sub.refl _,r ts a ht p hp⟩
 cases g with
 | true=>exact⟨_,rfl,_,rfl,rfl,by decide +kernel,key _ rfl⟩
 | false=>exact⟨_,rfl,key _ rfl⟩
theorem zeA(m:Nat):(Bv m [W.int 6]).flatten=(Bv m (6:Int)).map W.int:=by
 induction m with
 | zero=>rfl
 | succ m a=>rw[Eb,Gz,a,Eb];rfl
theorem zeB{x1 x2 x3 x4:Int}(h:w∈eX (([x1,x2,x3,x4]++a).map W.int) (some 4) hi):∃d∈a,w=.int d:=by
 unfold eX at h;have e:HT.sIx (([x1,x2,x3,x4]++a).map W.int).length 0 (some 4)=4:=by
  have:=HT.sIx_nat (([x1,x2,x3,x4]++a).map W.int).length 0 4;simp at this⊢;lia
 rw[e]at h;have h:=Gx h;obtain⟨d,hd,rfl⟩:=Am.mp (show w∈a.map W.int from h);exact⟨d,hd,rfl⟩
theorem zeC{ws:List W}{M:Mm}{R:K3}(h:BI ws M R):zcC (bI R) (bT zcw ws) M:=by
 obtain⟨c,b,wds,a,rfl,hh0,hh1,hw,V,hm1,r⟩:=h;have pw:rT 10 59:=⟨by decide,by decide,by decide⟩;have x:∀{n:Nat},n<=20->n<=An:=λh=>cJ (Ay h (by decide));refine⟨_,rfl,_,rfl,_,rfl,pw,x (n:=4) (by decide),x (n:=1) (by decide),_,rfl,by lia,by lia,x (by show 1*a.toNat<=20;lia),?_⟩;rw[zeA];refine⟨x (by show 4+(Ko W.int _).length<=20;rw[Ab,Mh];lia),c,[(b.length:Int),a+1,3,10 ^ 59]++Bv a.toNat 6,by rw[Bb,Ab];rfl,by rw[Ak,Mh];show 4+_<=100;lia,λs J=>?_,λds hd=>aY.frz ?_⟩
 .rcases Bg.mp J with q|q
  .simp at q;rcases q with rfl|rfl|rfl|rfl
   .exact⟨by lia,Int.le_trans (show(b.length:Int)<=12 by lia) (by decide)⟩
   .exact⟨by lia,Int.le_trans (show a+1<=5 by lia) (by decide)⟩
   .exact⟨by decide,by decide⟩
   .exact⟨by decide,by decide⟩
  .rw[(List.mem_replicate.mp q).2];exact⟨by decide,by decide⟩
 .obtain⟨d1,g,rfl,e1,e2⟩:=zax hd;obtain⟨x1,x2,x3,x4,rfl,b1,P,X,b4⟩:=zay e1;have b6:=zaz e2 (s:=6) λz hz=>(List.mem_replicate.mp hz).2;have T:cA (([x1,x2,x3,x4]++g).map W.int) 0=some (.int x1):=zZ _ _;have a1:cA (([x1,x2,x3,x4]++g).map W.int) 1=some (.int x2):=gF (j:=1) rfl;have a2:cA (([x1,x2,x3,x4]++g).map W.int) 2=some (.int x3):=gF (j:=2) rfl;have a3:cA (([x1,x2,x3,x4]++g).map W.int) 3=some (.int x4):=gF (j:=3) rfl;refine⟨Bw _,λp hp=>⟨_,rfl,_,rfl,_,rfl,_,a1,_,rfl,?_⟩⟩;show zL (eX (([x1,x2,x3,x4]++g).map W.int) (some 4) (some (4+x2))) _ _ _ _ _ _;have hcl:=LL (S:=([x1,x2,x3,x4]++g).map W.int) (i:=4) (j:=4+x2) (by decide) (by have:=P.1;lia);have L:∀w∈eX (([x1,x2,x3,x4]++g).map W.int) (some 4) (some (4+x2)),∃d,Below d 6/\w=.int d:=λw l=>by
   obtain⟨d,hd,e⟩:=zeB l;exact⟨d,b6 d hd,e⟩
  generalize eX (([x1,x2,x3,x4]++g).map W.int) (some 4) (some (4+x2))=cw at *;obtain⟨I,D⟩:=b1;obtain⟨Y,b21⟩:=P;obtain⟨E,b31⟩:=X;obtain⟨b40,b41⟩:=b4;refine eL (λi N H=>∃(ts:List Str) (y:Option W),N=[some (.int c),some (.rl (b.map W.str)),some (.rl (wds.map W.str)),some (.int a),some (.rl (([x1,x2,x3,x4]++g).map W.int)),some (.ref p),y]/\
   H=put M p (.lst (ts.map W.str))/\ts.length=i/\∀t∈ts,t∈wds\/t∈b) ⟨[],none,rfl,rfl,rfl,λt ht=>nomatch ht⟩ (λ_ _ _ _ _=>trivial) ?_ ?_
  .rintro i w N H l ⟨ts,y,rfl,rfl,B,ht⟩;have hi:=(Ap.mp l).1;obtain⟨d,⟨F,Z⟩,rfl⟩:=L w (Au l);have fin:∀t,(t∈wds\/t∈b)->∃(v:List Str) (y:Option W),[some (.int c),some (.rl (b.map W.str)),some (.rl (wds.map W.str)),some (.int a),some (.rl (([x1,x2,x3,x4]++g).map W.int)),some (.ref p),some (.int d)]=[some (.int c),some (.rl (b.map W.str)),some (.rl (wds.map W.str)),some (.int a),some (.rl (([x1,x2,x3,x4]++g).map W.int)),some (.ref p),y]/\
     put (put M p (.lst (ts.map W.str))) p (.lst (ts.map W.str++[.str t]))=put M p (.lst (v.map W.str))/\v.length=i+1/\∀t∈v,t∈wds\/t∈b:=λt G=>
    ⟨ts++[t],_,rfl,by rw[eW,Bb];rfl,by rw[Ak,B];rfl,λu hu=>(Bg.mp hu).elim (ht u) λq=>by rw[Aj.mp q];exact G⟩
   have A:(ts.map W.str).length<An:=by rw[Ab];exact eS (by lia)
   refine⟨_,rfl,_,rfl,d9 (λQ=>?_) λ_=>?_⟩
   .have Q:d<3:=of_decide_eq_true Q;obtain⟨t,e,m⟩:=wW (ts:=wds) (k:=d) F (by lia);exact⟨_,rfl,.inl ⟨rfl,_,aR⟩,_,rfl,_,rfl,_,e,_,aR,A,_,Sub.refl _,fin t (.inl m)⟩
   .have o:(0:Int)<((b.map W.str).length:Int):=by rw[Ab];lia
    obtain⟨t,e,m⟩:=wW (ts:=b) (k:=(d-3+x1) % ((b.map W.str).length:Int)) (Ey _ (by lia)) (by have:=Dz (d-3+x1) o;rw[Ab]at this⊢;exact this);exact⟨_,rfl,.inl ⟨rfl,_,aR⟩,_,rfl,_,rfl,_,rfl,_,T,_,rfl,o,_,e,_,aR,A,_,Sub.refl _,fin t (.inr m)⟩
  .rintro N H ⟨ts,y,rfl,rfl,B,ht⟩;obtain⟨nm,en,mn⟩:=wW (ts:=b) (k:=x1) I D;obtain⟨cb,O,_,f⟩:=z5 (xs:=[W.int 1,W.int 10,W.int (10 ^ (59:Int).toNat)]) (i:=x3) E (by show x3<3;lia);have K:∃q:Int,cb=.int q/\0<q/\q<=10 ^ 59:=by
    rcases Ba.mp f with rfl|f
    .exact⟨_,rfl,by decide,by decide⟩
    rcases Ba.mp f with rfl|f
    .exact⟨_,rfl,by decide,by decide⟩
    .rw[Aj.mp f];exact⟨_,rfl,by decide,by decide⟩
   obtain⟨q,rfl,U,q1⟩:=K;have C:=Dz x4 U;refine⟨_,rfl,_,rfl,_,T,_,en,_,rfl,_,aR,_,rfl,_,a3,pw,x (n:=3) (by decide),_,rfl,_,a2,_,O,U,x (n:=3) (by decide),_,Sub.new hp,r ⟨nm,ts,x4 % q⟩ ⟨mn,ht,by show ts.length<=4;lia,Ey _ (by lia),Int.lt_of_lt_of_le C (Int.le_trans q1 (by decide))⟩ (by show(ts.length:Int)<=a;lia)⟩
theorem Paired.rules{c:Int}(h:Es (λ_ y=>∃r,y=bE r/\nS e wds r/\(r.parts.length:Int)<=c) xs ys):∃rs:List aI,ys=rs.map bE/\rs.length=xs.length/\∀r∈rs,nS e wds r/\(r.parts.length:Int)<=c:=by
 induction h with
 | nil=>exact⟨[],rfl,rfl,λr i=>nomatch i⟩
 | cons a b f=>
  obtain⟨r,rfl,j⟩:=a;obtain⟨rs,rfl,hl,g⟩:=f;refine⟨r::rs,rfl,by simp[hl],λq d=>?_⟩;rcases Ba.mp d with rfl|d
  .exact j
  .exact g q d
theorem zeD{ws:List W}{M:Mm}{R:K3}(h:BJ ws M R):zcL (bI R) (bT zcD ws) M:=by
 obtain⟨v,l,d,rfl,hi,hl,Z,hm1,ho0,ho1,r⟩:=h;have pw:rT 10 9:=⟨by decide,by decide,by decide⟩;have H:∀{n:Nat},n<=3->n<=An:=λh=>cJ (Ay h (by decide));refine⟨_,rfl,v,0,.inr rfl,hi,by decide,λc=>⟨pw,pw,H (n:=2) (by decide),c,[10 ^ 9,10 ^ 9],rfl,by decide,λs j=>?_,λds hd=>aY.frz ?_⟩⟩
 .rcases Ba.mp j with rfl|j
  .exact⟨by decide,by decide⟩
  .rw[Aj.mp j];exact⟨by decide,by decide⟩
 obtain⟨x1,x2,rfl,b1,b2⟩:=zaA hd;refine⟨rfl,rfl,_,rfl,_,rfl,x1,l,true,rfl,by lia,by lia,λj O D=>aY.frz ⟨_,rfl,x2,3,false,rfl,by decide,by decide,λwds o tV=>aY.frz ?_⟩⟩;have o:wds.length=3:=o;refine⟨_,rfl,_,rfl,?_⟩;delta zB;have key:∀(X:List W->(Mm->Prop)->Mm->Prop),X (eX v (some 1) none) (λ_=>True) M->zT (.rl v) (some 1) none M λw M1=>cX w M1 X:=λX h=>h;refine key _ ?_;refine vG (ws:=eX v (some 1) none) (rest:=[some (.rl (j.map W.str)),some (.rl (wds.map W.str)),some (.int d)]) (λ_ y=>∃r,y=bE r/\nS j wds r/\(r.parts.length:Int)<=d) (cJ (by have:=LK (ws:=v) (lo:=some 1) (hi:=none);lia)) (λ_ _=>trivial) (λw hw x C sb N=>?_) λys U p hp=>?_
 .obtain⟨i,rfl⟩:=hi w (LJ hw);exact⟨_,rfl,_,rfl,_,rfl,_,rfl,i,j,wds,d,rfl,by lia,by lia,o,by lia,by lia,λr h2 h3=>N _ ⟨r,rfl,h2,h3⟩⟩
 obtain⟨rs,rfl,hrl,P⟩:=Paired.rules U;have hcl:=LK (ws:=v) (lo:=some 1) (hi:=none);obtain⟨Y,ew,mw⟩:=wW (ts:=wds) (k:=0) (by decide) (by lia);refine⟨_,rfl,gZ ?_⟩;refine eL (λi S x=>∃(qs:List aI) (I:Option W),S=[some (.rl v),some (.int l),some (.int d),some (.int x1),some (.int x2),some (.rl (j.map W.str)),some (.rl (wds.map W.str)),some (.ref p),I]/\
   x=put M p (.lst (qs.map bE))/\qs.length<=rs.length+i/\(∀r∈qs,nS j wds r/\(r.parts.length:Int)<=d)/\(∀t∈j.take i,∃r∈qs,r.name=t)) ⟨rs,_,rfl,rfl,by lia,P,by simp⟩ (λ_ _ _ _ _=>trivial) ?_ ?_
 .rintro i w S x hw ⟨qs,I,rfl,rfl,A,z,f⟩;rw[Av]at hw;obtain⟨t,ht,rfl⟩:=Bd.mp hw;have V:=(Ap.mp ht).1;have K:t∈j:=Au ht;refine⟨_,rfl,_,rfl,_,aR,?_⟩;refine oO (rest:=[]) (λw=>match w with|.tup (n::_)=>n|_=>.non) (cJ (by rw[Ab];lia)) (λx sb=>sb _ _ aR) (λw hw x C sb N=>?_) (aY.frz ?_)
  .obtain⟨q,_,rfl⟩:=Am.mp hw;exact⟨_,rfl,_,rfl,N⟩
  have em:(qs.map bE).map (λw=>match w with|.tup (n::_)=>n|_=>W.non)=(qs.map aI.name).map W.str:=by
   rw[Bo,Bo];rfl
  rw[em];refine⟨rfl,m8 _,_,rfl,?_⟩;show if (!inW (.str t) ((qs.map aI.name).map W.str))=true then _ else _;rw[oX];have E:∀m:List aI,(∀r∈qs,r∈m)->(∃r∈m,r.name=t)->∀u∈j.take (i+1),∃r∈m,r.name=u:=λm F Q u G=>by
   rw[Cu,ht]at G;rcases Bg.mp G with q|q
   .obtain⟨r,g,e⟩:=f u q;exact⟨r,F r g,e⟩
   .simp at q;subst q;exact Q
  refine d9 (λ_=>?_) λT=>?_
  .refine⟨_,rfl,.inl ⟨rfl,_,aR⟩,_,rfl,_,rfl,_,ew,H (n:=1) (by decide),H (n:=3) (by decide),_,aR,eS (by rw[Ab];lia),_,Sub.refl _,qs++[⟨t,[Y],0⟩],_,rfl,by rw[eW,Bb];rfl,by rw[Ak,Bp];lia,λr g=>?_,E _ (λr g=>Bs _ g) ⟨⟨t,[Y],0⟩,by simp,rfl⟩⟩;rcases Bg.mp g with g|g
   .exact z r g
   .rw[Aj.mp g];exact⟨⟨K,λu G=>.inl (by rw[Aj.mp G];exact mw),by show 1<=4;decide,by show(0:Int)<=0;decide,by show(0:Int)<10 ^ 60;decide⟩,by show(1:Int)<=d;lia⟩
  .have B:t∈qs.map aI.name:=of_decide_eq_true (by rw[<-Ie (decide _),T];rfl);obtain⟨r0,J,e0⟩:=Am.mp B;exact⟨_,Sub.refl _,qs,_,rfl,rfl,by lia,z,E _ (λr g=>g) ⟨r0,J,e0⟩⟩
 .rintro S x ⟨qs,I,rfl,rfl,A,z,f⟩;rw[Ab]at A;rw[Ab,Cd]at f;have L:j.length=l.toNat:=O;refine⟨_,rfl,_,Sub.refl _,r qs ⟨λe=>?_,by lia,j,wds,by lia,λt ht=>D t ht,λt ht=>tV t ht,λr g=>(z r g).1,f⟩ (λr g=>(z r g).2) ⟨j,wds,by lia,o,λt ht=>D t ht,λt ht=>tV t ht,λr g=>(z r g).1,f,by lia⟩ p hp⟩;subst e;cases j with
  | nil=>simp at L;lia
  | cons a b=>obtain⟨r,g,_⟩:=f a Az;cases g
theorem OC:∀d,d<10->(Nat.digitChar d).toNat=48+d:=by decide
theorem zeE{m:Nat}(h:10<=m):Ha 10 m=Ha 10 (m/10)++[Nat.digitChar (m % 10)]:=Nat.toDigits_of_base_le (by decide) h
theorem zeF:∀m:Nat,PySem.NumText.digitsVal ((Ha 10 m).map Char.toNat)=m:=by
 intro m
 induction m using Nat.strongRecOn with
 | ind m ih=>
  by_cases h:m<10
  .rw[Lp h];show 0*10+((Nat.digitChar m).toNat-48)=m;rw[OC m h];lia
  .rw[zeE (by lia),Bb,Aw,Hz,PySem.NumText.digitsVal_snoc,ih (m/10) (by lia),OC _ (Nat.mod_lt _ (by decide))];lia
def eZ(m:Nat):Str:=Bx (toString ((m:Nat):Int))
theorem BZ(m:Nat):cs (eZ m)=(Ha 10 m).map Char.toNat:=PySem.W.KIN.signs_num m
theorem zeG{m:Nat}(h:m<10 ^ 60):(eZ m).length<=60:=by
 rw[<-lC,BZ,Ab];exact(Nat.length_toDigits_le_iff (by decide) (by decide)).mpr h
theorem OD{c:Nat}(h:c∈cs mI):48<=c/\c<=57:=by
 have key:∀c∈cs mI,48<=c/\c<=57:=by decide +kernel
 exact key c h
theorem OE{m:Nat}(h:m<10 ^ 60):PySem.intText? (eZ m)=some (m:Int):=by
 obtain⟨a,b⟩:=rZ (m:=m);have:=PySem.intText_digits (x:=eZ m) (λc hc=>OD (a c hc)) b (by have:=zeG h;lia);rw[this];congr 2;have e:=zeF m;rw[<-BZ]at e;exact e
theorem zeH{m:Nat}:∀c∈cs (eZ m),48<=c/\c<=57:=λc hc=>OD ((rZ (m:=m)).1 c hc)
def eO(i:Nat):Str:="M"++"_"++eZ i
theorem pE(i:Nat):cs (eO i)=77::95::cs (eZ i):=by
 unfold eO;rw[pW,pW,JL];rfl
theorem zeI{i j:Nat}(hi:i<10 ^ 60)(d:j<10 ^ 60)(h:cs (eZ i)=cs (eZ j)):i=j:=by
 have e:eZ i=eZ j:=by
  generalize eZ i=a at h⊢;generalize eZ j=b at h⊢;obtain⟨⟨a⟩⟩:=a;obtain⟨⟨b⟩⟩:=b;simp[cs]at h;rw[h]
 have c:=OE hi;rw[e,OE d]at c;injection c with h2;lia
theorem zeJ{i j:Nat}(hi:i<10 ^ 60)(a:j<10 ^ 60)(h:eO i=eO j):i=j:=by
 have e:=congrArg cs h;rw[pE,pE]at e;simp only[Ct,true_and]at e;exact zeI hi a e
def iJ(old:List Str)(t:Nat):List Str:=((Cr t).map eO).filter λn=>!decide (n∈old)
theorem OF(old:List Str)(t:Nat):iJ old (t+1)=if eO t∈old then iJ old t else iJ old t++[eO t]:=by
 unfold iJ;rw[List.range_succ,Bb,List.filter_append]
 by_cases h:eO t∈old
 .simp[h]
 .simp[h]
theorem OG(old:List Str)(t:Nat)(ht:t<10 ^ 60):t<=(iJ old t).length+old.length:=by
 have key:(((Cr t).map eO).filter λn=>decide (n∈old)).length<=old.length:=by
  refine List.Nodup.length_le_of_subset ?_ λn d=>by simpa using (Dj.mp d).2
  refine List.Nodup.sublist List.filter_sublist ?_;rw[Km,List.pairwise_map];refine List.Pairwise.imp_of_mem ?_ (List.nodup_range (n:=t));intro a b g h c e;rw[Gg]at g h;exact c (zeJ (by lia) (by lia) e)
 have e:=List.length_eq_countP_add_countP (λn=>decide (n∈old)) (l:=(Cr t).map eO);rw[List.countP_eq_length_filter,List.countP_eq_length_filter]at e;rw[Ab,Gy]at e;unfold iJ;have f:(((Cr t).map eO).filter λn=>!decide (n∈old))=(((Cr t).map eO).filter λa=>decide ¬decide (a∈old)=true):=by
  congr 1;funext a;simp
 rw[f];lia
def lZ(old:List Str)(n:Nat):List Str:=(iJ old (n+old.length)).take n
theorem zeK(old:List Str){t u:Nat}(h:t<=u):∃r,iJ old u=iJ old t++r:=by
 induction u with
 | zero=>
  cases Nat.le_zero.mp h;exact⟨[],by simp⟩
 | succ u b=>
  by_cases e:t=u+1
  .subst e;exact⟨[],by simp⟩
  .obtain⟨r,a⟩:=b (by lia);rw[OF];split
   .exact⟨r,a⟩
   .exact⟨r++[eO u],by rw[a,Dx]⟩
theorem zeL{n t:Nat}(a:(iJ old t).length=n)(ht:t<=n+old.length):iJ old t=lZ old n:=by
 obtain⟨r,b⟩:=zeK old ht;unfold lZ;rw[b,<-a,List.take_left'];rfl
theorem zeM{n:Nat}(h:n+old.length<10 ^ 60):(lZ old n).length=n:=by
 have:=OG old (n+old.length) h;unfold lZ;rw[Ce];lia
theorem zeN{n:Nat}(h:t∈lZ old n):t∉old/\∃i,i<n+old.length/\t=eO i:=by
 unfold lZ at h;have h:=Gx h;unfold iJ at h;obtain⟨a,b⟩:=Dj.mp h;obtain⟨i,hi,rfl⟩:=Am.mp a;rw[Gg]at hi;exact⟨by simpa using b,i,hi,rfl⟩
theorem OH:∀{a b:List Str},a.map (Sum.inr:Str->aF)=b.map Sum.inr->a=b
 | [],[],_=>rfl
 | [],_::_,h=>by cases h
 | _::_,[],h=>by cases h
 | x::a,y::b,h=>by
  simp only[Aw,Ct,Mo]at h;rw[h.1,OH h.2]
abbrev NP:=Str×List Str
def dN(acc:List (NP×W))(a:NP×W):List (NP×W):=if a.1∈acc.map Ck then acc else acc++[a]
theorem OI:x∈(dN acc a).map Ck↔x∈acc.map Ck\/x=a.1:=by
 unfold dN;split
 .rename_i h;constructor
  .exact .inl
  .rintro(q|q)
   .exact q
   .rw[q];exact h
 .rw[Bb,Bg];simp
theorem OJ:∀{its acc:List (NP×W)} {x:NP},x∈(its.foldl dN acc).map Ck↔x∈acc.map Ck\/x∈its.map Ck
 | [],acc,x=>by simp
 | a::r,acc,x=>by
  rw[Cm,OJ,OI,Aw,Ba,or_assoc]
theorem B0:∀{its acc:List (NP×W)},∃r,its.foldl dN acc=acc++r
 | [],acc=>⟨[],by simp⟩
 | a::r,acc=>by
  obtain⟨q,b⟩:=B0 (its:=r) (acc:=dN acc a);rw[Cm,b];unfold dN;split
  .exact⟨q,rfl⟩
  .exact⟨a::q,by simp⟩
def l0(x:NP):bS:=(Sum.inr x.1,x.2.map Sum.inr)
theorem zeO(h:l0 x=l0 y):x=y:=by
 obtain⟨a,b⟩:=x;obtain⟨c,d⟩:=y;unfold l0 at h;rw[Dg]at h;have e:=h.1;injection e with e;exact Lj e (OH h.2)
def kvsOf(l:List (NP×W)):List (bS×W):=l.map λp=>(l0 p.1,p.2)
theorem OL(l:List (NP×W))(x:NP):(aX (kvsOf l) (l0 x)=none/\x∉l.map Ck)\/(∃w,aX (kvsOf l) (l0 x)=some w)/\x∈l.map Ck:=by
 induction l with
 | nil=>exact .inl ⟨rfl,by simp⟩
 | cons p l c=>
  unfold kvsOf aX at c⊢;rw[Aw,Du,Aw,Ba]
  by_cases h:p.1=x
  .rw[decide_eq_true (by rw[h])];exact .inr ⟨⟨_,rfl⟩,.inl h.symm⟩
  .rw[decide_eq_false (λe=>h (zeO e))];rcases c with⟨a,b⟩|⟨a,b⟩
   .exact .inl ⟨a,λe=>by rcases e with e|e;exact h e.symm;exact b e⟩
   .exact .inr ⟨a,.inr b⟩
def g8(x:NP):aI:=⟨x.1,x.2,0⟩
theorem B1(x:NP):fW [0] (l0 x)=bE (g8 x):=by
 unfold fW l0 bE g8;simp[wK,Jp]
def rB(z:Str):Bool:=match cs z with|c::_=>decide (c∈cs h8) | []=>false
theorem zeP(h:jK t):rB t=false:=by
 unfold rB;cases e:cs t with
 | nil=>rfl
 | cons c r=>
  have key:∀c∈cs j8,c∉cs h8:=by decide +kernel
  exact decide_eq_false (key c (h.sm c (by rw[e];simp)))
structure Sh(t:Str):Prop where
 len:t.length<=60
 ne:cs t≠[]
 asc:nR t
theorem Sh.cons{t:Str}(h:Sh t):∃c r,cs t=c::r:=by
 cases e:cs t with
 | nil=>exact absurd e h.ne
 | cons c r=>exact⟨c,r,rfl⟩
theorem jK.sh(h:jK t):Sh t:=⟨by have:=h.len;lia,h.ne,h.asc⟩
theorem lP.sh(h:lP t):Sh t:=⟨by have:=h.len;lia,by obtain⟨c,r,e,_⟩:=h.hd;rw[e];simp,h.asc⟩
theorem OM{i:Nat}(h:i<180):(eZ i).length<=3/\1<=(eZ i).length:=by
 constructor
 .rw[<-lC,BZ,Ab];exact(Nat.length_toDigits_le_iff (by decide) (by decide)).mpr (by lia)
 .have:=(rZ (m:=i)).2;rw[<-lC];exact Eh.mpr this
theorem zeQ{i:Nat}(h:i<180):(eO i).length<=5:=by
 rw[<-lC,pE];have:=(OM h).1;rw[<-lC]at this;simp only[Br];lia
theorem zeR{i:Nat}(h:i<180):Sh (eO i):=⟨by have:=zeQ h;lia,by rw[pE];simp,λc hc=>by
 rw[pE]at hc;rcases Ba.mp hc with rfl|hc
 .decide
 .rcases Ba.mp hc with rfl|hc
  .decide
  .have:=zeH (m:=i) c hc;lia⟩
theorem zeS(i:Nat):Cp (eO i) "_" = (("M" : Str),("_" : Str),eZ i):=JO (by rw[pE];rfl) (by decide +kernel)
structure B2(rs:List aI):Prop where
 ne:rs≠[]
 few:rs.length<=400
 ok:∀r∈rs,0<=r.cost/\∀t∈r.parts,t.length<=1000/\(i5 t=true->t∈namesOf rs)
theorem nT.okG(g:nT rs):B2 rs:=⟨g.ne,by have:=g.few;lia,λr a=>zaB g a⟩
def numsOf(rs:List aI)(X:Str):List Nat:=(rs.zipIdx.filter λx=>decide (x.1.name=X)).map (·.2)
theorem wX{n:Nat}:n∈numsOf rs X↔∃r,rs[n]? = some r/\r.name=X:=by
 unfold numsOf;rw[Am];constructor
 .rintro⟨⟨r,k⟩,h,rfl⟩;rw[Dj,decide_eq_true_eq]at h;exact⟨r,(Ew.mp h.1),h.2⟩
 .rintro⟨r,h,e⟩;exact⟨(r,n),by rw[Dj,decide_eq_true_eq];exact⟨Ew.mpr h,e⟩,rfl⟩
def gC(rs:List aI):List aI:=rs.filter λr=>r.parts.all (lY rs)
def cF(rs:List aI)(D:List Str)(t:Str):Bool:=decide (t∈D)||!ownB rs t
def fX(rs:List aI)(D:List Str)(r:aI):List Str:=if r.parts.any (cF rs D)=true then dE D r.name else D
def iK(rs:List aI)(D:List Str):List Str:=(gC rs).foldl (fX rs) D
def eE(rs:List aI):Nat->List Str
 | 0=>[]
 | n+1=>iK rs (eE rs n)
theorem ON(rs:List aI)(D:List Str)(r:aI):∃q,fX rs D r=D++q:=by
 unfold fX dE;split
 .split
  .exact⟨[],by simp⟩
  .exact⟨_,rfl⟩
 .exact⟨[],by simp⟩
theorem wY(rs:List aI):∀(qs:List aI) (D:List Str),∃q,qs.foldl (fX rs) D=D++q
 | [],D=>⟨[],by simp⟩
 | r::qs,D=>by
  obtain⟨a,c⟩:=ON rs D r;obtain⟨b,d⟩:=wY rs qs (fX rs D r);rw[Cm,d,c,Dx];exact⟨_,rfl⟩
theorem zeT(h:(iK rs D).length<=D.length):iK rs D=D:=by
 obtain⟨q,a⟩:=wY rs (gC rs) D;have e:iK rs D=D++q:=a;rw[e,Ak]at h;have:q=[]:=Hd.mp (by lia);rw[e,this,Gv]
structure Wd(rs:List aI)(D:List Str):Prop where
 nd:D.Nodup
 own:∀X∈D,ownB rs X=true
 why:∀X∈D,∃r∈rs,r.name=X/\(∀t∈r.parts,lY rs t=true)/\∃p∈r.parts,p≠X/\(p∈D\/ownB rs p=false)
theorem Wd.nil(rs:List aI):Wd rs []:=⟨Em,(λ_ h=>nomatch h),(λ_ h=>nomatch h)⟩
theorem B3:r∈gC rs↔r∈rs/\∀t∈r.parts,lY rs t=true:=by
 unfold gC;rw[Dj,Gd]
theorem Wd.step(d:Wd rs D)(k:r∈gC rs):Wd rs (fX rs D r):=by
 unfold fX;split
 .rename_i h
  by_cases c:r.name∈D
  .unfold dE;rw[if_pos c];exact d
  .obtain⟨b,n⟩:=B3.mp k;obtain⟨p,j,a⟩:=Ib.mp h;have e:dE D r.name=D++[r.name]:=by unfold dE;rw[if_neg c]
   refine⟨BX d.nd,λX f=>?_,λX f=>?_⟩
   .rcases lQ.mp f with z|z
    .exact d.own X z
    .rw[z];exact vK b
   .rcases lQ.mp f with z|z
    .obtain⟨q,l,o,s,t,i,m,g⟩:=d.why X z;refine⟨q,l,o,s,t,i,m,?_⟩;rcases g with y|y
     .exact .inl (lQ.mpr (.inl y))
     .exact .inr y
    .unfold cF at a;rw[Bool.or_eq_true]at a;refine⟨r,b,z.symm,n,p,j,?_,?_⟩
     .rintro rfl;rcases a with y|y
      .rw[z]at y;exact c (of_decide_eq_true y)
      .rw[z,vK b]at y;cases y
     .rcases a with y|y
      .exact .inl (lQ.mpr (.inl (of_decide_eq_true y)))
      .right;cases e:ownB rs p with
       | false=>rfl
       | true=>rw[e]at y;cases y
 .exact d
theorem Wd.fold:∀{qs:List aI} {D:List Str},Wd rs D->(∀r∈qs,r∈gC rs)->Wd rs (qs.foldl (fX rs) D)
 | [],D,d,_=>d
 | r::qs,D,d,h=>Wd.fold (qs:=qs) (d.step (h r Az)) λq a=>h q (Ar _ a)
theorem Wd.rounds(rs:List aI):∀n,Wd rs (eE rs n)
 | 0=>Wd.nil rs
 | n+1=>Wd.fold (Wd.rounds rs n) λ_ h=>h
theorem Wd.len(d:Wd rs D):D.length<=(namesOf rs).length:=len_sub d.nd λx a=>of_decide_eq_true (d.own x a)
theorem zeU(h:iK rs D=D)(j:r∈gC rs)(i:∃p∈r.parts,cF rs D p=true):r.name∈D:=by
 have mono:∀(qs:List aI) (E:List Str),(∀x∈D,x∈E)->r∈qs->r.name∈qs.foldl (fX rs) E:=by
  intro qs
  induction qs with
  | nil=>intro E _ h;cases h
  | cons q qs k=>
   intro E c g;rw[Cm];have a:∀x∈D,x∈fX rs E q:=λx d=>by
    obtain⟨z,e⟩:=ON rs E q;rw[e];exact Bs _ (c x d)
   rcases Ba.mp g with rfl|z
   .obtain⟨z,e⟩:=wY rs qs (fX rs E r);rw[e];refine Bs _ ?_;unfold fX;rw[if_pos]
    .exact lQ.mpr (.inr rfl)
    .obtain⟨p,f,b⟩:=i;refine Ib.mpr ⟨p,f,?_⟩;unfold cF at b⊢;rw[Bool.or_eq_true]at b⊢;rcases b with y|y
     .exact .inl (decide_eq_true (c p (of_decide_eq_true y)))
     .exact .inr y
   .exact k _ a z
 have:=mono (gC rs) D (λ_ h=>h) j;have e:(gC rs).foldl (fX rs) D=D:=h;rwa [e]at this
abbrev g9:=List Str×List W
def hJ(keep drop:Str->Bool)(E:Str->W)(told:List g9)(t:Str):List g9:=
 (if keep t=true then told.map λx=>(x.1++[t],x.2++[W.int x.1.length]) else [])++(if drop t=true then told.map λx=>(x.1,x.2++[W.tup [.str "whole",E t]]) else [])
def hV(keep drop:Str->Bool)(E:Str->W)(ps:List Str):List g9:=ps.foldl (hJ keep drop E) [([],[])]
section
variable {keep drop:Str->Bool}{E:Str->W}
theorem zeV(told:List g9)(t:Str):(hJ keep drop E told t).length<=2*told.length:=by
 unfold hJ;rw[Ak];split<;>split<;>simp<;>lia
theorem OO:∀(ps:List Str) (told:List g9),(ps.foldl (hJ keep drop E) told).length<=2 ^ ps.length*told.length
 | [],told=>by simp
 | t::ps,told=>by
  have a:=OO ps (hJ keep drop E told t);have b:=zeV (keep:=keep) (drop:=drop) (E:=E) told t;rw[Cm,Br,Nat.pow_succ]
  calc _<=2 ^ ps.length*(hJ keep drop E told t).length:=a
   _<=2 ^ ps.length*(2*told.length):=Nat.mul_le_mul_left _ b
   _=2 ^ ps.length*2*told.length:=by rw[Nat.mul_assoc]
theorem B4:∀{ps:List Str} {told:List g9} {x:g9},x∈ps.foldl (hJ keep drop E) told->∃y∈told,∃l,x.1=y.1++l/\(∀t∈l,t∈ps/\keep t=true)/\l.length<=ps.length
 | [],told,x,h=>⟨x,h,[],by simp,(λt h=>nomatch h),Ag _⟩
 | t::ps,told,x,h=>by
  rw[Cm]at h;obtain⟨y,c,l,e,hl,d⟩:=B4 h;unfold hJ at c;rcases Bg.mp c with z|z
  .split at z
   .rename_i hk;obtain⟨u,b,rfl⟩:=Am.mp z;refine⟨u,b,t::l,by rw[e];simp,λv a=>?_,by simp;lia⟩;rcases Ba.mp a with rfl|q
    .exact⟨Az,hk⟩
    .exact⟨Ar _ (hl v q).1,(hl v q).2⟩
   .cases z
  .split at z
   .obtain⟨u,b,rfl⟩:=Am.mp z;exact⟨u,b,l,e,λv a=>⟨Ar _ (hl v a).1,(hl v a).2⟩,by simp;lia⟩
   .cases z
theorem OP(hk:keep p=true):∀{ps:List Str} {told:List g9},(∀t∈ps,keep t=true\/drop t=true)->told≠[]->(p∈ps\/∃y∈told,p∈y.1)->∃x∈ps.foldl (hJ keep drop E) told,p∈x.1
 | [],told,_,_,h=>by
  rcases h with h|h
  .cases h
  .exact h
 | t::ps,told,hd,a,h=>by
  rw[Cm];have ne:hJ keep drop E told t≠[]:=by
   unfold hJ;rcases hd t Az with z|z
   .rw[if_pos z];intro e;exact a (Ij.mp (List.append_eq_nil_iff.mp e).1)
   .rw[if_pos z];intro e;exact a (Ij.mp (List.append_eq_nil_iff.mp e).2)
  refine OP hk (λu b=>hd u (Ar _ b)) ne ?_;rcases h with h|⟨y,d,c⟩
  .rcases Ba.mp h with rfl|z
   .right;obtain⟨u,b⟩:=List.exists_mem_of_ne_nil told a;refine⟨_,Bs _ (by rw[if_pos hk];exact Am.mpr ⟨u,b,rfl⟩),by simp⟩
   .exact .inl z
  .right;rcases hd t Az with z|z
   .exact⟨_,Bs _ (by rw[if_pos z];exact Am.mpr ⟨y,d,rfl⟩),Bs _ c⟩
   .exact⟨(y.1,y.2++[W.tup [.str "whole",E t]]),Ca _ (by rw[if_pos z];exact Am.mpr ⟨y,d,rfl⟩),c⟩
end
end Rg
namespace L2
open PySem PySem.Spec PyProof.Rows
section
variable {X:Cx}{a:Expr}{ta:TA}{p p2 pos pos2:Pos}
def zeW(ta:TA):TE:=λb H Q=>ta b H λvs a=>∃n:Nat,vs=[.int n]/\n<=1000/\∀q,a q=none->Q (.ref q) (aT a q (.lst ((Cr n).map λ(i:Nat)=>V.int i)))
theorem zeX(hc:X.calm=true)(hg:Gl X "list")(hm:X.mg "list" = none)(hg2:Gl X "range")(hm2:X.mg "range" = none)(ha:PA X [a] ta)(hs1:Bk [.Call (.Name "range" p2) [a] [] pos2] X.env=[(false,eval (.Call (.Name "range" p2) [a] [] pos2) X.env)]:=by rfl)(hs2:Bk [a] X.env=[(false,eval a X.env)]:=by rfl):
  PE X (.Call (.Name "list" p) [.Call (.Name "range" p2) [a] [] pos2] [] pos) (zeW ta):=by
 intro pins s σ H Q I h;refine Fs (nE I hg hm (by decide +kernel:Cy "list" = some (.type "list")) (El ?_ hs1 rfl));rw[hs1];refine Calls.spliced_cons (Fs (nE I hg2 hm2 (by decide +kernel:Cy "range" = some (.type "range")) (El (a8 (ha pos2 pins s σ H _ I h) λus s1 ⟨vs,H1,I1,r1,q1⟩=>?_) hs2 rfl)));obtain⟨n,rfl,hn,q⟩:=q1;obtain⟨u,rfl,ru⟩:=vals1 r1;obtain⟨t,rfl⟩:=ru;refine call_range_1 (Calls.spliced_nil ?_);have sz:Builtin.Range.rangeSize 0 (n:Int) 1=(n:Nat):=by rw[rangeSize_one];split<;>lia
 refine call_list_range (n:=n) (b:=(n:Int)) (I1.ok.hd hc) (IsRange.new _ _ _ _ _ _ _) (PySem.small_one (by decide) (by decide) (by lia) (by lia)) sz (by lia) λh' tk acc c hk hS hacc=>?_;have up:∀b o,s1.heap.get? b=some o->h'.get? b=some o:=λb o e=>hk b o (Ai _ e);have ez:(s1.heap.push {cls:=.type "range",data:=.fields #[.int 0 0,.int (n:Int) t,.int 1 0]}).objs.size=s1.heap.objs.size+1:=Fq _ _;refine⟨.ref _,_,I1.laid (o:=.lst ((Cr n).map λ(i:Nat)=>V.int i)) (t':=tk) up ?_ ⟨by simp[Lw];lia,acc.toList,c,?_,by rw[Kb];exact hS⟩,rfl,q _ (I1.hok.fresh ?_)⟩
 .first|exact Jo (Nat.lt_of_lt_of_eq (Jz _) (Fq _ _).symm)|(rw[Fq];exact Nat.le_succ _)
 .refine uN (by simp[hacc.1]) λj v hv=>?_;have hv':acc[j]? = some v:=by simpa using hv
  obtain⟨t',rfl⟩:=hacc.2 j v hv';have hj:j<n:=by have:=(Array.getElem?_eq_some_iff.mp hv').1;rw[hacc.1]at this;exact this
  refine⟨.int j,?_,t',by simp⟩;simp[hj]
 .first|exact Jo (Nat.lt_of_lt_of_eq (Jz _) (Fq _ _).symm)|(rw[Fq];exact Nat.le_succ _)
end
end L2
namespace L3
open PySem PySem.Spec PyProof.Rows L2
section
variable {X:Cx}{a:Expr}{ta:aZ}
def OQ(ta:aZ):aZ:=λa M R=>ta a M λw b=>∃n:Nat,w=.int n/\n<=1000/\aY ((Cr n).map λ(i:Nat)=>W.int i) b R
theorem zeY(hg:Gl X "list")(hm:X.mg "list" = none)(hg2:Gl X "range")(hm2:X.mg "range" = none)(ha:E3 X a ta)(hc:X.calm=true:=by rfl)(hs1:Bk [.Call (.Name "range" p2) [a] [] pos2] X.env=[(false,eval (.Call (.Name "range" p2) [a] [] pos2) X.env)]:=by rfl)(hs2:Bk [a] X.env=[(false,eval a X.env)]:=by rfl):
  E3 X (.Call (.Name "list" p) [.Call (.Name "range" p2) [a] [] pos2] [] pos) (OQ ta):=
 (zeX hc hg hm hg2 hm2 (aC ha aG (by rw[hs2];rfl)) hs1 hs2).weak λσ H Q z0=>z0.el λτ M R as am h k=>⟨τ,M,λws M1=>∃n:Nat,ws=[.int n]/\n<=1000/\aY ((Cr n).map λ(i:Nat)=>W.int i) M1 R,as,am,(show aB ta aE τ M _ from(show ta τ M _ from by
  refine(id h:ta τ M _) |> λz=>?_
  exact Eq.mp (congrArg (ta τ M) (funext λw=>funext λM1=>propext ⟨λ⟨n,e,r⟩=>⟨n,by rw[e],r⟩,λ⟨n,e,r⟩=>⟨n,(List.cons.inj e).1,r⟩⟩)) z)),λvs H1 ws M1 k1 am1 ax ⟨n,e,hn,r⟩=>by
  subst e;obtain⟨v,rfl,av⟩:=ax.one;obtain rfl:=av.inv;refine⟨n,rfl,hn,λq hq=>iS am1 (k.kp k1) hq ?_ r⟩;have:∀l:List Nat,aN X.K H1 M1 (l.map λ(i:Nat)=>V.int i) (l.map λ(i:Nat)=>W.int i):=by
   intro l
   induction l with
   | nil=>exact .nil
   | cons i r ih=>exact .cons (.int _) ih
  exact this _⟩
end
end L3
namespace Rg
open PySem PySem.Spec PyProof.Rows L2 L3
def pF(a:List Str)(t:Str)(p:Int):List (Int×Int):=if 0<=p/\a[p.toNat]? = some t then [(p+1,0)] else []
def eF(rs:List aI)(a:List Str):Sr:=⟨rs,ownB rs,(Cr (a.length+1)).map λ(i:Nat)=>(i:Int),pF a,λ_=>0⟩
theorem zeZ{p e c:Int}:(e,c)∈pF a t p↔0<=p/\a[p.toNat]? = some t/\e=p+1/\c=0:=by
 unfold pF;split
 .rename_i h;simp[h]
 .rename_i h;simp only[List.not_mem_nil,false_iff];exact λz=>h ⟨z.1,z.2.1⟩
theorem ze0{n:Nat}{p:Int}:p∈((Cr (n+1)).map λ(i:Nat)=>(i:Int))↔0<=p/\p<=n:=by
 rw[Am];constructor
 .rintro⟨i,hi,rfl⟩;have:=Gg.mp hi;lia
 .intro h;exact⟨p.toNat,Gg.mpr (by lia),by lia⟩
def OR(rs:List aI)(a:List Str)(f:bJ):Prop:=∃n cut c,DI (eF rs a) n cut c/\dC (eF rs a) n cut=none/\f=cS (eF rs a) n cut
theorem ze1{n:Nat}(h:rs[n]? = some r):dC (eF rs a) n cut=r.parts[cut.length-1]?:=part_of (G:=eF rs a) h
theorem ze2(l:List Int)(z:Int):(l++[z]).getLastD 0=z:=by simp[Gn]
theorem OS(h:jC G B):(B.map (·.1)).Nodup:=by
 obtain⟨S,g,st,P,cur,T,A,f,rfl,_⟩:=h;have o:=A.ob.ord;generalize st.best=B at o;rw[Km,List.pairwise_map];refine Kw.mpr λi j hi c d e=>?_;have sp:B=B.take j++B[j]::B.drop (j+1):=by rw[<-Gq c,Mg]
 have a:=(o _ _ _ sp).2;have b:B[i]∈B.take j:=by
  rw[List.mem_iff_getElem];exact⟨i,by rw[Ce];lia,by rw[List.getElem_take]⟩
 unfold aJ at a;rw[Option.map_eq_none_iff,List.find?_eq_none]at a;have:=a _ b;rw[decide_eq_true_eq]at this;exact this e
theorem ze3(h:jC (eF rs g) B)(f:bJ):f∈B.map (·.1)↔OR rs g f:=by
 have nd:=OS h;obtain⟨S,s,st,P,cur,T,A,q,rfl,_⟩:=h;constructor
 .intro hf;obtain⟨e,l,rfl⟩:=Am.mp hf;obtain⟨a,b,sp⟩:=List.append_of_mem l;have d:=L6 A.ob _ a e b rfl sp;have at_:aJ st.best e.1=some e.2:=by
   rw[sp]at nd⊢;rw[Bb,Aw,Dk]at nd;unfold aJ;rw[List.find?_append,List.find?_eq_none.mpr λx i=>by
    rw[decide_eq_true_eq];exact nd.2.2 _ (Nc i) _ Az]
   simp
  obtain⟨⟨f⟩,c,n,cut⟩:=e;obtain⟨o,j,r⟩:=oR A.ob at_;exact⟨_,_,_,o,j,r⟩
 .rintro⟨n,cut,c,d,p,rfl⟩;obtain⟨m,k,e,_⟩:=L5 A.inv A.ob A.ini q d p;unfold aJ at e;obtain⟨x,i,_⟩:=Bd.mp e;have:=List.find?_some i;rw[decide_eq_true_eq]at this;rw[<-this];exact Nc (List.mem_of_find?_eq_some i)
abbrev pG(rs:List aI)(t:Str):Prop:=OR rs [] (t,0,0)
theorem ze4(q:r∈rs)(h:∀t∈r.parts,ownB rs t=true/\pG rs t):pG rs r.name:=by
 obtain⟨n,e⟩:=Mp q;have a:∀{cut:List Int} {z:Int},cut≠[]->(cut++[z]).headD 0=cut.headD 0/\(cut++[z]).getLastD 0=z:=λ{cut z} h=>by
  cases cut with
  | nil=>exact absurd rfl h
  | cons x cut=>exact⟨rfl,ze2 _ _⟩
 have key:∀k,k<=r.parts.length->∃cut c,DI (eF rs []) n cut c/\cut.length=k+1/\cut.headD 0=0/\cut.getLastD 0=0:=by
  intro k
  induction k with
  | zero=>intro _;exact⟨[0],_,.start e (ze0.mpr ⟨Ld _,by simp⟩),rfl,rfl,rfl⟩
  | succ k s=>
   intro hk;obtain⟨cut,c,d,l,f,i⟩:=s (by lia);have ht:r.parts[k]? = some r.parts[k]:=Bj (by lia);obtain⟨m,w,b,v,d',j,g⟩:=h r.parts[k] (Lk _);unfold cS at g;simp only[Dg]at g;obtain⟨o,u,p⟩:=g;refine⟨cut++[b.getLastD 0],_,.name d e (by rw[l];exact ht) m d' j o.symm (by rw[i];exact u.symm),by simp[l],?_,?_⟩
   .rw[(a d.ne).1,f]
   .rw[(a d.ne).2,<-p]
 obtain⟨cut,c,d,l,f,i⟩:=key _ (Ag _);refine⟨n,cut,c,d,?_,?_⟩
 .rw[ze1 e,l];simp
 .unfold cS;rw[f,i];have:cN (eF rs []) n=r.name:=by unfold cN;rw[show(eF rs []).rs[n]? = some r from e]
  rw[this]
theorem ze5(e:iK rs D=D)(h:Fr rs X):X∈D\/pG rs X:=by
 induction h with
 | @mk r b c d=>
  by_cases hw:∃p∈r.parts,cF rs D p=true
  .exact .inl (zeU e (B3.mpr ⟨b,λt ht=>zev (c t ht)⟩) hw)
  .refine .inr (ze4 b λt ht=>?_);have a:ownB rs t=true:=by
    cases a:ownB rs t with
    | true=>rfl
    | false=>exact absurd ⟨t,ht,by unfold cF;rw[a];exact Bool.or_true _⟩ hw
   exact⟨a,(d t ht a).resolve_left λz=>hw ⟨t,ht,by unfold cF;rw[decide_eq_true z];rfl⟩⟩
theorem ze6(a:iK rs D=D)(h:lY rs t=true):cF rs D t=true\/pG rs t:=by
 unfold lY at h;rw[Bool.or_eq_true]at h;rcases h with z|z
 .rcases ze5 a (BY.mp z) with y|y
  .left;unfold cF;rw[decide_eq_true y];rfl
  .exact .inr y
 .left;unfold cF;rw[z];simp
theorem OT(d:Wd rs D)(j:iK rs D=D){E:Str->W}{drop:Str->Bool}(b:∀t,drop t=true↔pG rs t)(i:X∈D):∃r∈rs,r.name=X/\∃x∈hV (cF rs D) drop E r.parts,x.1≠[]/\x.1≠[X]:=by
 obtain⟨r,h,en,hf,p,g,c,hw⟩:=d.why X i;have hk:cF rs D p=true:=by
  unfold cF;rcases hw with z|z
  .rw[decide_eq_true z];rfl
  .rw[z];simp
 obtain⟨x,f,a⟩:=OP (keep:=cF rs D) (drop:=drop) (E:=E) hk (ps:=r.parts) (told:=[([],[])]) (λt ht=>by
  rcases ze6 j (hf t ht) with z|z
  .exact .inl z
  .exact .inr ((b t).mpr z)) (by simp) (.inl g)
 refine⟨r,h,en,x,f,(λe=>by rw[e]at a;cases a),(λe=>?_)⟩;rw[e]at a;exact c (Aj.mp a)
def bN(rs:List aI):Str:=match rs with
 | r::_=>r.name
 | []=>""
theorem OU:∀(ts acc:List Str),∃q,ts.foldl dE acc=acc++q
 | [],acc=>⟨[],by simp⟩
 | t::ts,acc=>by
  obtain⟨q,a⟩:=OU ts (dE acc t);rw[Cm,a];unfold dE;split
  .exact⟨q,rfl⟩
  .exact⟨t::q,by simp⟩
theorem OV(h:rs≠[]):∃q,namesOf rs=bN rs::q:=by
 cases rs with
 | nil=>exact absurd rfl h
 | cons r l=>exact OU (l.map aI.name) [r.name]
theorem wZ(h:rs≠[]):bN rs∈namesOf rs:=by obtain⟨q,e⟩:=OV h;rw[e];simp
theorem B5{c d b:Type}(f:b->d->b)(g:c->List d):∀(l:List c) (acc:b),l.foldl (λa x=>(g x).foldl f a) acc=(l.flatMap g).foldl f acc
 | [],acc=>rfl
 | x::l,acc=>by rw[Cm,B5 f g l,Lc,Ei]
def w4(rs:List aI):List (NP×W):=[((bN rs,[bN rs,bN rs]),.tup [.tup [.int 0,.tup [.int 0,.int 1]]])]
def jM(X:Str)(n:Nat)(x:g9):NP×W:=((X,x.1),.tup [.tup [.int n,.tup x.2]])
def hW(X:Str)(x:g9):Bool:=decide (x.1≠[])&&decide (x.1≠[X])
section
variable (rs:List aI)(keep drop:Str->Bool)(E:Str->W)
def rC(X:Str)(n:Nat):List (NP×W):=match rs[n]? with
 | some r=>((hV keep drop E r.parts).filter (hW X)).map (jM X n)
 | none=>[]
def pH(X:Str)(l:List (NP×W))(n:Nat):List (NP×W):=(rC rs keep drop E X n).foldl dN l
def rD(l:List (NP×W))(X:Str):List (NP×W):=(numsOf rs X).foldl (pH rs keep drop E X) l
def rE:List (NP×W):=(namesOf rs).foldl (rD rs keep drop E) []
def nA(X:Str):List (NP×W):=(numsOf rs X).flatMap (rC rs keep drop E X)
theorem ze7(X:Str)(l:List (NP×W)):rD rs keep drop E l X=(nA rs keep drop E X).foldl dN l:=B5 dN (rC rs keep drop E X) (numsOf rs X) l
theorem B6:rE rs keep drop E=((namesOf rs).flatMap (nA rs keep drop E)).foldl dN []:=by
 unfold rE;rw[<-B5 dN (nA rs keep drop E)];congr 1;funext a X;exact ze7 rs keep drop E X a
end
section
variable {rs:List aI}{keep drop:Str->Bool}{E:Str->W}
theorem w5:x∈(nA rs keep drop E X).map Ck↔∃r∈rs,r.name=X/\∃y∈hV keep drop E r.parts,y.1≠[]/\y.1≠[X]/\x=(X,y.1):=by
 unfold nA;constructor
 .intro h;obtain⟨z,hz,rfl⟩:=Am.mp h;obtain⟨n,b,hz⟩:=Ef.mp hz;obtain⟨r,c,en⟩:=wX.mp b;unfold rC at hz;rw[c]at hz;obtain⟨y,e,rfl⟩:=Am.mp hz;obtain⟨d,a⟩:=Dj.mp e;unfold hW at a;rw[Cq]at a;exact⟨r,Au c,en,y,d,of_decide_eq_true a.1,of_decide_eq_true a.2,rfl⟩
 .rintro⟨r,c,en,y,e,d,a,rfl⟩;obtain⟨n,b⟩:=Mp c;refine Am.mpr ⟨jM X n y,Ef.mpr ⟨n,wX.mpr ⟨r,b,en⟩,?_⟩,rfl⟩;unfold rC;rw[b];exact Am.mpr ⟨y,Dj.mpr ⟨e,by unfold hW;rw[decide_eq_true d,decide_eq_true a];rfl⟩,rfl⟩
theorem B7:x∈(rE rs keep drop E).map Ck↔∃X∈namesOf rs,∃r∈rs,r.name=X/\∃y∈hV keep drop E r.parts,y.1≠[]/\y.1≠[X]/\x=(X,y.1):=by
 rw[B6,OJ];constructor
 .rintro(h|h)
  .cases h
  .obtain⟨y,a,rfl⟩:=Am.mp h;obtain⟨X,b,a⟩:=Ef.mp a;exact⟨X,b,w5.mp (Am.mpr ⟨y,a,rfl⟩)⟩
 .rintro⟨X,b,h⟩;obtain⟨y,a,e⟩:=Am.mp (w5.mpr h);exact .inr (Am.mpr ⟨y,Ef.mpr ⟨X,b,a⟩,e⟩)
end
theorem B8{i:Nat}(h:(oY G i).q=[]):∀k,oY G (i+k)=oY G i
 | 0=>rfl
 | k+1=>by
  show kN G (oY G (i+k))=_;rw[B8 h k];unfold kN;rw[h];rfl
theorem jC.uniq(h:jC G B)(h':jC G b):B=b:=by
 obtain⟨_,_,_,_,_,T,_,d,rfl,rfl⟩:=h;obtain⟨_,_,_,_,_,c,_,a,rfl,rfl⟩:=h';rcases Nat.le_total T c with z|z
 .obtain⟨k,rfl⟩:=Jd z;rw[B8 d k]
 .obtain⟨k,rfl⟩:=Jd z;rw[B8 a k]
theorem rF{e:Int}{k:Nat}(h:k<l.length):(l++[e]).getD k 0=l.getD k 0:=by
 rw[Gh,Gh,Kx h]
theorem OW{e:Int}:(l++[e]).getD l.length 0=e:=by
 rw[Gh,List.getElem?_concat_length];rfl
theorem getD_last{l:List Int}:l.getD (l.length-1) 0=l.getLastD 0:=by
 rw[Gh,Gn,List.getLast?_eq_getElem?]
abbrev En:=bJ×aL×Nat×List Int
structure w6(G:Sr)(pre:bL)(e:En)(r:aI):Prop where
 no:aJ pre e.1=none
 ru:G.rs[e.2.2.1]? = some r
 fa:e.1=(r.name,e.2.2.2.headD 0,e.2.2.2.getLastD 0)
 ln:e.2.2.2.length=r.parts.length+1
 pn:∀k t,r.parts[k]? = some t->G.own t=true->(aJ pre (t,e.2.2.2.getD k 0,e.2.2.2.getD (k+1) 0)).isSome=true
 pw:∀k t,r.parts[k]? = some t->G.own t=false->∃pr,(e.2.2.2.getD (k+1) 0,pr)∈G.steps t (e.2.2.2.getD k 0)
def w9(G:Sr)(B:bL):Prop:=∀pre e a,B=pre++e::a->∃r,w6 G pre e r
theorem ze8{G:Sr}{B:bL}{n:Nat}{cut:List Int}{c:aL}(g:GI G B n cut c):∀r,G.rs[n]? = some r->cut.length<=r.parts.length+1/\0<cut.length/\
  ∀k t,k+1<cut.length->r.parts[k]? = some t->(G.own t=true->(aJ B (t,cut.getD k 0,cut.getD (k+1) 0)).isSome=true)/\(G.own t=false->∃pr,(cut.getD (k+1) 0,pr)∈G.steps t (cut.getD k 0)):=by
 induction g with
 | start a b=>exact λr _=>⟨Nat.le_add_left _ _,Nat.zero_lt_one,λk t h=>by simp at h⟩
 | @word j cut c d e pr g a b o l p=>
  intro r f;rw[a]at f;cases f;obtain⟨s,q,i⟩:=p j a;have hl:=(Ap.mp b).1;refine⟨by simp;lia,by simp,λk t hk ht=>?_⟩;rw[Ak,Bp]at hk
  by_cases z:k+1<cut.length
  .rw[rF (by lia),rF z];exact i k t z ht
  .obtain rfl:k=cut.length-1:=by lia
   rw[b]at ht;cases ht;rw[rF (by lia),getD_last,show cut.length-1+1=cut.length by lia,OW];exact⟨λz=>(by rw[o]at z;cases z),λ_=>⟨_,l⟩⟩
 | @name j cut c m d e u g a b o l p=>
  intro r f;rw[a]at f;cases f;obtain⟨s,q,i⟩:=p j a;have hl:=(Ap.mp b).1;refine⟨by simp;lia,by simp,λk t hk ht=>?_⟩;rw[Ak,Bp]at hk
  by_cases z:k+1<cut.length
  .rw[rF (by lia),rF z];exact i k t z ht
  .obtain rfl:k=cut.length-1:=by lia
   rw[b]at ht;cases ht;rw[rF (by lia),getD_last,show cut.length-1+1=cut.length by lia,OW];exact⟨λ_=>(by rw[l];rfl),λz=>(by rw[o]at z;cases z)⟩
theorem xA{κ c:Type}[DecidableEq κ](a b:List (κ×c))(k:κ):aJ (a++b) k=(aJ a k).or (aJ b k):=by
 unfold aJ;rw[List.find?_append,Option.map_or]
theorem ze9(h:jC G B):w9 G B:=by
 obtain⟨S,n,st,P,cur,T,A,m,rfl,_⟩:=h;intro pre e a j;obtain⟨g,i⟩:=A.ob.ord pre e a j;have d:aJ st.best e.1=some e.2:=by rw[j,xA,i,dG,if_pos rfl];rfl
 obtain⟨c,p2,_⟩:=A.ob.bst e.1 e.2.1 e.2.2.1 e.2.2.2 d;obtain⟨r,b⟩:=g.rule;obtain⟨o,l,f⟩:=ze8 g r b;rw[part_of b]at c;have c:=Gp.mp c;have hl:e.2.2.2.length=r.parts.length+1:=by lia
 refine⟨r,i,b,?_,hl,λk t ht=>(f k t ?_ ht).1,λk t ht=>(f k t ?_ ht).2⟩
 .rw[p2];unfold cS cN;rw[b]
 all_goals have:=(Ap.mp ht).1;lia
section
variable (G:Sr)(fw:Str->Int->Int->W)(fr:Nat->List W->W)
def rG(T:bJ->W)(cut:List Int)(ps:List Str):List W:=ps.zipIdx.map λx=>if G.own x.1=true then T (x.1,cut.getD x.2 0,cut.getD (x.2+1) 0) else fw x.1 (cut.getD x.2 0) (cut.getD (x.2+1) 0)
def nB(n:Nat):List Str:=((G.rs[n]?).map aI.parts).getD []
def xB(T:List (bJ×W))(e:En):bJ×W:=(e.1,fr e.2.2.1 (rG G fw (λf=>(aJ T f).getD .non) e.2.2.2 (nB G e.2.2.1)))
def stepT(T:List (bJ×W))(e:En):List (bJ×W):=T++[xB G fw fr T e]
def l8(B:bL):List (bJ×W):=B.foldl (stepT G fw fr) []
def xC(B:bL)(f:bJ):W:=(aJ (l8 G fw fr B) f).getD .non
end
section
variable {G:Sr}{fw:Str->Int->Int->W}{fr:Nat->List W->W}
theorem OX(B:bL)(T:List (bJ×W)):∃m,B.foldl (stepT G fw fr) T=T++m/\m.map Ck=B.map (·.1):=by
 induction B generalizing T with
 | nil=>exact⟨[],by simp,rfl⟩
 | cons e B b=>
  obtain⟨m,a,c⟩:=b (stepT G fw fr T e);refine⟨xB G fw fr T e::m,?_,congrArg (e.1::·) c⟩;rw[Cm,a,stepT,Dx];rfl
theorem l9{κ a:Type}[DecidableEq κ]{t:List (κ×a)}{k:κ}:(aJ t k).isSome=true↔k∈t.map (·.1):=by
 rw[<-lR,Ib,Am];exact⟨λ⟨x,h,e⟩=>⟨x,h,of_decide_eq_true e⟩,λ⟨x,h,e⟩=>⟨x,h,decide_eq_true e⟩⟩
theorem zfa{B pre a:bL}{e:En}{r:aI}(n:B=pre++e::a)(E:w6 G pre e r):xC G fw fr B e.1=fr e.2.2.1 (rG G fw (xC G fw fr B) e.2.2.2 r.parts):=by
 obtain⟨o,f,l⟩:=OX (G:=G) (fw:=fw) (fr:=fr) pre [];rw[Fu]at f;obtain⟨m,d,p⟩:=OX (G:=G) (fw:=fw) (fr:=fr) a (stepT G fw fr (l8 G fw fr pre) e);have ht:l8 G fw fr B=l8 G fw fr pre++(xB G fw fr (l8 G fw fr pre) e::m):=by
  unfold l8 at d⊢;rw[n,Ei,Cm,d,stepT,Dx];rfl
 have hk:(l8 G fw fr pre).map Ck=pre.map (·.1):=by unfold l8;rw[f];exact l
 have j:aJ (l8 G fw fr pre) e.1=none:=by
  rw[<-Option.not_isSome_iff_eq_none,l9,hk,<-l9,E.no];exact Ao
 have i:nB G e.2.2.1=r.parts:=by unfold nB;rw[E.ru];rfl
 unfold xC;rw[ht,xA,j,dG,if_pos (show(xB G fw fr (l8 G fw fr pre) e).1=e.1 from rfl)];show fr e.2.2.1 (rG G fw _ e.2.2.2 (nB G e.2.2.1))=_;rw[i];refine congrArg _ (Ff λx c=>?_);obtain⟨t,k⟩:=x;have c:=Ew.mp c
 by_cases b:G.own t=true
 .rw[if_pos b,if_pos b];dsimp only;rw[xA];have g:=E.pn k t c b;rw[l9,<-hk,<-l9]at g;obtain⟨v,h⟩:=Fm.mp g;rw[h];rfl
 .rw[if_neg b,if_neg b]
end
abbrev mB(G:Sr)(B:bL)(f:bJ):W:=xC G (λt _ _=>.str t) (λn vs=>.tup [.int n,.tup vs]) B f
structure d5(rs:List aI):Prop where
 ne:rs≠[]
 few:rs.length<=17
 nam:(namesOf rs).length<=4
 prt:∀r∈rs,r.parts.length<=4
 hd:∀r∈rs,lP r.name/\0<=r.cost
 wds:∃U:List Str,U.length<64/\qP rs U
 txt:∀r∈rs,∀t∈r.parts,jK t\/∃q∈rs,q.name=t
theorem d5.gl(g:d5 rs):GL rs:=⟨Ay g.few (by decide),g.prt,g.wds⟩
def rH(rs:List aI)(D:List Str):Prop:=∃n,D=eE rs n/\iK rs D=D
theorem rH.uniq(h:rH rs D)(h':rH rs a):D=a:=by
 obtain⟨n,rfl,e⟩:=h;obtain⟨m,rfl,b⟩:=h';have stay:∀{n:Nat},iK rs (eE rs n)=eE rs n->∀k,eE rs (n+k)=eE rs n:=λ{n} e k=>by
  induction k with
  | zero=>rfl
  | succ k c=>show iK rs (eE rs (n+k))=_;rw[c,e]
 rcases Nat.le_total n m with z|z
 .obtain⟨k,rfl⟩:=Jd z;exact(stay e k).symm
 .obtain⟨k,rfl⟩:=Jd z;exact stay b k
section
variable (rs:List aI)(D:List Str)(B:bL)
def cG(t:Str):Bool:=decide ((t,(0:Int),(0:Int))∈B.map (·.1))
def treeE(t:Str):W:=mB (eF rs []) B (t,0,0)
abbrev gM:List (NP×W):=rE rs (cF rs D) (cG B) (treeE rs B)
def gN:Str:=(lZ (namesOf rs) 1).headD ""
def mC(l:List (NP×W))(x:Str):Bool:=l.any λz=>decide (x∈z.1.2)
def jN:List (NP×W):=if cG B (bN rs)=true then(if mC (gM rs D B) (bN rs)=true then [((gN rs,[bN rs]),.tup [.int 0]),((gN rs,[]),.tup [.tup [.str "whole",treeE rs B (bN rs)]])] else [((bN rs,[]),.tup [.tup [.str "whole",treeE rs B (bN rs)]])]) else []
def fS:List (NP×W):=if bN rs∉D/\cG B (bN rs)=false then w4 rs else jN rs D B++gM rs D B
def fB:List aI:=(fS rs D B).map λp=>g8 p.1
end
structure kS(rs:List aI)(D:List Str)(B:bL):Prop where
 wd:Wd rs D
 fx:iK rs D=D
 dr:∀t,cG B t=true↔pG rs t
section
variable {rs:List aI}{D:List Str}{B:bL}
theorem tM(g:d5 rs):lZ (namesOf rs) 1=[gN rs]/\gN rs∉namesOf rs/\∃i,i<180/\gN rs=eO i:=by
 have d:=g.nam;have hl:(lZ (namesOf rs) 1).length=1:=zeM (Gj (show 1+(namesOf rs).length<=5 by lia) (by decide));obtain⟨x,a⟩:=List.length_eq_one_iff.mp hl;have e:gN rs=x:=by unfold gN;rw[a];rfl
 obtain⟨b,i,f,c⟩:=zeN (old:=namesOf rs) (n:=1) (t:=x) (by rw[a];simp);exact⟨by rw[a,e],by rw[e];exact b,i,by lia,by rw[e];exact c⟩
theorem xD(h:z∈gM rs D B):∃X∈namesOf rs,∃r∈rs,r.name=X/\z.1.1=X/\z.1.2≠[]/\z.1.2.length<=r.parts.length/\∀t∈z.1.2,t∈r.parts/\cF rs D t=true:=by
 obtain⟨X,i,r,j,en,y,g,f,m,e⟩:=B7.mp (Am.mpr ⟨z,h,rfl⟩);obtain⟨n,b,l,a,k,d⟩:=B4 (show y∈r.parts.foldl _ [([],[])] from g);rw[Aj.mp b]at a;have a:y.1=l:=a;have c:z.1.2=l:=by rw[e];exact a
 exact⟨X,i,r,j,en,by rw[e],by rw[e];exact f,by rw[c];exact d,λt ht=>by rw[c]at ht;exact k t ht⟩
theorem zfb(R:kS rs D B)(a:X∈D):∃z∈gM rs D B,z.1.1=X:=by
 obtain⟨r,f,en,y,d,c,b⟩:=OT R.wd R.fx (E:=treeE rs B) R.dr a;have:=B7.mpr ⟨X,of_decide_eq_true (R.wd.own X a),r,f,en,y,d,c,b,rfl⟩;obtain⟨z,hz,e⟩:=Am.mp this;exact⟨z,hz,by rw[e]⟩
theorem zfc(g:d5 rs)(R:kS rs D B)(n:bN rs∈D):∃ps v q,gM rs D B=((bN rs,ps),v)::q:=by
 obtain⟨q,e⟩:=OV g.ne;obtain⟨r,o,en,y,c,l,i⟩:=OT R.wd R.fx (E:=treeE rs B) R.dr n;have f:(bN rs,y.1)∈(nA rs (cF rs D) (cG B) (treeE rs B) (bN rs)).map Ck:=w5.mpr ⟨r,o,en,y,c,l,i,rfl⟩;show ∃ps v q,rE rs _ _ _=_;rw[B6,e,Lc,Ei];cases hi:nA rs (cF rs D) (cG B) (treeE rs B) (bN rs) with
 | nil=>rw[hi]at f;cases f
 | cons y ys=>
  have c:y.1∈(nA rs (cF rs D) (cG B) (treeE rs B) (bN rs)).map Ck:=by rw[hi];simp
  obtain⟨s,_,_,_,_,_,_,k⟩:=w5.mp c;rw[Cm];obtain⟨d,j⟩:=B0 (its:=ys) (acc:=dN [] y);obtain⟨h,p⟩:=B0 (its:=q.flatMap (nA rs (cF rs D) (cG B) (treeE rs B))) (acc:=ys.foldl dN (dN [] y));rw[p,j];obtain⟨⟨a,b⟩,v⟩:=y;have m:a=bN rs:=congrArg Ck k;subst m;exact⟨b,v,d++h,by show([((bN rs,b),v)]++d)++h=_;simp⟩
inductive pI(rs:List aI)(D:List Str)(B:bL):NP->Prop
 | none:bN rs∉D->cG B (bN rs)=false->pI rs D B (bN rs,[bN rs,bN rs])
 | told {z:NP×W}:¬(bN rs∉D/\cG B (bN rs)=false)->z∈gM rs D B->pI rs D B z.1
 | lead:cG B (bN rs)=true->mC (gM rs D B) (bN rs)=true->pI rs D B (gN rs,[bN rs])
 | void:cG B (bN rs)=true->mC (gM rs D B) (bN rs)=true->pI rs D B (gN rs,[])
 | free:cG B (bN rs)=true->mC (gM rs D B) (bN rs)=false->pI rs D B (bN rs,[])
theorem zfd(h:z∈fS rs D B):pI rs D B z.1:=by
 unfold fS at h;split at h
 .rename_i c;rw[Aj.mp h];exact .none c.1 c.2
 .rename_i c;rcases Bg.mp h with h|h
  .unfold jN at h;split at h
   .rename_i d;split at h
    .rename_i p;rcases Ba.mp h with rfl|h
     .exact .lead d p
     .rw[Aj.mp h];exact .void d p
    .rename_i p;rw[Aj.mp h];exact .free d (by simpa using p)
   .cases h
  .exact .told c h
theorem zfe(h:¬(bN rs∉D/\cG B (bN rs)=false))(hz:z∈gM rs D B):z∈fS rs D B:=by
 unfold fS;rw[if_neg h];exact Ca _ hz
theorem d5.head(g:d5 rs)(h:X∈namesOf rs):lP X:=by
 obtain⟨r,a,rfl⟩:=mX.mp h;exact(g.hd r a).1
theorem pJ(h:t∈fB rs D B):t.cost=0/\pI rs D B (t.name,t.parts):=by
 obtain⟨z,hz,rfl⟩:=Am.mp h;exact⟨rfl,zfd hz⟩
theorem OY:mC l x=true↔∃z∈l,x∈z.1.2:=by
 unfold mC;rw[Ib];exact⟨λ⟨z,h,e⟩=>⟨z,h,of_decide_eq_true e⟩,λ⟨z,h,e⟩=>⟨z,h,decide_eq_true e⟩⟩
theorem zff(g:d5 rs)(c:mC (gM rs D B) (bN rs)=true):bN rs∈D:=by
 obtain⟨z,hz,a⟩:=OY.mp c;obtain⟨X,e,r,d,en,h,f,_,b⟩:=xD hz;have:=(b _ a).2;unfold cF at this;rw[show ownB rs (bN rs)=true from decide_eq_true (wZ g.ne)]at this;simpa using this
theorem xE(g:d5 rs)(R:kS rs D B)(ht:t∈fB rs D B):∀p∈t.parts,jK p\/(lP p/\p∈namesOf rs/\∃t'∈fB rs D B,t'.name=p):=by
 intro p a;have i:=(pJ ht).2;have own:¬(bN rs∉D/\cG B (bN rs)=false)->∀p∈D,lP p/\p∈namesOf rs/\∃t'∈fB rs D B,t'.name=p:=λhc p a=>by
  obtain⟨z,hz,e⟩:=zfb R a;have f:p∈namesOf rs:=of_decide_eq_true (R.wd.own p a);exact⟨g.head f,f,g8 z.1,Am.mpr ⟨z,zfe hc hz,rfl⟩,e⟩
 generalize d:(t.name,t.parts)=x at i;cases i with
 | none c b=>
  obtain⟨j,h⟩:=Fn d;have f:=wZ g.ne;have:p=bN rs:=by rw[h]at a;simpa using a
  rw[this];exact .inr ⟨g.head f,f,t,ht,j⟩
 | @told z hc hz=>
  obtain⟨X,n,r,l,en,_,_,_,k⟩:=xD hz;have h:t.parts=z.1.2:=congrArg Gw d;rw[h]at a;obtain⟨c,b⟩:=k p a;rcases g.txt r l p c with y|⟨q,m,y⟩
  .exact .inl y
  .refine .inr (own hc p ?_);unfold cF at b;rw[show ownB rs p=true by rw[<-y];exact vK m]at b;simpa using b
 | lead c b=>
  obtain⟨j,h⟩:=Fn d;have:p=bN rs:=by rw[h]at a;simpa using a
  rw[this];exact .inr (own (λz=>by rw[c]at z;cases z.2) _ (zff g b))
 | void c b=>rw[(Fn d).2]at a;cases a
 | free c b=>rw[(Fn d).2]at a;cases a
theorem OZ(g:d5 rs)(ht:t∈fB rs D B):t.name∈namesOf rs\/t.name=gN rs:=by
 have b:=(pJ ht).2;generalize a:(t.name,t.parts)=x at b;have e:=wZ g.ne;cases b with
 | none c d=>rw[(Fn a).1];exact .inl e
 | @told z hc hz=>
  obtain⟨X,f,r,i,en,h,_⟩:=xD hz;rw[show t.name=z.1.1 from congrArg Ck a,h];exact .inl f
 | lead c d=>exact .inr (Fn a).1
 | void c d=>exact .inr (Fn a).1
 | free c d=>rw[(Fn a).1];exact .inl e
theorem O0(g:d5 rs)(R:kS rs D B):∃(ps:List Str) (v:W) (q:List (NP×W)) (X:Str),fS rs D B=((X,ps),v)::q/\(X=bN rs\/(X=gN rs/\X∉namesOf rs))/\∀t∈fB rs D B,t.parts=[]->t.name=X/\∀t'∈fB rs D B,X∉t'.parts:=by
 obtain⟨_,m,_⟩:=tM g;have s:=wZ g.ne
 by_cases hc:bN rs∉D/\cG B (bN rs)=false
 .have e:fS rs D B=w4 rs:=by unfold fS;rw[if_pos hc]
  refine⟨_,_,_,bN rs,e,.inl rfl,λt ht h=>?_⟩;unfold fB at ht;rw[e]at ht;obtain⟨z,hz,rfl⟩:=Am.mp ht;rw[Aj.mp hz]at h;cases h
 have e:fS rs D B=jN rs D B++gM rs D B:=by unfold fS;rw[if_neg hc]
 have l:∀z∈gM rs D B,z.1.2≠[]:=λz hz=>by
  obtain⟨_,_,_,_,_,_,h,_⟩:=xD hz;exact h
 cases hd:cG B (bN rs) with
 | false=>
  have o:bN rs∈D:=Classical.not_not.mp λz=>hc ⟨z,hd⟩;have n:jN rs D B=[]:=by unfold jN;rw[hd];rfl
  rw[n,Fu]at e;obtain⟨ps,v,q,r⟩:=zfc g R o;refine⟨ps,v,q,bN rs,e.trans r,.inl rfl,λt ht h=>?_⟩;unfold fB at ht;rw[e]at ht;obtain⟨z,hz,rfl⟩:=Am.mp ht;exact absurd h (l z hz)
 | true=>
  cases j:mC (gM rs D B) (bN rs) with
  | true=>
   have n:jN rs D B=[((gN rs,[bN rs]),.tup [.int 0]),((gN rs,[]),.tup [.tup [.str "whole",treeE rs B (bN rs)]])]:=by unfold jN;rw[if_pos hd,if_pos j]
   rw[n]at e;refine⟨_,_,_,gN rs,e,.inr ⟨rfl,m⟩,λt ht h=>⟨?_,λt' k d=>?_⟩⟩
   .have b:=(pJ ht).2;generalize f:(t.name,t.parts)=x at b;cases b with
    | none c a=>rw[hd]at a;cases a
    | @told z _ hz=>exact absurd ((congrArg Gw f).symm.trans h) (l z hz)
    | lead c a=>exact(Fn f).1
    | void c a=>exact(Fn f).1
    | free c a=>rw[j]at a;cases a
   .rcases xE g R k _ d with y|⟨_,y,_⟩
    .obtain⟨_,_,i,hi,p⟩:=tM g;have c:=y.sm;rw[p,pE]at c;have:(77:Nat)∈cs j8:=c 77 (Az ..);exact absurd this (by decide +kernel)
    .exact m y
  | false=>
   have n:jN rs D B=[((bN rs,[]),.tup [.tup [.str "whole",treeE rs B (bN rs)]])]:=by unfold jN;rw[if_pos hd,j];rfl
   rw[n]at e;refine⟨_,_,_,bN rs,e,.inl rfl,λt ht h=>⟨?_,λt' k d=>?_⟩⟩
   .have b:=(pJ ht).2;generalize f:(t.name,t.parts)=x at b;cases b with
    | none c a=>exact(Fn f).1
    | @told z _ hz=>exact absurd ((congrArg Gw f).symm.trans h) (l z hz)
    | lead c a=>rw[j]at a;cases a
    | void c a=>rw[j]at a;cases a
    | free c a=>exact(Fn f).1
   .have b:=(pJ k).2;generalize f:(t'.name,t'.parts)=x at b;cases b with
    | none c a=>rw[hd]at a;cases a
    | @told z _ hz=>
     rw[show t'.parts=z.1.2 from congrArg Gw f]at d;have:=OY.mpr ⟨z,hz,d⟩;rw[j]at this;cases this
    | lead c a=>rw[j]at a;cases a
    | void c a=>rw[j]at a;cases a
    | free c a=>rw[(Fn f).2]at d;cases d
theorem B9:∀{its acc:List (NP×W)},(acc.map Ck).Nodup->((its.foldl dN acc).map Ck).Nodup
 | [],acc,h=>h
 | f::r,acc,h=>by
  refine B9 (its:=r) ?_;unfold dN;split
  .exact h
  .rename_i z;rw[Bb,Dk];refine⟨h,by simp,λa d b c e=>z ?_⟩;rw[Aw,Hz,Aj]at c;rw[<-c,<-e];exact d
theorem O1{a c:Type}{f:a->List c}{k:Nat}:∀{l:List a},(∀x∈l,(f x).length<=k)->(l.flatMap f).length<=l.length*k
 | [],_=>Bw _
 | x::l,h=>by
  have d:=h x (Az ..);have e:=O1 (f:=f) (k:=k) (l:=l) λy b=>h y (Ar _ b);rw[Lc,Ak,Br,Md];lia
theorem O2{keep drop:Str->Bool}{E:Str->W}(h:ps.length<=4):(hV keep drop E ps).length<=16:=by
 have:=OO (keep:=keep) (drop:=drop) (E:=E) ps [([],[])];rw[Bp,Nat.mul_one]at this;have a:=Nat.pow_le_pow_right (n:=2) (by decide) h;exact Ay this a
structure gD(rs:List aI)(keep drop:Str->Bool)(E:Str->W)(l:List (NP×W)):Prop where
 nd:(l.map Ck).Nodup
 inn:∀x∈l.map Ck,x∈rs.flatMap λr=>(hV keep drop E r.parts).map λy=>(r.name,y.1)
theorem gD.few{keep drop:Str->Bool}{E:Str->W}(g:d5 rs)(b:gD rs keep drop E l):l.length<=272:=by
 have a:=len_sub b.nd b.inn;have d:=O1 (f:=λr:aI=>(hV keep drop E r.parts).map λy=>(r.name,y.1)) (k:=16) (l:=rs) λr c=>by rw[Ab];exact O2 (g.prt r c)
 have:=g.few;rw[Ab]at a;lia
theorem gD.nil(keep drop:Str->Bool)(E:Str->W):gD rs keep drop E []:=⟨Em,λx h=>nomatch h⟩
theorem gD.add{keep drop:Str->Bool}{E:Str->W}(b:gD rs keep drop E l){n:Nat}(d:rs[n]? = some r)(c:y∈hV keep drop E r.parts):gD rs keep drop E (dN l (jM r.name n y)):=by
 refine⟨B9 (its:=[jM r.name n y]) b.nd,λx a=>?_⟩;rcases OI.mp a with h|h
 .exact b.inn x h
 .rw[h];exact Ef.mpr ⟨r,Au d,Am.mpr ⟨y,c,rfl⟩⟩
theorem O3(keep drop:Str->Bool)(E:Str->W):gD rs keep drop E (rE rs keep drop E):=by
 refine⟨by rw[B6];exact B9 Em,λx a=>?_⟩;obtain⟨X,g,r,b,en,y,c,f,d,e⟩:=B7.mp a;rw[e,<-en];exact Ef.mpr ⟨r,b,Am.mpr ⟨y,c,rfl⟩⟩
theorem O4(g:d5 rs):(fS rs D B).length<=280:=by
 have a:(gM rs D B).length<=272:=(O3 (rs:=rs) (cF rs D) (cG B) (treeE rs B)).few g;unfold fS;split
 .show 1<=280;lia
 .rw[Ak];have:(jN rs D B).length<=2:=by
   unfold jN;split
   .split<;>simp
   .simp
  lia
theorem zfg(g:d5 rs)(R:kS rs D B):B2 (fB rs D B):=by
 refine⟨?_,?_,λt ht=>⟨by rw[(pJ ht).1];exact Ld _,λp b=>?_⟩⟩
 .obtain⟨ps,v,q,X,e,_⟩:=O0 g R;unfold fB;rw[e];simp
 .unfold fB;rw[Ab];have:=O4 g (D:=D) (B:=B);lia
 .rcases xE g R ht p b with z|⟨z,_,t',a,e⟩
  .exact⟨by have:=z.len;lia,λn=>by rw[z.nm]at n;cases n⟩
  .exact⟨by have:=z.len;lia,λ_=>mX.mpr ⟨t',a,e⟩⟩
end
def xF:bF:=λws M R=>∃rs:List aI,ws=[cI rs]/\rs.length<=100/\aY (rs.map λ_=>W.int 0) M R
abbrev zfh:List Str:=["grammar"]
def zfi:aH:=
   (bU (d7 (cB cX (aA 0)) (bB 0) fL (vC (.int 0)) [none]))
theorem zfj:∀ws M R,xF ws M R->ws.length=1:=by rintro ws M R ⟨_,rfl,_⟩;rfl
theorem zfk(h:xF ws M R):zfi (bI R) (bT zfh ws) M:=by
 obtain⟨rs,rfl,hl,r⟩:=h;refine⟨_,rfl,gZ (oO (rest:=[]) (λ_=>.int 0) (cJ (by rw[Ab];lia)) (λ_ _=>trivial) (λw hw c C sb b=>b) ?_)⟩
 .intro p a;refine⟨_,Sub.refl _,?_⟩;have e:(rs.map bE).map (λ_=>W.int 0)=rs.map λ_=>W.int 0:=by rw[Bo];rfl
  rw[e];exact r p a
def CA:bF:=λws M R=>∃(rs:List aI) (U:List Str),ws=[cI rs]/\rs.length<=100/\U.length<64/\qP rs U/\∀a:List Str,qP rs a->a.Nodup->(∀t∈a,t∈U)->R (.rl (a.map W.str)) M
abbrev zfl:List Str:=["grammar","own","found","rule","part"]
def zfm:aH:=
   (a5 1 (bG m9 (aB (b5 (bG kR (aB (aA 0) aE))) aE)))
def zfn:aH:=
   (a5 2 u7)
def zfo:aH:=
   (eR (cB cX (aD aV (aA 3) (vC (.int 1)))) (bB 4)
    (cV (bP (aD (rIn true) (aA 4) (aA 1)))
    (iV (vC (.bl true)) (kG (aA 2) (aA 4)))
    dQ))
def zfp:aH:=
   (eR (cB cX (aA 0)) (bB 3) zfo)
def zfq:aH:=
   (bU (bM LR (aB (b5 (aA 2)) aE)))
def zfr:aH:=(aM zfm (aM zfn (aM zfp zfq)))
abbrev zfs:List Str:=["grammar","steps","best"]
def zft(C:Cc):aH:=
   (a5 1 (b5 (bM BW (aB (b5 (d7 (cB cX (bG CA (aB (aA 0) aE))) (bB 0) fL (bH (aB (bH (aB (aA 0) (aB (vC (.int 0)) aE))) (aB (gV (aB (bH (aB (vC (.int 0)) (aB (vC (.int 1)) aE))) aE)) aE))) [none])) aE))))
def zfu(C:Cc):aH:=
   (a5 2 (BU (bG (wN C) (aB (aA 0) (aB (gV (aB (vC (.int 0)) aE)) (aB (aA 1) (aB (b5 (bG xF (aB (aA 0) aE))) aE)))))))
def zfv(C:Cc):aH:=
   (bU (bM AU (aB (b5 (d7 (cB rA (aA 2)) (bB 0) fL (bH (aB (aD aV (aA 0) (vC (.int 0))) (aB (aD aV (aD aV (aD aV (aA 1) (aA 0)) (vC (.int 0))) (vC (.int 0))) aE))) [none,some 2])) aE)))
def zfw(C:Cc):aH:=(aM (zft C) (aM (zfu C) (zfv C)))
theorem zfx:∀ws M R,CA ws M R->ws.length=1:=by rintro ws M R ⟨_,_,rfl,_⟩;rfl
theorem tN(ts:List Str)(n:Str):(aX (ts.map cL) (Sum.inr n:aF)).isSome=decide (n∈ts):=by
 induction ts with
 | nil=>rfl
 | cons t ts ih=>
  unfold aX at ih⊢;rw[Aw,Du]
  by_cases h:t=n
  .subst h;simp[cL]
  .rw[show decide ((cL t).1=(Sum.inr n:aF))=false by simp[cL,h]];rw[ih];have h2:¬n=t:=λe=>h e.symm;simp[h2]
theorem pK(rs:List aI)(t:Str):(aX (ownOf rs) (Sum.inr t:aF)).isSome=ownB rs t:=by
 unfold ownOf ownB;rw[tN,Dv];simp only[decide_eq_true_eq];rw[vI];simp
theorem zfy(h:CA ws M R):zfr (bI R) (bT zfl ws) M:=by
 obtain⟨rs,U,rfl,hl,hU,aU,r⟩:=h;refine⟨_,rfl,rs,rfl,Ay hl (by decide),aY.frz ?_⟩;refine⟨namesOf rs,rfl,by have:=MB rs;lia,?_⟩;obtain⟨ow,how⟩:∃ow,ow=(((namesOf rs).foldl dE []).map cL):=⟨_,rfl⟩;have lo:∀t,(aX ow (Sum.inr t:aF)).isSome=ownB rs t:=λt=>by rw[how];exact pK rs t
 rw[<-how];refine λp hp=>⟨_,rfl,gZ ?_⟩
 refine eL (λi τ M'=>∃(ss:List Str) (o3 o4:Option W),τ=[some (.rl (rs.map bE)),some (.dk ow),some (.ref p),o3,o4]/\M'=put M p (.dK (ss.map cL))/\ss.Nodup/\(∀t∈ss,t∈U)/\∀q∈rs.take i,∀t∈q.parts,ownB rs t=false->t∈ss) ⟨[],_,_,rfl,rfl,Em,by simp,by simp⟩ (λ_ _ _ _ _=>trivial) ?_ ?_
 .rintro i w τ M' hw ⟨ss,o3,o4,rfl,rfl,nd,hsU,hin⟩;rw[Av]at hw;obtain⟨q,hq,rfl⟩:=Bd.mp hw;refine⟨_,rfl,_,rfl,?_⟩;refine eL (ws:=q.parts.map W.str) (λj τ M'=>∃(s2:List Str) (o4:Option W),τ=[some (.rl (rs.map bE)),some (.dk ow),some (.ref p),some (bE q),o4]/\M'=put M p (.dK (s2.map cL))/\s2.Nodup/\(∀t∈s2,t∈U)/\(∀t∈ss,t∈s2)/\∀t∈q.parts.take j,ownB rs t=false->t∈s2) ⟨ss,_,rfl,rfl,nd,hsU,λ_ h=>h,by simp⟩ (λ_ _ _ _ _=>trivial) ?_ ?_
  .rintro j w τ M' hw ⟨s2,o4,rfl,rfl,nd2,hsU2,hs2,hin2⟩;rw[Av]at hw;obtain⟨t,ht,rfl⟩:=Bd.mp hw;refine⟨_,rfl,_,rfl,_,⟨Sum.inr t,rfl,rfl⟩,_,rfl,?_⟩;show if (!(aX ow (Sum.inr t:aF)).isSome)=true then _ else _;rw[lo t];cases ho:ownB rs t with
   | true=>
    refine⟨_,Sub.refl _,s2,_,rfl,rfl,nd2,hsU2,hs2,λx hx hox=>?_⟩;rw[nU ht]at hx;rcases Bg.mp hx with z|z
    .exact hin2 x z hox
    .rw[Aj.mp z,ho]at hox;cases hox
   | false=>
    have hl2:s2.length<=U.length:=len_sub nd2 hsU2;refine⟨_,rfl,_,rfl,z7 aR (by rw[Ab];exact eS (by lia)) ⟨_,Sub.refl _,dE s2 t,_,rfl,by rw[eW,wC],BX nd2,λx hx=>?_,λx hx=>lQ.mpr (.inl (hs2 x hx)),λx hx hox=>?_⟩⟩
    .rcases lQ.mp hx with z|z
     .exact hsU2 x z
     .rw[z];exact aU q (Au hq) t (Au ht) ho
    .rw[nU ht]at hx;rcases Bg.mp hx with z|z
     .exact lQ.mpr (.inl (hin2 x z hox))
     .exact lQ.mpr (.inr (by simpa using z))
  .rintro τ M' ⟨s2,o4,rfl,rfl,nd2,hsU2,hs2,hin2⟩;rw[Ab,Cd]at hin2;refine⟨_,Sub.refl _,s2,_,_,rfl,rfl,nd2,hsU2,λx hx t ht ho=>?_⟩;rw[nU hq]at hx;rcases Bg.mp hx with z|z
   .exact hs2 t (hin x z t ht ho)
   .rw[Aj.mp z]at ht;exact hin2 t ht ho
 .rintro τ M' ⟨ss,o3,o4,rfl,rfl,nd,hsU,hin⟩;rw[Ab,Cd]at hin;refine⟨_,rfl,J2 hp ?_⟩;have hl2:ss.length<=U.length:=len_sub nd hsU;refine⟨ss,by rw[Bo];rfl,by lia,λs3 hperm=>⟨_,Sub.refl _,r s3 (λq hq t ht ho=>hperm.mem_iff.mpr (hin q hq t ht ho)) (hperm.nodup_iff.mpr nd) λt ht=>hsU t (hperm.mem_iff.mp ht)⟩⟩
def nC(a:List Str):List (List aF×W):=a.map λt=>([Sum.inr t,Sum.inl 0],.rl [.tup [.int 0,.int 1]])
theorem O5:∀{ps acc:List (List aF×W)},((acc++ps).map (·.1)).Nodup->m7 acc ps=acc++ps
 | [],acc,_=>by simp[m7]
 | p::ps,acc,h=>by
  have a:aX acc p.1=none:=by
   rw[Bb,Dk]at h;exact qT λe c z=>h.2.2 _ (Am.mpr ⟨e,c,rfl⟩) p.1 (by simp) z
  have e:b9 acc p.1 p.2=acc++[p]:=by
   unfold b9;rw[if_neg (by rw[show(acc.any λb=>decide (b.1=p.1))=(aX acc p.1).isSome from lR acc p.1,a];decide)]
  show m7 (b9 acc p.1 p.2) ps=_;rw[e,O5 (by rw[Dx];exact h),Dx];rfl
theorem zfz(h:a.Nodup):((nC a).map (·.1)).Nodup:=by
 unfold nC;rw[Bo]
 induction a with
 | nil=>simp
 | cons t a d=>
  rw[Cz]at h;rw[Aw,Cz];refine⟨λc=>?_,d h.2⟩;obtain⟨x,b,e⟩:=Am.mp c;have:x=t:=by simpa using e
  exact h.1 (by rw[<-this];exact b)
theorem zfA(a:List Str)(t:Str)(p:Int):aX (nC a) (eK (t,p))=if p=0/\t∈a then some (.rl [.tup [.int 0,.int 1]]) else none:=by
 unfold nC eK
 induction a with
 | nil=>simp[aX]
 | cons x a e=>
  rw[Aw,nV,e]
  by_cases c:p=0
  .subst c
   by_cases d:x=t
   .subst d;rw[if_pos rfl,if_pos ⟨rfl,by simp⟩]
   .rw[if_neg (λz=>d (by simpa using z))]
    by_cases b:t∈a
    .rw[if_pos ⟨rfl,b⟩,if_pos ⟨rfl,Ar _ b⟩]
    .rw[if_neg (λz=>b z.2),if_neg (λz=>by rcases Ba.mp z.2 with q|q;exact d q.symm;exact b q)]
  .rw[if_neg (λz=>c (by simp at z;exact z.2.symm)),if_neg (λz=>c z.1),if_neg (λz=>c z.1)]
def CB:bF:=λws M R=>∃rs:List aI,ws=[cI rs]/\GL rs/\∀kvs:List (aF×W),(∀X:Str,(aX kvs (Sum.inr X:aF)).isSome=pD rs X)->lE kvs M R
theorem zfB:∀ws M R,CB ws M R->ws.length=1:=by rintro ws M R ⟨_,rfl,_⟩;rfl
theorem zfC(h:CB ws M R):zfw C (bI R) (bT zfs ws) M:=by
 obtain⟨rs,rfl,g,r⟩:=h;have hf:=g.few;obtain⟨U,G,L⟩:=g.wds;refine⟨_,rfl,rs,U,rfl,by lia,G,L,λa Q nd s=>gZ ?_⟩;have hsl:a.length<=U.length:=len_sub nd s;refine oO (rest:=[]) (λw=>.tup [.tup [w,.int 0],.rl [.tup [.int 0,.int 1]]]) (cJ (by rw[Ab];lia)) (λ_ _=>trivial) (λw hw I C sb c=>⟨_,rfl,z2,z2,z1,z2,c⟩) (aY.frz ?_);refine⟨nC a,?_,cJ (by rw[Ab,Ab];lia),?_⟩
 .unfold pB nC;rw[Bo,Bo];rfl
 rw[O5 (by simpa using zfz nd),Fu];refine kA.frz ?_;refine⟨_,rfl,z1,_,rfl,_,rfl,rs,rfl,by lia,aY.frz ?_⟩;have D:(rs.map λ_=>W.int 0)=(Cr (d4 rs a).rs.length).map λn=>W.int ((d4 rs a).wt n):=by
  show(rs.map λ_=>W.int 0)=(Cr rs.length).map λn=>W.int 0;rw[Me,Me,Gy]
 have E:=MB rs;refine⟨d4 rs a,⟨rs,ownOf rs,nC a⟩,[0],5,1,by rw[D];rfl,by show rs.length<=100;lia,rfl,⟨rfl,λt=>pK rs t,λt p=>?_⟩,zeo rs a,zep a g.prt,by decide,by show 1<=1000;decide,zeq rs a,?_,λB i=>?_⟩
 .show(aX (nC a) (eK (t,p))=none/\(if p=0/\t∈a then [((0:Int),(1:Int))] else [])=[])\/aX (nC a) (eK (t,p))=some (.rl ((if p=0/\t∈a then [((0:Int),(1:Int))] else []).map λz=>.tup [.int z.1,.int z.2]));rw[zfA]
  by_cases h:p=0/\t∈a
  .right;rw[if_pos h,if_pos h];rfl
  .left;rw[if_neg h,if_neg h];exact⟨rfl,rfl⟩
 .have e1:(jZ (d4 rs a)).length=rs.length*1:=wR (d4 rs a) rs.length;rw[e1];show rs.length*1+rs.length*((5+1)*(1*1))*(1+1)+rs.length*((5+1)*(1*1))+1+1+1<10000000;lia
 .obtain⟨S,I0,st,P,cur,T,A,Z,rfl,_⟩:=i;intro J k;refine⟨J,rfl,.inr ⟨_,aR,?_⟩⟩;rw[j9 k];have V:=zaX A;refine⟨_,rfl,?_⟩;refine vG (ws:=(eA fK fR st.best).map λp=>.tup (p.1.map wK)) (rest:=[some (.ft (eA fK fR st.best))]) (λw y=>∃e∈st.best,w=.tup ((fK e.1).map wK)/\y=.tup [.str e.1.1,.int e.2.1.1]) (cJ (by rw[Ab,Ab];lia)) (λ_ _=>trivial) (λw hw I C sb c=>?_) λys d=>aY.frz ?_
  .obtain⟨x,o,rfl⟩:=Am.mp hw;obtain⟨e,v,rfl⟩:=Am.mp o;obtain⟨⟨nm,b,z⟩,m,n,cut⟩:=e;have hb:aJ st.best (nm,b,z)=some (m,n,cut):=vU A v;exact⟨_,rfl,_,rfl,_,rfl,_,rfl,fR (m,n,cut),⟨fK (nm,b,z),rfl,by rw[nX nW,hb];rfl⟩,_,rfl,_,rfl,z2,c _ ⟨_,v,rfl,rfl⟩⟩
  .have K:ys=kO (pC st.best):=by
    have:∀{B:bL} {ys:List W},(∀e∈B,e∈st.best)->Es (λw y=>∃e∈st.best,w=W.tup ((fK e.1).map wK)/\y=W.tup [.str e.1.1,.int e.2.1.1]) ((eA fK fR B).map λp=>W.tup (p.1.map wK)) ys->ys=kO (pC B):=by
     intro B
     induction B with
     | nil=>intro ys _ h;cases h;rfl
     | cons e B Y=>
      intro ys i h;cases h with
      | cons h t=>
       obtain⟨j,l,c,H⟩:=h;have hk:fK e.1=fK j.1:=by
        have c:W.tup ((fK e.1).map wK)=W.tup ((fK j.1).map wK):=c;have:=W.tup.inj c;unfold fK at this⊢;simp[wK]at this;rw[this.1,this.2.1,this.2.2]
       have f:e.1=j.1:=nW _ _ hk;have u:=vU A (i e Az);have F:=vU A l;rw[f,F]at u;have N:j.2=e.2:=Ci u;rw[Y (λx o=>i x (Ar _ o)) t,H,<-f,N];rfl
    exact this (λ_ h=>h) d
   have q:=Cw d;rw[Ab,Ab]at q;refine⟨pC st.best,K,cJ (by lia),λp O=>⟨_,Sub.refl _,r _ (λX=>?_) p O⟩⟩;rw[zer A,Jc];exact zew Q A Z X
def xG:bF:=λws M R=>∃rs:List aI,ws=[.rl (rs.map bE)]/\B2 rs/\aY (rs.map bE) M R
def CC:bF:=λws M R=>∃(old:List Str) (n:Nat),ws=[.rl (old.map W.str),.int n]/\n+old.length<=400/\aY ((lZ old n).map W.str) M R
structure kT(P:Ax)(w:Bl)(C:Addr)(M:Mm)(a d dx:Addr)(l:List (NP×W)):Prop where
 ob:M a=some (.ins C dx [("backs",.ref d)])
 di:M d=some (.dn P w [0] (kvsOf l))
def tO(P:Ax)(w:Bl)(C:Addr):bF:=λws M R=>∃a dx,ws=[.ref a]/\M a=some (.ins C dx [])/\∀d,M d=none->R .non (put (put M d (.dn P w [0] [])) a (.ins C dx [("backs",.ref d)]))
def rJ(P:Ax)(w:Bl)(C:Addr):bF:=λws M R=>∃a d dx l,∃(x:NP) (v:W),ws=[.ref a,.str x.1,.tup (x.2.map W.str),v]/\kT P w C M a d dx l/\l.length<=400/\R .non (put M d (.dn P w [0] (kvsOf (dN l (x,v)))))
def tP(P:Ax)(w:Bl)(C:Addr):bF:=λws M R=>∃a d dx l,ws=[.ref a]/\kT P w C M a d dx l/\∀p q,M p=none->M q=none->p≠q->R (.tup [.ref p,.ref q]) (put (put M p (.lst ((kvsOf l).map λz=>fW [0] z.1))) q (.lst ((kvsOf l).map λz=>z.2)))
def CD:bF:=λws M R=>∃z:Str,ws=[.str z]/\Sh z/\R (.bl (rB z)) M
def CF:bF:=λws M R=>∃(p:Addr) (ts:List aI),ws=[.ref p]/\M p=some (.lst (ts.map bE))/\ts.length<=400/\(∀t∈ts,t.cost=0/\∀q∈t.parts,Sh q/\(rB q=true->∃t'∈ts,t'.name=q))/\R (.bl true) M
def CG:bF:=λws M R=>∃(rs:List aI) (p:Addr) (ts:List aI),ws=[.rl (rs.map bE),.ref p]/\M p=some (.lst (ts.map bE))/\rs.length<=400/\ts.length<=400/\(∀t∈ts,t.name.length<=60/\((∃r∈rs,r.name=t.name)\/∃i,i<180/\t.name=eO i))/\R (.bl true) M
def tQ(rs:List aI):Prop:=∀r∈rs,nR r.name/\∀t∈r.parts,Sh t
abbrev zfD:List Str:=["rules","known","rule"]
def zfE:aH:=
   (cV (bP (aD (rEq false) (bM dP (aB (aA 0) aE)) (vC (.int 0))))
    zQ
    dQ)
def zfF:aH:=
   (a5 1 (b5 (bG kR (aB (aA 0) aE))))
def zfG:aH:=
   (dB (bG BG (aB (aA 2) (aB (aA 1) aE))))
def zfH:aH:=
   (eR (cB cX (aA 0)) (bB 2) zfG)
def zfI:aH:=
   (bU (bM u5 (aB (aA 0) aE)))
def zfJ:aH:=(aM zfE (aM zfF (aM zfH zfI)))
abbrev zfK:List Str:=["old","count","taken","made","tried","name"]
def zfL:aH:=
   (a5 2 (bG m9 (aB (aA 0) aE)))
def zfM:aH:=
   (a5 3 (jE aE))
def zfN:aH:=
   (a5 4 (vC (.int 0)))
def zfO:aH:=
   (aM (a5 5 (aD oW (aD oW (aD v7 (vC (.str "M")) (aD dY (vC (.int 1)) (aD kF (aA 4) (vC (.int 10000))))) (vC (.str "_"))) (bM zF (aB (aD iT (aA 4) (vC (.int 10000))) aE))))
   (aM (a5 4 (aD dY (aA 4) (vC (.int 1))))
   (cV (bP (aD (rIn true) (aA 5) (aA 2)))
    (dB (eQ "list" fU (aA 3) (aB (aA 5) aE)))
    dQ)))
def zfP:aH:=
   (qH (bP (aD oK (bM dP (aB (aA 3) aE)) (aA 1))) zfO)
def zfQ:aH:=
   (bU (aA 3))
def zfR:aH:=(aM zfL (aM zfM (aM zfN (aM zfP zfQ))))
abbrev zfS:List Str:=["self"]
def zfT(P:Ax)(w:Bl)(C:Addr):aH:=
   (j3 C (aA 0) "backs" (ML P w [0]))
abbrev zfU:List Str:=["self","name","parts","pieces"]
def zfV(P:Ax)(w:Bl)(C:Addr):aH:=
   (dB (MN P w [0] (cZ C (aA 0) "backs") (bH (aB (aA 1) (aB (aA 2) (aB (vC (.int 0)) aE)))) (aA 3)))
abbrev zfW:List Str:=["self"]
def zfX(P:Ax)(w:Bl)(C:Addr):aH:=
   (bU (bH (aB (bM (A2 P w [0]) (aB (cZ C (aA 0) "backs") aE)) (aB (bM (A2 P w [0]) (aB (MQ P w [0] (cZ C (aA 0) "backs")) aE)) aE))))
abbrev zfY:List Str:=["part"]
def zfZ:aH:=
   (bU (aD (rIn false) (aD aV (aA 0) (vC (.int 0))) (vC (.str "ABCDEFGHIJKLMNOPQRSTUVWXYZ"))))
abbrev zf0:List Str:=["rules","heads","rule","part"]
def zf1:aH:=
   (a5 1 (b5 (d7 (cB cX (aA 0)) (bB 0) fL (aD aV (aA 0) (vC (.int 0))) [none])))
def zf2:aH:=
   (aM (cV (iR (jV (gA (bM kJ (aB (aA 2) (aB (vC (.ty "tuple")) aE))))) (iR (bP (aD (rEq true) (bM dP (aB (aA 2) aE)) (vC (.int 3)))) (jV (gA (bM kJ (aB (aD aV (aA 2) (vC (.int 1))) (aB (vC (.ty "tuple")) aE)))))))
    (bU (vC (.bl false)))
    dQ)
   (aM (cV (iR (gA (bM kJ (aB (aD aV (aA 2) (vC (.int 2))) (aB (vC (.ty "bool")) aE)))) (bP (aD (rEq true) (aD aV (aA 2) (vC (.int 2))) (vC (.int 0)))))
    (bU (vC (.bl false)))
    dQ)
   (eR (cB cX (aD aV (aA 2) (vC (.int 1)))) (bB 3)
    (cV (kD (gA (bG CD (aB (aA 3) aE))) (bP (aD (rIn true) (aA 3) (aA 1))))
    (bU (vC (.bl false)))
    dQ))))
def zf3:aH:=
   (eR (cB cX (aA 0)) (bB 2) zf2)
def zf4:aH:=
   (bU (vC (.bl true)))
def zf5:aH:=(aM zf1 (aM zf3 zf4))
abbrev zf6:List Str:=["rules","told","heads","name","letters","line","figures"]
def zf7:aH:=
   (a5 2 (b5 (d7 (cB cX (aA 0)) (bB 0) fL (aD aV (aA 0) (vC (.int 0))) [none])))
def zf8:aH:=
   (aM (iV (eQ "str" zR (aA 3) (aB (vC (.str "_")) aE)) (iD 3 (dD (bB 4) (dD (bB 5) (dD (bB 6) iC)))))
   (aM (cV (kD (bP (aD (rIn true) (aA 3) (aA 2))) (iR (bP (aD (rEq false) (aA 5) (vC (.str "")))) (iR (jV (bP (vB sD sD (vC (.int 1)) (bM dP (aB (aA 6) aE)) (vC (.int 4))))) (jV (bP (vB sD sD (vC (.int 1)) (bM dP (aB (aA 4) aE)) (vC (.int 8))))))))
    (bU (vC (.bl false)))
    dQ)
   (cV (kD (bP (aD (rIn true) (aA 3) (aA 2))) (bP (aD (rEq true) (b5 (d7 (cB cX (aA 6)) (bB 0) (bP (aD (rIn true) (aA 0) (vC (.str "0123456789")))) (aA 0) [none])) (gV aE))))
    (bU (vC (.bl false)))
    dQ)))
def zf9:aH:=
   (eR (cB cX (b5 (d7 (cB cX (aA 1)) (bB 0) fL (aD aV (aA 0) (vC (.int 0))) [none]))) (bB 3) zf8)
def zga:aH:=
   (bU (vC (.bl true)))
def zgb:aH:=(aM zf7 (aM zf9 zga))
theorem zgc:∀ws M R,xG ws M R->ws.length=1:=by rintro ws M R ⟨_,rfl,_⟩;rfl
theorem zgd:∀ws M R,CC ws M R->ws.length=2:=by rintro ws M R ⟨_,_,rfl,_⟩;rfl
theorem zge:∀ws M R,tO P w C ws M R->ws.length=1:=by rintro ws M R ⟨_,_,rfl,_⟩;rfl
theorem zgf:∀ws M R,rJ P w C ws M R->ws.length=4:=by rintro ws M R ⟨_,_,_,_,_,_,rfl,_⟩;rfl
theorem zgg:∀ws M R,tP P w C ws M R->ws.length=1:=by rintro ws M R ⟨_,_,_,_,rfl,_⟩;rfl
theorem zgh(h:xG ws M R):zfJ (bI R) (bT zfD ws) M:=by
 obtain⟨rs,rfl,g,r⟩:=h;refine⟨_,rfl,_,rfl,d9 (λd=>?_) λ_=>⟨_,rfl,rs,rfl,g.few,aY.frz ⟨_,rfl,gZ ?_⟩⟩⟩
 .have h:=of_decide_eq_true d;rw[Ab]at h;exact g.ne (Hd.mp (Int.ofNat.inj h))
 refine eL (λi b a=>∃o,b=[some (.rl (rs.map bE)),some (.rl ((namesOf rs).map W.str)),o]/\a=M) ⟨_,rfl,rfl⟩ (λ_ _ _ _ _=>trivial) ?_ ?_
 .rintro i w b a hw ⟨o,rfl,rfl⟩;obtain⟨t,ht,rfl⟩:=Am.mp (Au hw);obtain⟨c,f⟩:=g.ok t ht;exact⟨_,rfl,_,rfl,t,_,rfl,c,f,_,Sub.refl _,_,rfl,rfl⟩
 .rintro b a ⟨o,rfl,rfl⟩;exact⟨_,rfl,λq e=>⟨_,Sub.refl _,r q e⟩⟩
theorem CH:Cb ("backs" : Str) [(("backs" : Str),W.ref d)]=some (.ref d):=by rw[Ea,beq_self_eq_true]
theorem O6:Hc ("M" : Str) 1 = "M":=by decide +kernel
theorem zgi(h:CC ws M R):zfR (bI R) (bT zfK ws) M:=by
 obtain⟨old,n,rfl,hl,r⟩:=h;refine⟨_,rfl,old,rfl,by lia,Bw _,λp j=>?_⟩;refine⟨λm g d=>∃t o,m=n+old.length-t/\t<=n+old.length/\(iJ old t).length<=n/\g=[some (.rl (old.map W.str)),some (.int n),some (.dk ((old.foldl dE []).map cL)),some (.ref p),some (.int (t:Nat)),o]/\d=put M p (.lst ((iJ old t).map W.str)),⟨_,0,none,rfl,Bw _,Bw _,rfl,rfl⟩,?_⟩;rintro m g d ⟨t,o,rfl,ht,b,rfl,rfl⟩;have tl:=OG old t (Gj ht (Gj hl (by decide)));refine⟨_,rfl,.inl ⟨_,aR,_,rfl,_,rfl,d9 (λhc=>?_) λhc=>?_⟩⟩
 .have hc:(iJ old t).length<n:=by have:=of_decide_eq_true hc;rw[Ab]at this;lia
  have i:(t:Int)/10000=0:=Int.ediv_eq_zero_of_lt (by lia) (by lia);have f:(t:Int) % 10000=t:=Int.emod_eq_of_lt (by lia) (by lia);have en:(Hc ("M" : Str) (1+(t:Int)/10000)++"_"++Bx (toString ((t:Int) % 10000)))=eO t:=by
   rw[i,f,show((1:Int)+0)=1 from rfl,O6];rfl
  have k:("M" : Str).length=1:=by decide +kernel
  have q:("_" : Str).length=1:=by decide +kernel
  have l:(Bx (toString ((t:Int) % 10000))).length<=10:=by rw[f];exact PySem.W.KT.len_num (by lia) (by lia)
  have s:(Hc ("M" : Str) (1+(t:Int)/10000)).length=1:=by rw[i,show((1:Int)+0)=1 from rfl,O6];exact k
  refine⟨_,rfl,⟨by decide,by decide⟩,("M" : Str),1+(t:Int)/10000,rfl,rfl,by lia,by lia,by lia,_,_,rfl,rfl,cJ (by lia),_,rfl,(by decide:(0:Int)<10000),LY (Ey _ (by decide)) (Dz _ (by decide)),_,_,rfl,rfl,cJ (by rw[Kj];lia),?_⟩;rw[en];have c:decide (eO t∈old.foldl dE [])=decide (eO t∈old):=by
   rw[Dv,decide_eq_true_eq,decide_eq_true_eq,vI];simp
  have ts:=OF old t;refine⟨_,rfl,_,rfl,_,rfl,_,⟨Sum.inr (eO t),rfl,rfl⟩,_,rfl,?_⟩;show if (!(aX ((old.foldl dE []).map cL) (Sum.inr (eO t):aF)).isSome)=true then _ else _;rw[tN,c];refine d9 (λa=>?_) λa=>?_
  .have a:eO t∉old:=λz=>by rw[decide_eq_true z]at a;cases a
   rw[if_neg a]at ts;refine⟨_,rfl,.inl ⟨rfl,_,aR⟩,_,rfl,_,aR,eS (by rw[Ab];lia),_,_,?_,Sub.refl _,t+1,_,rfl,by lia,by rw[ts,Ak,Bp];lia,rfl,?_⟩
   .lia
   .rw[eW,ts,Bb];rfl
  .have a:eO t∈old:=of_decide_eq_true (by rw[<-Ie (decide _),a];rfl);rw[if_pos a]at ts;exact⟨_,_,by lia,Sub.refl _,t+1,_,rfl,by lia,by rw[ts];exact b,rfl,by rw[ts]⟩
 .have hc:¬(iJ old t).length<n:=λz=>by have:=of_decide_eq_false hc;rw[Ab]at this;lia
  have e:=zeL (old:=old) (n:=n) (t:=t) (by lia) ht;rw[e];exact⟨_,rfl,_,Sub.refl _,r p j⟩
theorem zgj(h:tO P w C ws M R):zfT P w C (bI R) (bT zfS ws) M:=by
 obtain⟨a,dx,rfl,c,r⟩:=h;refine λd hd=>?_;have b:a≠d:=λe=>by subst e;rw[c]at hd;cases hd
 exact⟨_,rfl,a,dx,[],rfl,by rw[aQ b];exact c,by decide,_,Sub.refl _,r d hd⟩
theorem zgk(h:rJ P w C ws M R):zfV P w C (bI R) (bT zfU ws) M:=by
 obtain⟨a,d,dx,l,x,v,rfl,i,hl,r⟩:=h;refine⟨_,rfl,a,dx,_,.ref d,rfl,i.ob,CH,⟨d,_,rfl,i.di⟩,_,rfl,_,rfl,cJ (n:=3) (by decide),_,rfl,d,_,l0 x,rfl,i.di,?_,by unfold kvsOf;rw[Ab];exact eS (by lia),?_,?_⟩
 .unfold fW l0;simp[wK,Jp]
 .intro f e;rcases OL l x with⟨b,_⟩|⟨_,c⟩
  .rw[b]at e;cases e
  .unfold dN at r;rw[if_pos c,yY i.di]at r;exact⟨_,Sub.refl _,r⟩
 .intro e;rcases OL l x with⟨_,c⟩|⟨⟨f,b⟩,_⟩
  .unfold dN at r;rw[if_neg c]at r;unfold kvsOf at r;rw[Bb]at r;exact⟨_,Sub.refl _,r⟩
  .rw[b]at e;cases e
theorem zgl(h:tP P w C ws M R):zfX P w C (bI R) (bT zfW ws) M:=by
 obtain⟨a,d,dx,l,rfl,i,r⟩:=h;refine⟨_,rfl,a,dx,_,.ref d,rfl,i.ob,CH,.inl ⟨_,i.di,λp k=>?_⟩⟩;have j:∀{c:Addr} {o:MO},M c=some o->c≠p:=λhc e=>by rw[e,k]at hc;cases hc
 refine⟨_,rfl,a,dx,_,.ref d,rfl,by rw[aQ (j i.ob)];exact i.ob,CH,d,_,rfl,by rw[aQ (j i.di)];exact i.di,λv g=>?_⟩;have s:v≠p:=λe=>by rw[e,aR]at g;cases g
 rw[aQ s]at g;have t:∀{c:Addr} {o:MO},M c=some o->c≠v:=λhc e=>by rw[e,g]at hc;cases hc
 refine .inr ⟨d,_,aR,by rw[aQ (t i.di),aQ (j i.di)];exact i.di,λq b=>?_⟩;have qv:q≠v:=λe=>by rw[e,aR]at b;cases b
 rw[aQ qv]at b;have m:q≠p:=λe=>by rw[e,aR]at b;cases b
 have f:=b;rw[aQ m]at f;exact⟨cJ (n:=2) (by decide),_,Sub.put (Sub.new (by rw[aQ s];exact g)),r p q k f (Bz m)⟩
def Bt(P:Ax)(w:Bl)(C:Addr)(M:Mm)(a d dx:Addr)(l:List (NP×W)):Mm:=put (put M a (.ins C dx [("backs",.ref d)])) d (.dn P w [0] (kvsOf l))
theorem Bt.pl(h:a≠d):kT P w C (Bt P w C M a d dx l) a d dx l:=⟨by unfold Bt;rw[aQ h,aR],aR⟩
theorem Bt.sub(b:M a=none)(hd:M d=none)(h:a≠d):Sub M (Bt P w C M a d dx l):=(Sub.new b).trans (Sub.new (by rw[aQ (Bz h)];exact hd))
theorem Bt.put:L3.put (Bt P w C M a d dx l) d (.dn P w [0] (kvsOf b))=Bt P w C M a d dx b:=eW
theorem Bt.first(h:a≠d):L3.put (L3.put (L3.put M a o) d (.dn P w [0] [])) a (.ins C dx [("backs",.ref d)])=Bt P w C M a d dx []:=by
 unfold Bt kvsOf;rw[uQ (Bz h),eW];rfl
theorem tR:Cb ("put_rule" : Str) [(("backs" : Str),W.ref d)]=none:=by
 rw[Ea,show(("put_rule" : Str)==("backs" : Str))=false by decide +kernel];rfl
theorem CI:Cb ("grammar_and_backs" : Str) [(("backs" : Str),W.ref d)]=none:=by
 rw[Ea,show(("grammar_and_backs" : Str)==("backs" : Str))=false by decide +kernel];rfl
theorem zgm:∀ws M R,CD ws M R->ws.length=1:=by rintro ws M R ⟨_,rfl,_⟩;rfl
theorem zgn:∀ws M R,CF ws M R->ws.length=1:=by rintro ws M R ⟨_,_,rfl,_⟩;rfl
theorem zgo:∀ws M R,CG ws M R->ws.length=2:=by rintro ws M R ⟨_,_,_,rfl,_⟩;rfl
theorem zgp(h:CD ws M R):zfZ (bI R) (bT zfY ws) M:=by
 obtain⟨z,rfl,sh,r⟩:=h;obtain⟨c,l,e⟩:=sh.cons;have hl:=sh.len;have a:cA z.cps.toList 0=some c:=by
  show cA (cs z) 0=some c;rw[e,zZ]
 refine⟨_,rfl,cJ (by lia),c,a,?_⟩;unfold rB at r;rw[e]at r;refine⟨_,Sub.refl _,?_⟩;show R (.bl (occ ⟨#[c]⟩ _)) M;rw[BK];exact r
theorem CJ(h:L3.kJ [x,.ty T] M R):aB (vC (.ty T)) aE b M λxs a=>L3.kJ (x::xs) a R:=h
theorem CK{rs:List aI}{o:Option W}{keep:Mm->Prop}{M:Mm}{R:K3}(hl:rs.length<=400)(hk:∀a,L3.Sub M a->keep a)(r:R (.rl ((rs.map aI.name).map W.str)) M):kI (rs.map bE) keep (bB 0) fL (aD aV (aA 0) (vC (.int 0))) [o] M λw a=>frz w a R:=by
 refine oO (rest:=[]) (λw=>match w with|.tup (n::_)=>n|_=>.non) (cJ (by rw[Ab];lia)) hk (λw hw a C sb b=>?_) (aY.frz ?_)
 .obtain⟨t,_,rfl⟩:=Am.mp hw;exact⟨_,rfl,_,rfl,b⟩
 .rw[show((rs.map bE).map λw=>match w with|.tup (n::_)=>n|_=>W.non)=(rs.map aI.name).map W.str by rw[Bo,Bo];rfl];exact r
theorem zgq{ws:List W}{M:Mm}{R:K3}(h:CF ws M R):zf5 (bI R) (bT zf0 ws) M:=by
 obtain⟨p,ts,rfl,d,hl,hok,r⟩:=h;refine⟨_,rfl,_,d,CK hl (λc sb=>sb _ _ d) ⟨_,rfl,_,d,?_⟩⟩;refine eL (λi a c=>∃f b,a=[some (.ref p),some (.rl ((ts.map aI.name).map W.str)),f,b]/\c=M) ⟨_,_,rfl,rfl⟩ (λi a c _ ⟨_,_,_,e⟩=>by rw[e];exact d) ?_ ?_
 .rintro i w a c hw ⟨f,b,rfl,rfl⟩;obtain⟨t,ht,rfl⟩:=Am.mp (Au hw);obtain⟨hc,m⟩:=hok t ht;refine⟨_,rfl,CJ ⟨"tuple",true,rfl,by decide,_,rfl,_,rfl,d9 (λh=>nomatch (show false=true from h)) λ_=>⟨_,rfl,_,rfl,CJ ⟨"tuple",true,rfl,by decide,_,rfl,_,rfl,CJ ⟨"int",false,rfl,by decide,_,rfl,_,rfl,_,rfl,d9 (λh=>?_) λ_=>⟨_,rfl,_,rfl,?_⟩⟩⟩⟩⟩⟩
  .rw[hc]at h;cases h
  refine eL (ws:=t.parts.map W.str) (λj a l=>∃b,a=[some (.ref p),some (.rl ((ts.map aI.name).map W.str)),some (bE t),b]/\l=c) ⟨_,rfl,rfl⟩ (λ_ _ _ _ _=>trivial) ?_ ?_
  .rintro j w a l hw ⟨b,rfl,rfl⟩;obtain⟨q,k,rfl⟩:=Am.mp (Au hw);obtain⟨sh,n⟩:=m q k;refine⟨_,rfl,q,rfl,sh,d9 (λo=>⟨_,rfl,_,rfl,rfl,m8 _,_,rfl,d9 (λh=>?_) λ_=>⟨_,Sub.refl _,_,rfl,rfl⟩⟩) λ_=>⟨_,Sub.refl _,_,rfl,rfl⟩⟩;obtain⟨t',g,e⟩:=n o;rw[show(!inW (.str q) ((ts.map aI.name).map W.str))=false by rw[oX,decide_eq_true (Am.mpr ⟨t',g,e⟩)];rfl]at h;cases h
  .rintro a l ⟨b,rfl,rfl⟩;exact⟨_,Sub.refl _,_,_,rfl,rfl⟩
 .rintro a c ⟨f,b,rfl,rfl⟩;exact⟨_,Sub.refl _,r⟩
theorem zgr{ws:List W}{M:Mm}{R:K3}(h:CG ws M R):zgb (bI R) (bT zf6 ws) M:=by
 obtain⟨rs,p,ts,rfl,y,hl,v,hok,r⟩:=h;refine⟨_,rfl,gZ (CK hl (λ_ _=>trivial) ⟨_,rfl,_,y,CK v (λg sb=>sb _ _ y) (gZ ?_)⟩)⟩;refine eL (λi x g=>∃j k n o,x=[some (.rl (rs.map bE)),some (.ref p),some (.rl ((rs.map aI.name).map W.str)),j,k,n,o]/\g=M) ⟨_,_,_,_,rfl,rfl⟩ (λ_ _ _ _ _=>trivial) ?_ ?_
 .rintro i w x g hw ⟨j,k,n,o,rfl,rfl⟩;obtain⟨z,hz,rfl⟩:=Am.mp (Au hw);obtain⟨t,ht,rfl⟩:=Am.mp hz;obtain⟨B,f⟩:=hok t ht;have E:(!inW (.str t.name) ((rs.map aI.name).map W.str)) = !decide (t.name∈rs.map aI.name):=by rw[oX]
  have fin:∀{a b c d:Option W},∃l,L3.Sub l g/\∃j k n o,[some (.rl (rs.map bE)),some (.ref p),some (.rl ((rs.map aI.name).map W.str)),a,b,c,d]=[some (.rl (rs.map bE)),some (.ref p),some (.rl ((rs.map aI.name).map W.str)),j,k,n,o]/\l=g:=⟨_,Sub.refl _,_,_,_,_,rfl,rfl⟩;refine⟨_,rfl,rfl,by decide +kernel,cJ (by lia),rfl,rfl,?_⟩;refine⟨_,rfl,_,rfl,rfl,m8 _,_,rfl,d9 (λs=>?_) λs=>⟨_,rfl,_,rfl,rfl,m8 _,_,rfl,d9 (λh=>absurd (s.symm.trans h) Ao) λ_=>fin⟩⟩;have u:t.name∉rs.map aI.name:=λz=>by rw[show _=_ from E,decide_eq_true z]at s;cases s
  obtain⟨i,hi,e⟩:∃i,i<180/\t.name=eO i:=by
   rcases f with⟨q,F,e⟩|h
   .exact absurd (Am.mpr ⟨q,F,e⟩) u
   .exact h
  rw[e,zeS];have J:=OM hi;have H:("M" : Str).length=1:=by decide +kernel
  refine⟨_,rfl,_,rfl,d9 (λh=>absurd (of_decide_eq_true (show decide (("_" : Str) = "")=true from h)) (show ¬(("_" : Str) = "") by decide +kernel)) λ_=>?_⟩;refine⟨_,rfl,cJ (show(eZ i).length<=_ by lia),_,rfl,d9 (λ_=>⟨_,rfl,d9 (λh=>?_) λ_=>⟨_,rfl,cJ (show("M" : Str).length<=_ by lia),_,rfl,d9 (λ_=>⟨_,rfl,d9 (λh=>?_) λ_=>?_⟩) λh=>?_⟩⟩) λh=>?_⟩
  .have:¬((eZ i).length:Int)<=4:=λz=>by rw[show(!decide (((eZ i).length:Int)<=4))=false by rw[decide_eq_true z];rfl]at h;cases h
   exact absurd (show((eZ i).length:Int)<=4 by lia) this
  .have:¬((("M" : Str).length:Int)<=8):=λz=>by rw[show(!decide ((("M" : Str).length:Int)<=8))=false by rw[decide_eq_true z];rfl]at h;cases h
   exact absurd (show(("M" : Str).length:Int)<=8 by lia) this
  .refine⟨_,rfl,_,rfl,rfl,m8 _,_,rfl,d9 (λ_=>⟨_,rfl,?_⟩) λ_=>fin⟩;refine LF (ws:=(eZ i).cps.toList.map λc=>W.str ⟨#[c]⟩) (rest:=[]) (λ_=>none) (cJ ?_) (λ_ _=>trivial) (λw hw G C D sb I A=>?_) (aY.frz ?_)
   .rw[Ab];have:=lC (eZ i);unfold cs at this;lia
   .obtain⟨c,hc,rfl⟩:=Am.mp hw;refine⟨_,rfl,_,rfl,d9 (λh=>?_) λ_=>A rfl⟩;rw[show(!occ ⟨#[c]⟩ mI)=false by rw[BK,decide_eq_true ((rZ (m:=i)).1 c hc)];rfl]at h;cases h
   .rw[show((eZ i).cps.toList.map λc=>W.str ⟨#[c]⟩).filterMap (λ_=>(none:Option W))=[] by simp];exact⟨Bw _,sM (neg:=true) 1 (by decide) (λw hw=>nomatch hw) rfl ⟨_,rfl,fin⟩⟩
  .exact absurd (of_decide_eq_false h) (λz=>z (show(1:Int)<=(("M" : Str).length:Int) by lia))
  .exact absurd (of_decide_eq_false h) (λz=>z (show(1:Int)<=((eZ i).length:Int) by lia))
 .rintro x g ⟨j,k,n,o,rfl,rfl⟩;exact⟨_,Sub.refl _,r⟩
theorem rK{ps:List Str}{M:Mm}(h:∀t∈ps,Sh t):Pl 2 (cT M (.tup (ps.map W.str))):=λw hw=>by
 obtain⟨t,ht,rfl⟩:=Am.mp hw;exact AA (h t ht).asc
theorem zgs(h:nR q.name/\∀t∈q.parts,Sh t):Pl 3 (bE q):=λw hw=>by
 simp only[Ba,List.not_mem_nil,or_false]at hw;rcases hw with rfl|rfl|rfl
 .exact AA h.1
 .exact λw hw=>by
   obtain⟨t,ht,rfl⟩:=Am.mp hw;exact AA (h.2 t ht).asc
 .trivial
theorem tS(h:tQ l):Pl 4 (cT M (.rl (l.map bE))):=λw hw=>by
 obtain⟨q,a,rfl⟩:=Am.mp hw;exact zgs (h q a)
theorem zgt:(W.rl l=W.rl [])↔l=[]:=by constructor;intro h;injection h;intro h;rw[h]
theorem zgu(g:nT rs):tQ rs:=λq a=>by
 refine⟨(g.asc a).1,λt ht=>?_⟩;obtain⟨c,ws,_,hh,hw,b,_⟩:=g.ex;rcases(b q a).parts t ht with h|h
 .exact(hw t h).sh
 .exact(hh t h).sh
end Rg
namespace L3
open PySem PySem.Spec PyProof.Rows L2
section
variable {X:Cx}
def CL:W->List W->Mm->K3->Prop:=λx vs M R=>∃l ws,x=.ref l/\vs=[]/\M l=some (.lst ws)/\R .non (put M l (.lst []))
theorem O7:f9 X "list.clear" (kB X.K CL):=by
 rintro a s h H x xs v us Q I d rs ⟨j,ws,M,R,c,g,b,⟨l,i,rfl,rfl,e,r⟩,k⟩;obtain⟨vs,f,q⟩:=c.lst e;exact WQ a s h H _ _ v us Q I d rs ⟨l,vs,g.inv,b.nil_,f,uS c k e .nil .non r⟩
end
section
variable {X:Cx}{pos:Pos}{a b:Expr}{ta tb te:aZ}
theorem cQ{i:Nat}(a:X.N.Nodup)(hi:X.N[i]? = some x:=by rfl)(b:Loc X.env.scope x:=by first|exact Or.inl rfl|exact Or.inr rfl)(hf:X.fn x=true\/X.env.scope.names.lookup x=some .local:=by first|exact .inl rfl|exact .inr rfl|assumption):PG X (.Name x pos) (gS X.K (bB i)):=KW a hi b hf
theorem eI{i:Nat}(hi:X.N[i]? = some x:=by rfl)(b:Loc X.env.scope x:=by first|exact Or.inl rfl|exact Or.inr rfl)(a:X.N.Nodup:=by exact of_decide_eq_true (by kernel_rfl))(hf:X.fn x=true\/X.env.scope.names.lookup x=some .local:=by first|exact .inl rfl|exact .inr rfl|assumption):PG X (.Name x pos) (gS X.K (bB i)):=KW a hi b hf
theorem bA{i:Nat}{x:Str}{e:Expr}{a:Pos}(f:X.N.Nodup)(d:E3 X e te)(hi:X.N[i]? = some x:=by rfl)(c:Loc X.env.scope x:=by first|exact Or.inl rfl|exact Or.inr rfl)(b:Hq e (some (.Name x a)) pos.line X.env=pure false:=by rfl)(hf:X.fn x=true\/X.env.scope.names.lookup x=some .local:=by first|exact .inl rfl|exact .inr rfl|assumption):
  P3 X (.Assign [.Name x a] e pos) (a5 i te):=ZT f hi c d b hf
theorem jO(c:bC X (Co op) (cM X.K r))(d:E3 X a ta)(f:E3 X b tb)(e:Hr op b=false:=by first|exact HL _|with_unfolding_all rfl):E3 X (.Compare a [op] [b] pos) (aD r ta tb):=YX c d f e
theorem bW(c:bC X (Co op) (cM X.K r))(d:E3 X a ta)(f:E3 X b tb)(e:Hr op b=false:=by first|exact HL _|with_unfolding_all rfl):T3 X (.Compare a [op] [b] pos) (bP (aD r ta tb)):=YY c d f e
variable {tg iter elt:Expr}{ifs:List Expr}{sc:Jg}{wi:jI}{g:fJ}{tt:d6}
theorem zgv{i:Nat}{x:Str}{e a:Pos}(k:X.N.Nodup)(b:List Str)(js:List (Option Nat))(hi:PI X tg iter (gT X.K wi))(l:∀B,PG (dA X sc b B) tg (gS X.K g))(ht:∀B,iO (dA X sc b B) ifs (jU X.K tt))(j:∀B,PE (dA X sc b B) elt (up X.K te))(d:X.N[i]? = some x:=by rfl)(h:Loc X.env.scope x:=by first|exact Or.inl rfl|exact Or.inr rfl)(m:mH b sc X.env.scope=true:=by kernel_rfl)(n:fF b X.N sc js b=true:=by kernel_rfl)(hc:X.calm=true:=by rfl)(c:Hq (.ListComp elt [⟨tg,iter,ifs,0⟩] sc pos) (some (.Name x e)) a.line X.env=pure true:=by rfl)(hf:X.fn x=true\/X.env.scope.names.lookup x=some .local:=by first|exact .inl rfl|exact .inr rfl|assumption)(f:∀x,Fi iter X.env x=pure x:=by intro _;rfl):P3 X (.Assign [.Name x e] (.ListComp elt [⟨tg,iter,ifs,0⟩] sc pos) a) (a5 i (d7 wi g tt te js)):=Z5 k d h b js hi l ht j m n hc c hf f
theorem rL{i:Nat}{x:Str}{e a:Pos}(k:X.N.Nodup)(b:List Str)(js:List (Option Nat))(hi:PI X tg iter (gT X.K wi))(l:∀B,PG (dA X sc b B) tg (gS X.K g))(ht:∀B,iO (dA X sc b B) ifs (jU X.K tt))(j:∀B,PE (dA X sc b B) elt (up X.K te))(d:X.N[i]? = some x:=by rfl)(h:Loc X.env.scope x:=by first|exact Or.inl rfl|exact Or.inr rfl)(m:mH b sc X.env.scope=true:=by kernel_rfl)(n:fF b X.N sc js b=true:=by kernel_rfl)(hc:X.calm=true:=by rfl)(c:Hq (.ListComp elt [⟨tg,iter,ifs,0⟩] sc pos) (some (.Name x e)) a.line X.env=pure true:=by rfl)(hf:X.fn x=true\/X.env.scope.names.lookup x=some .local:=by first|exact .inl rfl|exact .inr rfl|assumption)(f:∀x,Fi iter X.env x=pure x:=by intro _;rfl):P3 X (.Assign [.Name x e] (.ListComp elt [⟨tg,iter,ifs,0⟩] sc pos) a) (a5 i (b5 (d7 wi g tt te js))):=zad k d h b js hi l ht j m n hc c hf f
end
theorem bX(a:sc.kind=.function:=by rfl)(b:sc.isCoroutine=false:=by rfl)(c:sc.isGenerator=false:=by rfl)(d:N.Nodup:=by decide +kernel)(e:N.take ps.length=ps:=by rfl)(f:∀x∈ps,sc.names.lookup x=some .local\/sc.names.lookup x=some .cell:=by decide +kernel)(g:∀y∈sc.names,y.2≠.free:=by decide +kernel):pR N ps sc:=⟨a,b,c,d,e,f,g⟩
theorem O8{C:List Ae->Prop}(h:C [])(us:List Ae)(e:us.length=0):C us:=by rw[Hd.mp e];exact h
theorem tT{C:List Ae->Prop}{n:Nat}(k:∀a us,us.length=n->C (a::us)):∀us:List Ae,us.length=n+1->C us
 | a::l,e=>k a l (Nat.succ.inj e)
theorem xH{C:List Ae->Prop}(h:∀a,C [a]):∀us:List Ae,us.length=1->C us:=tT λa=>O8 (h a)
theorem xI{C:List Ae->Prop}(h:∀a b,C [a,b]):∀us:List Ae,us.length=2->C us:=tT λa=>xH (h a)
theorem xJ{C:List Ae->Prop}(h:∀a b c,C [a,b,c]):∀us:List Ae,us.length=3->C us:=tT λa=>xI (h a)
theorem xK{C:List Ae->Prop}(h:∀a b c d,C [a,b,c,d]):∀us:List Ae,us.length=4->C us:=tT λa=>xJ (h a)
theorem CM{C:List Ae->Prop}(h:∀a b c d e,C [a,b,c,d,e]):∀us:List Ae,us.length=5->C us:=tT λa=>xK (h a)
def CN(x q:Str)(st:Stmt)(ps:List Str):Prop:=∀(kV doc pm:Ae) (an:Option Addr) (cdv ct:Ae) (us:List Ae),us.length=ps.length->bindArgs (Ek x q (jP st) (iL st) (fD st) .none kV doc pm an cdv ct) ⟨us,[]⟩=pure (ps.zip us)
section
variable {K:Ac}{mg:Str->Option Ae}{h:Heap}{x q:Str}{st:Stmt}{C f:Addr}{ps:List Str}{an:Option Addr}{kV doc pm cdv ct:Ae}
theorem dF(X:K.In h)(G:h.Ns Ee mg)(a:CN x x st ps:=by first|exact λ_ _ _ _ _ _=>xH λ_=>rfl|exact λ_ _ _ _ _ _=>xI λ_ _=>rfl|exact λ_ _ _ _ _ _=>xJ λ_ _ _=>rfl|exact λ_ _ _ _ _ _=>xK λ_ _ _ _=>rfl|exact λ_ _ _ _ _ _=>CM λ_ _ _ _ _=>rfl|exact λ_ _ _ _ _ _=>ar6 λ_ _ _ _ _ _=>rfl|exact λ_ _ _ _ _ _=>O8 rfl)(n:PySem.W.nsIn K Ee x=some (some (.ref f)):=by kernel_rfl)(l:K.lookup f=some ⟨.type "function",none,.func (Ek x x (jP st) (iL st) (fD st) .none kV doc pm an cdv ct),#[]⟩:=by kernel_rfl)(c:Ja K cdv x=true:=by kernel_rfl)(k:Fc K (.ref f)=true:=by kernel_rfl):Df K mg x st ps f (Ek x x (jP st) (iL st) (fD st) .none kV doc pm an cdv ct):=⟨pV l c k,Gu X G n,(pV l c k).binds a⟩
theorem dM(b:CN x q st ps:=by first|exact λ_ _ _ _ _ _=>xH λ_=>rfl|exact λ_ _ _ _ _ _=>xI λ_ _=>rfl|exact λ_ _ _ _ _ _=>xJ λ_ _ _=>rfl|exact λ_ _ _ _ _ _=>xK λ_ _ _ _=>rfl|exact λ_ _ _ _ _ _=>CM λ_ _ _ _ _=>rfl)(a:Cg K (.ref C) x=some (some (.ref f)):=by kernel_rfl)(n:Lg K (.ref f)=true:=by kernel_rfl)(l:K.lookup f=some ⟨.type "function",none,.func (Ek x q (jP st) (iL st) (fD st) .none kV doc pm an cdv ct),#[]⟩:=by kernel_rfl)(c:Ja K cdv q=true:=by kernel_rfl)(k:Fc K (.ref f)=true:=by kernel_rfl):Dm K C x q st ps f (Ek x q (jP st) (iL st) (fD st) .none kV doc pm an cdv ct):=⟨pV l c k,⟨a,n,k⟩,(pV l c k).binds b⟩
theorem dI(b:CN x q st ps:=by first|exact λ_ _ _ _ _ _=>xH λ_=>rfl|exact λ_ _ _ _ _ _=>xI λ_ _=>rfl|exact λ_ _ _ _ _ _=>xJ λ_ _ _=>rfl|exact λ_ _ _ _ _ _=>xK λ_ _ _ _=>rfl|exact λ_ _ _ _ _ _=>CM λ_ _ _ _ _=>rfl)(m:PySem.W.makesIn K C=true:=by kernel_rfl)(a:Cg K (.ref C) "__init__" = some (some (.ref f)):=by kernel_rfl)(n:Lg K (.ref f)=true:=by kernel_rfl)(d:Fc K (.ref C)=true:=by kernel_rfl)(l:K.lookup f=some ⟨.type "function",none,.func (Ek x q (jP st) (iL st) (fD st) .none kV doc pm an cdv ct),#[]⟩:=by kernel_rfl)(c:Ja K cdv q=true:=by kernel_rfl)(k:Fc K (.ref f)=true:=by kernel_rfl):Di K C x q st ps f (Ek x q (jP st) (iL st) (fD st) .none kV doc pm an cdv ct):=⟨pV l c k,⟨m,a,n,d⟩,(pV l c k).binds b⟩
variable {P:Ax}{w:Bl}{base:Heap}{fd:Bi}{N:List Str}{k:Nat}{sp:bF}{rd:aH}
theorem bY(P:Ax)(w:Bl)(mg:Str->Option Ae)(base:Heap)(k:Nat)(F:lA K x q st f fd)(_:Binds K fd ps [])(S:pR N ps (fD st))(len:∀ws M R,sp ws M R->ws.length=ps.length)(a:∀{ws M R},sp ws M R->rd (bI R) (bT N ws) M)(c:∀{cdv:Ae} {A:Cs} {outer:List Env} {s:Ah} {H:Hp} {E:XK},c8 k (A.deeper (Lz q (fD st) s.heap.objs.size f cdv))->(A.deeper (Lz q (fD st) s.heap.objs.size f cdv)).units+1<Eu->N.Nodup->lO (nG gP P w K mg base N q (fD st) f cdv A outer s H E).nox (iL st) rd):fE P w K mg base gP (k+1) f fd ps (iA K sp):=
 Z6 F S len λ_ _ _ _ _ _ _ _ _ b h=>⟨rd,c b (XJ b) S.nd,a h⟩
end
section
variable {X:Cx}{pos p:Pos}{x:Str}{st:Stmt}{e:Expr}{es:List Expr}{t:eJ}{k j:Nat}{f:Addr}{fd:Bi}{ps:List Str}{sp:bF}
theorem bK(F:fE X.prog X.w X.K X.mg X.base gP k f fd ps (iA X.K sp))(D:Df X.K X.mg x st ps f fd)(d:c8 j X.A)(c:A3 X (e::es) t)(g:k<=j:=by decide)(h:Gl X x:=by rfl)(b:(x==("__debug__" : Str))=false:=by decide)(i:Bk (e::es) X.env=(false,eval e X.env)::Bk es X.env:=by rfl)(a:(Fv pos (Bk es X.env)).any (·.1)=false:=by rfl):
  E3 X (.Call (.Name x p) (e::es) [] pos) (bG sp t):=YZ F (d.mono g) h D.at_ D.fn.kp D.bi c b i a
end
end L3
namespace L2
open PySem PySem.Spec PyProof.Rows
section
variable {X:Cx}
def zgw(tk c:TE):TE:=λd H Q=>∀p,H p=none->yF [(tk,c)] d (aT H p (.dT [])) λps a=>∃(b:Addr) (y:V) (k:List aF),ps=[(.ref b,y)]/\a p=some (.dT [])/\a b=some (.tup (k.map kV))/\Q (.ref p) (aT a p (.dT [(k,y)]))
theorem zgx(hu:X.A.units+1<Eu)(hk:PE X k tk)(hv:PE X v tv):PE X (.Dict [some k] [v] pos) (zgw tk tv):=by
 intro pins s σ H Q I q;have hn:=I.hok.fresh (Ag s.heap.objs.size);have I1:=I.laid (a:=s.heap.objs.size) (o:=.dT []) (h':=s.heap.push {cls:=.type "dict",data:=.dict #[]}) (t':=s.toks) (λ_ _ q=>Ai _ q) (Ag _) (IV s.heap I.big);refine wpAny_Dict_any rfl rfl (λh=>nomatch h) (by decide:1<=15) (a8 (XD hk hv XC pins _ σ _ _ I1 (q _ hn)) λws s2 ⟨ps,H2,I2,rel,b,y,k,ep,e,eb,q2⟩=>?_);subst ep;cases rel with
 | @cons a1 b1 _ _ r1 r2=>
  cases r2;obtain⟨u1,u2⟩:=b1;obtain⟨ru,rv⟩:=r1;cases (show u1=Value.ref b from ru);obtain⟨z,hd,xs,rel,dd⟩:=uJ I2.hok e;cases rel;unfold storeAll;rw[List.forIn_cons];refine Aa (Aa (wpAny_dictSet_heap (hsz:=Bw _) (Jn hu) (jS I2.hok eb) dd λh' dd' hs=>Af ?_));show Bh _ _ (pure PUnit.unit) _ _ _;refine Af ⟨.ref _,_,?_,rfl,q2⟩;obtain⟨q,es,ep,hq,h2,h3,h4,_,h5⟩:=dd';refine pT I2 (by rw[e];exact True.intro) hs ⟨q,hq⟩ ⟨show 1<=An by decide,hd,_,((show KT H2 [] [] from .nil).put k eb rv).keeps λc ys ec=>?_,q,es,ep,hq,h2,h3,h4,h5⟩;rw[bD (tW ec e (λz=>nomatch z))];exact ec
end
end L2
namespace L3
open PySem PySem.Spec PyProof.Rows L2
section
variable {X:Cx}{a b:Expr}{ta tb:aZ}{pos p:Pos}
def O9(ta tb:aZ):aZ:=λb M R=>∀p,M p=none->ta b (put M p (.dT [])) λx c=>tb b c λy a=>a p=some (.dT [])/\∃k:List aF,x=.tup (k.map wK)/\R (.ref p) (put a p (.dT [(k,y)]))
theorem zgy(L:X.A.units+1<Eu)(K:E3 X a ta)(I:E3 X b tb):E3 X (.Dict [some a] [b] pos) (O9 ta tb):=
 (zgx L K I).weak λW H Q z0=>z0.el λB M R z j h k=>λp w=>by
  obtain⟨i,m⟩:=j.laid (o:=.dT []) (u:=.dT []) w ⟨[],cU,.nil⟩;refine⟨B,_,_,z.kp j m,i,h p (j.nonM w),λx U T G v g E C=>⟨B,G,_,(z.kp j m).kp i v,g,C,λy S F V t d D ⟨e,l,ex,r⟩=>?_⟩⟩;subst ex;obtain⟨ks,f,q⟩:=d _ _ e;cases q;have n:=E.kp g t;exact n.tupE λc xs N O P=>by
   obtain⟨s,J⟩:=d.write (o:=.dT [(l,F)]) (u:=.dT [(l,y)]) e ⟨_,cU,.cons ⟨rfl,D.wr d e⟩ .nil⟩;exact⟨c,y,l,by rw[N],f,by rw[<-P.keys];exact O,k _ _ _ _ (((m.trans v).trans t).trans J) s (.ref _) r⟩
variable {x:Str}{e:Expr}{es:List Expr}{t:eJ}{k j i:Nat}{f:Addr}{fd:Bi}{ps:List Str}{sp:bF}
def CO(i:Nat)(f:Addr)(sp:bF)(t:eJ):aZ:=λa M R=>a[i]? = some (some (.ref f))/\bG sp t a M R
theorem PB(Y:g=f)(F:fE X.prog X.w X.K X.mg X.base gP k f fd ps (iA X.K sp))(hr:c8 j X.A)(hk:Fc X.K (.ref f)=true)(J:Binds X.K fd ps [])(O:A3 X (e::es) t)(L:k<=j:=by decide)(B:X.N[i]? = some x:=by rfl)(E:tY X.env.scope x:=by first|exact Or.inl rfl|exact Or.inr (Or.inl rfl)|exact Or.inr (Or.inr rfl))(hd:(x==("__debug__" : Str))=false:=by decide)(c:(x==("__classdict__" : Str))=false:=by decide)(C:Bk (e::es) X.env=(false,eval e X.env)::Bk es X.env:=by rfl)(b:(Fv pos (Bk es X.env)).any (·.1)=false:=by rfl):
  E3 X (.Call (.Name x p) (e::es) [] pos) (CO i g sp t):=by
 subst Y;intro a s n H Q I ⟨G,M,R,m,Z,⟨o,h⟩,y⟩;have W:=J5 (K:=X.K) ⟨G,M,R,m,Z,h,y⟩;obtain⟨v,z,av⟩:=m.get o;refine Fs (a8 (HG (pos:=p) B E hd c a s n H (λw S=>w=.ref g/\S=H) I ⟨v,z,av.inv,rfl⟩) λu T ⟨w,U,d,P,V,D⟩=>?_);subst V D;cases P;exact Ki (h₀:=X.base) d.ok.mod.kin hk (a8 (O pos a T n U _ d W) λus s2 ⟨vs,H2,l,r,q⟩=>⟨l.kIn,uD F (hr.mono L) J .nil pU l r q⟩) C b
theorem PC{g f:Addr}{fd:Bi}{ps:List Str}{x:Str}{pos:Pos}{st:Stmt}(a:g=f)(D:Df X.K X.mg x st ps f fd)(b:Gl X x:=by rfl)(hd:(x==("__debug__" : Str))=false:=by decide):E3 X (.Name x pos) (vC (.ref g)):=by
 subst a;exact oH (y:=.ref g) b D.at_ rfl (λ_ _=>.ref _) hd
end
end L3
namespace PySem
namespace Et
open PyProof.Rows L2 PySem.Spec
section
variable {prog:Ax}{w:Bl}{A:Cs}{E:Ae->Ah->Prop}{s:Ah}
theorem draws(hh:A.handled=none)(d l:Addr)(f:l≠d)(items:Array Ae):Draws prog w A d [d,l] items.size (λi v=>items[i]? = some v) (λi h=>h.IsTupleIter d l i/\h.IsTuple l items) where
 live:=λ_ _ st=>let ⟨o,ho,_⟩:=st.1;⟨o,ho⟩
 frame:=λk h h' st hk=>(Zt.side_tuple (prog:=prog) (w:=w) d l f items).keep k h h' st λc hc o e=>hk c (by rcases hc with rfl|rfl<;>simp) o e
 item:=λi s Q E hi st g=>(Zt.side_tuple d l f items).item A E s i items[i] Q st (by simp[hi]) λh' a b=>g _ h' s.toks (by simp[hi]) a b
 done:=λs Q E st j=>(Zt.side_tuple d l f items).stop A E s _ Q hh st (by simp) j
theorem zgz(l:Addr)(items:Array Ae)(n:Nat)(a:Option Addr)(sl:Array (Option Ae)):
  Meets (Ly.«enumerate.__new__» ⟨[.type "enumerate",.ref l],[]⟩) (λ_ R s=>s.heap.get? l=some {cls:=.type "tuple",dict:=a,data:=.seq items n,slots:=sl}/\
   R (.ok (.ret (.ref (s.heap.push {cls:=.type "tuple_iterator",data:=.fields #[.ref l,.int 0 0]}).objs.size)))
    {s with heap:=(s.heap.push {cls:=.type "tuple_iterator",data:=.fields #[.ref l,.int 0 0]}).push {cls:=.type "enumerate",data:=.fields #[.none,.bool false,.ref s.heap.objs.size,Jm 0,.none,.none]}}):=
 .of_wp λprog w A R s h=>by
  obtain⟨f,g,d,tk,os⟩:=s;obtain⟨hl,h⟩:=h;have e:=sub_enumerate;have b:Heap.IsTuple (Shared.heap ⟨f,g,d,tk,os⟩) l items:=⟨_,hl,rfl,n,rfl⟩
  wp_walk using Ig hl
  refine wpAny_stack_any λst=>Af ?_;split
  .rename_i c _ _ _ _ _;cases (c==Value.type "enumerate")
   .wp_walk using Ig hl,Lf b
    exact⟨_,rfl,h⟩
   .wp_walk using Ig hl,Lf b
    exact⟨_,rfl,h⟩
  .wp_walk using Ig hl,Lf b
   exact⟨_,rfl,h⟩
theorem call_new{Q:Ae->Ah->Prop}(e:s.heap.IsTuple l items)(h:∀h',IsEnum h' (s.heap.objs.size+1) s.heap.objs.size 0 .none->h'.IsTupleIter s.heap.objs.size l 0->(∀b o,s.heap.get? b=some o->h'.get? b=some o)->Q (.ref (s.heap.objs.size+1)) {s with heap:=h'}):
  Bh (Bu prog w) A (call (.type "enumerate") [.ref l]) Q E s:=by
 obtain⟨⟨c,a,dt,sl⟩,hl,hc,n,hd⟩:=e;cases (show c=.type "tuple" from hc);cases (show dt=.seq items n from hd);refine callType_new F.called_enumerate (by decide) (F.typeCall_enumerate_1 _) (F.newCall_enumerate_1 _) (λobj=>F.args_object_init_2 obj _) F.entry_enumerate_new (zgz l items n a sl) ⟨hl,?_⟩;have hz:(s.heap.push {cls:=.type "tuple_iterator",data:=.fields #[.ref l,.int 0 0]}).objs.size=s.heap.objs.size+1:=Fq ..;show _/\_;rw[hz];have d:IsEnum ((s.heap.push {cls:=.type "tuple_iterator",data:=.fields #[.ref l,.int 0 0]}).push {cls:=.type "enumerate",data:=.fields #[.none,.bool false,.ref s.heap.objs.size,Jm 0,.none,.none]}) (s.heap.objs.size+1) s.heap.objs.size 0 .none:=by
  have:=Bc (s.heap.push {cls:=.type "tuple_iterator",data:=.fields #[.ref l,.int 0 0]}) (o:={cls:=.type "enumerate",data:=.fields #[.none,.bool false,.ref s.heap.objs.size,Jm 0,.none,.none]}) rfl;rw[hz]at this;exact this
 exact⟨⟨_,d,rfl⟩,h _ d ⟨_,Ai _ (Bc _ rfl),rfl,rfl⟩ λb o x=>Ai _ (Ai _ x)⟩
end
end Et
end PySem
namespace L2
open PySem PySem.Spec PyProof.Rows
section
variable {X:Cx}
def PD(K:Ac)(a:Addr)(xs:List V):It:=
 ⟨λi H=>cD K H a xs/\i<xs.length,
   λi H x b=>∃p u,xs[i]? = some u/\H p=none/\x=.ref p/\b=aT H p (.tup [.int (i:Nat),u]),
   λi H=>cD K H a xs/\i=xs.length⟩
theorem zgA{P:Ax}{w:Bl}{K:Ac}{es:List Expr}{S:Nat}{Z:Pos}(a e b:Addr)(xs:List V)(m:e≠b)(F:e≠a)(r:a≠b):
  kW P w K (.Tuple es S Z) (PD K a xs) [e,b] e (λi h=>(∃old,IsEnum h e b (i:Nat) old)/\h.IsTupleIter b a i) where
 mem:=by simp
 obj:=λi h st c hc=>by
  obtain⟨⟨old,d⟩,⟨O,j,_,L⟩⟩:=st;simp only[Ba,Gb,or_false]at hc;rcases hc with rfl|rfl
  .exact⟨_,d,λv q=>by cases q⟩
  .exact⟨_,j,λv q=>by rw[L]at q;cases q⟩
 keep:=λi h h' st k=>by
  obtain⟨⟨old,d⟩,⟨O,j,r4⟩⟩:=st;exact⟨⟨old,k e (by simp) _ d⟩,⟨O,k b (by simp) _ j,r4⟩⟩
 item:=by
  intro X N hw M hc i g s Q H E I hf st J;subst N hw M;obtain⟨⟨old,d⟩,j⟩:=st;obtain⟨l,hi⟩:=J;obtain⟨its,y,pl,hz⟩:=I.tuple l;obtain⟨u,Y,ru⟩:=y.get (Bj hi);have hl:=y.length;refine wpAny_pyNext_enum_itemD (Et.draws (A:=X.A.in1) (I.ok.hd hc) b a r its.toArray) d ⟨j,pl⟩ (by simp;lia) m (by simp[m,F]) λx h' tk B a1 a2 R a4 hk=>?_;have ex:x=u:=by
   have B:its.toArray[i]? = some x:=B;rw[List.getElem?_toArray,Y]at B;exact(Ci B).symm
  subst ex;refine⟨_,rfl,wpAny_letOwnedTupleGo_enum a1 λp W sb=>?_⟩;have G:H s.heap.objs.size=none:=I.hok.fresh (Ag _);have t:e<s.heap.objs.size:=Be d;have D:b<s.heap.objs.size:=by obtain⟨_,q,_⟩:=j;exact Be q
  have n:∀q o,q∉[e,b]->s.heap.get? q=some o->p.get? q=some o:=λq o f eq=>by
   simp only[Ba,Gb,or_false,not_or]at f;exact(sb.2 q f.1).trans (hk q o f.1 f.2 eq)
  have C:p.get? s.heap.objs.size=some {cls:=.type "tuple",data:=.seq [.int (i:Nat) tk,x].toArray}:=(sb.2 _ (Ga t)).trans R;have T:Inv X g Q (aT H s.heap.objs.size (.tup [.int (i:Nat),xs[i]])) {s with heap:=p,toks:=tk+1}:=I.laidT (its:=[.int (i:Nat) tk,x]) hf n (by show 2<=An;decide) (.cons ⟨_,rfl⟩ (.cons ru .nil)) C;refine⟨.ref s.heap.objs.size,_,T,rfl,⟨s.heap.objs.size,xs[i],Bj hi,G,rfl,rfl⟩,⟨⟨x,by rw[Int.natCast_add];exact W⟩,a2.1.extBut sb.extBut m.symm⟩,λq f=>?_⟩;rw[bD]
  .exact(hf q f).1
  .intro eq;subst eq;simp only[Ba,Gb,or_false]at f;rcases f with q|q
   .exact Ga t q
   .exact Ga D q
 done:=by
  intro X N hw M hc i g s Q H E I hf st J;subst N hw M;obtain⟨⟨old,d⟩,j⟩:=st;obtain⟨l,rfl⟩:=J;obtain⟨its,y,pl,hz⟩:=I.tuple l;have U:=y.length;refine wpAny_pyNext_enum_endD (Et.draws (A:=X.A.in1) (I.ok.hd hc) b a r its.toArray) d (show Heap.IsTupleIter s.heap b a its.toArray.size/\Heap.IsTuple s.heap a its.toArray from⟨by rw[Bf,<-U];exact j,pl⟩) λh' hk=>⟨rfl,?_⟩
  exact I.turnedT (tk:=s.toks) hf λq o f eq=>hk q o (λz=>f (by simp[z])) eq
 self:=λ_ _ _ _ _ st h=>by
  obtain⟨⟨old,d⟩,_⟩:=st;exact Lu d h
def zgB(K:Ac)(ta:TA):TI:=λc H R=>ta c H λvs b=>∃a xs,vs=[.ref a]/\cD K b a xs/\R (PD K a xs) b
theorem zgC{a:Expr}{ta:TA}{p pos:Pos}{es:List Expr}{m:Nat}{A:Pos}(n:Gl X "enumerate")(C:X.mg "enumerate" = none)(w:PA X [a] ta)(B:Bk [a] X.env=[(false,eval a X.env)]:=by rfl):
  PI X (.Tuple es m A) (.Call (.Name "enumerate" p) [a] [] pos) (zgB X.K ta):=by
 intro c s y H R I h;refine Call_ (nE I n C boot_enumerate (El (a8 (w pos c s y H _ I h) λus b ⟨vs,z,f,x,r⟩=>?_) B rfl));obtain⟨a,xs,rfl,g,q⟩:=r;obtain⟨u,rfl,ru⟩:=vals1 x;cases ru;obtain⟨its,t,pl,hz⟩:=f.tuple g;have l:a<b.heap.objs.size:=by obtain⟨o,e,_⟩:=pl;exact Be e
 refine Et.call_new pl λh' i v k=>?_;refine Lu i ?_;refine⟨b.heap.objs.size+1,[b.heap.objs.size+1,b.heap.objs.size],_,_,z,rfl,f.kept (t':=b.toks) k,zgA a _ _ xs (JR 1 (by decide)) (Bz (Bn (Nat.lt_succ_of_lt l))) (Bn l),⟨⟨_,i⟩,v⟩,λq j=>?_,q⟩;have d:b.heap.objs.size<=q:=by
  simp only[Ba,Gb,or_false]at j;rcases j with e|e
  .rw[e];exact JS 1
  .rw[e];exact Ag _
 exact f.fpOk d (f.hok.fresh d)
end
end L2
namespace L3
open PySem PySem.Spec PyProof.Rows L2
section
variable {X:Cx}{a:Expr}
def CP(ta:eJ):jI:=λc M R=>ta c M λws b=>∃a,ws=[.tup a]/\R (gW 0 a) (λ_=>True) b
theorem PF{m:Nat}(A:Gl X "enumerate")(J:X.mg "enumerate" = none)(C:A3 X [a] j)(I:Bk [a] X.env=[(false,eval a X.env)]:=by rfl):PI X (.Tuple es m G) (.Call (.Name "enumerate" p) [a] [] pos) (gT X.K (CP j)):=
 (zgC A J C I).weak λQ H N z0=>z0.el λB M R t d h k=>⟨B,M,_,t,d,h,λvs D ws z q c s ⟨O,E,r⟩=>by
  subst E;obtain⟨v,rfl,av⟩:=s.one;exact av.tupE λb xs n g f=>⟨b,xs,by rw[n],cD.of g,k _ _ _ _ _ q c (by
   have st:∀H M,Kp D z H M->AM X.K H M->cD X.K H b xs:=λH M k _=>cD.of (k.fr _ _ (c.noTup g) g).1;refine⟨λi H M k d kp hi=>⟨st H M k d,by rw[mW]at hi;rw[f.length];exact hi⟩,λH M k d kp=>⟨st H M k d,by rw[mW,f.length]⟩,λi H M x P k d kp hi y=>?_⟩;obtain⟨L,u,F,l,rfl,rfl⟩:=y;obtain⟨w,hw,av⟩:=(f.kp c k).getV F;obtain⟨e,o⟩:=d.tup (u:=.tup [.int (i:Nat),u]) l;exact⟨.tup [.int ((i:Nat):Int),w],by rw[vH,hw];simp,o,e,.tup cU (.cons (.int _) (.cons (av.go (go_same l)) .nil))⟩) r⟩⟩
end
end L3
namespace L2
open PySem PySem.Spec PyProof.Rows
section
variable {X:Cx}
theorem zgD:bC X (Dr .Add) (λx y H Q=>∃a b xs,x=.ref a/\y=.ref b/\cD X.K H a []/\cD X.K H b xs/\Q (.ref b) H):=by
 rintro j s B H x y v u Q I m A ⟨a,b,xs,rfl,rfl,z,w,q⟩;cases (show v=Value.ref a from m);cases (show u=Value.ref b from A);obtain⟨its,o,⟨⟨cls,p,data,sl⟩,k,hc,n,hd⟩,_⟩:=I.tuple z;obtain⟨d,t,⟨⟨l,i,h,g⟩,c,e,r,f⟩,_⟩:=I.tuple w;cases o;simp only at hc hd e f;subst hc hd e f;exact concat_meets ⟨_,k,rfl⟩ ⟨_,c,rfl⟩ noFill_tuple_add seq_tuple_add Lh Lb (Ku _ _) (tuple_addW0 a b _ d.toArray n r p i sl g rfl) ⟨k,c,.ref b,H,I,rfl,q⟩
end
end L2
namespace L3
open PySem PySem.Spec PyProof.Rows L2
section
variable {X:Cx}{a b:Expr}{ta tb:aZ}{pos:Pos}
def rM:R3:=λx y M R=>∃xs ys,x=.tup xs/\y=.tup ys/\xs.length+ys.length<=An/\R (.tup (xs++ys)) M
theorem CQ:bC X (Dr .Add) (cM X.K rM):=by
 rintro a s f H x y v u Q I c h ⟨z,w,M,R,i,d,b,⟨xs,ys,rfl,rfl,hl,r⟩,k⟩
 by_cases g:xs=[]
 .subst g;refine d.tupE λp A l q n=>b.tupE λo j e m t=>?_;cases n.nil_;exact zgD a s f H x y v u Q I c h ⟨p,o,j,l,e,cD.of q,cD.of m,by rw[<-e];exact k.at i b r⟩
 .exact dZ a s f H x y v u Q I c h ⟨.tup xs,.tup ys,M,R,i,d,b,⟨g,hl,r⟩,k⟩
end
end L3
namespace Rg
open PySem PySem.Spec PyProof.Rows L2 L3
def CS:bF:=λws M R=>∃(rs:List aI) (X:Str),ws=[cI rs,.str X]/\rs.length<=100/\aY ((numsOf rs X).map λ(n:Nat)=>W.int n) M R
def xM(l:List (NP×W))(M:Mm)(R:K3):Prop:=∀p q,M p=none->M q=none->p≠q->R (.tup [.ref p,.ref q]) (put (put M p (.lst ((l.map λz=>g8 z.1).map bE))) q (.lst (l.map λz=>z.2)))
def CT:bF:=λws M R=>∃rs:List aI,ws=[cI rs]/\rs≠[]/\xM (w4 rs) M R
abbrev zgE:List Str:=["grammar","name"]
def zgF:aH:=
   (bU (d7 (z9 (aB (aA 0) aE)) (iD 2 (dD (bB 0) (dD (bB 1) iC))) (bP (aD (rEq false) (aD aV (aA 1) (vC (.int 0))) (aA 2))) (aA 0) [none,none,some 1]))
abbrev zgG:List Str:=["grammar","name","plain"]
def zgH(P:Ax)(w:Bl)(C:Cc):aH:=
   (a5 1 (bG v9 (aB (aA 0) aE)))
def zgI(P:Ax)(w:Bl)(C:Cc):aH:=
   (a5 2 (oS C.p (tO P w C.p) aE))
def zgJ(P:Ax)(w:Bl)(C:Cc):aH:=
   (dB (fA C.p "put_rule" (rJ P w C.p) (aA 2) (aB (aA 1) (aB (bH (aB (aA 1) (aB (aA 1) aE))) (aB (bH (aB (bH (aB (vC (.int 0)) (aB (bH (aB (vC (.int 0)) (aB (vC (.int 1)) aE))) aE))) aE)) aE)))))
def zgK(P:Ax)(w:Bl)(C:Cc):aH:=
   (bU (fA C.p "grammar_and_backs" (tP P w C.p) (aA 2) aE))
def zgL(P:Ax)(w:Bl)(C:Cc):aH:=(aM (zgH P w C) (aM (zgI P w C) (aM (zgJ P w C) (zgK P w C))))
theorem zgM:∀ws M R,CS ws M R->ws.length=2:=by rintro ws M R ⟨_,_,rfl,_⟩;rfl
theorem zgN:∀ws M R,CT ws M R->ws.length=1:=by rintro ws M R ⟨_,rfl,_⟩;rfl
def xN(X:Str):W->Option W
 | .tup [.int i,.tup (.str n::_)]=>if n=X then some (.int i) else none
 | _=>none
theorem CU(rs:List aI):∀n:Nat,gW n (rs.map bE)=(rs.zipIdx n).map λx=>W.tup [.int (x.2:Int),bE x.1]:=by
 induction rs with
 | nil=>intro n;rfl
 | cons r rs a=>intro n;rw[Aw,List.zipIdx_cons,Aw,<-a];rfl
theorem zgO{F:W->Option W}{ws:List W}{os:List (Option W)}(h:Es (λw o=>o=F w) ws os):os.filterMap id=ws.filterMap F:=by
 induction h with
 | nil=>rfl
 | cons a _ b=>rw[a,Ed,Ed,b];rfl
theorem zgP(rs:List aI)(X:Str):(gW 0 (rs.map bE)).filterMap (xN X)=(numsOf rs X).map λ(n:Nat)=>W.int n:=by
 unfold numsOf;rw[CU,Iw,Bo];generalize rs.zipIdx=l
 induction l with
 | nil=>rfl
 | cons x l a=>
  rw[Ed,Dw,a];have e:(xN X ∘ λx:aI×Nat=>W.tup [.int (x.2:Int),bE x.1]) x=if x.1.name=X then some (.int x.2) else none:=rfl;rw[e]
  by_cases h:x.1.name=X
  .rw[if_pos h,if_pos (decide_eq_true h)];rfl
  .rw[if_neg h,if_neg (by rw[decide_eq_false h];decide)]
theorem zgQ(h:CS ws M R):zgF (bI R) (bT zgE ws) M:=by
 obtain⟨rs,X,rfl,hl,r⟩:=h;refine⟨_,rfl,zY (rest:=[some (.str X)]) (λw o=>o=xN X w) (λw hw=>?_) (cJ (by rw[mW,Ab];lia)) (λ_ _=>trivial) (λa b c i C D sb f g=>?_) λos po=>?_⟩
 .rw[CU]at hw;obtain⟨x,_,rfl⟩:=Am.mp hw;exact⟨_,_,rfl⟩
 .rw[CU]at c;obtain⟨⟨q,k⟩,j,e⟩:=Am.mp c;cases e;have ep:xN X (.tup [.int (k:Int),bE q])=if q.name=X then some (.int k) else none:=rfl;refine⟨_,rfl,_,rfl,_,rfl,_,rfl,cP (b:=decide (q.name=X)) (λz=>⟨_,rfl,f _ (by rw[ep,if_pos (of_decide_eq_true z)])⟩) λz=>g (by rw[ep,if_neg (of_decide_eq_false z)])⟩
 .rw[zgO po,zgP];exact λp d=>⟨_,Sub.refl _,r p d⟩
theorem zgR(h:M d=some o):put M d o=M:=by
 funext b
 by_cases e:b=d
 .subst e;rw[aR,h]
 .rw[aQ e]
section
variable {P:Ax}{w:Bl}{C:Cc}
theorem kT.putD(pl:kT P w c M a d dx l)(b:List (NP×W)):kT P w c (put M d (.dn P w [0] (kvsOf b))) a d dx b:=⟨by
 have:a≠d:=λe=>by have f:=pl.ob;rw[e,pl.di]at f;cases f
 rw[aQ this];exact pl.ob,aR⟩
theorem zgS(k:M a=none)(hd:M d=none)(f:a≠d)(r:xM l M R)(p q:Addr)(i:Bt P w c M a d dx l p=none)(j:Bt P w c M a d dx l q=none)(ne:p≠q):∃b,L3.Sub b (put (put (Bt P w c M a d dx l) p (.lst ((kvsOf l).map λz=>fW [0] z.1))) q (.lst ((kvsOf l).map λz=>z.2)))/\R (.tup [.ref p,.ref q]) b:=by
 have sb:=Bt.sub (P:=P) (w:=w) (C:=c) (dx:=dx) (l:=l) k hd f;have g:∀{x:Addr},Bt P w c M a d dx l x=none->M x=none:=λ{x} h=>by
  cases e:M x with
  | none=>rfl
  | some o=>rw[sb x o e]at h;cases h
 refine⟨_,?_,r p q (g i) (g j) ne⟩;have n:((kvsOf l).map λz=>fW [0] z.1)=(l.map λz=>g8 z.1).map bE:=by
  unfold kvsOf;rw[Bo,Bo];exact Ff λz _=>B1 z.1
 have m:((kvsOf l).map λz=>z.2)=l.map λz=>z.2:=by unfold kvsOf;rw[Bo];rfl
 rw[n,m];exact Sub.put (Sub.put sb)
theorem zgT(h:CT ws M R):zgL P w C (bI R) (bT zgG ws) M:=by
 obtain⟨rs,rfl,k,r⟩:=h;obtain⟨c,l,rfl⟩:∃q l,rs=q::l:=by
  cases rs with
  | nil=>exact absurd rfl k
  | cons q l=>exact⟨q,l,rfl⟩
 refine⟨_,rfl,c,l,rfl,λa dx i m j=>⟨a,dx,rfl,aR,λd hd=>⟨rfl,?_⟩⟩⟩;have b:a≠d:=λe=>by rw[<-e,aR]at hd;cases hd
 rw[aQ (Bz b)]at hd;rw[Bt.first b];refine⟨_,rfl,a,dx,_,rfl,(Bt.pl b).ob,tR,_,rfl,_,rfl,_,rfl,z2,z2,z2,z1,a,d,dx,[],(c.name,[c.name,c.name]),_,rfl,Bt.pl b,Bw _,?_⟩;rw[Bt.put];exact⟨_,rfl,a,dx,_,rfl,(Bt.pl b).ob,CI,a,d,dx,_,rfl,Bt.pl b,λp q f g ne=>zgS i hd b r p q f g ne⟩
end
abbrev PH(a:List Str):W:=.rl (a.map W.str)
def jD(fs:List bJ):List (List aF×W):=fs.map λf=>(fK f,.bl true)
def nY(a:List Str):List (List aF×W):=(a.zipIdx).map λx=>([Sum.inr x.1,Sum.inl (x.2:Int)],.rl [.tup [.int ((x.2:Int)+1),.int 0]])
def CV:bF:=λws M R=>∃a:List Str,ws=[PH a]/\a.length<=6/\aY ((Cr (a.length+1)).map λ(i:Nat)=>W.int i) M R
def CW:bF:=λws M R=>∃a:List Str,ws=[PH a]/\a.length<=6/\kA (nY a) M R
abbrev zgU:List Str:=["row"]
def zgV:aH:=
   (bU (OQ (aD dY (bM dP (aB (aA 0) aE)) (vC (.int 1)))))
abbrev zgW:List Str:=["row"]
def zgX:aH:=
   (bU (bM BW (aB (b5 (d7 (z9 (aB (aA 0) aE)) (iD 2 (dD (bB 0) (dD (bB 1) iC))) fL (bH (aB (bH (aB (aA 1) (aB (aA 0) aE))) (aB (gV (aB (bH (aB (aD dY (aA 0) (vC (.int 1))) (aB (vC (.int 0)) aE))) aE)) aE))) [none,none])) aE)))
theorem zgY:∀ws M R,CV ws M R->ws.length=1:=by rintro ws M R ⟨_,rfl,_⟩;rfl
theorem zgZ:∀ws M R,CW ws M R->ws.length=1:=by rintro ws M R ⟨_,rfl,_⟩;rfl
theorem z0:0<=An:=Bw _
theorem PJ(r:aY ws M R):aY ws M λw c=>∃a,L3.Sub a c/\R w a:=λp b=>⟨_,Sub.refl _,r p b⟩
theorem PK(r:kA ws M R):kA ws M λw c=>∃a,L3.Sub a c/\R w a:=λp b=>⟨_,Sub.refl _,r p b⟩
theorem zg0(h:CV ws M R):zgV (bI R) (bT zgU ws) M:=by
 obtain⟨a,rfl,hl,r⟩:=h;exact⟨_,rfl,a.length+1,by rw[Ab];rfl,by lia,PJ r⟩
theorem enum_zip(ws:List Str):∀n:Nat,gW n (ws.map W.str)=(ws.zipIdx n).map λx=>W.tup [.int (x.2:Int),.str x.1]:=by
 induction ws with
 | nil=>intro n;rfl
 | cons w ws a=>intro n;rw[Aw,gW,a,List.zipIdx_cons,Aw]
theorem PL:∀{ps acc:List (List aF×W)},((acc++ps).map (·.1)).Nodup->m7 acc ps=acc++ps
 | [],acc,_=>by simp[m7]
 | p::ps,acc,h=>by
  have b:aX acc p.1=none:=by
   rw[Bb,Dk]at h;exact qT λe a z=>h.2.2 _ (Am.mpr ⟨e,a,rfl⟩) p.1 (by simp) z
  have e:b9 acc p.1 p.2=acc++[p]:=by
   unfold b9;rw[if_neg (by rw[show(acc.any λc=>decide (c.1=p.1))=(aX acc p.1).isSome from lR acc p.1,b];decide)]
  show m7 (b9 acc p.1 p.2) ps=_;rw[e,PL (by rw[Dx];exact h),Dx];rfl
theorem zg1(a:List Str):((nY a).map (·.1)).Nodup:=by
 unfold nY;rw[Bo];have:∀(a:List Str) (n:Nat),((a.zipIdx n).map ((λx:List aF×W=>x.1) ∘ λx:Str×Nat=>(([Sum.inr x.1,Sum.inl (x.2:Int)]:List aF),W.rl [.tup [.int ((x.2:Int)+1),.int 0]]))).Nodup:=by
  intro a
  induction a with
  | nil=>intro n;exact Em
  | cons t a b=>
   intro n;rw[List.zipIdx_cons,Aw,Cz];refine⟨λc=>?_,b _⟩;obtain⟨x,d,e⟩:=Am.mp c;have f:=List.mem_zipIdx d;simp only[Jp,Ct,Mo,Kt,and_true]at e;lia
 exact this a 0
theorem zg2(h:CW ws M R):zgX (bI R) (bT zgW ws) M:=by
 obtain⟨c,rfl,hl,r⟩:=h;refine⟨_,rfl,?_⟩;delta aE;refine zaj (ws:=gW 0 (c.map W.str)) (rest:=[]) (λw y=>∃x:Str×Nat,w=W.tup [.int (x.2:Int),.str x.1]/\y=.tup [.tup (([Sum.inr x.1,Sum.inl (x.2:Int)]:List aF).map wK),.rl [.tup [.int ((x.2:Int)+1),.int 0]]]) (λw hw=>?_) (cJ (by rw[mW,Ab];lia)) (λ_ _=>trivial) (λa b f m C sb g=>?_) λys po=>?_
 .rw[enum_zip]at hw;obtain⟨x,_,rfl⟩:=Am.mp hw;exact⟨_,_,rfl⟩
 .rw[enum_zip]at f;obtain⟨x,_,e⟩:=Am.mp f;simp only[W.tup.injEq,Ct,and_true]at e;obtain⟨rfl,rfl⟩:=e;exact⟨_,rfl,_,rfl,z2,_,rfl,z2,z1,z2,g _ ⟨x,rfl,rfl⟩⟩
 .have k:ys=pB (nY c):=by
   rw[enum_zip]at po;unfold pB nY;rw[Bo]
   revert po
   generalize c.zipIdx=l;intro po
   induction l generalizing ys with
   | nil=>cases po;rfl
   | cons x l i=>
    cases po with
    | cons h t=>
     obtain⟨j,d,rfl⟩:=h;simp only[W.tup.injEq,Ct,W.int.injEq,W.str.injEq,and_true]at d;have:x=j:=Lj d.2 (by lia);subst this;rw[i _ t];rfl
  subst k;refine aY.frz ⟨nY c,rfl,cJ (by unfold pB nY;rw[Ab,Ab,List.length_zipIdx];lia),?_⟩;rw[PL (by simpa using zg1 c),Fu];exact PK r
theorem CY(fs:List bJ)(f:bJ):(aX (jD fs) (fK f)).isSome=decide (f∈fs):=by
 unfold jD
 induction fs with
 | nil=>rfl
 | cons g fs a=>
  rw[Aw,nV]
  by_cases h:g=f
  .subst h;rw[if_pos rfl];simp
  .rw[if_neg (λz=>h (nW _ _ z)),a];have:¬f=g:=λz=>h z.symm;simp[this]
theorem zg3(h:f∉fs):b9 (jD fs) (fK f) (.bl true)=jD (fs++[f]):=by
 unfold b9;rw[if_neg (by rw[show((jD fs).any λa=>decide (a.1=fK f))=(aX (jD fs) (fK f)).isSome from lR _ _,CY,decide_eq_true_eq];exact h)];unfold jD;rw[Bb];rfl
theorem CZ(h:kJ [x,.ty T] M R):aB (vC (.ty T)) aE b M λxs a=>kJ (x::xs) a R:=h
theorem C0{R:List W->(Mm->Prop)->Mm->Prop}(h:R ws (λ_=>True) M):cX (.tup ws) M R:=h
def eP(f:bJ):W:=.tup ((fK f).map wK)
def nZ(own:Str->Bool)(ps:List Str)(cut:List Int):List bJ:=ps.zipIdx.filterMap λx=>if own x.1=true then some (x.1,cut.getD x.2 0,cut.getD (x.2+1) 0) else none
structure Wb(G:Sr)(B:bL):Prop where
 own:∀t,G.own t=ownB G.rs t
 few:G.rs.length<=100
 ord:w9 G B
 bl:B.length<=1000
 pl:∀r∈G.rs,r.parts.length<=100
abbrev n5(B:bL):W:=.ft (eA fK fR B)
def C1:bF:=λws M R=>∃(rs:List aI) (ps:List Str) (cut:List Int),ws=[.dk (ownOf rs),.tup (ps.map W.str),gL cut]/\cut.length=ps.length+1/\ps.length<=100/\aY ((nZ (ownB rs) ps cut).map eP) M R
def C3:bF:=λws M R=>∃(G:Sr) (B:bL) (aP:bJ),ws=[cI G.rs,n5 B,eP aP]/\Wb G B/\aP∈B.map (·.1)/\∀p:bJ->Bool,p aP=true->(∀e∈B,p e.1=true->∀f∈nZ G.own (nB G e.2.2.1) e.2.2.2,p f=true)->aY (((B.map (·.1)).filter p).map eP) M R
def C4:bF:=λws M R=>∃(t:Str) (b e:Int),ws=[.str t,.int b,.int e]/\R (.str t) M
def C5:bF:=λws M R=>∃(n:Nat) (p:Addr) (vs:List W),ws=[.int n,.ref p]/\M p=some (.lst vs)/\R (.tup [.int n,.tup vs]) M
def C6(C:Cc):bF:=λws M R=>∃(G:Sr) (B:bL) (aP:bJ),ws=[cI G.rs,n5 B,eP aP,.ref C.f,.ref C.g]/\Wb G B/\aP∈B.map (·.1)/\R (mB G B aP) M
def C7(C:Cc):bF:=λws M R=>∃(G:Sr) (B:bL) (aP:bJ),ws=[cI G.rs,n5 B,eP aP]/\Wb G B/\aP∈B.map (·.1)/\R (mB G B aP) M
abbrev zg4:List Str:=["own","parts","cut"]
def zg5:aH:=
   (bU (d7 (CP (aB (aA 1) aE)) (iD 2 (dD (bB 0) (dD (bB 1) iC))) (bP (aD (rIn false) (aA 1) (aA 2))) (bH (aB (aA 1) (aB (aD aV (aA 3) (aA 0)) (aB (aD aV (aA 3) (aD dY (aA 0) (vC (.int 1)))) aE)))) [none,none,some 0,some 2]))
abbrev zg6:List Str:=["grammar","best","top","own","found","waiting","told","fact"]
def zg7:aH:=
   (a5 3 (bG m9 (aB (b5 (bG kR (aB (aA 0) aE))) aE)))
def zg8:aH:=
   (a5 4 (O9 (aA 2) (vC (.bl true))))
def zg9:aH:=
   (a5 5 (jE (aB (aA 2) aE)))
def zha:aH:=
   (aM (a5 6 (aD aV (aA 1) (oI "list" rPop (aA 5))))
   (eR (cB cX (b5 (bG C1 (aB (aA 3) (aB (aD aV (aD aV (aA 0) (aD aV (aA 6) (vC (.int 1)))) (vC (.int 1))) (aB (aD aV (aA 6) (vC (.int 2))) aE)))))) (bB 7)
    (cV (bP (aD (rIn true) (aA 7) (aA 4)))
    (aM (iV (vC (.bl true)) (kG (aA 4) (aA 7)))
   (dB (eQ "list" fU (aA 5) (aB (aA 7) aE))))
    dQ)))
def zhb:aH:=
   (qH (gA (aA 5)) zha)
def zhc:aH:=
   (bU (d7 (cB rA (aA 1)) (bB 0) (bP (aD (rIn false) (aA 0) (aA 1))) (aA 0) [none,some 4]))
def zhd:aH:=(aM zg7 (aM zg8 (aM zg9 (aM zhb zhc))))
abbrev zhe:List Str:=["grammar","best","top","of_word","of_rule","own","made","fact","number","cut","values","k","part"]
def zhf(C:Cc):aH:=
   (a5 5 (bG m9 (aB (b5 (bG kR (aB (aA 0) aE))) aE)))
def zhg(C:Cc):aH:=
   (a5 6 oM)
def zhh(C:Cc):aH:=
   (aM (a5 8 (aD aV (aD aV (aA 1) (aA 7)) (vC (.int 1))))
   (aM (a5 9 (aD aV (aD aV (aA 1) (aA 7)) (vC (.int 2))))
   (aM (a5 10 (jE aE))
   (aM (eR (CP (aB (aD aV (aD aV (aA 0) (aA 8)) (vC (.int 1))) aE)) (iD 2 (dD (bB 11) (dD (bB 12) iC)))
    (cV (bP (aD (rIn false) (aA 12) (aA 5)))
    (dB (eQ "list" fU (aA 10) (aB (aD aV (aA 6) (bH (aB (aA 12) (aB (aD aV (aA 9) (aA 11)) (aB (aD aV (aA 9) (aD dY (aA 11) (vC (.int 1)))) aE))))) aE)))
    (dB (eQ "list" fU (aA 10) (aB (CO 3 C.f C4 (aB (aA 12) (aB (aD aV (aA 9) (aA 11)) (aB (aD aV (aA 9) (aD dY (aA 11) (vC (.int 1)))) aE)))) aE)))))
   (iV (CO 4 C.g C5 (aB (aA 8) (aB (aA 10) aE))) (kG (aA 6) (aA 7)))))))
def zhi(C:Cc):aH:=
   (eR (cB cX (b5 (bG C3 (aB (aA 0) (aB (aA 1) (aB (aA 2) aE)))))) (bB 7) (zhh C))
def zhj(C:Cc):aH:=
   (bU (aD aV (aA 6) (aA 2)))
def zhk(C:Cc):aH:=(aM (zhf C) (aM (zhg C) (aM (zhi C) (zhj C))))
abbrev zhl:List Str:=["word","begin","end"]
def zhm:aH:=
   (bU (aA 0))
abbrev zhn:List Str:=["number","children"]
def zho:aH:=
   (bU (bH (aB (aA 0) (aB (bM u6 (aB (aA 1) aE)) aE))))
abbrev zhp:List Str:=["grammar","best","top"]
def zhq(C:Cc):aH:=
   (bU (bG (C6 C) (aB (aA 0) (aB (aA 1) (aB (aA 2) (aB (vC (.ref C.f)) (aB (vC (.ref C.g)) aE)))))))
theorem zhr:∀ws M R,C1 ws M R->ws.length=3:=by rintro ws M R ⟨_,_,_,rfl,_⟩;rfl
theorem zhs:∀ws M R,C3 ws M R->ws.length=3:=by rintro ws M R ⟨_,_,_,rfl,_⟩;rfl
theorem zht:∀ws M R,C4 ws M R->ws.length=3:=by rintro ws M R ⟨_,_,_,rfl,_⟩;rfl
theorem zhu:∀ws M R,C5 ws M R->ws.length=2:=by rintro ws M R ⟨_,_,_,rfl,_⟩;rfl
theorem zhv:∀ws M R,C6 C ws M R->ws.length=5:=by rintro ws M R ⟨_,_,_,rfl,_⟩;rfl
theorem zhw:∀ws M R,C7 C ws M R->ws.length=3:=by rintro ws M R ⟨_,_,_,rfl,_⟩;rfl
theorem xO(h:rs.length<=100):(namesOf rs).length<=400:=by
 have a:=vJ (rs.map aI.name) [];rw[Ab,List.length_nil,Mc]at a;exact Ay a (Ay h (by decide))
theorem xP{cut:List Int}{k:Nat}(h:k<cut.length):cA (cut.map W.int) (k:Int)=some (.int (cut.getD k 0)):=gF (by rw[Av,Gh,Bj h];rfl)
theorem zhx(h:C4 ws M R):zhm (bI R) (bT zhl ws) M:=by
 obtain⟨t,b,e,rfl,r⟩:=h;exact⟨_,rfl,_,Sub.refl _,r⟩
theorem zhy(h:C5 ws M R):zho (bI R) (bT zhn ws) M:=by
 obtain⟨n,p,vs,rfl,e,r⟩:=h;exact⟨_,rfl,_,rfl,_,e,z2,_,Sub.refl _,r⟩
theorem zhz(h:C7 C ws M R):zhq C (bI R) (bT zhp ws) M:=by
 obtain⟨G,B,aP,rfl,w,ht,r⟩:=h;exact⟨_,rfl,_,rfl,_,rfl,G,B,aP,rfl,w,ht,_,Sub.refl _,r⟩
def C8(rs:List aI)(cut:List Int):W->Option W
 | .tup [.int i,.str t]=>if ownB rs t=true then some (eP (t,cut.getD i.toNat 0,cut.getD (i.toNat+1) 0)) else none
 | _=>none
theorem zhA{F:W->Option W}{ws:List W}{os:List (Option W)}(h:Es (λw o=>o=F w) ws os):os.filterMap id=ws.filterMap F:=by
 induction h with
 | nil=>rfl
 | cons a _ b=>rw[a,Ed,Ed,b];rfl
theorem zhB(rs:List aI)(cut:List Int)(ps:List Str):(gW 0 (ps.map W.str)).filterMap (C8 rs cut)=(nZ (ownB rs) ps cut).map eP:=by
 unfold nZ;rw[enum_zip,Iw,List.map_filterMap];refine congrArg (λf=>List.filterMap f ps.zipIdx) (funext λx=>?_);show(if ownB rs x.1=true then _ else none)=_;rw[Dc]
 by_cases h:ownB rs x.1=true
 .rw[if_pos h,if_pos h];rfl
 .rw[if_neg h,if_neg h];rfl
theorem zhC{ws:List W}{M:Mm}{R:K3}(h:C1 ws M R):zg5 (bI R) (bT zg4 ws) M:=by
 obtain⟨rs,ps,cut,rfl,hc,hp,r⟩:=h;refine⟨_,rfl,_,rfl,zY (rest:=[some (.dk (ownOf rs)),some (gL cut)]) (λw o=>o=C8 rs cut w) (λw hw=>?_) (cJ (by rw[mW,Ab];lia)) (λ_ _=>trivial) (λa b hm M' C D sb h1 h2=>?_) λos po=>?_⟩
 .rw[enum_zip]at hw;obtain⟨x,_,rfl⟩:=Am.mp hw;exact⟨_,_,rfl⟩
 .rw[enum_zip]at hm;obtain⟨⟨t,k⟩,hx,e⟩:=Am.mp hm;cases e;have hk:=(Ap.mp (Ew.mp hx)).1;have ep:C8 rs cut (.tup [.int (k:Int),.str t])=if ownB rs t=true then some (eP (t,cut.getD k 0,cut.getD (k+1) 0)) else none:=rfl;have ho:(aX (ownOf rs) (Sum.inr t:aF)).isSome=ownB rs t:=pK rs t;exact⟨_,rfl,_,rfl,_,⟨Sum.inr t,rfl,rfl⟩,_,rfl,cP (λz=>⟨_,rfl,_,rfl,_,rfl,_,xP (by lia),_,rfl,_,rfl,_,xP (k:=k+1) (by lia),z3,h1 _ (by rw[ep,if_pos (ho.symm.trans z)];rfl)⟩) λz=>h2 (by rw[ep,if_neg (ne_true_of_eq_false (ho.symm.trans z))])⟩
 .rw[zhA po,zhB];exact PJ r
structure FW(G:Sr)(B:bL)(aP:bJ)(ex:bJ->Prop)(fs wt:List bJ):Prop where
 tp:aP∈fs
 nd:fs.Nodup
 sub:∀f∈fs,f∈B.map (·.1)
 wq:∀f∈wt,f∈fs
 wl:wt.length<=fs.length
 cl:∀e∈B,e.1∈fs->e.1∈wt\/ex e.1\/∀f∈nZ G.own (nB G e.2.2.1) e.2.2.2,f∈fs
theorem FW.len{G:Sr}{B:bL}{aP:bJ}{fs wt:List bJ}{ex:bJ->Prop}(h:FW G B aP ex fs wt):fs.length<=B.length:=by
 have:=len_sub h.nd h.sub;rw[Ab]at this;exact this
theorem FW.add{G:Sr}{B:bL}{aP g:bJ}{fs wt:List bJ}{ex:bJ->Prop}(h:FW G B aP ex fs wt)(i:g∉fs)(c:g∈B.map (·.1)):FW G B aP ex (fs++[g]) (wt++[g]):=by
 refine⟨Bs _ h.tp,?_,λf hf=>?_,λf hf=>?_,(by rw[Ak,Ak];exact Nat.add_le_add_right h.wl _),λe j hf=>?_⟩
 .rw[Dk];exact⟨h.nd,(by simp),λa d b c e=>i (by cases Aj.mp c;rw[<-e];exact d)⟩
 .rcases Bg.mp hf with z|z
  .exact h.sub f z
  .cases Aj.mp z;exact c
 .rcases Bg.mp hf with z|z
  .exact Bs _ (h.wq f z)
  .exact Ca _ z
 .rcases Bg.mp hf with z|z
  .rcases h.cl e j z with y|y|y
   .exact .inl (Bs _ y)
   .exact .inr (.inl y)
   .exact .inr (.inr λf hf=>Bs _ (y f hf))
  .exact .inl (Ca _ z)
def rN(fs:List bJ):W->Option W
 | .tup [.str n,.int b,.int e]=>if (n,b,e)∈fs then some (.tup [.str n,.int b,.int e]) else none
 | _=>none
theorem zhD(fs a:List bJ):(a.map eP).filterMap (rN fs)=(a.filter λf=>decide (f∈fs)).map eP:=by
 induction a with
 | nil=>rfl
 | cons f a b=>
  have e:rN fs (eP f)=if f∈fs then some (eP f) else none:=rfl;rw[Aw,Ed,Dw,e,b]
  by_cases h:f∈fs
  .rw[if_pos h,if_pos (decide_eq_true h),Aw]
  .rw[if_neg h,if_neg (by rw[decide_eq_false h];exact Ao)]
theorem PM(h:f∈B.map (·.1)):∃v,aJ B f=some v/\aX (eA fK fR B) (fK f)=some (fR v):=by
 obtain⟨v,a⟩:=Fm.mp (l9.mpr h);exact⟨v,a,by rw[nX nW,a];rfl⟩
theorem zhE(o:w9 G B)(c:e∈B):aJ B e.1=some e.2:=by
 obtain⟨a,b,sp⟩:=List.append_of_mem c;obtain⟨r,E⟩:=o a e b sp;rw[sp,xA,E.no,dG,if_pos rfl];rfl
theorem PQ(E:w6 G pre e r)(d:g∈nZ G.own r.parts e.2.2.2):g∈pre.map (·.1):=by
 obtain⟨⟨t,k⟩,b,a⟩:=Kn.mp d;have b:=Ew.mp b
 by_cases c:G.own t=true
 .rw[if_pos c]at a;cases a;exact l9.mp (E.pn k t b c)
 .rw[if_neg c]at a;cases a
theorem PR(E:w6 G pre e r):nB G e.2.2.1=r.parts:=by unfold nB;rw[E.ru];rfl
theorem zhF(h:C3 ws M R):zhd (bI R) (bT zg6 ws) M:=by
 obtain⟨G,B,aP,rfl,w,ht,r⟩:=h;have Z:G.own=ownB G.rs:=funext w.own;refine⟨_,rfl,G.rs,rfl,(Ay w.few (by decide)),aY.frz ⟨namesOf G.rs,rfl,xO w.few,λp hp=>⟨_,rfl,aR,fK aP,rfl,_,rfl,z1,λq Q=>?_⟩⟩⟩;rw[eW]at Q⊢;have H:q≠p:=λe=>by rw[e,aR]at Q;cases Q
 have hq0:M q=none:=by rw[aQ H]at Q;exact Q
 have t:∀{X Y:MO},put (put M p X) q Y p=some X:=λ{X Y}=>by rw[aQ (Bz H),aR]
 have P:∀{X X' Y:MO},put (put (put M p X) q Y) p X'=put (put M p X') q Y:=λ{X X' Y}=>by rw[uQ H,eW]
 refine⟨λm N K=>∃fs wt o6 L,N=[some (cI G.rs),some (n5 B),some (eP aP),some (.dk (ownOf G.rs)),some (.ref p),some (.ref q),o6,L]/\K=put (put M p (.dT (jD fs))) q (.lst (wt.map eP))/\FW G B aP (λ_=>False) fs wt/\m=2*(B.length-fs.length)+wt.length,
  ⟨_,[aP],[aP],_,_,rfl,rfl,⟨List.mem_singleton_self _,(by simp),λf hf=>by cases Aj.mp hf;exact ht,λf hf=>hf,Ag _,λe _ hf=>.inl hf⟩,rfl⟩,?_⟩
 rintro m N K ⟨fs,wt,o6,L,rfl,rfl,F,rfl⟩;refine⟨_,rfl,.inl ⟨_,aR,cP (λh=>?_) λh=>?_⟩⟩
 .rcases Fj wt with e|⟨S,f,e⟩
  .rw[e]at h;cases h
  rw[Fl]at e;subst e;obtain⟨v,hv,lv⟩:=PM (F.sub f (F.wq f (by simp)));obtain⟨pre,U,sp⟩:=vP hv;obtain⟨ru,E⟩:=w.ord pre _ U sp;obtain⟨ru',h1,h2⟩:=tK (rs:=G.rs) (n:=v.2.1) (Ap.mp E.ru).1;cases (show some ru'=some ru from h1.symm.trans E.ru);refine⟨_,rfl,_,rfl,iX aR,_,_,by rw[Bb];exact aR,_,⟨fK f,rfl,lv.symm⟩,_,rfl,_,rfl,_,rfl,_,rfl,_,h2,_,rfl,_,rfl,_,rfl,G.rs,ru.parts,v.2.2,rfl,E.ln,w.pl ru (Au h1),aY.frz (gZ ?_)⟩;rw[eW,<-Z];obtain⟨pf,I⟩:∃pf,pf=nZ G.own ru.parts v.2.2:=⟨_,rfl⟩;rw[<-I];have hpB:∀g∈pf,g∈B.map (·.1):=λg i=>by
   rw[I]at i;rw[sp,Bb];exact Bs _ (PQ E i)
  have hlen:=F.len;refine eL (λj N K=>∃c d L,N=[some (cI G.rs),some (n5 B),some (eP aP),some (.dk (ownOf G.rs)),some (.ref p),some (.ref q),some (fR v),L]/\K=put (put M p (.dT (jD c))) q (.lst (d.map eP))/\(∀g∈pf.take j,g∈c)/\FW G B aP (λx=>x=f) c d/\2*(B.length-c.length)+d.length+1<=2*(B.length-fs.length)+(S++[f]).length) ?_ (λ_ _ _ _ _=>trivial) ?_ ?_
  .refine⟨fs,S,_,rfl,rfl,(λg i=>nomatch i),⟨F.tp,F.nd,F.sub,λx J=>F.wq x (Bs _ J),Ay (by rw[Ak];exact Nat.le_add_right _ _) F.wl,λe A hf=>?_⟩,by rw[Ak];exact Ag _⟩;rcases F.cl e A hf with y|y|y
   .rcases Bg.mp y with y|y
    .exact .inl y
    .exact .inr (.inl (Aj.mp y))
   .exact y.elim
   .exact .inr (.inr y)
  .rintro j x N K J ⟨c,d,L,rfl,rfl,l,o,V⟩;rw[Av]at J;obtain⟨g,i,rfl⟩:=Bd.mp J;have hgm:=Au i;have hl2:=o.len;have hbl:=w.bl;refine⟨_,rfl,_,rfl,.inr ⟨_,.inr ⟨jD c,fK g,t,rfl,rfl⟩,_,rfl,?_⟩⟩;show if (!(aX (jD c) (fK g)).isSome)=true then _ else _;rw[CY];refine cP (λu=>?_) λu=>?_
   .have u:g∉c:=of_decide_eq_false (by rw[<-Ie (decide _),u];rfl);have F3:=o.add u (hpB g hgm);have hl3:=F3.len;rw[Ak,Bp]at hl3;have lw:=o.wl;refine⟨_,rfl,_,rfl,sP (k:=fK g) t (by unfold jD;rw[Ab];exact eS (by lia)) ?_⟩;rw[zg3 u,P];refine⟨_,rfl,iX aR,_,rfl,_,aR,eS (by rw[Ab];lia),_,Sub.refl _,c++[g],d++[g],_,rfl,?_,λy T=>?_,F3,?_⟩
    .rw[eW,Bb];rfl
    .rw[Cu,i]at T;rcases Bg.mp T with z|z
     .exact Bs _ (l y z)
     .exact Ca _ z
    .rw[Ak,Ak,Bp];lia
   .have u:g∈c:=of_decide_eq_true (by rw[<-Ie (decide _),u];rfl);refine⟨_,Sub.refl _,c,d,_,rfl,rfl,λy T=>?_,o,V⟩;rw[Cu,i]at T;rcases Bg.mp T with z|z
    .exact l y z
    .cases Aj.mp z;exact u
  .rintro N K ⟨c,d,L,rfl,rfl,l,o,V⟩;rw[Ab,Cd]at l;refine⟨_,_,V,Sub.refl _,c,d,_,_,rfl,rfl,⟨o.tp,o.nd,o.sub,o.wq,o.wl,λe A hf=>?_⟩,rfl⟩;rcases o.cl e A hf with y|y|y
   .exact .inl y
   .have:=zhE w.ord A;rw[y,hv]at this;refine .inr (.inr λg i=>l g ?_);rw[<-Ci this,show nB G v.2.1=ru.parts from PR E]at i;rw[I];exact i
   .exact .inr (.inr y)
 .have e:wt=[]:=by
   cases wt with
   | nil=>rfl
   | cons a b=>cases h
  subst e;have hbl:=w.bl;refine⟨_,rfl,LF (rest:=[some (.ref p)]) (rN fs) (cJ (by rw[Ab,Ab];lia)) (λ_ _=>trivial) (λx J M3 C D sb d1 d2=>?_) ?_⟩
  .rw[Bo]at J;obtain⟨e,A,rfl⟩:=Am.mp J;have ei:rN fs (eP e.1)=if e.1∈fs then some (eP e.1) else none:=rfl;refine⟨_,rfl,_,rfl,.inr ⟨_,.inr ⟨jD fs,fK e.1,sb _ _ t,rfl,rfl⟩,_,rfl,?_⟩⟩;show if (aX (jD fs) (fK e.1)).isSome=true then _ else _;rw[CY];exact cP (λz=>⟨_,rfl,d1 _ (by show rN fs (eP e.1)=_;rw[ei,if_pos (of_decide_eq_true z)];rfl)⟩) λz=>d2 (by show rN fs (eP e.1)=_;rw[ei,if_neg (of_decide_eq_false z)])
  .have e:((eA fK fR B).map λp=>W.tup (p.1.map wK))=(B.map (·.1)).map eP:=by rw[Bo,Bo];rfl
   rw[e,zhD];have z:=r (λf=>decide (f∈fs)) (decide_eq_true F.tp) λe A hf f V=>by
    rcases F.cl e A (of_decide_eq_true hf) with y|y|y
    .cases y
    .exact y.elim
    .exact decide_eq_true (y f V)
   intro s O;have hs1:s≠q:=λe=>by rw[e,aR]at O;cases O
   have hs2:s≠p:=λe=>by rw[e,t]at O;cases O
   rw[aQ hs1,aQ hs2]at O;exact⟨_,Sub.put (iI (iI (Sub.refl _) hp) hq0),z s O⟩
theorem zhG(o:w9 G B):(B.map (·.1)).Nodup:=by
 rw[Km,List.pairwise_map];refine Kw.mpr λi j hi c b e=>?_;obtain⟨r,E⟩:=o (B.take j) B[j] (B.drop (j+1)) (by rw[<-Gq c,Mg]);have a:B[j].1∈(B.take j).map (·.1):=by
  rw[<-e];exact Nc (List.mem_iff_getElem.mpr ⟨i,by rw[Ce];lia,by rw[List.getElem_take]⟩)
 rw[<-l9,E.no]at a;cases a
theorem zhH(nd:l.Nodup)(e:l=a++f::b){j:Nat}(h:l[j]? = some f):l.take j=a:=by
 have:j=a.length:=(List.getElem?_inj (Ap.mp h).1 nd).mp (h.trans (by rw[e,Ht (Ag _),Nat.sub_self];rfl));rw[this,e,List.take_left]
theorem zhI{T:bJ->W}{fs:List bJ}{g:bJ}(h:g∈fs):aJ (fs.map λf=>(f,T f)) g=some (T g):=by
 induction fs with
 | nil=>cases h
 | cons f fs a=>
  rw[Aw,dG]
  by_cases e:f=g
  .rw[if_pos e,e]
  .rw[if_neg e];exact a ((Ba.mp h).resolve_left λz=>e z.symm)
abbrev pL(T:bJ->W)(fs:List bJ):List (List aF×W):=eA fK (λw=>w) (fs.map λf=>(f,T f))
theorem PU{T:bJ->W}{fs:List bJ}{g:bJ}(h:g∈fs):aX (pL T fs) (fK g)=some (T g):=by rw[nX nW,zhI h];rfl
theorem zhJ{T:bJ->W}(h:g∉fs):b9 (pL T fs) (fK g) (T g)=pL T (fs++[g]):=by
 refine(BL (f:=λw=>w) nW _ g (T g)).trans ?_;rw[wJ (by rw[<-Option.not_isSome_iff_eq_none,l9,Bo];exact λz=>h (by simpa using z))];show _=eA fK (λw=>w) ((fs++[g]).map λf=>(f,T f));rw[Bb];rfl
theorem zhK(h:C6 C ws M R):zhk C (bI R) (bT zhe ws) M:=by
 obtain⟨G,B,aP,rfl,w,ht,r⟩:=h;have hown:G.own=ownB G.rs:=funext w.own;have nd:=zhG w.ord;refine⟨_,rfl,G.rs,rfl,(Ay w.few (by decide)),aY.frz ⟨namesOf G.rs,rfl,xO w.few,λp hp=>⟨_,rfl,_,rfl,_,rfl,G,B,aP,rfl,w,ht,λP hP hcl=>aY.frz (gZ ?_)⟩⟩⟩;obtain⟨F,hF⟩:∃F,F=(B.map (·.1)).filter P:=⟨_,rfl⟩;rw[<-hF];have ndF:F.Nodup:=by rw[hF];exact nd.filter _
 have lF:F.length<=1000:=Ay (by rw[hF];exact Js _ _) (by rw[Ab];exact w.bl);refine eL (λj τ M'=>∃o7 o8 o9 o10 o11 o12,τ=[some (cI G.rs),some (n5 B),some (eP aP),some (.ref C.f),some (.ref C.g),some (.dk (ownOf G.rs)),some (.ref p),o7,o8,o9,o10,o11,o12]/\M'=put M p (.dT (pL (mB G B) (F.take j)))) ⟨_,_,_,_,_,_,rfl,rfl⟩ (λ_ _ _ _ _=>trivial) ?_ ?_
 .rintro j x τ M' hx ⟨o7,o8,o9,o10,o11,o12,rfl,rfl⟩;rw[Av]at hx;obtain⟨f,hf,rfl⟩:=Bd.mp hx;have hfm:f∈F:=Au hf;have hfm2:=hfm;rw[hF]at hfm2;obtain⟨hfB,hfP⟩:=Dj.mp hfm2;obtain⟨v,hv,lv⟩:=PM hfB;obtain⟨pre,post,sp⟩:=vP hv;obtain⟨ru,E⟩:=w.ord pre _ post sp;obtain⟨ru',h1,h2⟩:=tK (rs:=G.rs) (n:=v.2.1) (Ap.mp E.ru).1;cases (show some ru'=some ru from h1.symm.trans E.ru);have hpl:=w.pl ru (Au h1);have hcutl:v.2.2.length=ru.parts.length+1:=E.ln;have htk:F.take j=(pre.map (·.1)).filter P:=zhH ndF (by rw[hF,sp,Bb,Aw,List.filter_append,Dw,if_pos hfP]) hf;have hpf:∀k t,ru.parts[k]? = some t->G.own t=true->(t,v.2.2.getD k 0,v.2.2.getD (k+1) 0)∈F.take j:=λk t hk ho=>by
   have hg:(t,v.2.2.getD k 0,v.2.2.getD (k+1) 0)∈nZ G.own ru.parts v.2.2:=Kn.mpr ⟨(t,k),Ew.mpr hk,by rw[if_pos ho]⟩;rw[htk];refine Dj.mpr ⟨PQ E hg,hcl (f,v) (by rw[sp];simp) hfP _ ?_⟩;rw[PR E];exact hg
  have hnf:f∉F.take j:=λz=>by
   rw[htk]at z;have:=(Dj.mp z).1;rw[<-l9,E.no]at this;cases this
  refine⟨_,rfl,_,rfl,_,⟨fK f,rfl,lv.symm⟩,_,rfl,_,rfl,_,rfl,_,⟨fK f,rfl,lv.symm⟩,_,rfl,Bw _,λq hq=>?_⟩;have hpq:q≠p:=λe=>by rw[e,aR]at hq;cases hq
  have atp:∀{X Y:MO},put (put M p X) q Y p=some X:=λ{X Y}=>by rw[aQ (Bz hpq),aR]
  obtain⟨kids,hk⟩:∃kids,kids=rG G (λt _ _=>.str t) (mB G B) v.2.2 ru.parts:=⟨_,rfl⟩;have hkl:kids.length=ru.parts.length:=by rw[hk];unfold rG;rw[Ab,List.length_zipIdx]
  have hka:∀k t,ru.parts[k]? = some t->kids[k]? = some (if G.own t=true then mB G B (t,v.2.2.getD k 0,v.2.2.getD (k+1) 0) else .str t):=λk t ht=>by
   rw[hk];unfold rG;rw[Av,List.getElem?_zipIdx,ht,Mc];rfl
  refine⟨_,rfl,_,rfl,_,h2,_,rfl,_,rfl,?_⟩;refine eL (λk τ M'=>∃o11 o12,τ=[some (cI G.rs),some (n5 B),some (eP aP),some (.ref C.f),some (.ref C.g),some (.dk (ownOf G.rs)),some (.ref p),some (eP f),some (.int v.2.1),some (gL v.2.2),some (.ref q),o11,o12]/\M'=put (put M p (.dT (pL (mB G B) (F.take j)))) q (.lst (kids.take k))) ⟨_,_,rfl,rfl⟩ (λ_ _ _ _ _=>trivial) ?_ ?_
  .rintro k x τ M' hx ⟨o11,o12,rfl,rfl⟩;rw[vH,Av]at hx;cases hs:ru.parts[k]? with
   | none=>rw[hs]at hx;cases hx
   | some t=>
    rw[hs]at hx;cases hx;have hk1:=(Ap.mp hs).1;have ho:(aX (ownOf G.rs) (Sum.inr t:aF)).isSome=G.own t:=by rw[hown];exact pK G.rs t
    have lk:(kids.take k).length<An:=eS (by rw[Ce];lia);have c1:cA (v.2.2.map W.int) ((0+k:Nat):Int)=some (.int (v.2.2.getD k 0)):=by rw[Mc];exact xP (by lia)
    have c2:cA (v.2.2.map W.int) (((0+k:Nat):Int)+1)=some (.int (v.2.2.getD (k+1) 0)):=by rw[Mc];exact xP (k:=k+1) (by lia)
    have fin:∀y,kids[k]? = some y->put (put (put M p (.dT (pL (mB G B) (F.take j)))) q (.lst (kids.take k))) q (.lst (kids.take k++[y]))=put (put M p (.dT (pL (mB G B) (F.take j)))) q (.lst (kids.take (k+1))):=λy hy=>by rw[eW,Cu,hy];rfl
    refine⟨rfl,rfl,_,rfl,_,rfl,_,⟨Sum.inr t,rfl,rfl⟩,_,rfl,cP (λz=>?_) λz=>?_⟩
    .have z:=ho.symm.trans z;exact⟨_,rfl,iX aR,_,rfl,_,rfl,_,rfl,_,rfl,_,c1,_,rfl,_,rfl,_,c2,z3,oV (k:=fK (t,v.2.2.getD k 0,v.2.2.getD (k+1) 0)) atp (PU (hpf k t hs z)) ⟨_,aR,lk,_,Sub.refl _,_,_,rfl,fin _ (by rw[hka k t hs,if_pos z])⟩⟩
    .have z:=ho.symm.trans z;exact⟨_,rfl,iX aR,rfl,_,rfl,_,rfl,_,rfl,_,c1,_,rfl,_,rfl,_,c2,t,_,_,rfl,_,aR,lk,_,Sub.refl _,_,_,rfl,fin _ (by rw[hka k t hs,if_neg (ne_true_of_eq_false z)])⟩
  .rintro τ M' ⟨o11,o12,rfl,rfl⟩;rw[mW,Ab,<-hkl,Cd];have et:mB G B f=.tup [.int v.2.1,.tup kids]:=by rw[hk];exact zfa sp E
   refine⟨rfl,_,rfl,_,rfl,v.2.1,q,kids,rfl,aR,_,rfl,_,rfl,sP (k:=fK f) atp (eS (by rw[Ab,Ab,Ce];lia)) ?_⟩;rw[<-et,zhJ hnf,uQ hpq,eW];refine⟨_,Sub.new ?_,_,_,_,_,_,_,rfl,?_⟩
   .rw[aQ hpq];rw[aQ hpq]at hq;exact hq
   .rw[Cu,hf];rfl
 .rintro τ M' ⟨o7,o8,o9,o10,o11,o12,rfl,rfl⟩;rw[Ab,Cd];exact⟨_,rfl,_,rfl,oV (k:=fK aP) aR (PU (by rw[hF];exact Dj.mpr ⟨ht,hP⟩)) ⟨_,Sub.new hp,r⟩⟩
end Rg
namespace L2
open PySem PySem.Spec PyProof.Rows
section
variable {X:Cx}{pins:List (Addr×Obj)}{σ:St}{H:Hp}{s:Ah}{a:Addr}
theorem Inv.swap{F G:Heap->Prop}(I:Inv X pins σ H s)(e:H a=some (.ext F))(k:∀p,cC X.prog X.w p s.heap a (.ext G)):Inv X pins σ (aT H a (.ext G)) s:=by
 have ne:∀{b:Addr} {v:HO},H b=some v->v≠.ext F->b≠a:=λ{b v} f h z=>by subst z;rw[e]at f;exact h (Ci f).symm
 have j:∀{b:Addr},H b=none->b≠a:=λ{b} f z=>by subst z;rw[e]at f;cases f
 have g:∀b xs,H b=some (.tup xs)->aT H a (.ext G) b=some (.tup xs):=λb xs d=>by
  rw[bD (ne d (λz=>by cases z))];exact d
 have r:∀b y,H b=some (.own y)->aT H a (.ext G) b=some (.own y):=λb y d=>by
  rw[bD (ne d (λz=>by cases z))];exact d
 refine I.step (h':=s.heap) (g':=s.gens) (d':=s.drawn) (t':=s.toks) (ch:=[]) (λ_ z=>nomatch z) (λb o _ _ _ f _=>f) (λb o _ _ _ f _=>⟨o.slots,f⟩) (λb o _ _ n=>by rw[bD (j n)];exact n) (λb o _ f=>⟨o,f⟩) g
  (λb ob v d=>?_) (λb ps d=>⟨#[],?_⟩) (λm l=>l) (λb v d=>?_) I.bare
 .rw[bD (ne d (λz=>by cases z))];exact d
 .rw[bD (ne d (λz=>by cases z)),d];simp
 .by_cases i:b=a
  .subst i;rw[cU]at d;cases d;exact k _
  .rw[bD i]at d;exact(I.hok b v d).stay (λ_ _ _ q=>q) (λc q=>r c b q) g
def C9(P:Ax)(w:Bl)(tl:List Int)(a:Addr)(o:Obj)(n:Nat):It:=
 ⟨λi H=>(∃es,H a=some (.ext (iP P w tl a es o)))/\i<n,λi H x d=>d=H/\∃b en c ep,o.data=.dict c ep/\c[i]? = some en/\en.key=.ref b/\x=.ref b,λi H=>(∃es,H a=some (.ext (iP P w tl a es o)))/\n<=i⟩
theorem zhL{P:Ax}{w:Bl}{K:Ac}{u:Expr}{tl:List Int}(a j:Addr)(o:Obj)(f:Array Dn)(ep:Nat)(hd:o.data=.dict f ep)(hk:∀(i:Nat) (en:Dn),f[i]? = some en->∃b,en.key=.ref b):
  kW P w K u (C9 P w tl a o f.size) [j] j (λi h=>h.IsKeyIter j a i f.size ep) where
 mem:=by simp
 obj:=λi h st b g=>by
  have e:b=j:=by simpa using g
  subst e;obtain⟨o,e,c,d⟩:=st;exact⟨o,e,λv z=>by rw[d]at z;cases z⟩
 keep:=λi h h' st k=>st.at λo e=>k j (by simp) o e
 item:=by
  intro X m hw r hc i pins s σ H E I hf st l;subst m hw r;obtain⟨⟨es,p⟩,hi⟩:=l;have n:s.heap.get? a=some o:=(show cC X.prog X.w H s.heap a (.ext (iP X.prog X.w tl a es o)) from I.hok a _ p).1.1;obtain⟨b,g⟩:=hk i f[i] (by simp[hi]);obtain⟨B,x,F,y,C,t⟩:=hf j (by simp);refine yV st n hd hi λh' st' sb=>?_;have D:Inv X pins σ H {s with heap:=h'}:=I.turned (t':=s.toks) (λb o g e=>(sb.2 b g).trans e) B x y C t;obtain⟨G,e,c,d⟩:=id st';exact⟨_,rfl,rP (s:={s with heap:=h'}) e c d (by decide) ⟨.ref b,H,D,g,⟨rfl,b,_,_,_,hd,by simp[hi],g,rfl⟩,st',λb g=>(hf b g).1⟩⟩
 done:=by
  intro X m hw r hc i pins s σ H E I hf st l;subst m hw r;obtain⟨⟨es,p⟩,hi⟩:=l;have n:s.heap.get? a=some o:=(show cC X.prog X.w H s.heap a (.ext (iP X.prog X.w tl a es o)) from I.hok a _ p).1.1;refine yW (I.ok.hd hc) st n hd (by lia) λh' hk=>⟨rfl,?_⟩
  exact I.turnedT (tk:=s.toks) hf λq o A eq=>hk q o (λz=>A (by simp[z])) eq
 self:=λ_ _ _ _ _ st h=>Nj st h
end
end L2
namespace L3
open PySem PySem.Spec PyProof.Rows L2
section
variable {X:Cx}
def DA(P:Ax)(w:Bl)(tl:List Int):W->Mm->(List W->(Mm->Prop)->Mm->Prop)->Prop:=λx b R=>∃a kvs o,x=.ref a/\b a=some (.dh P w tl kvs o)/\R (kvs.map λp=>fW tl p.1) (λM=>M a=some (.dh P w tl kvs o)) b
theorem zhM{K:Ac}{B:Hp}{G:Mm}{P:Ax}{w:Bl}{tl:List Int}{a:Addr}{o:Obj}{kvs:List (bS×W)}{c:Array Dn}{ep:Nat}(hd:o.data=.dict c ep)(J:c.size=kvs.length):jJ K B G (C9 P w tl a o c.size) (kvs.map λp=>fW tl p.1) λM=>M a=some (.dh P w tl kvs o):=by
 refine⟨λi H M k d e hi=>?_,λH M k d e=>?_,λi H M x s k d e hi y=>?_⟩
 .obtain⟨es,f,_⟩:=d _ _ e;rw[Ab]at hi;exact⟨⟨es,f⟩,by lia⟩
 .obtain⟨es,f,_⟩:=d _ _ e;exact⟨⟨es,f⟩,by rw[Ab];lia⟩
 .obtain⟨rfl,b,en,l,v,g,E,A,rfl⟩:=y;cases hd.symm.trans g;obtain⟨es,f,⟨j,C,m,hsz,hz⟩,q⟩:=d _ _ e;cases hd.symm.trans m;obtain⟨z,z1,z2⟩:=hz i en E;rw[A]at z2;cases z2;have:∀{es:List (bS×Addr×V)} {kvs:List (bS×W)} {i:Nat},PN K s M tl es kvs->es[i]? = some z->∃p,kvs[i]? = some p/\z.1=p.1/\iQ s tl z.1 z.2.1:=by
   intro es kvs i r
   induction r generalizing i with
   | nil=>intro h;cases h
   | @cons p q ps qs n t u=>
    intro h;cases i with
    | zero=>cases h;exact⟨q,rfl,n.1,n.2.1⟩
    | succ i=>rw[Ez]at h⊢;exact u h
  obtain⟨p,F,D,I⟩:=this q z1;exact⟨fW tl p.1,by rw[Av,F];rfl,Kp.refl d,d,by rw[<-D];exact iQ.av I⟩
theorem zhN{m:Expr}{tl:List Int}:mS X m (sI X.K (DA X.prog X.w tl)):=by
 rintro pins s σ H x u E I v ⟨C,M,R,r,f,⟨a,kvs,o,rfl,e,h⟩,k⟩;obtain rfl:=r.inv;cases (show u=Value.ref a from v);obtain⟨es,t,⟨c,ep,hd,hsz,hz⟩,q⟩:=f _ _ e;have hl:=Cw q;have hh:=(show cC X.prog X.w H s.heap a (.ext (iP X.prog X.w tl a es o)) from I.hok a _ t).1;obtain⟨j,n,d,_,_,g,_⟩:=tF hh.2;have fp:∀b∈[s.heap.objs.size],hZ X pins H b:=λb p=>by
  have e:b=s.heap.objs.size:=by simpa using p
  subst e;exact I.fpOk (Ag _) (I.hok.fresh (Ag _))
 have d:gR s.heap a c ep:=by
  obtain⟨D,l,B,F⟩:=d;rw[hh.1]at l;cases l;exact⟨o,hh.1,B,hd⟩
 exact uP g d ⟨s.heap.objs.size,[s.heap.objs.size],_,C9 X.prog X.w tl a o c.size,H,rfl,I.kept (t':=s.toks) λb o e=>Ai _ e,zhL a _ o c ep hd (λi en A=>(hz i en A).elim λz y=>⟨_,y.2⟩),⟨_,Bc _ rfl,rfl,rfl⟩,fp,k _ _ _ _ _ (Kp.refl f) f (zhM hd (by lia)) h⟩
theorem zhO(hl:E3 X l tl):PI X a l (gT X.K (cB (DA X.prog X.w n) tl)):=u9 hl zhN
theorem DB{K:Ac}{H:Hp}{M:Mm}{a:Addr}{g o:MO}{u:HO}(f:AM K H M)(e:M a=some g):Go H M (aT H a u) (put M a o):=by
 have d:∀{b:Addr},M b=none->b≠a:=λ{b} h z=>by subst z;rw[e]at h;cases h
 refine⟨λb xs c=>?_,λb ob v c=>?_,λb v n c=>?_⟩
 .rw[bD (d (f.noTup c))];exact c
 .rw[bD (d (f.noFrz c))];exact c
 .rw[bD (d n),aQ (d n)];exact⟨c,n⟩
theorem PV{K:Ac}{H:Hp}{M:Mm}{a:Addr}{g o:MO}{u:HO}(f:AM K H M)(e:M a=some g)(i:AO K (aT H a u) (put M a o) a o):AM K (aT H a u) (put M a o)/\Kp H M (aT H a u) (put M a o):=by
 have go:Go H M (aT H a u) (put M a o):=DB f e;refine⟨λb h c=>?_,λb v n c=>go.hl b v n c,λb v c=>?_⟩
 .by_cases d:b=a
  .subst d;rw[aR]at c;cases c;exact i
  .rw[aQ d]at c;exact(f b h c).go go (bD d)
 .by_cases d:b=a
  .subst d;exact⟨_,cU⟩
  .obtain⟨y,q⟩:=(f b v c).has;exact⟨y,by rw[bD d];exact q⟩
def PX(P:Ax)(w:Bl)(tl:List Int)(d:aZ):aZ:=λc M R=>∃a kvs,M a=some (.dn P w tl kvs)/\∀o,d c (put M a (.dh P w tl kvs o)) λx b=>b a=some (.dh P w tl kvs o)/\R x (put b a (.dn P w tl kvs))
theorem zhP(h:E3 X e F):E3 X e (PX X.prog X.w tl F):=by
 rintro pins s σ H Q I ⟨τ,M,R,Y,i,⟨a,kvs,m,h'⟩,k⟩;obtain⟨es,C,q⟩:=i _ _ m;have E:=qS I C;obtain⟨f,ep,O,hsz,_,_,hz⟩:=tF E;obtain⟨o,S,hc,hd⟩:=O;have g:iP X.prog X.w tl a es o s.heap:=⟨S,E⟩;have P:=I.swap C (G:=iP X.prog X.w tl a es o) λ_=>g.ok;have go:Go H M (aT H a (.ext (iP X.prog X.w tl a es o))) (put M a (.dh X.prog X.w tl kvs o)):=DB i m;obtain⟨n,K⟩:=PV (o:=.dh X.prog X.w tl kvs o) (u:=.ext (iP X.prog X.w tl a es o)) i m ⟨es,cU,⟨f,ep,hd,hsz,λj en W=>(hz j en W).elim λz y=>⟨z,y.1,y.2.1⟩⟩,Paired.mapP q λp r z=>⟨z.1,let ⟨pa,n1,n2⟩:=z.2.1;⟨pa,go.ht _ _ n1,go.ht _ _ n2⟩,z.2.2.go go⟩⟩;refine a8 (h pins s σ _ (λx l=>∃b,l a=some (.ext (iP X.prog X.w tl a b o))/\Q x (aT l a (.ext (dU X.prog X.w tl a b)))) P ⟨τ,_,_,Y.kp i K,n,h' o,λv B w D T d av ⟨t,r⟩=>?_⟩) λv s1 ⟨x,l,L,Z,b,J,U⟩=>?_
 .obtain⟨b,e4,_,q4⟩:=d _ _ t;have c:Go B D (aT B a (.ext (dU X.prog X.w tl a b))) (put D a (.dn X.prog X.w tl kvs)):=DB d t;obtain⟨A,N⟩:=PV (o:=.dn X.prog X.w tl kvs) (u:=.ext (dU X.prog X.w tl a b)) d t ⟨b,cU,Paired.mapP q4 λp r z=>⟨z.1,let ⟨pa,n1,n2⟩:=z.2.1;⟨pa,c.ht _ _ n1,c.ht _ _ n2⟩,z.2.2.go c⟩⟩;exact⟨b,e4,k _ _ _ _ ((K.trans T).trans N) A (av.go c) r⟩
 .have V:=(show cC X.prog X.w l s1.heap a (.ext (iP X.prog X.w tl a b o)) from L.hok a _ J).1;exact⟨x,_,L.swap J (λ_=>dU.ok V.2),Z,U⟩
end
end L3
namespace Rg
open PySem PySem.Spec PyProof.Rows L2 L3
def DC(P:Ax)(w:Bl)(C:Addr):bF:=λws M R=>∃a d dx l,∃x:Str,ws=[.ref a,.str x]/\kT P w C M a d dx l/\l.length<=400/\R (.bl (l.any λz=>decide (x∈z.1.2))) M
abbrev zhQ:List Str:=["self","name"]
def zhR(P:Ax)(w:Bl)(C:Addr):aH:=
   (bU (bM z8 (aB (b5 (PX P w [0] (d7 (cB (DA P w [0]) (cZ C (aA 0) "backs")) (bB 0) fL (aD (rIn false) (aA 1) (aD aV (aA 0) (vC (.int 1)))) [none,some 1]))) aE)))
theorem zhS:∀ws M R,DC P w C ws M R->ws.length=2:=by rintro ws M R ⟨_,_,_,_,_,rfl,_⟩;rfl
theorem zhT(h:DC P w C ws M R):zhR P w C (bI R) (bT zhQ ws) M:=by
 obtain⟨a,d,dx,l,x,rfl,pl,hl,r⟩:=h;have g:a≠d:=λe=>by have f:=pl.ob;rw[e,pl.di]at f;cases f
 refine⟨d,kvsOf l,pl.di,λo=>?_⟩;have j:put M d (.dh P w [0] (kvsOf l) o) a=some (.ins C dx [("backs",.ref d)]):=by rw[aQ g];exact pl.ob
 have n:Cb ("backs" : Str) [(("backs" : Str),W.ref d)]=some (.ref d):=by rw[Ea,show(("backs" : Str)==("backs" : Str))=true by decide +kernel]
 refine⟨_,rfl,a,dx,_,_,rfl,j,n,d,kvsOf l,o,rfl,aR,?_⟩;have m:((kvsOf l).map λp=>fW [0] p.1)=(l.map λz=>g8 z.1).map bE:=by
  unfold kvsOf;rw[Bo,Bo];exact Ff λz _=>B1 z.1
 rw[m];refine oO (rest:=[some (.str x)]) (λw=>match w with|.tup [_,.tup ps,_]=>.bl (inW (.str x) ps)|_=>.non) (cJ (by rw[Ab,Ab];lia)) (λs sb=>sb _ _ aR) (λw hw s C sb f=>?_) λp c=>?_
 .obtain⟨q,t,rfl⟩:=Am.mp hw;exact⟨_,rfl,_,rfl,_,rfl,rfl,m8 _,f⟩
 .have b:p≠d:=λe=>by rw[e,aR]at c;cases c
  have i:M p=none:=by rw[aQ b]at c;exact c
  refine⟨by rw[aQ (Bz b),aR],?_⟩;rw[uQ b,eW,show put M d (.dn P w [0] (kvsOf l))=M from yY pl.di];refine J1 i ?_;have k:(((l.map λz=>g8 z.1).map bE).map λw=>match w with|.tup [_,.tup ps,_]=>W.bl (inW (.str x) ps)|_=>.non)=bools (l.map λz=>decide (x∈z.1.2)):=by
   unfold bools;rw[Bo,Bo,Bo];refine Ff λz _=>?_;show W.bl (inW (.str x) (z.1.2.map W.str))=.bl (decide (x∈z.1.2));rw[oX]
  rw[k];refine⟨_,rfl,_,Sub.refl _,?_⟩;rw[Lx];exact r
def DD(rs:List aI)(B:bL)(kvs:List (aF×W)):Prop:=∀t:Str,aX kvs (Sum.inr t:aF)=if cG B t=true then some (treeE rs B t) else none
def mD(x:g9):W:=.tup [.tup (x.1.map W.str),.tup x.2]
def DE(C:Cc):bF:=λws M R=>∃rs:List aI,ws=[cI rs,.rl [],.rl (rs.map λ_=>W.int 0)]/\d5 rs/\∀B,jC (eF rs []) B->kA (eA fK fR B) M R
def DF(C:Cc):bF:=λws M R=>∃rs:List aI,ws=[cI rs]/\d5 rs/\∀B kvs,jC (eF rs []) B->DD rs B kvs->lE kvs M R
def DG:bF:=λws M R=>∃rs:List aI,ws=[cI rs]/\d5 rs/\∀D,rH rs D->lE (D.map cL) M R
def DH:bF:=λws M R=>∃(rs:List aI) (D:List Str) (B:bL) (kvs:List (aF×W)) (ps:List Str),ws=[.tup (ps.map W.str),.dk (ownOf rs),.dk (D.map cL),.dk kvs]/\DD rs B kvs/\ps.length<=4/\R (.rl ((hV (cF rs D) (cG B) (treeE rs B) ps).map mD)) M
def DJ(P:Ax)(w:Bl)(C:Cc):bF:=λws M R=>∃(a d dx:Addr) (l:List (NP×W)) (rs:List aI) (X:Str) (D:List Str) (B:bL) (kvs:List (aF×W)),ws=[.ref a,cI rs,.str X,.dk (D.map cL),.dk kvs]/\kT P w C.p M a d dx l/\d5 rs/\gD rs (cF rs D) (cG B) (treeE rs B) l/\DD rs B kvs/\R .non (put M d (.dn P w [0] (kvsOf (rD rs (cF rs D) (cG B) (treeE rs B) l X))))
def xQ:bF:=λws M R=>∃rs:List aI,ws=[cI rs]/\d5 rs/\∀D B,rH rs D->jC (eF rs []) B->xM (fS rs D B) M R
def DK:bF:=λws M R=>∃(p:Addr) (a:aI) (ts:List aI),ws=[.ref p]/\M p=some (.lst ((a::ts).map bE))/\(a::ts).length<=400/\tQ (a::ts)/\(∀t∈a::ts,t.parts=[]->t.name=a.name/\∀t'∈a::ts,a.name∉t'.parts)/\R (.bl true) M
abbrev PY:bF:=sJ
abbrev zhU:List Str:=["grammar","row","weights"]
def zhV(C:Cc):aH:=
   (bU (bG (wN C) (aB (aA 0) (aB (b5 (bG CV (aB (aA 1) aE))) (aB (b5 (bG CW (aB (aA 1) aE))) (aB (aA 2) aE))))))
abbrev zhW:List Str:=["grammar","best"]
def zhX(C:Cc):aH:=
   (aM (a5 1 (BU (bG (DE C) (aB (aA 0) (aB (gV aE) (aB (b5 (bG xF (aB (aA 0) aE))) aE))))))
   (bU (bM AU (aB (b5 (d7 (cB rA (aA 1)) (bB 0) fL (bH (aB (aD aV (aA 0) (vC (.int 0))) (aB (bG (C7 C) (aB (aA 1) (aB (aA 2) (aB (aA 0) aE)))) aE))) [none,some 0,some 1])) aE))))
abbrev zhY:List Str:=["grammar","own","fruitful","rules","wordy","size","rule"]
def zhZ:aH:=
   (a5 1 (bG m9 (aB (b5 (bG kR (aB (aA 0) aE))) aE)))
def zh0:aH:=
   (a5 2 (b5 (bG CB (aB (aA 0) aE))))
def zh1:aH:=
   (a5 3 (b5 (d7 (cB cX (aA 0)) (bB 0) (gA (bM zG (aB (b5 (d7 (cB cX (aD aV (aA 0) (vC (.int 1)))) (bB 0) fL (sC (aD (rIn false) (aA 0) (aA 1)) (aD (rIn true) (aA 0) (aA 2))) [none,some 1,some 2])) aE))) (aA 0) [none,some 2,some 1])))
def PZ:aH:=
   (a5 4 u7)
def zh2:aH:=
   (a5 5 (lG lN (vC (.int 1))))
def zh3:aH:=
   (aM (a5 5 (bM dP (aB (aA 4) aE)))
   (eR (cB cX (aA 3)) (bB 6)
    (cV (gA (bM z8 (aB (b5 (d7 (cB cX (aD aV (aA 6) (vC (.int 1)))) (bB 0) fL (sC (aD (rIn false) (aA 0) (aA 1)) (aD (rIn true) (aA 0) (aA 2))) [none,some 4,some 1])) aE)))
    (iV (vC (.bl true)) (kG (aA 4) (aD aV (aA 6) (vC (.int 0)))))
    dQ)))
def zh4:aH:=
   (qH (bP (aD oK (aA 5) (bM dP (aB (aA 4) aE)))) zh3)
def zh5:aH:=
   (bU (aA 4))
def zh6:aH:=(aM zhZ (aM zh0 (aM zh1 (aM PZ (aM zh2 (aM zh4 zh5))))))
abbrev zh7:List Str:=["parts","own","wordy","empties","told","part","kept","left"]
def zh8:aH:=
   (a5 4 (gV (aB (bH (aB (bH aE) (aB (bH aE) aE))) aE)))
def zh9:aH:=
   (aM (a5 6 (b5 (d7 (cB kH (aA 4)) (iD 2 (dD (bB 0) (dD (bB 1) iC))) (iR (bP (aD (rIn false) (aA 2) (aA 3))) (bP (aD (rIn true) (aA 2) (aA 4)))) (bH (aB (aD rM (aA 0) (bH (aB (aA 2) aE))) (aB (aD rM (aA 1) (bH (aB (bM dP (aB (aA 0) aE)) aE))) aE))) [none,none,some 5,some 2,some 1])))
   (aM (a5 7 (b5 (d7 (cB kH (aA 4)) (iD 2 (dD (bB 0) (dD (bB 1) iC))) (bP (aD (rIn false) (aA 2) (aA 3))) (bH (aB (aA 0) (aB (aD rM (aA 1) (bH (aB (bH (aB (vC (.str "whole")) (aB (aD aV (aA 3) (aA 2)) aE))) aE))) aE))) [none,none,some 5,some 3])))
   (a5 4 (aD dY (aA 6) (aA 7)))))
def zia:aH:=
   (eR (cB cX (aA 0)) (bB 5) zh9)
def zib:aH:=
   (bU (aA 4))
def zic:aH:=(aM zh8 (aM zia zib))
abbrev zid:List Str:=["plain","grammar","name","wordy","empties","own","number","parts","pieces"]
def zie(P:Ax)(w:Bl)(C:Cc):aH:=
   (aM (a5 5 (bG m9 (aB (b5 (bG kR (aB (aA 1) aE))) aE)))
   (eR (cB cX (b5 (bG CS (aB (aA 1) (aB (aA 2) aE))))) (bB 6)
    (eR (cB kH (b5 (bG DH (aB (aD aV (aD aV (aA 1) (aA 6)) (vC (.int 1))) (aB (aA 5) (aB (aA 3) (aB (aA 4) aE))))))) (iD 2 (dD (bB 7) (dD (bB 8) iC)))
    (cV (kD (bP (aD (rEq true) (aA 7) (bH aE))) (bP (aD (rEq true) (aA 7) (bH (aB (aA 2) aE)))))
    (dB (fA C.p "put_rule" (rJ P w C.p) (aA 0) (aB (aA 2) (aB (aA 7) (aB (bH (aB (bH (aB (aA 6) (aB (aA 8) aE))) aE)) aE)))))
    dQ))))
abbrev zif:List Str:=["grammar","first","wordy","empties","plain","name","ahead","begin","told","begun"]
def zig(P:Ax)(w:Bl)(C:Cc):aH:=
   (a5 1 (bG v9 (aB (aA 0) aE)))
def zih(P:Ax)(w:Bl)(C:Cc):aH:=
   (a5 2 (b5 (bG DG (aB (aA 0) aE))))
def zii(P:Ax)(w:Bl)(C:Cc):aH:=
   (a5 3 (b5 (bG (DF C) (aB (aA 0) aE))))
def zij(P:Ax)(w:Bl)(C:Cc):aH:=
   (cV (kD (bP (aD (rIn true) (aA 1) (aA 2))) (bP (aD (rIn true) (aA 1) (aA 3))))
    (bU (bG CT (aB (aA 0) aE)))
    dQ)
def P0(P:Ax)(w:Bl)(C:Cc):aH:=
   (a5 4 (oS C.p (tO P w C.p) aE))
def zik(P:Ax)(w:Bl)(C:Cc):aH:=
   (dB (bG (DJ P w C) (aB (aA 4) (aB (aA 0) (aB (aA 5) (aB (aA 2) (aB (aA 3) aE)))))))
def P1(P:Ax)(w:Bl)(C:Cc):aH:=
   (eR (cB cX (b5 (bG kR (aB (aA 0) aE)))) (bB 5) (zik P w C))
def DL(P:Ax)(w:Bl)(C:Cc):aH:=
   (a5 6 (oS C.p (tO P w C.p) aE))
def P2(P:Ax)(w:Bl)(C:Cc):aH:=
   (cV (bP (aD (rIn false) (aA 1) (aA 3)))
    (aM (a5 7 (aA 1))
   (aM (cV (gA (fA C.p "is_part" (DC P w C.p) (aA 4) (aB (aA 1) aE)))
    (aM (a5 7 (aD aV (b5 (bG CC (aB (b5 (bG kR (aB (aA 0) aE))) (aB (vC (.int 1)) aE)))) (vC (.int 0))))
   (dB (fA C.p "put_rule" (rJ P w C.p) (aA 6) (aB (aA 7) (aB (bH (aB (aA 1) aE)) (aB (bH (aB (vC (.int 0)) aE)) aE))))))
    dQ)
   (dB (fA C.p "put_rule" (rJ P w C.p) (aA 6) (aB (aA 7) (aB (bH aE) (aB (bH (aB (bH (aB (vC (.str "whole")) (aB (aD aV (aA 3) (aA 1)) aE))) aE)) aE)))))))
    dQ)
def DM(P:Ax)(w:Bl)(C:Cc):aH:=
   (a5 8 (fA C.p "grammar_and_backs" (tP P w C.p) (aA 4) aE))
def DN(P:Ax)(w:Bl)(C:Cc):aH:=
   (a5 9 (fA C.p "grammar_and_backs" (tP P w C.p) (aA 6) aE))
def DO(P:Ax)(w:Bl)(C:Cc):aH:=
   (bU (bH (aB (aD uU (aD aV (aA 9) (vC (.int 0))) (aD aV (aA 8) (vC (.int 0)))) (aB (aD uU (aD aV (aA 9) (vC (.int 1))) (aD aV (aA 8) (vC (.int 1)))) aE))))
def zil(P:Ax)(w:Bl)(C:Cc):aH:=(aM (zig P w C) (aM (zih P w C) (aM (zii P w C) (aM (zij P w C) (aM (P0 P w C) (aM (P1 P w C) (aM (DL P w C) (aM (P2 P w C) (aM (DM P w C) (aM (DN P w C) (DO P w C)))))))))))
abbrev zim:List Str:=["told","first","name","parts","cost","within"]
def zin:aH:=
   (a5 1 (aD aV (aD aV (aA 0) (vC (.int 0))) (vC (.int 0))))
def zio:aH:=
   (aM (a5 5 (b5 (d7 (cB cX (aA 0)) (bB 0) (bP (aD (rIn false) (aA 1) (aD aV (aA 0) (vC (.int 1))))) (aA 0) [none,some 1])))
   (cV (kD (bP (aD (rEq false) (aA 3) (bH aE))) (iR (bP (aD (rEq true) (aA 2) (aA 1))) (bP (aD (rEq true) (aA 5) (gV aE)))))
    (bU (vC (.bl false)))
    dQ))
def ziq:aH:=
   (eR (cB kH (aA 0)) (iD 3 (dD (bB 2) (dD (bB 3) (dD (bB 4) iC)))) zio)
def zir:aH:=
   (bU (vC (.bl true)))
def zis:aH:=(aM zin (aM ziq zir))
abbrev zit:List Str:=["script","rules","grammar","found","told","backs","held","again"]
def ziu:aH:=
   (a5 1 (b5 (bG BJ (aB (vE (aA 0) (qE (vC (.int 1))) (qE (vC (.int 14)))) (aB (aD dY (vC (.int 1)) (aD aV (b5 (bG tI (aB (bG wA (aB (aA 0) (aB (vC (.int 0)) aE))) (aB (gV (aB (vC (.int 4)) aE)) aE)))) (vC (.int 0)))) (aB (vC (.int 4)) aE))))))
def ziv:aH:=
   (a5 2 (b5 (bG xG (aB (bM vD (aB (aA 1) aE)) aE))))
def ziw:aH:=
   (a5 3 (bG xQ (aB (aA 2) aE)))
def zix:aH:=
   (cV (iR (jV (gA (bM kJ (aB (aA 3) (aB (vC (.ty "tuple")) aE))))) (iR (bP (aD (rEq true) (bM dP (aB (aA 3) aE)) (vC (.int 2)))) (bP (aD (rEq true) (aA 2) (aA 1)))))
    (bU (vC (.bl false)))
    dQ)
def ziy:aH:=
   (iV (aA 3) (iD 2 (dD (bB 4) (dD (bB 5) iC))))
def ziz:aH:=
   (cV (iR (jV (gA (bM kJ (aB (aA 4) (aB (vC (.ty "list")) aE))))) (jV (gA (bM kJ (aB (aA 5) (aB (vC (.ty "list")) aE))))))
    (bU (vC (.bl false)))
    dQ)
def ziA:aH:=
   (cV (iR (bP (aD (rEq false) (aA 4) (gV aE))) (bP (aD (rEq true) (bM dP (aB (aA 4) aE)) (bM dP (aB (aA 5) aE)))))
    (bU (vC (.bl false)))
    dQ)
def ziB:aH:=
   (cV (iR (jV (gA (bG CF (aB (aA 4) aE)))) (iR (jV (gA (bG CG (aB (aA 1) (aB (aA 4) aE))))) (jV (gA (bG DK (aB (aA 4) aE))))))
    (bU (vC (.bl false)))
    dQ)
def ziC:aH:=
   (cV (kD (bP (aD (rEq true) (aD aV (aD aV (aA 4) (vC (.int 0))) (vC (.int 0))) (aD aV (aD aV (aA 1) (vC (.int 0))) (vC (.int 0))))) (bP (aD (rIn false) (aD aV (aD aV (aA 4) (vC (.int 0))) (vC (.int 0))) (b5 (d7 (cB cX (aA 1)) (bB 0) fL (aD aV (aA 0) (vC (.int 0))) [none])))))
    (bU (vC (.bl false)))
    dQ)
def P4:aH:=
   (a5 6 (bM vD (aB (aA 4) aE)))
def P5:aH:=
   (dB (oI "list" CL (aA 4)))
def P6:aH:=
   (dB (oI "list" CL (aA 5)))
def P7:aH:=
   (a5 7 (bG xQ (aB (aA 2) aE)))
def P8:aH:=
   (bU (sA (aD (rEq false) (aD aV (aA 7) (vC (.int 0))) (aA 6)) (sA (aD (rEq false) (bM dP (aB (aD aV (aA 7) (vC (.int 1))) aE)) (bM dP (aB (aA 6) aE))) (aD (rEq false) (b5 (bG xG (aB (bM vD (aB (aA 6) aE)) aE))) (aA 6)))))
def ziD:aH:=(aM ziu (aM ziv (aM ziw (aM zix (aM ziy (aM ziz (aM ziA (aM ziB (aM ziC (aM P4 (aM P5 (aM P6 (aM P7 P8)))))))))))))
theorem ziE:∀ws M R,DE C ws M R->ws.length=3:=by rintro ws M R ⟨_,rfl,_⟩;rfl
theorem ziF:∀ws M R,DF C ws M R->ws.length=1:=by rintro ws M R ⟨_,rfl,_⟩;rfl
theorem ziG:∀ws M R,DG ws M R->ws.length=1:=by rintro ws M R ⟨_,rfl,_⟩;rfl
theorem ziH:∀ws M R,DH ws M R->ws.length=4:=by rintro ws M R ⟨_,_,_,_,_,rfl,_⟩;rfl
theorem ziI:∀ws M R,DJ P w C ws M R->ws.length=5:=by rintro ws M R ⟨_,_,_,_,_,_,_,_,_,rfl,_⟩;rfl
theorem ziJ:∀ws M R,xQ ws M R->ws.length=1:=by rintro ws M R ⟨_,rfl,_⟩;rfl
theorem ziK:∀ws M R,DK ws M R->ws.length=1:=by rintro ws M R ⟨_,_,_,rfl,_⟩;rfl
theorem ziL:∀ws M R,PY ws M R->ws.length=1:=by rintro ws M R ⟨_,rfl,_⟩;rfl
theorem DP{rs:List aI}{keep:Mm->Prop}{h:d6}{j:aZ}{o:Option W}{rest:S3}{d:Mm}{R:K3}(f:aI->Option W)(hl:rs.length<=1000)(hk:∀M,L3.Sub d M->keep M)(s:∀q∈rs,∀M (C:K3) (D:Mm->Prop),L3.Sub d M->(∀y,f q=some y->C y M)->(f q=none->D M)->h (some (bE q)::rest) M λb g=>if b=true then j (some (bE q)::rest) g C else D g)(r:aY (rs.filterMap f) d R):kI (rs.map bE) keep (bB 0) h j (o::rest) d R:=by
 intro p a;refine⟨λi e acc M=>(∃o,e=o::rest)/\acc=(rs.take i).filterMap f/\M=d,⟨⟨_,rfl⟩,rfl,rfl⟩,?_,?_,?_⟩
 .rintro vs i e acc M _ k ⟨_,_,rfl⟩;exact hk _ (Sub.new a)
 .rintro vs i w e acc M hw k ⟨⟨o,rfl⟩,rfl,rfl⟩;rw[Av]at hw;obtain⟨q,l,rfl⟩:=Bd.mp hw;have tk:rs.take (i+1)=rs.take i++[q]:=by rw[Cu,l];rfl
  have c:((rs.take i).filterMap f).length<An:=eS (by have t:=List.length_filterMap_le f (rs.take i);rw[Ce]at t;lia);refine s q (Au l) _ _ _ (Sub.new a) (λy n=>⟨aR,c,M,by rw[j9 a];exact Sub.refl _,⟨_,rfl⟩,?_,rfl⟩) λm=>⟨aR,M,by rw[j9 a];exact Sub.refl _,⟨_,rfl⟩,?_,rfl⟩
  .rw[tk,List.filterMap_append];simp[n]
  .rw[tk,List.filterMap_append];simp[m]
 .rintro e acc M k ⟨_,rfl,rfl⟩;rw[Ab,Cd];exact r p a
theorem P9(rs:List aI)(p:aI->Bool):rs.filterMap (λq=>if p q=true then some (bE q) else none)=(rs.filter p).map bE:=by
 induction rs with
 | nil=>rfl
 | cons q rs a=>
  rw[Ed,Dw,a];cases p q<;>rfl
theorem QA{ts:List Str}{rest:S3}{g:aZ}{o:Option W}{keep:Mm->Prop}{M:Mm}{R:K3}(f:Str->Bool)(hl:ts.length<=1000)(hk:∀M,keep M)(d:∀t∈ts,∀c (C:K3),L3.Sub M c->C (.bl (f t)) c->g (some (.str t)::rest) c C)(r:R (.rl (bools (ts.map f))) M):
  kI (ts.map W.str) keep (bB 0) fL g (o::rest) M λw c=>frz w c R:=by
 refine vG (rest:=rest) (λw y=>∃t,w=.str t/\y=.bl (f t)) (cJ (by rw[Ab];lia)) (λ_ _=>hk _) (λw hw c C sb j=>?_) λys po=>aY.frz ?_
 .obtain⟨t,ht,rfl⟩:=Am.mp hw;exact d t ht c C sb (j _ ⟨t,rfl,rfl⟩)
 .have e:ys=bools (ts.map f):=by
   clear d r hl
   induction ts generalizing ys with
   | nil=>cases po;rfl
   | cons t ts h=>
    cases po with
    | cons a b=>
     obtain⟨t',i,rfl⟩:=a;cases i;rw[h _ b];rfl
  rw[e];exact r
theorem d5.few100(g:d5 rs):rs.length<=100:=Ay g.few (by decide)
theorem ziM(h:DE C ws M R):zhV C (bI R) (bT zhU ws) M:=by
 obtain⟨rs,rfl,g,r⟩:=h;have hf:=g.few;have ns:∀t p,pF [] t p=[]:=λt p=>by unfold pF;rw[if_neg (λz=>by have:=z.2;simp at this)]
 refine⟨_,rfl,_,rfl,[],rfl,by decide,aY.frz ⟨_,rfl,[],rfl,by decide,kA.frz ⟨_,rfl,?_⟩⟩⟩;refine⟨eF rs [],⟨rs,ownOf rs,nY []⟩,(eF rs []).places,5,1,?_,by show rs.length<=100;lia,rfl,⟨rfl,pK rs,λt p=>?_⟩,⟨λ_=>Ld _,λt p e c h=>by rw[(zeZ.mp h).2.2.2];exact Ld _⟩,⟨λp h=>h,λt p e c i a=>?_,Ag _,λr b=>?_⟩,by decide,?_,λt p=>?_,?_,λB d=>PK (r B d)⟩
 .show [_,_,_,_]=[_,_,_,_];congr 2;congr 2;show W.rl (rs.map λ_=>W.int 0)=W.rl ((Cr rs.length).map λn=>W.int 0);rw[Me,Me,Gy]
 .exact .inl ⟨rfl,ns t p⟩
 .rw[show(eF rs []).steps t p=[] from ns t p]at a;cases a
 .have:=g.prt r b;lia
 .show 1<=1000;decide
 .rw[show(eF rs []).steps t p=[] from ns t p];exact Bw _
 .have f:(jZ (eF rs [])).length=rs.length*1:=wR (eF rs []) rs.length;rw[f];show rs.length*1+rs.length*((5+1)*(1*1))*(1+1)+rs.length*((5+1)*(1*1))+1+1+1<10000000;lia
theorem DQ(h:jC (eF rs []) B)(hf:f∈B.map (·.1)):f.1∈namesOf rs/\f=(f.1,0,0):=by
 obtain⟨S,u,st,P,cur,T,A,w,rfl,_⟩:=h;obtain⟨⟨m,n,cut⟩,s⟩:=Fm.mp (l9.mpr hf);obtain⟨di,p,rfl⟩:=oR A.ob s;have ns:∀t p,pF [] t p=[]:=λt p=>by unfold pF;rw[if_neg (λz=>by have:=z.2;simp at this)]
 have v:qN (eF rs []) [0] rs.length (rs.foldl (λa r=>max a (r.parts.length+1)) 0):=by
  refine⟨λp o=>o,λt p e c _ h=>(by rw[show(eF rs []).steps t p=[] from ns t p]at h;cases h),Ag _,?_⟩;have mono:∀(l:List aI) (k:Nat),k<=l.foldl (λa r=>max a (r.parts.length+1)) k:=by
   intro l
   induction l with
   | nil=>intro k;exact Ag _
   | cons q l g=>intro k;exact Ay (Nat.le_max_left _ _) (g _)
  have:∀(l:List aI) (k:Nat),∀r∈l,r.parts.length+1<=l.foldl (λa r=>max a (r.parts.length+1)) k:=by
   intro l
   induction l with
   | nil=>intro k r d;cases d
   | cons q l g=>
    intro k r d;rcases Ba.mp d with rfl|d
    .exact Ay (Nat.le_max_right _ _) (mono l _)
    .exact g _ r d
  exact this rs 0
 obtain⟨j,i,_⟩:=sY v di;have a:=Aj.mp (j _ (L9 di.ne));have b:=Aj.mp (j _ (qO di.ne));have d:rs[n]? = some rs[n]:=Bj i;have e:cN (eF rs []) n=rs[n].name:=by unfold cN;rw[show(eF rs []).rs[n]? = some rs[n] from d]
 unfold cS;rw[a,b,e];exact⟨mX.mpr ⟨_,Lk i,rfl⟩,rfl⟩
theorem ziN(h:jC (eF rs []) B)(t:Str):cG B t=true↔pG rs t:=by
 unfold cG;rw[decide_eq_true_eq,ze3 h]
theorem ziO(g:d5 rs)(a:jC (eF rs []) B):Wb (eF rs []) B:=by
 refine⟨λt=>rfl,g.few100,ze9 a,?_,λr c=>Ay (g.prt r c) (by decide)⟩;have:=len_sub (b:=(namesOf rs).map λX=>(X,(0:Int),(0:Int))) (OS a) λf hf=>by
  obtain⟨d,e⟩:=DQ a hf;exact Am.mpr ⟨f.1,d,e.symm⟩
 rw[Ab,Ab]at this;have:=g.nam;lia
theorem QB{k:aF}{v:W}:∀{ps acc:List (aF×W)},(∀p∈ps,p.1=k->p.2=v)->aX (j0 acc ps) k=if (ps.any λp=>decide (p.1=k))=true then some v else aX acc k
 | [],acc,_=>rfl
 | p::ps,acc,h=>by
  show aX (j0 (b9 acc p.1 p.2) ps) k=_;rw[QB λq a=>h q (Ar _ a),oU,Eo]
  by_cases e:p.1=k
  .rw[if_pos e,decide_eq_true e,h p (Az ..) e];simp
  .rw[if_neg e,decide_eq_false e,Bool.false_or]
theorem ziP{R:List W->(Mm->Prop)->Mm->Prop}(h:R (kvs.map λp=>.tup (p.1.map wK)) (λ_=>True) M):rA (.ft kvs) M R:=h
theorem ziQ{C:Cc}{ws:List W}{M:Mm}{R:K3}(h:DF C ws M R):zhX C (bI R) (bT zhW ws) M:=by
 obtain⟨rs,rfl,g,r⟩:=h;refine⟨_,rfl,Bw _,_,rfl,rs,rfl,g.few100,aY.frz ⟨rs,rfl,g,λB hB p hp=>⟨p,rfl,.inr ⟨_,aR,?_⟩⟩⟩⟩;rw[j9 hp];have wb:=ziO g hB;refine⟨_,rfl,ziP ?_⟩;have e1:((eA fK fR B).map λp=>W.tup (p.1.map wK))=(B.map (·.1)).map eP:=by rw[Bo,Bo];rfl
 rw[e1];refine vG (rest:=[some (cI rs),some (n5 B)]) (λw y=>∃f∈B.map (·.1),w=eP f/\y=.tup [.str f.1,treeE rs B f.1]) (cJ (by rw[Ab,Ab];exact Ay wb.bl (by decide))) (λ_ _=>trivial) (λw hw M' C sb h1=>?_) λys po=>aY.frz ?_
 .obtain⟨f,hf,rfl⟩:=Am.mp hw;obtain⟨_,ef⟩:=DQ hB hf;refine⟨_,rfl,_,gF (j:=0) rfl,_,rfl,_,rfl,_,rfl,eF rs [],B,f,rfl,wb,hf,z2,h1 _ ⟨f,hf,rfl,?_⟩⟩;unfold treeE;rw[<-ef];rfl
 .have e:ys=kO ((B.map (·.1)).map λf=>((Sum.inr f.1:aF),treeE rs B f.1)):=by
   clear e1;generalize B.map (·.1)=fs at po⊢;have:∀(fs gs:List bJ) (ys:List W),Es (λw y=>∃f∈gs,w=eP f/\y=W.tup [.str f.1,treeE rs B f.1]) (fs.map eP) ys->ys=kO (fs.map λf=>((Sum.inr f.1:aF),treeE rs B f.1)):=by
    intro fs
    induction fs with
    | nil=>intro gs ys po;cases po;rfl
    | cons f fs ih=>
     intro gs ys po;cases po with
     | cons a b=>
      obtain⟨f',_,e2,rfl⟩:=a;have:f=f':=by
       obtain⟨x,y,z⟩:=f;obtain⟨x',y',z'⟩:=f';cases e2;rfl
      rw[this,ih _ _ b];rfl
   exact this fs fs ys po
  rw[e];refine⟨_,rfl,cJ (by unfold kO;rw[Ab,Ab,Ab];exact Ay wb.bl (by decide)),λq hq=>⟨_,Sub.refl _,r B _ hB (λt=>?_) q hq⟩⟩;rw[QB (v:=treeE rs B t) λp hp e=>?_]
  .have:(((B.map (·.1)).map λf=>((Sum.inr f.1:aF),treeE rs B f.1)).any λp=>decide (p.1=(Sum.inr t:aF)))=cG B t:=by
    unfold cG;rw[Dv,Ib,decide_eq_true_eq];constructor
    .rintro⟨x,hx,ex⟩;obtain⟨f,hf,rfl⟩:=Am.mp hx;have:=Sum.inr.inj (of_decide_eq_true ex);obtain⟨_,ef⟩:=DQ hB hf;rw[ef,this]at hf;exact hf
    .intro h;exact⟨_,Am.mpr ⟨_,h,rfl⟩,decide_eq_true rfl⟩
   rw[this];rfl
  .obtain⟨f,hf,rfl⟩:=Am.mp hp;rw[Sum.inr.inj e]
theorem ziR{ts:List Str}{f:Str->Bool}:(ts.map f).all id=ts.all f:=by rw[List.all_map];rfl
theorem ziS{ts:List Str}{f:Str->Bool}:(ts.map f).any id=ts.any f:=by rw[Lx];rfl
theorem QC{b:Bool}(h0:τ[0]? = some (some (.str t)))(hx:τ[1]? = some (some x))(hd:∀R:K3,R (.bl b) M->rIn false (.str t) x M R)(h2:τ[2]? = some (some (.dk (ownOf rs))))(r:R (.bl (b||!ownB rs t)) M):
  sC (aD (rIn false) (aA 0) (aA 1)) (aD (rIn true) (aA 0) (aA 2)) τ M R:=by
 refine⟨_,h0,_,hx,hd _ ⟨b,rfl,cP (λz=>?_) λz=>⟨_,h0,_,h2,_,⟨Sum.inr t,rfl,rfl⟩,?_⟩⟩⟩
 .rw[z]at r;exact r
 .show R (.bl (!(aX (ownOf rs) (Sum.inr t:aF)).isSome)) M;rw[z,Bool.false_or]at r;rw[pK];exact r
theorem ziT{ws:List W}{M:Mm}{R:K3}(h:DG ws M R):zh6 (bI R) (bT zhY ws) M:=by
 obtain⟨rs,rfl,g,r⟩:=h;have h17:=g.few;have h100:=g.few100;refine⟨_,rfl,rs,rfl,Ay h100 (by decide),aY.frz ⟨namesOf rs,rfl,xO h100,_,rfl,rs,rfl,g.gl,λkvs hk=>lE.frz ?_⟩⟩;have hfr:∀t:Str,(aX kvs (Sum.inr t:aF)).isSome=pD rs t:=hk;refine⟨_,rfl,gZ (DP (rest:=[some (.dk kvs),some (.dk (ownOf rs))]) (λq=>if q.parts.all (lY rs)=true then some (bE q) else none) (by lia) (λ_ _=>trivial) (λq hq M' C D sb h1 h2=>?_) (aY.frz ?_))⟩
 .have hp:=g.prt q hq;refine⟨_,rfl,_,rfl,C0 (QA (rest:=[some (.dk kvs),some (.dk (ownOf rs))]) (lY rs) (by lia) (λ_=>trivial) (λt ht M2 C2 sb2 h3=>QC (b:=pD rs t) rfl rfl (λR h=>⟨_,⟨Sum.inr t,rfl,rfl⟩,by show R (.bl (aX kvs (Sum.inr t:aF)).isSome) _;rw[hfr];exact h⟩) rfl h3) ⟨_,rfl,?_⟩)⟩;show yZ (.bl ((q.parts.map (lY rs)).all id)) _ _;rw[ziR];exact cP (λz=>⟨_,rfl,h1 _ (by rw[if_pos z])⟩) λz=>h2 (by rw[if_neg (by rw[z];exact Ao)])
 rw[P9];show(aM PZ _) _ [some (cI rs),some (.dk (ownOf rs)),some (.dk kvs),some (.rl ((gC rs).map bE)),none,none,none] _;refine λp hp=>?_;have lW:=λn=>Ay (Wd.rounds rs n).len g.nam;have lF:(gC rs).length<=17:=Ay (Js _ _) h17;refine⟨λm τ M'=>∃(n:Nat) (s:Int) (o6:Option W),τ=[some (cI rs),some (.dk (ownOf rs)),some (.dk kvs),some (.rl ((gC rs).map bE)),some (.ref p),some (.int s),o6]/\M'=put M p (.dK ((eE rs n).map cL))/\(s<(eE rs n).length\/∃k,n=k+1/\s=(eE rs k).length)/\m=2*(10-(eE rs n).length)+(if s<(eE rs n).length then 1 else 0),⟨_,0,_,_,rfl,rfl,.inl (by show(-1:Int)<0;decide),rfl⟩,?_⟩;rintro m τ M' ⟨n,s,o6,rfl,rfl,hs,rfl⟩;refine⟨_,rfl,_,rfl,.inr ⟨_,aR,_,rfl,cP (λz=>?_) λz=>?_⟩⟩
 .have z:=of_decide_eq_true z;rw[Ab]at z;rw[if_pos z];refine⟨_,rfl,.inr ⟨_,aR,_,rfl,gZ (eL (λj τ M'=>∃o6,τ=[some (cI rs),some (.dk (ownOf rs)),some (.dk kvs),some (.rl ((gC rs).map bE)),some (.ref p),some (.int ((eE rs n).map cL).length),o6]/\M'=put M p (.dK ((((gC rs).take j).foldl (fX rs) (eE rs n)).map cL))) ⟨_,rfl,rfl⟩ (λ_ _ _ _ _=>trivial) ?_ ?_)⟩⟩
  .rintro j x τ M' hx ⟨o6,rfl,rfl⟩;rw[Av]at hx;obtain⟨q,hq,rfl⟩:=Bd.mp hx;have hqm:=Au hq;have hp4:=g.prt q (B3.mp hqm).1;obtain⟨D,hD⟩:∃D,D=((gC rs).take j).foldl (fX rs) (eE rs n):=⟨_,rfl⟩;have wD:Wd rs D:=by rw[hD];exact(Wd.rounds rs n).fold λr hr=>Gx hr
   have lD:=Ay wD.len g.nam;have hnx:((gC rs).take (j+1)).foldl (fX rs) (eE rs n)=fX rs D q:=by rw[Cu,hq,Ei,<-hD];rfl
   rw[hnx,<-hD];refine⟨_,rfl,_,rfl,C0 (QA (rest:=[some (.ref p),some (.dk (ownOf rs))]) (cF rs D) (by lia) (λ_=>trivial) (λt ht M2 C2 sb2 h3=>QC (b:=decide (t∈D)) rfl rfl (λR h=>.inr ⟨_,.inl ⟨_,Sum.inr t,sb2 _ _ aR,rfl,rfl⟩,by show R (.bl (aX (D.map cL) (Sum.inr t:aF)).isSome) _;rw[tN];exact h⟩) rfl h3) ⟨_,rfl,?_⟩)⟩;show yZ (.bl ((q.parts.map (cF rs D)).any id)) _ _;rw[ziS];refine cP (λz=>⟨_,rfl,_,rfl,_,rfl,z7 aR (eS (by rw[Ab];lia)) ⟨_,Sub.refl _,_,rfl,?_⟩⟩) λz=>⟨_,Sub.refl _,_,rfl,?_⟩
   .rw[eW,wC];unfold fX;rw[if_pos z]
   .unfold fX;rw[if_neg (by rw[z];exact Ao)]
  .rintro τ M' ⟨o6,rfl,rfl⟩;have ek:((gC rs).take ((gC rs).map bE).length).foldl (fX rs) (eE rs n)=eE rs (n+1):=by rw[Ab,Cd];rfl
   rw[ek];refine⟨_,_,?_,Sub.refl _,n+1,_,_,rfl,rfl,.inr ⟨n,rfl,by rw[Ab]⟩,rfl⟩;obtain⟨q,hq⟩:=wY rs (gC rs) (eE rs n);have e:(eE rs (n+1)).length=(eE rs n).length+q.length:=by show(iK rs (eE rs n)).length=_;unfold iK;rw[hq,Ak]
   have:=lW (n+1);rw[Ab];split<;>lia
 .have z:=of_decide_eq_false z;rw[Ab]at z;rcases hs with hs|⟨k,rfl,rfl⟩
  .exact absurd hs z
  .have e:iK rs (eE rs k)=eE rs k:=zeT (by have:(eE rs (k+1)).length=(iK rs (eE rs k)).length:=rfl;lia);have e1:eE rs (k+1)=eE rs k:=e;exact⟨_,rfl,_,Sub.refl _,r _ ⟨k+1,rfl,by rw[e1];exact e⟩ p hp⟩
theorem QD{l:List g9}{keep:Mm->Prop}{o:d6}{n:aZ}{g e:Option W}{rest:S3}{d:Mm}{R:K3}(b:Bool)(f:g9->W)(hl:l.length<=1000)(hk:∀M,keep M)(q:∀x∈l,∀M (C:K3) (D:Mm->Prop),L3.Sub d M->(b=true->C (f x) M)->(b=false->D M)->o (some (.tup (x.1.map W.str))::some (.tup x.2)::rest) M λb m=>if b=true then n (some (.tup (x.1.map W.str))::some (.tup x.2)::rest) m C else D m)(r:R (.rl (if b=true then l.map f else [])) d):kI (l.map mD) keep zX o n (g::e::rest) d λw s=>frz w s R:=by
 intro p c;refine⟨λi k acc M=>(∃g e,k=g::e::rest)/\acc=(if b=true then(l.take i).map f else [])/\M=d,⟨⟨_,_,rfl⟩,by split<;>rfl,rfl⟩,λ_ _ _ _ _ _ _ _=>hk _,?_,?_⟩
 .rintro vs i w k acc M hw t ⟨⟨g,e,rfl⟩,rfl,rfl⟩;rw[Av]at hw;obtain⟨x,j,rfl⟩:=Bd.mp hw;have hi:=(Ap.mp j).1;have a:(if b=true then(l.take i).map f else []).length<An:=eS (by split<;>simp<;>lia);refine⟨rfl,rfl,q x (Au j) _ _ _ (Sub.new c) (λh=>⟨aR,a,M,by rw[j9 c];exact Sub.refl _,⟨_,_,rfl⟩,?_,rfl⟩) λh=>⟨aR,M,by rw[j9 c];exact Sub.refl _,⟨_,_,rfl⟩,?_,rfl⟩⟩
  .rw[if_pos h,if_pos h,Cu,j,Bb];rfl
  .rw[h];rfl
 .rintro k acc M t ⟨_,rfl,rfl⟩;rw[Ab,Cd];exact aY.frz r p c
theorem QE{keep drop:Str->Bool}{E:Str->W}(h:x∈hV keep drop E ps):x.1.length<=ps.length/\x.2.length<=ps.length:=by
 have:∀(ps:List Str) (told:List g9) (n:Nat),(∀y∈told,y.1.length<=n/\y.2.length<=n)->∀x∈ps.foldl (hJ keep drop E) told,x.1.length<=n+ps.length/\x.2.length<=n+ps.length:=by
  intro ps
  induction ps with
  | nil=>intro told n h x b;exact h x b
  | cons t ps c=>
   intro told n h x b;have:=c (hJ keep drop E told t) (n+1) (λy a=>?_) x b
   .rw[Br];lia
   .unfold hJ at a;rcases Bg.mp a with a|a
    .split at a
     .obtain⟨z,hz,rfl⟩:=Am.mp a;have:=h z hz;simp only[Ak,Bp];lia
     .cases a
    .split at a
     .obtain⟨z,hz,rfl⟩:=Am.mp a;have:=h z hz;simp only[Ak,Bp];lia
     .cases a
 have:=this ps [([],[])] 0 (λy a=>by rw[Aj.mp a];exact⟨Ag _,Ag _⟩) x h;lia
theorem ziU(h:R (.rl ws) M):frz (.rl ws) M R:=h
theorem d5.sh(g:d5 rs)(a:r∈rs)(ht:t∈r.parts):Sh t:=by
 rcases g.txt r a t ht with z|⟨q,b,e⟩
 .exact z.sh
 .rw[<-e];exact(g.hd q b).1.sh
theorem ziV{ws:List W}{M:Mm}{R:K3}(h:DH ws M R):zic (bI R) (bT zh7 ws) M:=by
 obtain⟨rs,D,B,kvs,ps,rfl,he,hp4,r⟩:=h;have hdk:∀t:Str,(aX kvs (Sum.inr t:aF)).isSome=cG B t:=λt=>by rw[he];split<;>simp_all
 refine⟨z0,z0,z2,z1,_,rfl,C0 (eL (ws:=ps.map W.str) (λi τ M'=>∃o5 o6 o7,τ=[some (.tup (ps.map W.str)),some (.dk (ownOf rs)),some (.dk (D.map cL)),some (.dk kvs),some (.rl ((hV (cF rs D) (cG B) (treeE rs B) (ps.take i)).map mD)),o5,o6,o7]/\M'=M) ⟨_,_,_,rfl,rfl⟩ (λ_ _ _ _ _=>trivial) ?_ ?_)⟩
 .rintro i x τ M' hx ⟨o5,o6,o7,rfl,rfl⟩;rw[Av]at hx;obtain⟨t,ht,rfl⟩:=Bd.mp hx;obtain⟨l,hl⟩:∃l,l=hV (cF rs D) (cG B) (treeE rs B) (ps.take i):=⟨_,rfl⟩;have l16:l.length<=16:=by rw[hl];exact O2 (by rw[Ce];lia)
  have lx:∀x∈l,x.1.length<=4/\x.2.length<=4:=λx hx=>by
   rw[hl]at hx;obtain⟨h1,h2⟩:=QE hx;rw[Ce]at h1 h2;exact⟨by lia,by lia⟩
  have hnx:hV (cF rs D) (cG B) (treeE rs B) (ps.take (i+1))=hJ (cF rs D) (cG B) (treeE rs B) l t:=by
   rw[Cu,ht,hl];unfold hV;rw[Ei];rfl
  rw[hnx,<-hl];refine⟨_,rfl,qW rfl (QD (rest:=[some (.str t),some (.dk (D.map cL)),some (.dk (ownOf rs))]) (cF rs D t) (λx=>mD (x.1++[t],x.2++[W.int x.1.length])) (by lia) (λ_=>trivial) (λx hx M C E sb h1 h2=>?_) ?_)⟩
  .obtain⟨x1,x2⟩:=lx x hx;have go:cF rs D t=true->bH (aB (aD rM (aA 0) (bH (aB (aA 2) aE))) (aB (aD rM (aA 1) (bH (aB (bM dP (aB (aA 0) aE)) aE))) aE)) (some (.tup (x.1.map W.str))::some (.tup x.2)::[some (.str t),some (.dk (D.map cL)),some (.dk (ownOf rs))]) M C:=λz=>by
    refine⟨_,rfl,_,rfl,z1,_,_,rfl,rfl,cJ (by rw[Ab];show _+1<=_;lia),_,rfl,_,rfl,z1,_,_,rfl,rfl,cJ (by show _+1<=_;lia),z2,?_⟩;have:=h1 z;unfold mD at this;rw[Bb]at this;rw[Ab];exact this
   refine⟨_,rfl,_,rfl,_,⟨Sum.inr t,rfl,rfl⟩,_,rfl,?_⟩;show if (aX (D.map cL) (Sum.inr t:aF)).isSome=true then _ else _;rw[tN];refine cP (λz=>go (by unfold cF;rw[z];rfl)) λz=>⟨_,rfl,_,rfl,_,⟨Sum.inr t,rfl,rfl⟩,_,rfl,?_⟩
   show if (!(aX (ownOf rs) (Sum.inr t:aF)).isSome)=true then _ else _;rw[pK];exact cP (λy=>go (by unfold cF;rw[y,Bool.or_true])) λy=>h2 (by unfold cF;rw[z,y];rfl)
  .refine⟨_,rfl,qW rfl (QD (rest:=[some (.str t),some (.dk kvs)]) (cG B t) (λx=>mD (x.1,x.2++[W.tup [.str "whole",treeE rs B t]])) (by lia) (λ_=>trivial) (λx hx M C E sb h1 h2=>?_) ?_)⟩
   .obtain⟨x1,x2⟩:=lx x hx;refine⟨_,rfl,_,rfl,_,⟨Sum.inr t,rfl,rfl⟩,_,rfl,?_⟩;show if (aX kvs (Sum.inr t:aF)).isSome=true then _ else _;rw[hdk];refine cP (λz=>?_) λz=>h2 z;have lk:some (treeE rs B t)=aX kvs (Sum.inr t:aF):=by rw[he,if_pos z]
    exact⟨_,rfl,_,rfl,_,rfl,_,rfl,_,⟨Sum.inr t,rfl,lk⟩,z2,z1,_,_,rfl,rfl,cJ (by show _+1<=_;lia),z2,h1 z⟩
   .refine⟨_,rfl,_,rfl,cJ ?_,?_⟩
    .split<;>split<;>simp<;>lia
    .have e:(if cF rs D t=true then l.map λx=>mD (x.1++[t],x.2++[W.int x.1.length]) else [])++(if cG B t=true then l.map λx=>mD (x.1,x.2++[W.tup [.str "whole",treeE rs B t]]) else [])=(hJ (cF rs D) (cG B) (treeE rs B) l t).map mD:=by
      unfold hJ;rw[Bb];congr 1
      .split
       .rw[Bo];rfl
       .rfl
      .split
       .rw[Bo];rfl
       .rfl
     rw[<-e];exact⟨_,Sub.refl _,_,_,_,rfl,rfl⟩
 .rintro τ M' ⟨o5,o6,o7,rfl,rfl⟩;rw[Ab,Cd];exact⟨_,rfl,_,Sub.refl _,r⟩
section
variable {P:Ax}{w:Bl}{C:Cc}
theorem xR{keep drop:Str->Bool}{E:Str->W}{n:Nat}(a:rs[n]? = some r)(en:r.name=X):∀{ys:List g9} {l:List (NP×W)},(∀y∈ys,y∈hV keep drop E r.parts)->gD rs keep drop E l->gD rs keep drop E (((ys.filter (hW X)).map (jM X n)).foldl dN l)
 | [],l,_,b=>b
 | y::ys,l,h,b=>by
  have c:=λx d=>h x (Ar _ d);rw[Dw];split
  .refine xR a en (ys:=ys) c ?_;rw[<-en];exact b.add a (h y (Az ..))
  .exact xR a en c b
theorem QF{keep drop:Str->Bool}{E:Str->W}{n:Nat}(a:rs[n]? = some r)(l:List (NP×W)):pH rs keep drop E X l n=(((hV keep drop E r.parts).filter (hW X)).map (jM X n)).foldl dN l:=by
 unfold pH rC;rw[a]
theorem DR{keep drop:Str->Bool}{E:Str->W}:∀{ns:List Nat} {l:List (NP×W)},(∀n∈ns,n∈numsOf rs X)->gD rs keep drop E l->gD rs keep drop E (ns.foldl (pH rs keep drop E X) l)
 | [],l,_,b=>b
 | n::ns,l,h,b=>by
  obtain⟨r,a,en⟩:=wX.mp (h n (Az ..));refine DR (ns:=ns) (λm c=>h m (Ar _ c)) ?_;rw[QF a];exact xR a en (λ_ h=>h) b
theorem QG:∀{a b:List Str},a.map W.str=b.map W.str->a=b
 | [],[],_=>rfl
 | [],_::_,h=>nomatch h
 | _::_,[],h=>nomatch h
 | x::a,y::b,h=>by
  rw[Aw,Aw,Ct,W.str.injEq]at h;rw[h.1,QG h.2]
theorem QH:(W.tup l=W.tup [])↔l=[]:=⟨λh=>by injection h,λh=>by rw[h]⟩
theorem ziW(h:DJ P w C ws M R):zie P w C (bI R) (bT zid ws) M:=by
 obtain⟨a,d,dx,l,rs,X,D,B,kvs,rfl,pl,g,bt,he,r⟩:=h;have f:=g.few100;refine⟨_,rfl,rs,rfl,Ay f (by decide),aY.frz ⟨namesOf rs,rfl,xO f,_,rfl,_,rfl,rs,X,rfl,f,aY.frz (gZ ?_)⟩⟩;refine eL (λi F v=>∃Q o k,F=[some (.ref a),some (cI rs),some (.str X),some (.dk (D.map cL)),some (.dk kvs),some (.dk (ownOf rs)),Q,o,k]/\v=put M d (.dn P w [0] (kvsOf (((numsOf rs X).take i).foldl (pH rs (cF rs D) (cG B) (treeE rs B) X) l)))) ⟨_,_,_,rfl,(zgR pl.di).symm⟩ (λ_ _ _ _ _=>trivial) ?_ ?_
 .rintro i y F v q ⟨Q,o,k,rfl,rfl⟩;rw[Av]at q;obtain⟨n,hn,rfl⟩:=Bd.mp q;obtain⟨ru,b,en⟩:=wX.mp (Au hn);obtain⟨S,h1,h2⟩:=tK (rs:=rs) (n:=n) (Ap.mp b).1;cases (show some S=some ru from h1.symm.trans b);have Z:=g.prt ru (Au b);obtain⟨s,u⟩:∃s,s=((numsOf rs X).take i).foldl (pH rs (cF rs D) (cG B) (treeE rs B) X) l:=⟨_,rfl⟩;have H:gD rs (cF rs D) (cG B) (treeE rs B) s:=by rw[u];exact DR (λm hm=>Gx hm) bt
  obtain⟨ys,p⟩:∃ys,ys=hV (cF rs D) (cG B) (treeE rs B) ru.parts:=⟨_,rfl⟩;have Y:((numsOf rs X).take (i+1)).foldl (pH rs (cF rs D) (cG B) (treeE rs B) X) l=((ys.filter (hW X)).map (jM X n)).foldl dN s:=by
   rw[Cu,hn,Ei,<-u,p];exact QF b s
  rw[Y,<-u];refine⟨_,rfl,_,rfl,_,h2,_,rfl,_,rfl,_,rfl,_,rfl,rs,D,B,kvs,ru.parts,rfl,he,Z,?_⟩;rw[<-p];have yl:∀y∈ys,y.1.length<=4/\∀t∈y.1,t∈ru.parts:=λy q=>by
   rw[p]at q;obtain⟨q1,_⟩:=QE q;obtain⟨y0,V,l,O,e2,e3⟩:=B4 (show y∈ru.parts.foldl _ [([],[])] from q);rw[Aj.mp V]at O;have O:y.1=l:=O;exact⟨by lia,λt ht=>(e2 t (by rw[<-O];exact ht)).1⟩
  refine ziU (qW rfl (eL (ws:=ys.map mD) (λj F v=>∃o k,F=[some (.ref a),some (cI rs),some (.str X),some (.dk (D.map cL)),some (.dk kvs),some (.dk (ownOf rs)),some (.int n),o,k]/\v=put M d (.dn P w [0] (kvsOf ((((ys.take j).filter (hW X)).map (jM X n)).foldl dN s)))) ⟨_,_,rfl,rfl⟩ (λ_ _ _ _ _=>trivial) ?_ ?_))
  .rintro j y F v q ⟨o,k,rfl,rfl⟩;rw[Av]at q;obtain⟨y,J,rfl⟩:=Bd.mp q;have T:=Au J;obtain⟨y4,yp⟩:=yl y T;obtain⟨c,A⟩:∃c,c=(((ys.take j).filter (hW X)).map (jM X n)).foldl dN s:=⟨_,rfl⟩;have G:gD rs (cF rs D) (cG B) (treeE rs B) c:=by rw[A];exact xR b en (λz hz=>by rw[<-p];exact Gx hz) H
   have f2:=G.few g;have U:(((ys.take (j+1)).filter (hW X)).map (jM X n)).foldl dN s=if hW X y=true then dN c (jM X n y) else c:=by
    rw[Cu,J,List.filter_append,Bb,Ei,<-A];show((([y].filter (hW X)).map (jM X n)).foldl dN c)=_;rw[Dw];split<;>rfl
   rw[U,<-A];have I:∀t∈y.1,Sh t:=λt ht=>g.sh (Au b) (yp t ht);have Xsh:∀t∈[X],Sh t:=λt ht=>by rw[Aj.mp ht,<-en];exact(g.hd ru (Au b)).1.sh
   have no:hW X y=false->∃N,L3.Sub N (put M d (.dn P w [0] (kvsOf c)))/\∃o k,[some (W.ref a),some (cI rs),some (.str X),some (.dk (D.map cL)),some (.dk kvs),some (.dk (ownOf rs)),some (.int n),some (.tup (y.1.map W.str)),some (.tup y.2)]=[some (W.ref a),some (cI rs),some (.str X),some (.dk (D.map cL)),some (.dk kvs),some (.dk (ownOf rs)),some (.int n),o,k]/\N=put M d (.dn P w [0] (kvsOf (if hW X y=true then dN c (jM X n y) else c))):=λz=>⟨_,Sub.refl _,_,_,rfl,by rw[z];rfl⟩
   refine⟨rfl,rfl,_,rfl,z0,sL 2 (by decide) (rK I) (rK (ps:=[]) (λt ht=>nomatch ht)) λH K=>⟨_,rfl,cP (λx=>?_) λx=>no ?_⟩⟩
   .have x:H=false:=by cases H;rfl;cases x
    have n1:y.1≠[]:=λz=>by
     have:=K.mpr (by show W.tup (y.1.map W.str)=W.tup [];rw[z];rfl);rw[x]at this;cases this
    refine⟨_,rfl,_,rfl,z1,sL 2 (by decide) (rK I) (rK (ps:=[X]) Xsh) λG L=>⟨_,rfl,cP (λE=>?_) λE=>no ?_⟩⟩
    .have E:G=false:=by cases G;rfl;cases E
     have n2:y.1≠[X]:=λz=>by
      have:=L.mpr (by show W.tup (y.1.map W.str)=W.tup ([X].map W.str);rw[z]);rw[E]at this;cases this
     refine⟨_,rfl,a,dx,_,rfl,(pl.putD c).ob,tR,_,rfl,_,rfl,_,rfl,_,rfl,z2,z1,a,d,dx,c,(X,y.1),_,rfl,pl.putD c,by lia,_,Sub.refl _,_,_,rfl,?_⟩;rw[eW,if_pos (show hW X y=true by unfold hW;rw[decide_eq_true n1,decide_eq_true n2];rfl)];rfl
    .have E:G=true:=by cases G;cases E;rfl
     have e:y.1=[X]:=QG (by have:=L.mp E;injection this);unfold hW;rw[e];simp
   .have x:H=true:=by cases H;cases x;rfl
    have e:y.1=[]:=Ij.mp (QH.mp (K.mp x));unfold hW;rw[e];simp
  .rintro F v ⟨o,k,rfl,rfl⟩;rw[Ab,Cd];exact⟨_,Sub.refl _,_,_,_,rfl,rfl⟩
 .rintro F v ⟨Q,o,k,rfl,rfl⟩;rw[Ab,Cd];exact⟨_,Sub.refl _,r⟩
end
section
variable {P:Ax}{w:Bl}{C:Cc}
def kL(l:List (NP×W)):List W:=(l.map λz=>g8 z.1).map bE
def vL(l:List (NP×W)):List W:=l.map λz=>z.2
theorem QI(l:List (NP×W)):((kvsOf l).map λz=>fW [0] z.1)=kL l:=by
 unfold kvsOf kL;rw[Bo,Bo];exact Ff λz _=>B1 z.1
theorem QJ(l:List (NP×W)):((kvsOf l).map λz=>z.2)=vL l:=by unfold kvsOf vL;rw[Bo];rfl
theorem ziX:Cb ("is_part" : Str) [(("backs" : Str),W.ref d)]=none:=by
 rw[Ea,show(("is_part" : Str)==("backs" : Str))=false by decide +kernel];rfl
theorem ziY{rs:List aI}{keep drop:Str->Bool}{E:Str->W}{a:List Str}:gD rs keep drop E (a.foldl (rD rs keep drop E) []):=by
 have:∀(a:List Str) (l:List (NP×W)),gD rs keep drop E l->gD rs keep drop E (a.foldl (rD rs keep drop E) l):=by
  intro a
  induction a with
  | nil=>intro l b;exact b
  | cons X a c=>intro l b;exact c _ (DR (λ_ h=>h) b)
 exact this a [] (gD.nil _ _ _)
theorem ziZ(h:b.1≠a.1):dN (dN [] a) b=[a,b]:=by
 show dN [a] b=_;unfold dN;rw[if_neg (by rw[Aw,Hz,Aj];exact h)];rfl
theorem zi0(h:xQ ws M R):zil P w C (bI R) (bT zif ws) M:=by
 obtain⟨rs,rfl,g,r⟩:=h;have h100:=g.few100;obtain⟨q0,l,e0⟩:∃q l,rs=q::l:=by
  cases rs with
  | nil=>exact absurd rfl g.ne
  | cons q l=>exact⟨q,l,rfl⟩
 have ef:bN rs=q0.name:=by rw[e0];rfl
 refine⟨_,rfl,q0,l,by rw[e0];rfl,_,rfl,rs,rfl,g,λD hD=>lE.frz ⟨_,rfl,rs,rfl,g,λB kvs hB he=>lE.frz ?_⟩⟩;have r:=r D B hD hB;have hdk:∀t:Str,(aX kvs (Sum.inr t:aF)).isSome=cG B t:=λt=>by rw[he];split<;>simp_all
 obtain⟨F,hF⟩:∃F,F=bN rs:=⟨_,rfl⟩;rw[<-ef,<-hF];have go:¬(F∉D/\cG B F=false)->(aM (P0 P w C) (aM (P1 P w C) (aM (DL P w C) (aM (P2 P w C) (aM (DM P w C) (aM (DN P w C) (DO P w C))))))) (bI R) [some (cI rs),some (.str F),some (.dk (D.map cL)),some (.dk kvs),none,none,none,none,none,none] M:=λhc=>by
  have er:fS rs D B=jN rs D B++gM rs D B:=by unfold fS;rw[if_neg (by rw[<-hF];exact hc)]
  rw[er]at r;refine λa dx ha hdx hne=>⟨a,dx,rfl,aR,λd hd=>⟨rfl,?_⟩⟩
  have had:a≠d:=λe=>by rw[<-e,aR]at hd;cases hd
  rw[aQ (Bz had)]at hd;rw[Bt.first had];refine⟨_,rfl,rs,rfl,Ay h100 (by decide),aY.frz (gZ ?_)⟩;refine eL (λi τ M'=>∃o5,τ=[some (cI rs),some (.str F),some (.dk (D.map cL)),some (.dk kvs),some (.ref a),o5,none,none,none,none]/\M'=Bt P w C.p M a d dx (((namesOf rs).take i).foldl (rD rs (cF rs D) (cG B) (treeE rs B)) [])) ⟨_,rfl,rfl⟩ (λ_ _ _ _ _=>trivial) ?_ ?_
  .rintro i v τ M' hv ⟨o5,rfl,rfl⟩;rw[Av]at hv;obtain⟨X,hX,rfl⟩:=Bd.mp hv;refine⟨_,rfl,_,rfl,_,rfl,_,rfl,_,rfl,a,d,dx,_,rs,X,D,B,kvs,rfl,Bt.pl had,g,ziY,he,_,Sub.refl _,some (.str X),rfl,?_⟩;rw[Bt.put,Cu,hX,Ei];rfl
  .rintro τ M' ⟨o5,rfl,rfl⟩;rw[Ab,Cd];show(aM (DL P w C) _) _ _ (Bt P w C.p M a d dx (gM rs D B));obtain⟨T,hT⟩:∃T,T=gM rs D B:=⟨_,rfl⟩;have lT:T.length<=272:=by rw[hT];exact(O3 (rs:=rs) (cF rs D) (cG B) (treeE rs B)).few g
   rw[<-hT];rw[<-hT]at r;have sb1:L3.Sub M (Bt P w C.p M a d dx T):=Bt.sub ha hd had;have pl1:kT P w C.p (Bt P w C.p M a d dx T) a d dx T:=Bt.pl had;generalize hM1:Bt P w C.p M a d dx T=M1 at sb1 pl1;refine λa2 dx2 ha2 hdx2 hne2=>⟨a2,dx2,rfl,aR,λd2 hd2=>⟨rfl,?_⟩⟩
   have had2:a2≠d2:=λe=>by rw[<-e,aR]at hd2;cases hd2
   rw[aQ (Bz had2)]at hd2;rw[Bt.first had2];have sb2:∀l,L3.Sub M (Bt P w C.p M1 a2 d2 dx2 l):=λl=>sb1.trans (Bt.sub ha2 hd2 had2);have pl2:∀l,kT P w C.p (Bt P w C.p M1 a2 d2 dx2 l) a d dx T:=λl=>⟨Bt.sub ha2 hd2 had2 _ _ pl1.ob,Bt.sub ha2 hd2 had2 _ _ pl1.di⟩
   have fin:∀(lb:List (NP×W)) (o7:Option W),lb.length<=2->xM (lb++T) M R->(aM (DM P w C) (aM (DN P w C) (DO P w C))) (bI R) [some (cI rs),some (.str F),some (.dk (D.map cL)),some (.dk kvs),some (.ref a),o5,some (.ref a2),o7,none,none] (Bt P w C.p M1 a2 d2 dx2 lb):=λlb o7 HB r=>by
    refine⟨_,rfl,a,dx,_,rfl,(pl2 lb).ob,CI,a,d,dx,_,rfl,pl2 lb,λt0 t1 ht0 ht1 tne=>?_⟩;rw[QI,QJ];have ht1':put (Bt P w C.p M1 a2 d2 dx2 lb) t0 (.lst (kL T)) t1=none:=by rw[aQ (Bz tne)];exact ht1
    have sb3:=(Sub.new (o:=.lst (kL T)) ht0).trans (Sub.new (o:=.lst (vL T)) ht1');have pl3:kT P w C.p (put (put (Bt P w C.p M1 a2 d2 dx2 lb) t0 (.lst (kL T))) t1 (.lst (vL T))) a2 d2 dx2 lb:=⟨sb3 _ _ (Bt.pl had2).ob,sb3 _ _ (Bt.pl had2).di⟩;have m0:put (put (Bt P w C.p M1 a2 d2 dx2 lb) t0 (.lst (kL T))) t1 (.lst (vL T)) t0=some (.lst (kL T)):=by rw[aQ tne,aR]
    have m1:put (put (Bt P w C.p M1 a2 d2 dx2 lb) t0 (.lst (kL T))) t1 (.lst (vL T)) t1=some (.lst (vL T)):=aR;have sb4:=(sb2 lb).trans sb3;generalize put (put (Bt P w C.p M1 a2 d2 dx2 lb) t0 (.lst (kL T))) t1 (.lst (vL T))=M3 at pl3 m0 m1 sb4;refine⟨_,rfl,a2,dx2,_,rfl,pl3.ob,CI,a2,d2,dx2,_,rfl,pl3,λb0 b1 hb0 hb1 bne=>?_⟩;rw[QI,QJ];have hb1':put M3 b0 (.lst (kL lb)) b1=none:=by rw[aQ (Bz bne)];exact hb1
    have sb5:=(Sub.new (o:=.lst (kL lb)) hb0).trans (Sub.new (o:=.lst (vL lb)) hb1');have n0:put (put M3 b0 (.lst (kL lb))) b1 (.lst (vL lb)) b0=some (.lst (kL lb)):=by rw[aQ bne,aR]
    have n1:put (put M3 b0 (.lst (kL lb))) b1 (.lst (vL lb)) b1=some (.lst (vL lb)):=aR;have m0:=sb5 _ _ m0;have m1:=sb5 _ _ m1;have sb6:=sb4.trans sb5;generalize put (put M3 b0 (.lst (kL lb))) b1 (.lst (vL lb))=M4 at n0 n1 m0 m1 sb6;have kl:(kL lb).length+(kL T).length<=1000:=by unfold kL;rw[Ab,Ab,Ab,Ab];lia
    have vl:(vL lb).length+(vL T).length<=1000:=by unfold vL;rw[Ab,Ab];lia
    refine⟨_,rfl,_,rfl,_,rfl,_,rfl,_,_,n0,m0,cJ (by lia),λx hx=>?_⟩;refine⟨_,rfl,_,rfl,_,rfl,_,rfl,_,_,Sub.new hx _ _ n1,Sub.new hx _ _ m1,cJ (by lia),λy hy=>⟨z2,_,?_,r x y (sb6.non hx) ?_ ?_⟩⟩
    .have ek:kL lb++kL T=((lb++T).map λz=>g8 z.1).map bE:=by unfold kL;rw[Bb,Bb]
     have ev:vL lb++vL T=(lb++T).map λz=>z.2:=by unfold vL;rw[Bb]
     rw[ek,ev];exact Sub.put (Sub.put sb6)
    .exact sb6.non ((Sub.new hx).non hy)
    .exact λe=>by rw[e,aR]at hy;cases hy
   have ehd:jN rs D B=if cG B F=true then(if mC T F=true then [((gN rs,[F]),.tup [.int 0]),((gN rs,[]),.tup [.tup [.str "whole",treeE rs B F]])] else [((F,[]),.tup [.tup [.str "whole",treeE rs B F]])]) else []:=by
    rw[hT,hF];rfl
   refine⟨_,rfl,_,rfl,_,⟨Sum.inr F,rfl,rfl⟩,_,rfl,?_⟩;show if (aX kvs (Sum.inr F:aF)).isSome=true then _ else _;rw[hdk];refine cP (λy1=>?_) λy1=>fin [] _ (Bw _) (by rw[ehd,y1]at r;exact r);have lk:some (treeE rs B F)=aX kvs (Sum.inr F:aF):=by rw[he,if_pos y1]
   rw[ehd,if_pos y1]at r;refine⟨_,rfl,_,rfl,a,dx,_,rfl,(pl2 []).ob,ziX,_,rfl,a,d,dx,T,F,rfl,pl2 [],by lia,?_⟩;show if mC T F=true then _ else _;refine cP (λy2=>?_) λy2=>?_
   .rw[if_pos y2]at r;obtain⟨mk1,_,_⟩:=tM g;refine⟨_,rfl,rs,rfl,Ay h100 (by decide),aY.frz ⟨namesOf rs,1,rfl,by have:=g.nam;lia,aY.frz ?_⟩⟩;rw[mk1];refine⟨_,gF (j:=0) rfl,?_⟩;refine⟨_,rfl,a2,dx2,_,rfl,(Bt.pl had2).ob,tR,_,rfl,_,rfl,z1,z1,a2,d2,dx2,[],(gN rs,[F]),_,rfl,Bt.pl had2,Bw _,?_⟩;rw[Bt.put];refine⟨_,rfl,a2,dx2,_,rfl,(Bt.pl had2).ob,tR,_,rfl,z0,_,rfl,_,rfl,_,⟨Sum.inr F,rfl,lk⟩,z2,z1,a2,d2,dx2,_,(gN rs,[]),_,rfl,Bt.pl had2,Nat.le_of_ble_eq_true rfl,?_⟩;rw[Bt.put,ziZ (λe=>by injection e with _ e;cases e)];exact fin _ _ (Ag _) r
   .rw[if_neg (by rw[y2];exact Ao)]at r;refine⟨_,rfl,a2,dx2,_,rfl,(Bt.pl had2).ob,tR,_,rfl,z0,_,rfl,_,rfl,_,⟨Sum.inr F,rfl,lk⟩,z2,z1,a2,d2,dx2,[],(F,[]),_,rfl,Bt.pl had2,Bw _,?_⟩;rw[Bt.put];exact fin _ _ (Nat.le_of_ble_eq_true rfl) r
 refine⟨_,rfl,_,rfl,_,⟨Sum.inr F,rfl,rfl⟩,_,rfl,?_⟩;show if (!(aX (D.map cL) (Sum.inr F:aF)).isSome)=true then _ else _;rw[tN];refine cP (λy1=>⟨_,rfl,_,rfl,_,⟨Sum.inr F,rfl,rfl⟩,_,rfl,?_⟩) λy1=>go λz=>?_
 .have y1:F∉D:=λz=>by rw[decide_eq_true z]at y1;cases y1
  show if (!(aX kvs (Sum.inr F:aF)).isSome)=true then _ else _;rw[hdk];refine cP (λy2=>?_) λy2=>go λz=>?_
  .have y2:cG B F=false:=by rw[<-Ie (cG B F),y2];rfl
   have e:fS rs D B=w4 rs:=by unfold fS;rw[if_pos (by rw[<-hF];exact⟨y1,y2⟩)]
   rw[e]at r;exact⟨_,rfl,rs,rfl,g.ne,λp q hp hq ne=>⟨_,Sub.refl _,r p q hp hq ne⟩⟩
  .rw[z.2]at y2;cases y2
 .have:F∈D:=of_decide_eq_true (by rw[<-Ie (decide (F∈D)),y1];rfl);exact z.1 this
end
theorem zi1{R:List W->(Mm->Prop)->Mm->Prop}(e:M a=some (.lst ws))(h:R ws (λM=>M a=some (.lst ws)) M):L3.kH (.ref a) M R:=⟨ws,e,h⟩
theorem zi2{R:List W->(Mm->Prop)->Mm->Prop}(e:M a=some (.lst ws))(h:R ws (λM=>M a=some (.lst ws)) M):cX (.ref a) M R:=⟨ws,e,h⟩
theorem zi3(h:DK ws M R):zis (bI R) (bT zim ws) M:=by
 obtain⟨p,a,ts,rfl,c,hl,w,v,r⟩:=h;obtain⟨T,E⟩:∃T,T=a::ts:=⟨_,rfl⟩;have F:cA (T.map bE) 0=some (bE a):=by rw[E];exact gF (j:=0) rfl
 rw[<-E]at c hl w v;refine⟨_,rfl,.inl ⟨_,_,c,F,_,rfl,_,rfl,zi1 c ?_⟩⟩;refine eL (ws:=T.map bE) (λi k f=>∃m s l n,k=[some (.ref p),some (.str a.name),m,s,l,n]/\f=M) ⟨_,_,_,_,rfl,rfl⟩ (λi k f _ h=>by obtain⟨_,_,_,_,_,rfl⟩:=h;exact c) ?_ ?_
 .rintro i x k f g ⟨m,s,l,n,rfl,rfl⟩;rw[Av]at g;obtain⟨t,ht,rfl⟩:=Bd.mp g;have d:=Au ht;refine⟨rfl,rfl,_,rfl,zi2 c (DP (rest:=[some (.str a.name)]) (λq=>if decide (a.name∈q.parts)=true then some (bE q) else none) (by lia) (λ_ sb=>sb _ _ c) (λq A M C D sb o u=>⟨_,rfl,_,rfl,_,rfl,rfl,m8 _,_,rfl,?_⟩) (aY.frz ?_))⟩
  .show if inW (.str a.name) (q.parts.map W.str)=true then _ else _;rw[oX];exact cP (λz=>⟨_,rfl,o _ (by rw[if_pos z])⟩) λz=>u (by rw[if_neg (by rw[z];exact Ao)])
  .rw[P9];obtain⟨U,B⟩:∃U,U=T.filter λq=>decide (a.name∈q.parts):=⟨_,rfl⟩;rw[<-B];refine⟨_,rfl,z0,sL 2 (by decide) (rK (w t d).2) (rK (ps:=[]) (λt ht=>nomatch ht)) λb I=>⟨_,rfl,cP (λy=>?_) λ_=>⟨_,Sub.refl _,_,_,_,_,rfl,rfl⟩⟩⟩;have e:t.parts=[]:=Ij.mp (QH.mp (I.mp y));obtain⟨o,u⟩:=v t d e;have H:U=[]:=by
    rw[B];exact List.filter_eq_nil_iff.mpr λq A z=>u q A (of_decide_eq_true z)
   have G:(!decide (t.name=a.name))=false:=by rw[decide_eq_true o];rfl
   rw[H];refine⟨_,rfl,_,rfl,_,rfl,cP (λz=>absurd (G.symm.trans z) Ao) λ_=>⟨_,rfl,Bw _,sM (neg:=true) 1 (by decide) (λx g=>by cases g) rfl ⟨_,rfl,?_⟩⟩⟩;exact⟨_,Sub.refl _,_,_,_,_,rfl,rfl⟩
 .rintro k f ⟨m,s,l,n,rfl,rfl⟩;exact⟨_,Sub.refl _,r⟩
theorem d5.of{rs:List aI}{c wds:List Str}(g:nT rs)(hl:rs.length<=17)(hh:c.length<=4)(f:∀r∈rs,(r.parts.length:Int)<=4)(l:wds.length=3)(h:∀t∈c,lP t)(i:∀t∈wds,jK t)(b:∀r∈rs,nS c wds r)(e:∀t∈c,∃r∈rs,r.name=t):d5 rs:=by
 refine⟨g.ne,hl,Ay (len_sub (zen rs) λx j=>?_) hh,λr a=>by have:=f r a;lia,λr a=>⟨h _ (b r a).name,(b r a).lo⟩,⟨wds,by lia,λr a t ht d=>?_⟩,λr a t ht=>?_⟩
 .obtain⟨r,a,rfl⟩:=mX.mp j;exact(b r a).name
 .rcases(b r a).parts t ht with z|z
  .exact z
  .obtain⟨q,k,rfl⟩:=e t z;rw[vK k]at d;cases d
 .rcases(b r a).parts t ht with z|z
  .exact .inl (i t z)
  .exact .inr (e t z)
section
variable {rs:List aI}{D:List Str}{B:bL}
theorem kS.of(b:rH rs D)(a:jC (eF rs []) B):kS rs D B:=by
 obtain⟨n,rfl,e⟩:=b;exact⟨Wd.rounds rs n,e,ziN a⟩
theorem QK(g:d5 rs)(ht:t∈fB rs D B):Sh t.name:=by
 rcases OZ g ht with z|z
 .exact(g.head z).sh
 .obtain⟨_,_,i,hi,e⟩:=tM g;rw[z,e];exact zeR hi
theorem zi4(g:d5 rs)(R:kS rs D B):tQ (fB rs D B):=λt ht=>⟨(QK g ht).asc,λp a=>by
 rcases xE g R ht p a with z|⟨z,_⟩
 .exact z.sh
 .exact z.sh⟩
theorem zi5(g:d5 rs)(R:kS rs D B):∀t∈fB rs D B,t.cost=0/\∀q∈t.parts,Sh q/\(rB q=true->∃t'∈fB rs D B,t'.name=q):=λt ht=>⟨(pJ ht).1,λq a=>by
 rcases xE g R ht q a with z|⟨z,_,h⟩
 .exact⟨z.sh,λn=>by rw[zeP z]at n;cases n⟩
 .exact⟨z.sh,λ_=>h⟩⟩
theorem zi6(g:d5 rs):∀t∈fB rs D B,t.name.length<=60/\((∃r∈rs,r.name=t.name)\/∃i,i<180/\t.name=eO i):=λt ht=>by
 refine⟨(QK g ht).len,?_⟩;rcases OZ g ht with z|z
 .exact .inl (mX.mp z)
 .obtain⟨_,_,h⟩:=tM g;rw[z];exact .inr h
end
theorem zi7{ws:List W}{M:Mm}{R:K3}(h:PY ws M R):ziD (bI R) (bT zit ws) M:=by
 obtain⟨ns,rfl,hl,hM,r⟩:=h;have hi:=L3.ints_map ns;refine⟨_,rfl,_,rfl,_,rfl,_,rfl,_,0,.inl rfl,hi,by decide,λc=>⟨z1,c,[4],rfl,by decide,λs hs=>?_,λds N=>aY.frz ?_⟩⟩
 .rw[Aj.mp hs];decide
 obtain⟨d,rfl,hd⟩:∃d,ds=[d]/\Below d 4:=by
  cases N with
  | cons a b=>cases b;exact⟨_,rfl,a⟩
 have hd1:=hd.1;have hd2:=hd.2;have hz:=LL (S:=ns.map W.int) (i:=1) (j:=14) (by decide) (by decide);have hz:(eX (ns.map W.int) (some 1) (some 14)).length<=13:=hz;refine⟨_,gF (j:=0) rfl,_,1+d,4,rfl,hi.cut _ _,by lia,by lia,by lia,by decide,by decide,λrs Z U ⟨hs,wds,q1,q2,q3,q4,q5,q6,q7⟩=>aY.frz ?_⟩;have g:d5 rs:=d5.of Z (by lia) (by lia) U q2 q3 q4 q5 q6;have K:tQ rs:=zgu Z;have hrl:=g.few;refine⟨_,rfl,rs,rfl,Z.okG,aY.frz ⟨_,rfl,rs,rfl,g,λD B hD hB p q hp hq ne=>?_⟩⟩;have k:kS rs D B:=kS.of hD hB;have tl:=O4 g (D:=D) (B:=B);have tok:=zfg g k;have o:=zi4 g k;obtain⟨ps,v,q0,X,e1,e2,e3⟩:=O0 g k;have n:fB rs D B=g8 (X,ps)::q0.map λp=>g8 p.1:=by unfold fB;rw[e1];rfl
 rw[show(fS rs D B).map (λz=>g8 z.1)=fB rs D B from rfl];have E:(fB rs D B).length=(fS rs D B).length:=by unfold fB;rw[Ab]
 have tcl:=zi5 g k;have tnm:=zi6 g (D:=D) (B:=B);generalize hT:fB rs D B=T at *;generalize w:(fS rs D B).map (λz=>z.2)=V;have lV:V.length=T.length:=by rw[<-w,Ab,E]
 rw[<-E]at tl;generalize G:put (put M p (.lst (T.map bE))) q (.lst V)=M2;have m:M2 p=some (.lst (T.map bE)):=by rw[<-G,aQ ne,aR]
 have u:M2 q=some (.lst V):=by rw[<-G,aR]
 have dp:cT M2 (.ref p)=.rl (T.map bE):=by simp[cT,m]
 refine⟨_,rfl,CZ ⟨"tuple",true,rfl,by decide,⟨_,rfl,_,rfl,cP (λh=>nomatch (show false=true from h)) λ_=>⟨_,rfl,_,rfl,sM (neg:=true) 4 (by decide) (tS K) rfl ⟨_,rfl,?_⟩⟩⟩⟩⟩;refine⟨_,rfl,rfl,rfl,_,rfl,CZ ⟨"list",true,.inl ⟨rfl,_,m⟩,by decide,⟨_,rfl,CZ ⟨"list",true,.inl ⟨rfl,_,u⟩,by decide,?_⟩⟩⟩⟩;refine⟨_,rfl,z0,sL (neg:=false) 4 (by decide) (by rw[dp];exact tS o (M:=M2)) (tS (l:=[]) (λt ht=>nomatch ht)) λb hb=>⟨_,rfl,?_⟩⟩;have eb:b=false:=by
  cases b with
  | false=>rfl
  | true=>
   have:=hb.mp rfl;rw[dp]at this;have:=zgt.mp this;rw[n]at this;cases this
 rw[eb];refine⟨_,rfl,.inl ⟨_,m,_,rfl,.inl ⟨_,u,_,rfl,cP (λh=>?_) λ_=>?_⟩⟩⟩
 .rw[Ab,lV,decide_eq_true rfl]at h;cases h
 refine⟨_,rfl,p,T,rfl,m,by lia,tcl,⟨_,rfl,_,rfl,rs,p,T,rfl,m,by lia,by lia,tnm,⟨_,rfl,p,_,_,rfl,by rw[<-n];exact m,by rw[<-n];lia,by rw[<-n];exact o,by rw[<-n];exact e3,?_⟩⟩⟩;obtain⟨H,rl,A⟩:∃a l,rs=a::l:=by
  cases rs with
  | nil=>exact absurd rfl g.ne
  | cons a l=>exact⟨a,l,rfl⟩
 have f0:cA (T.map bE) 0=some (bE (g8 (X,ps))):=by rw[n];exact gF (j:=0) rfl
 have f1:cA (rs.map bE) 0=some (bE H):=by rw[A];exact gF (j:=0) rfl
 have F:∀(τ:S3),τ=[some (.sc (ns.map W.int)),some (cI rs),some (cI rs),some (.tup [.ref p,.ref q]),some (.ref p),some (.ref q),none,none]->(aM P4 (aM P5 (aM P6 (aM P7 P8)))) (bI R) τ M2:=λτ L=>by
  rw[L];refine⟨_,rfl,.inl ⟨_,m,_,rfl,iX m,p,_,rfl,rfl,m,_,rfl,?_⟩⟩;have y:put M2 p (.lst []) q=some (.lst V):=by rw[aQ (Bz ne)];exact u
  refine⟨iX y,q,_,rfl,rfl,y,_,rfl,rs,rfl,g,λD' B' J Y a c ha hc Q=>?_⟩;cases hD.uniq J;cases hB.uniq Y;rw[show(fS rs D B).map (λz=>g8 z.1)=T from hT,w];generalize put (put M2 p (.lst [])) q (.lst [])=M3;generalize x:put (put M3 a (.lst (T.map bE))) c (.lst V)=M4;have P:M4 a=some (.lst (T.map bE)):=by rw[<-x,aQ Q,aR]
  have O:M4 c=some (.lst V):=by rw[<-x,aR]
  have da:cT M4 (.ref a)=.rl (T.map bE):=by simp[cT,P]
  refine⟨_,rfl,_,rfl,_,rfl,sM (neg:=false) 4 (by decide) (by rw[da];exact tS o (M:=M4)) (by rw[da];rfl) ⟨_,rfl,⟨_,rfl,_,rfl,.inl ⟨_,O,_,rfl,_,rfl,cP (λ_=>?_) λh=>?_⟩⟩⟩⟩
  .exact⟨_,rfl,T,rfl,tok,aY.frz ⟨_,rfl,sM (neg:=false) 4 (by decide) (tS o) rfl ⟨_,Sub.refl _,r _⟩⟩⟩
  .rw[Ab,lV,decide_eq_true rfl]at h;cases h
 refine⟨_,rfl,.inl ⟨_,_,m,f0,_,rfl,_,rfl,_,f1,_,rfl,_,rfl,cP (λI=>?_) λ_=>F _ rfl⟩⟩;have hX:X≠H.name:=λe=>by
  rw[show(!decide ((g8 (X,ps)).name=H.name))=false by rw[decide_eq_true (show(g8 (X,ps)).name=H.name from e)];rfl]at I;cases I
 have hN:X∉rs.map aI.name:=λhm=>by
  rcases e2 with z|⟨_,z⟩
  .exact hX (by rw[z,A];rfl)
  .exact z (mX.mpr (Am.mp hm))
 refine⟨_,rfl,.inl ⟨_,_,m,f0,_,rfl,_,rfl,gZ (DP (rest:=[]) (λq=>some (.str q.name)) (by lia) (λ_ _=>trivial) (λq hq M C D sb I h2=>⟨_,rfl,_,rfl,I _ rfl⟩) (aY.frz ?_))⟩⟩;rw[show rs.filterMap (λq=>some (W.str q.name))=(rs.map aI.name).map W.str by rw[Bo];exact congrFun (List.filterMap_eq_map (f:=λq:aI=>W.str q.name)) rs];refine⟨rfl,m8 _,_,rfl,?_⟩;show if inW (.str X) ((rs.map aI.name).map W.str)=true then _ else _;rw[oX];exact cP (λh=>absurd (of_decide_eq_true h) hN) λ_=>F _ rfl
structure Tx(mg:Str->Option Ae):Prop where
 c_FIGURED_NAMES:∃t,mg "FIGURED_NAMES" = some (.int 10000 t)
 c_FIGURES:∃t,mg "FIGURES" = some (.str "0123456789" t)
 c_GREAT_LETTERS:∃t,mg "GREAT_LETTERS" = some (.str "ABCDEFGHIJKLMNOPQRSTUVWXYZ" t)
 c_WHOLE:∃t,mg "WHOLE" = some (.str "whole" t)
 all_:mg "all" = none
 any_:mg "any" = none
 bool_:mg "bool" = none
 dict_:mg "dict" = none
 enumerate_:mg "enumerate" = none
 isinstance_:mg "isinstance" = none
 len_:mg "len" = none
 list_:mg "list" = none
 range_:mg "range" = none
 sorted_:mg "sorted" = none
 str_:mg "str" = none
 tuple_:mg "tuple" = none
structure Kc(K:Ac)(mg:Str->Option Ae)(C:Cc):Prop where
 cls_Queue:gO K C.q
 at__Queue:mg "Queue" = some (.ref C.q)
 cls_Search:gO K C.s
 at__Search:mg "Search" = some (.ref C.s)
 cls_Plainer:gO K C.p
 at__Plainer:mg "Plainer" = some (.ref C.p)
 na_costs:fZ K C.q "costs"
 na_waiting:fZ K C.q "waiting"
 na_grammar:fZ K C.s "grammar"
 na_own:fZ K C.s "own"
 na_steps:fZ K C.s "steps"
 na_queue:fZ K C.s "queue"
 na_reached:fZ K C.s "reached"
 na_best:fZ K C.s "best"
 na_ends:fZ K C.s "ends"
 na_begun:fZ K C.s "begun"
 na_backs:fZ K C.p "backs"
structure Al(K:Ac)(mg:Str->Option Ae)(C:Cc)(fa:Nat->Addr)(fb:Nat->Bi):Prop extends Tx mg,Kc K mg C where
 x0:Df K mg "made_of" DV ["text","signs"] (fa 0) (fb 0)
 x1:Df K mg "is_name" DW ["part"] (fa 1) (fb 1)
 x2:Df K mg "names" DX ["grammar"] (fa 2) (fb 2)
 x3:Df K mg "first_name" DY ["grammar"] (fa 3) (fb 3)
 x4:Df K mg "rules_of" DZ ["grammar","name"] (fa 4) (fb 4)
 x5:Df K mg "check_rule" D0 ["rule","known"] (fa 5) (fb 5)
 x6:Df K mg "grammar_of" D1 ["rules"] (fa 6) (fb 6)
 x7:Df K mg "marks" D2 ["things"] (fa 7) (fb 7)
 x8:Df K mg "places_of" D4 ["row"] (fa 8) (fb 8)
 x9:Df K mg "row_steps" D5 ["row"] (fa 9) (fb 9)
 x10:Df K mg "part_facts" D6 ["own","parts","cut"] (fa 10) (fb 10)
 x11:Di K C.q "__init__" "Queue.__init__" D7 ["self"] (fa 11) (fb 11)
 x12:Dm K C.q "is_done" "Queue.is_done" D8 ["self"] (fa 12) (fb 12)
 x13:Dm K C.q "place_of" "Queue.place_of" EA ["self","cost"] (fa 13) (fb 13)
 x14:Dm K C.q "put" "Queue.put" D9 ["self","cost","thing"] (fa 14) (fb 14)
 x15:Dm K C.q "take" "Queue.take" EB ["self"] (fa 15) (fb 15)
 x16:Df K mg "added" EC ["cost","other"] (fa 16) (fb 16)
 x17:Di K C.s "__init__" "Search.__init__" ED ["self","grammar","steps"] (fa 17) (fb 17)
 x18:Dm K C.s "reach" "Search.reach" EE ["self","number","cut","cost"] (fa 18) (fb 18)
 x19:Dm K C.s "settle" "Search.settle" EH ["self","number","cut","cost"] (fa 19) (fb 19)
 x20:Dm K C.s "step_by_name" "Search.step_by_name" EG ["self","number","cut","cost","key"] (fa 20) (fb 20)
 x21:Dm K C.s "take_next" "Search.take_next" EF ["self"] (fa 21) (fb 21)
 x22:Df K mg "least_trees" EI ["grammar","places","steps","weights"] (fa 22) (fb 22)
 x23:Df K mg "facts_within" EJ ["grammar","best","top"] (fa 23) (fb 23)
 x24:Df K mg "knot_of" EM ["number","children"] (fa 24) (fb 24)
 x25:Df K mg "same_word" EL ["word","begin","end"] (fa 25) (fb 25)
 x26:Df K mg "made_of_best" EK ["grammar","best","top","of_word","of_rule"] (fa 26) (fb 26)
 x27:Df K mg "best_tree" EN ["grammar","best","top"] (fa 27) (fb 27)
 x28:Df K mg "row_trees" EO ["grammar","row","weights"] (fa 28) (fb 28)
 x29:Df K mg "no_weights" ER ["grammar"] (fa 29) (fb 29)
 x30:Df K mg "words_of" ES ["grammar"] (fa 30) (fb 30)
 x31:Df K mg "shortest_lengths" ET ["grammar"] (fa 31) (fb 31)
 x32:Df K mg "made_names" EU ["old","count"] (fa 32) (fb 32)
 x33:Di K C.p "__init__" "Plainer.__init__" EV ["self"] (fa 33) (fb 33)
 x34:Dm K C.p "put_rule" "Plainer.put_rule" EW ["self","name","parts","pieces"] (fa 34) (fb 34)
 x35:Dm K C.p "is_part" "Plainer.is_part" EX ["self","name"] (fa 35) (fb 35)
 x36:Dm K C.p "grammar_and_backs" "Plainer.grammar_and_backs" EY ["self"] (fa 36) (fb 36)
 x37:Df K mg "nothing_read" EZ ["grammar"] (fa 37) (fb 37)
 x38:Df K mg "empty_trees" E1 ["grammar"] (fa 38) (fb 38)
 x39:Df K mg "wordy_names" E2 ["grammar"] (fa 39) (fb 39)
 x40:Df K mg "thinned" E4 ["parts","own","wordy","empties"] (fa 40) (fb 40)
 x41:Df K mg "put_thinned" E5 ["plain","grammar","name","wordy","empties"] (fa 41) (fb 41)
 x42:Df K mg "no_empty" E6 ["grammar"] (fa 42) (fb 42)
 x43:Df K mg "_law_cell_at" E7 ["script","k"] (fa 43) (fb 43)
 x44:Df K mg "_law_stir" E8 ["cell","k"] (fa 44) (fb 44)
 x45:Df K mg "_law_drawn" E9 ["cell","sizes"] (fa 45) (fb 45)
 x46:Df K mg "_law_unlike" FA ["number","many","great"] (fa 46) (fb 46)
 x47:Df K mg "_law_rule" FC ["cell","heads","words","most"] (fa 47) (fb 47)
 x48:Df K mg "_law_rules" FD ["cells","many","most"] (fa 48) (fb 48)
 x49:Df K mg "_law_is_name" FE ["part"] (fa 49) (fb 49)
 x50:Df K mg "_law_costless" FF ["rules"] (fa 50) (fb 50)
 x51:Df K mg "_law_new_names" FG ["rules","told"] (fa 51) (fb 51)
 x52:Df K mg "_law_empty_right" FH ["told"] (fa 52) (fb 52)
 x53:Df K mg "law" FI ["script"] (fa 53) (fb 53)
 f_same_word:C.f=fa 25
 f_knot_of:C.g=fa 24
section
variable {P:Ax}{w:Bl}{K:Ac}{mg:Str->Option Ae}{base:Heap}{C:Cc}{fa:Nat->Addr}{fb:Nat->Bi}(Y:Al K mg C fa fb)
seal L2.PE L2.PA L2.PS L2.gE L2.PT L2.PG L2.PI L2.PO
def QL:=bY P w mg base 0 Y.x0.fn Y.x0.bi bX zcM zcY λa b nd=>(aS (bV (v_and (jO (jW a.units) (v 0) kC) (p6 (cR (KU rfl) (by rfl) Y.all_ LH (aC (cH (gU ["sign","signs"] [none,some 1] (dR (v 0)) (λB=>(eI (i:=0))) (λB=>iE) (λB=>(jO (iU b) (v 0) (v 1))))) aG))))))
def zi8:=bY P w mg base 1 Y.x1.fn Y.x1.bi bX zcN zc1 λe f nd=>Y.c_GREAT_LETTERS.elim λc a=>Y.c_FIGURES.elim λd b=>(aO (bA (i:=1) nd (fH F.plainAttrs_str Ng F.type_str_partition m_partition (v 0) (aC kC aG)))
   (aO (bA (i:=2) nd (v_or (jO (jG e.units) (aW f (v 1) aK) kC) (p6 (bK (QL Y) Y.x0 e (aC (aW f (v 1) aK) (aC (oH (y:=V.str "0123456789") (by rfl) b ⟨_,rfl⟩ (λ_ _=>.str _)) aG))))))
   (aS (bV (v_and (v 2) (p6 (bK (QL Y) Y.x0 e (aC (aW f (v 1) aK) (aC (oH (y:=V.str "ABCDEFGHIJKLMNOPQRSTUVWXYZ") (by rfl) a ⟨_,rfl⟩ (λ_ _=>.str _)) aG)))))))))
def nD:=bY P w mg base 0 Y.x2.fn Y.x2.bi bX zcO zc2 λb a nd=>(aO (bA (i:=1) nd zI)
   (aO (eV Bq rfl (dR (v 0)) (cQ (i:=2) nd)
    (aS (jX fG (w_sub a (v 1) (aW a (v 2) aK)))))
   (aS (bV (h9 (zE rfl) (by rfl) Y.list_ mV (aC (v 1) aG))))))
def QM:=bY P w mg base 0 Y.x3.fn Y.x3.bi bX zcP zc3 λb a nd=>(aS (bV (aW a (aW a (v 0) aK) aK)))
def zi9:=bY P w mg base 0 Y.x4.fn Y.x4.bi bX zgM zgQ λa b nd=>(aS (bV (gU ["number","rule","name"] [none,none,some 1] (LQ (by rfl) Y.enumerate_ (aC (v 0) aG)) (λB=>(jB rfl (dW (eI (i:=0)) (dW (eI (i:=1)) jA)))) (λB=>(nP (bW (jG a.units) (aW b (v 1) aK) (v 2)))) (λB=>(v 0)))))
def zja:=bY P w mg base 2 Y.x5.fn Y.x5.bi bX zcQ zc4 λb a nd=>(aO (c7 (bW qB (aW a (v 0) aK) aK)
    (aS zK)
    dX)
   (aS (eV Bq rfl (dR (aW a (v 0) aK)) (cQ (i:=2) nd)
    (aS (c7 (PW.pt (lI (gJ (bK (zi8 Y) Y.x1 b (aC (v 2) aG))) (mN (bW (iB a) (v 2) (v 1)))))
    (aS zK)
    dX)))))
def QN:=bY P w mg base 3 Y.x6.fn Y.x6.bi bX zgc zgh λa b nd=>(aO (c7 (bW (jG a.units) (cR eC (by rfl) Y.len_ eD (aC (v 0) aG)) aK)
    (aS zK)
    dX)
   (aO (bA (i:=1) nd (cH (bK (nD Y) Y.x2 a (aC (v 0) aG))))
   (aO (eV Bq rfl (dR (v 0)) (cQ (i:=2) nd)
    (aS (dH (bK (zja Y) Y.x5 a (aC (v 2) (aC (v 1) aG))))))
   (aS (bV (h9 (zE rfl) (by rfl) Y.list_ mV (aC (v 0) aG)))))))
def pM:=bY P w mg base 0 Y.x7.fn Y.x7.bi bX zdT zd1 λa b nd=>(aS (bV (h9 (za0 rfl) (by rfl) Y.dict_ sO (aC (cH (gU ["thing"] [none] (dR (v 0)) (λB=>(eI (i:=0))) (λB=>iE) (λB=>(bQ (aC (v 0) (aC fG aG)))))) aG))))
def zjb:=bY P w mg base 0 Y.x8.fn Y.x8.bi bX zgY zg0 λa b nd=>(aS (bV (zeY (by rfl) Y.list_ (by rfl) Y.range_ (a6 dZ (cR eC (by rfl) Y.len_ eD (aC (v 0) aG)) aK))))
def zjc:=bY P w mg base 0 Y.x9.fn Y.x9.bi bX zgZ zg2 λa b nd=>(aS (bV (h9 (N7 rfl (A5 a)) (by rfl) Y.dict_ sO (aC (cH (gU ["place","word"] [none,none] (LQ (by rfl) Y.enumerate_ (aC (v 0) aG)) (λB=>(jB rfl (dW (eI (i:=0)) (dW (eI (i:=1)) jA)))) (λB=>iE) (λB=>(bQ (aC (bQ (aC (v 1) (aC (v 0) aG))) (aC (iF (aC (bQ (aC (a6 dZ (v 0) aK) (aC aK aG))) aG)) aG)))))) aG))))
def zjd:=bY P w mg base 0 Y.x10.fn Y.x10.bi bX zhr zhC λb a nd=>(aS (bV (gU ["k","part","own","cut"] [none,none,some 0,some 2] (PF (by rfl) Y.enumerate_ (aC (v 1) aG)) (λB=>(jB rfl (dW (eI (i:=0)) (dW (eI (i:=1)) jA)))) (λB=>(nP (bW (iU a) (v 1) (v 2)))) (λB=>(bQ (aC (v 1) (aC (aW a (v 3) (v 0)) (aC (aW a (v 3) (a6 dZ (v 0) aK)) aG))))))))
def zje:=bY P w mg base 0 Y.x11.fn Y.x11.bi bX zbN zbT λa b nd=>(aO (kP Y.cls_Queue Y.na_costs (v 0) (lJ aG))
   (aS (kP Y.cls_Queue Y.na_waiting (v 0) qF)))
def zjf:=bY P w mg base 0 Y.x12.fn Y.x12.bi bX zbO zbS λa b nd=>(aS (bV (jO (jG a.units) (cR eC (by rfl) Y.len_ eD (aC (dJ Y.cls_Queue Y.na_costs (v 0)) aG)) aK)))
def zjg:=bY P w mg base 0 Y.x13.fn Y.x13.bi bX zbP zbU λb a nd=>(aO (bA (i:=2) nd aK)
   (aO (bA (i:=3) nd (cR eC (by rfl) Y.len_ eD (aC (dJ Y.cls_Queue Y.na_costs (v 0)) aG)))
   (aO (sH Bq (bW qB (v 2) (v 3))
    (aO (bA (i:=4) nd (a6 lK (a6 dZ (v 2) (v 3)) aK))
   (aS (c7 (bW (zbm a) (aW a (dJ Y.cls_Queue Y.na_costs (v 0)) (v 4)) (v 1))
    (aS (bA (i:=2) nd (a6 dZ (v 4) aK)))
    (aS (bA (i:=3) nd (v 4)))))))
   (aS (bV (v 2))))))
def zjh:=bY P w mg base 1 Y.x14.fn Y.x14.bi bX zbQ zbV λb a nd=>(aO (c7 (bW (iB a) (v 1) (dJ Y.cls_Queue Y.na_waiting (v 0)))
    (aO (jX (lJ aG) (w_sub a (dJ Y.cls_Queue Y.na_waiting (v 0)) (v 1)))
   (aS (dH (fH Cj F.slot_list_insert F.type_list_insert zbn (dJ Y.cls_Queue Y.na_costs (v 0)) (aC (jL Y.cls_Queue Y.x13.me (zjg Y) (b.mono (by decide)) Y.x13.bi (v 0) (aC (v 1) aG)) (aC (v 1) aG))))))
    dX)
   (aS (dH (fH Cj Cv Dh jH (aW a (dJ Y.cls_Queue Y.na_waiting (v 0)) (v 1)) (aC (v 2) aG)))))
def zji:=bY P w mg base 0 Y.x15.fn Y.x15.bi bX zbR zbW λb a nd=>(aO (bA (i:=1) nd (aW a (dJ Y.cls_Queue Y.na_costs (v 0)) (mM mR aK)))
   (aO (bA (i:=2) nd (aW a (dJ Y.cls_Queue Y.na_waiting (v 0)) (v 1)))
   (aO (bA (i:=3) nd (p7 Cj Mr F.type_list_pop zH (v 2)))
   (aO (c7 (bW (jG b.units) (cR eC (by rfl) Y.len_ eD (aC (v 2) aG)) aK)
    (aO (dH (p7 Cj Mr F.type_list_pop zH (dJ Y.cls_Queue Y.na_costs (v 0))))
   (aS (dH (fH Hu F.slot_dict_pop F.type_dict_pop (za7 a) (dJ Y.cls_Queue Y.na_waiting (v 0)) (aC (v 1) aG)))))
    dX)
   (aS (bV (bQ (aC (v 1) (aC (v 3) aG)))))))))
def QO:=bY P w mg base 0 Y.x16.fn Y.x16.bi bX zdU zd2 λb a nd=>(aS (bV (bQ (aC (a6 dZ (aW a (v 0) aK) (aW a (v 1) aK)) (aC (a6 dZ (aW a (v 0) aK) (aW a (v 1) aK)) aG)))))
def zjj:=bY P w mg base 2 Y.x17.fn Y.x17.bi bX zdZ zea λa b nd=>(aO (kP Y.cls_Search Y.na_grammar (v 0) (v 1))
   (aO (kP Y.cls_Search Y.na_own (v 0) (bK (pM Y) Y.x7 a (aC (cH (bK (nD Y) Y.x2 a (aC (v 1) aG))) aG)))
   (aO (kP Y.cls_Search Y.na_steps (v 0) (v 2))
   (aO (kP Y.cls_Search Y.na_queue (v 0) (vV Y.x11.mak (zje Y) (a.mono (by decide)) (by rfl) Y.at__Queue Y.x11.bi))
   (aO (kP Y.cls_Search Y.na_reached (v 0) qF)
   (aO (kP Y.cls_Search Y.na_best (v 0) qF)
   (aO (kP Y.cls_Search Y.na_ends (v 0) qF)
   (aS (kP Y.cls_Search Y.na_begun (v 0) qF)))))))))
def xS:=bY P w mg base 2 Y.x18.fn Y.x18.bi bX zdV zd4 λb a nd=>(aO (bA (i:=4) nd (bQ (aC (v 1) (aC (cR eC (by rfl) Y.len_ eD (aC (v 2) aG)) (aC (aW a (v 2) aK) (aC (aW a (v 2) (mM mR aK)) aG))))))
   (aS (c7 (PW.pt (i8 (bW (iB a) (v 4) (dJ Y.cls_Search Y.na_reached (v 0))) (lH (bW (MV a) (v 3) (aW a (dJ Y.cls_Search Y.na_reached (v 0)) (v 4))))))
    (aO (jX (v 3) (w_sub a (dJ Y.cls_Search Y.na_reached (v 0)) (v 4)))
   (aS (dH (jL Y.cls_Queue Y.x14.me (zjh Y) (b.mono (by decide)) Y.x14.bi (dJ Y.cls_Search Y.na_queue (v 0)) (aC (v 3) (aC (bQ (aC (v 1) (aC (v 2) aG))) aG))))))
    dX)))
def zjk:=bY P w mg base 3 Y.x19.fn Y.x19.bi bX zdX zd7 λb a nd=>(aO (bA (i:=4) nd (bQ (aC (aW a (aW a (dJ Y.cls_Search Y.na_grammar (v 0)) (v 1)) aK) (aC (aW a (v 2) aK) aG))))
   (aO (bA (i:=5) nd (a6 dZ (v 4) (bQ (aC (aW a (v 2) (mM mR aK)) aG))))
   (aO (c7 (bW (iU a) (v 5) (dJ Y.cls_Search Y.na_best (v 0)))
    (aS KZ)
    dX)
   (aO (jX (bQ (aC (v 3) (aC (v 1) (aC (v 2) aG)))) (w_sub a (dJ Y.cls_Search Y.na_best (v 0)) (v 5)))
   (aO (dH (fH Cj Cv Dh jH (fH Hu F.slot_dict_setdefault F.type_dict_setdefault (MH a) (dJ Y.cls_Search Y.na_ends (v 0)) (aC (v 4) (aC (lJ aG) aG))) (aC (bQ (aC (aW a (v 2) (mM mR aK)) (aC (v 3) aG))) aG)))
   (aS (eV Bq rfl (oN (fH Hu F.slot_dict_get F.type_dict_get (AY a) (dJ Y.cls_Search Y.na_begun (v 0)) (aC (v 4) (aC (iF aG) aG)))) (jB rfl (dW (cQ (i:=6) nd) (dW (cQ (i:=7) nd) (dW (cQ (i:=8) nd) jA))))
    (aS (dH (jL Y.cls_Search Y.x18.me (xS Y) (b.mono (by decide)) Y.x18.bi (v 0) (aC (v 6) (aC (a6 dZ (v 7) (bQ (aC (aW a (v 2) (mM mR aK)) aG))) (aC (bK (QO Y) Y.x16 b (aC (v 8) (aC (v 3) aG))) aG)))))))))))))
def zjl:=bY P w mg base 3 Y.x20.fn Y.x20.bi bX zdW zd5 λa b nd=>(aO (dH (fH Cj Cv Dh jH (fH Hu F.slot_dict_setdefault F.type_dict_setdefault (MH b) (dJ Y.cls_Search Y.na_begun (v 0)) (aC (v 4) (aC (lJ aG) aG))) (aC (bQ (aC (v 1) (aC (v 2) (aC (v 3) aG)))) aG)))
   (aS (eV Bq rfl (oN (fH Hu F.slot_dict_get F.type_dict_get (AY b) (dJ Y.cls_Search Y.na_ends (v 0)) (aC (v 4) (aC (iF aG) aG)))) (jB rfl (dW (cQ (i:=5) nd) (dW (cQ (i:=6) nd) jA)))
    (aS (dH (jL Y.cls_Search Y.x18.me (xS Y) (a.mono (by decide)) Y.x18.bi (v 0) (aC (v 1) (aC (a6 dZ (v 2) (bQ (aC (v 5) aG))) (aC (bK (QO Y) Y.x16 a (aC (v 3) (aC (v 6) aG))) aG)))))))))
def zjm:=bY P w mg base 4 Y.x21.fn Y.x21.bi bX zdY zd8 λb a nd=>(aO (bA (i:=1) nd (qR Y.cls_Queue Y.x15.me (zji Y) (b.mono (by decide)) Y.x15.bi (dJ Y.cls_Search Y.na_queue (v 0))))
   (aO (bA (i:=2) nd (aW a (v 1) aK))
   (aO (bA (i:=3) nd (aW a (aW a (v 1) aK) aK))
   (aO (bA (i:=4) nd (aW a (aW a (v 1) aK) aK))
   (aO (c7 (bW (MV a) (aW a (dJ Y.cls_Search Y.na_reached (v 0)) (bQ (aC (v 3) (aC (cR eC (by rfl) Y.len_ eD (aC (v 4) aG)) (aC (aW a (v 4) aK) (aC (aW a (v 4) (mM mR aK)) aG)))))) (v 2))
    (aS KZ)
    dX)
   (aO (bA (i:=5) nd (aW a (aW a (dJ Y.cls_Search Y.na_grammar (v 0)) (v 3)) aK))
   (aS (c7 (bW Y8 (cR eC (by rfl) Y.len_ eD (aC (v 4) aG)) (cR eC (by rfl) Y.len_ eD (aC (v 5) aG)))
    (aS (dH (jL Y.cls_Search Y.x19.me (zjk Y) (b.mono (by decide)) Y.x19.bi (v 0) (aC (v 3) (aC (v 4) (aC (v 2) aG))))))
    (aS (c7 (bW (iU a) (aW a (v 5) (a6 oJ (cR eC (by rfl) Y.len_ eD (aC (v 4) aG)) aK)) (dJ Y.cls_Search Y.na_own (v 0)))
    (aS (dH (jL Y.cls_Search Y.x20.me (zjl Y) (b.mono (by decide)) Y.x20.bi (v 0) (aC (v 3) (aC (v 4) (aC (v 2) (aC (bQ (aC (aW a (v 5) (a6 oJ (cR eC (by rfl) Y.len_ eD (aC (v 4) aG)) aK)) (aC (aW a (v 4) (mM mR aK)) aG))) aG)))))))
    (aS (eV Bq rfl (oN (fH Hu F.slot_dict_get F.type_dict_get (AY a) (dJ Y.cls_Search Y.na_steps (v 0)) (aC (bQ (aC (aW a (v 5) (a6 oJ (cR eC (by rfl) Y.len_ eD (aC (v 4) aG)) aK)) (aC (aW a (v 4) (mM mR aK)) aG))) (aC (iF aG) aG)))) (jB rfl (dW (cQ (i:=6) nd) (dW (cQ (i:=7) nd) jA)))
    (aS (dH (jL Y.cls_Search Y.x18.me (xS Y) (b.mono (by decide)) Y.x18.bi (v 0) (aC (v 3) (aC (a6 dZ (v 4) (bQ (aC (v 6) aG))) (aC (bQ (aC (a6 dZ (aW a (v 2) aK) (v 7)) (aC (aW a (v 2) aK) aG))) aG))))))))))))))))))
def QP:=bY P w mg base 5 Y.x22.fn Y.x22.bi bX zd0 zeg λa b nd=>(aO (bA (i:=4) nd (za2 Y.x17.mak (zjj Y) (a.mono (by decide)) (by rfl) Y.at__Search Y.x17.bi (aC (v 0) (aC (v 2) aG))))
   (aO (eV Bq rfl (zN (by rfl) Y.range_ (aC (cR eC (by rfl) Y.len_ eD (aC (v 0) aG)) aG)) (cQ (i:=5) nd)
    (aS (eV Bq rfl (dR (v 1)) (cQ (i:=6) nd)
    (aS (dH (jL Y.cls_Search Y.x18.me (xS Y) (a.mono (by decide)) Y.x18.bi (v 4) (aC (v 5) (aC (bQ (aC (v 6) aG)) (aC (bQ (aC (aW b (v 3) (v 5)) (aC aK aG))) aG)))))))))
   (aO (sH Bq (kE (gJ (qR Y.cls_Queue Y.x12.me (zjf Y) (a.mono (by decide)) Y.x12.bi (dJ Y.cls_Search Y.na_queue (v 4)))))
    (aS (dH (qR Y.cls_Search Y.x21.me (zjm Y) (a.mono (by decide)) Y.x21.bi (v 4)))))
   (aS (bV (dJ Y.cls_Search Y.na_best (v 4)))))))
def zjn:=bY P w mg base 1 Y.x23.fn Y.x23.bi bX zhs zhF λb a nd=>(aO (bA (i:=3) nd (bK (pM Y) Y.x7 b (aC (cH (bK (nD Y) Y.x2 b (aC (v 0) aG))) aG)))
   (aO (bA (i:=4) nd (zgy a (v 2) fG))
   (aO (bA (i:=5) nd (lJ (aC (v 2) aG)))
   (aO (sH Bq (gJ (v 5))
    (aO (bA (i:=6) nd (aW a (v 1) (p7 Cj Mr F.type_list_pop zH (v 5))))
   (aS (eV Bq rfl (dR (cH (bK (zjd Y) Y.x10 b (aC (v 3) (aC (aW a (aW a (v 0) (aW a (v 6) aK)) aK) (aC (aW a (v 6) aK) aG)))))) (cQ (i:=7) nd)
    (aS (c7 (bW (iB a) (v 7) (v 4))
    (aO (jX fG (w_sub a (v 4) (v 7)))
   (aS (dH (fH Cj Cv Dh jH (v 5) (aC (v 7) aG)))))
    dX))))))
   (aS (bV (gU ["fact","found"] [none,some 4] (BV (v 1)) (λB=>(eI (i:=0))) (λB=>(nP (bW (iU a) (v 0) (v 1)))) (λB=>(v 0)))))))))
def zjo:=bY P w mg base 0 Y.x24.fn Y.x24.bi bX zhu zhy λa b nd=>(aS (bV (bQ (aC (v 0) (aC (h9 KR (by rfl) Y.tuple_ sN (aC (v 1) aG)) aG)))))
def zjp:=bY P w mg base 0 Y.x25.fn Y.x25.bi bX zht zhx λa b nd=>(aS (bV (v 0)))
def zjq:=bY P w mg base 2 Y.x26.fn Y.x26.bi bX zhv zhK λb a nd=>(aO (bA (i:=5) nd (bK (pM Y) Y.x7 b (aC (cH (bK (nD Y) Y.x2 b (aC (v 0) aG))) aG)))
   (aO (bA (i:=6) nd qF)
   (aO (eV Bq rfl (dR (cH (bK (zjn Y) Y.x23 b (aC (v 0) (aC (v 1) (aC (v 2) aG)))))) (cQ (i:=7) nd)
    (aO (bA (i:=8) nd (aW a (aW a (v 1) (v 7)) aK))
   (aO (bA (i:=9) nd (aW a (aW a (v 1) (v 7)) aK))
   (aO (bA (i:=10) nd (lJ aG))
   (aO (eV Bq rfl (PF (by rfl) Y.enumerate_ (aC (aW a (aW a (v 0) (v 8)) aK) aG)) (jB rfl (dW (cQ (i:=11) nd) (dW (cQ (i:=12) nd) jA)))
    (aS (c7 (bW (iU a) (v 12) (v 5))
    (aS (dH (fH Cj Cv Dh jH (v 10) (aC (aW a (v 6) (bQ (aC (v 12) (aC (aW a (v 9) (v 11)) (aC (aW a (v 9) (a6 dZ (v 11) aK)) aG))))) aG))))
    (aS (dH (fH Cj Cv Dh jH (v 10) (aC (PB (i:=3) Y.f_same_word (zjp Y) b Y.x25.fn.kp Y.x25.bi (aC (v 12) (aC (aW a (v 9) (v 11)) (aC (aW a (v 9) (a6 dZ (v 11) aK)) aG)))) aG)))))))
   (aS (jX (PB (i:=4) Y.f_knot_of (zjo Y) b Y.x24.fn.kp Y.x24.bi (aC (v 8) (aC (v 10) aG))) (w_sub a (v 6) (v 7)))))))))
   (aS (bV (aW a (v 6) (v 2)))))))
def zjr:=bY P w mg base 3 Y.x27.fn Y.x27.bi bX zhw zhz λa b nd=>(aS (bV (bK (zjq Y) Y.x26 a (aC (v 0) (aC (v 1) (aC (v 2) (aC (PC Y.f_same_word Y.x25) (aC (PC Y.f_knot_of Y.x24) aG))))))))
def zjs:=bY P w mg base 6 Y.x28.fn Y.x28.bi bX ziE ziM λa b nd=>(aS (bV (bK (QP Y) Y.x22 a (aC (v 0) (aC (cH (bK (zjb Y) Y.x8 a (aC (v 1) aG))) (aC (cH (bK (zjc Y) Y.x9 a (aC (v 1) aG))) (aC (v 2) aG)))))))
def QQ:=bY P w mg base 0 Y.x29.fn Y.x29.bi bX zfj zfk λa b nd=>(aS (bV (gU ["rule"] [none] (dR (v 0)) (λB=>(eI (i:=0))) (λB=>iE) (λB=>aK))))
def zjt:=bY P w mg base 1 Y.x30.fn Y.x30.bi bX zfx zfy λb a nd=>(aO (bA (i:=1) nd (bK (pM Y) Y.x7 b (aC (cH (bK (nD Y) Y.x2 b (aC (v 0) aG))) aG)))
   (aO (bA (i:=2) nd zI)
   (aO (eV Bq rfl (dR (v 0)) (cQ (i:=3) nd)
    (aS (eV Bq rfl (dR (aW a (v 3) aK)) (cQ (i:=4) nd)
    (aS (c7 (bW (iB a) (v 4) (v 1))
    (aS (jX fG (w_sub a (v 2) (v 4))))
    dX)))))
   (aS (bV (cR (zar rfl) (by rfl) Y.sorted_ zal (aC (cH (v 2)) aG)))))))
def zju:=bY P w mg base 6 Y.x31.fn Y.x31.bi bX zfB zfC λa b nd=>(aO (bA (i:=1) nd (cH (h9 (N7 rfl (A5 a)) (by rfl) Y.dict_ sO (aC (cH (gU ["word"] [none] (dR (bK (zjt Y) Y.x30 a (aC (v 0) aG))) (λB=>(eI (i:=0))) (λB=>iE) (λB=>(bQ (aC (bQ (aC (v 0) (aC aK aG))) (aC (iF (aC (bQ (aC aK (aC aK aG))) aG)) aG)))))) aG))))
   (aO (bA (i:=2) nd (N4 (bK (QP Y) Y.x22 a (aC (v 0) (aC (iF (aC aK aG)) (aC (v 1) (aC (cH (bK (QQ Y) Y.x29 a (aC (v 0) aG))) aG)))))))
   (aS (bV (h9 (MC rfl) (by rfl) Y.dict_ sO (aC (cH (gU ["fact","best"] [none,some 2] (BV (v 2)) (λB=>(eI (i:=0))) (λB=>iE) (λB=>(bQ (aC (aW b (v 0) aK) (aC (aW b (aW b (aW b (v 1) (v 0)) aK) aK) aG)))))) aG))))))
def zjv:=bY P w mg base 1 Y.x32.fn Y.x32.bi bX zgd zgi λc d nd=>Y.c_FIGURED_NAMES.elim λb a=>(aO (bA (i:=2) nd (bK (pM Y) Y.x7 c (aC (v 0) aG)))
   (aO (bA (i:=3) nd (lJ aG))
   (aO (bA (i:=4) nd aK)
   (aO (sH Bq (bW qB (cR eC (by rfl) Y.len_ eD (aC (v 3) aG)) (v 1))
    (aO (bA (i:=5) nd (a6 qX (a6 qX (a6 BE kC (a6 dZ aK (a6 lK (v 4) (oH (y:=V.int 10000) (by rfl) a ⟨_,rfl⟩ (λ_ _=>.int _))))) kC) (h9 KS (by rfl) Y.str_ LG (aC (a6 i9 (v 4) (oH (y:=V.int 10000) (by rfl) a ⟨_,rfl⟩ (λ_ _=>.int _))) aG))))
   (aO (bA (i:=4) nd (a6 dZ (v 4) aK))
   (aS (c7 (bW (iB d) (v 5) (v 2))
    (aS (dH (fH Cj Cv Dh jH (v 3) (aC (v 5) aG))))
    dX)))))
   (aS (bV (v 3)))))))
def DS:=bY P w mg base 0 Y.x33.fn Y.x33.bi bX zge zgj λa b nd=>(aS (kP Y.cls_Plainer Y.na_backs (v 0) (zbc (tl:=[0]))))
def xT:=bY P w mg base 0 Y.x34.fn Y.x34.bi bX zgf zgk λa b nd=>(aS (dH (zbf (tl:=[0]) (A5 a) (dJ Y.cls_Plainer Y.na_backs (v 0)) (bQ (aC (v 1) (aC (v 2) (aC aK aG)))) (v 3))))
def zjw:=bY P w mg base 0 Y.x35.fn Y.x35.bi bX zhS zhT λb a nd=>(aS (bV (cR (LO rfl) (by rfl) Y.any_ LI (aC (cH (zhP (tl:=[0]) (gU ["rule","name"] [none,some 1] (zhO (n:=[0]) (dJ Y.cls_Plainer Y.na_backs (v 0))) (λB=>(eI (i:=0))) (λB=>iE) (λB=>(jO (iU a) (v 1) (aW a (v 0) aK)))))) aG))))
def DT:=bY P w mg base 0 Y.x36.fn Y.x36.bi bX zgg zgl λa b nd=>(aS (bV (bQ (aC (h9 (MR (tl:=[0]) rfl) (by rfl) Y.list_ mV (aC (dJ Y.cls_Plainer Y.na_backs (v 0)) aG)) (aC (h9 (MR (tl:=[0]) rfl) (by rfl) Y.list_ mV (aC (zbh (tl:=[0]) (dJ Y.cls_Plainer Y.na_backs (v 0))) aG)) aG)))))
def zjx:=bY P w mg base 2 Y.x37.fn Y.x37.bi bX zgN zgT λa b nd=>(aO (bA (i:=1) nd (bK (QM Y) Y.x3 a (aC (v 0) aG)))
   (aO (bA (i:=2) nd (vV Y.x33.mak (DS Y) (a.mono (by decide)) (by rfl) Y.at__Plainer Y.x33.bi))
   (aO (dH (jL Y.cls_Plainer Y.x34.me (xT Y) (a.mono (by decide)) Y.x34.bi (v 2) (aC (v 1) (aC (bQ (aC (v 1) (aC (v 1) aG))) (aC (bQ (aC (bQ (aC aK (aC (bQ (aC aK (aC aK aG))) aG))) aG)) aG)))))
   (aS (bV (qR Y.cls_Plainer Y.x36.me (DT Y) (a.mono (by decide)) Y.x36.bi (v 2)))))))
def zjy:=bY P w mg base 7 Y.x38.fn Y.x38.bi bX ziF ziQ λa b nd=>(aO (bA (i:=1) nd (N4 (bK (zjs Y) Y.x28 a (aC (v 0) (aC (iF aG) (aC (cH (bK (QQ Y) Y.x29 a (aC (v 0) aG))) aG))))))
   (aS (bV (h9 (MC rfl) (by rfl) Y.dict_ sO (aC (cH (gU ["fact","grammar","best"] [none,some 0,some 1] (BV (v 1)) (λB=>(eI (i:=0))) (λB=>iE) (λB=>(bQ (aC (aW b (v 0) aK) (aC (bK (zjr Y) Y.x27 a (aC (v 1) (aC (v 2) (aC (v 0) aG)))) aG)))))) aG)))))
def zjz:=bY P w mg base 7 Y.x39.fn Y.x39.bi bX ziG ziT λb a nd=>(aO (bA (i:=1) nd (bK (pM Y) Y.x7 b (aC (cH (bK (nD Y) Y.x2 b (aC (v 0) aG))) aG)))
   (aO (bA (i:=2) nd (cH (bK (zju Y) Y.x31 b (aC (v 0) aG))))
   (aO (rL (i:=3) nd ["rule","fruitful","own"] [none,some 2,some 1] (dR (v 0)) (λB=>(eI (i:=0))) (λB=>(nP (gJ (cR (KU rfl) (by rfl) Y.all_ LH (aC (cH (gU ["part","fruitful","own"] [none,some 1,some 2] (dR (aW a (v 0) aK)) (λB=>(eI (i:=0))) (λB=>iE) (λB=>(v_or (jO (iU a) (v 0) (v 1)) (p6 (jO (iB a) (v 0) (v 2))))))) aG))))) (λB=>(v 0)))
   (aO (bA (i:=4) nd zI)
   (aO (bA (i:=5) nd (mM mR aK))
   (aO (sH Bq (bW qB (v 5) (cR eC (by rfl) Y.len_ eD (aC (v 4) aG)))
    (aO (bA (i:=5) nd (cR eC (by rfl) Y.len_ eD (aC (v 4) aG)))
   (aS (eV Bq rfl (dR (v 3)) (cQ (i:=6) nd)
    (aS (c7 (gJ (cR (LO rfl) (by rfl) Y.any_ LI (aC (cH (gU ["part","wordy","own"] [none,some 4,some 1] (dR (aW a (v 6) aK)) (λB=>(eI (i:=0))) (λB=>iE) (λB=>(v_or (jO (iU a) (v 0) (v 1)) (p6 (jO (iB a) (v 0) (v 2))))))) aG)))
    (aS (jX fG (w_sub a (v 4) (aW a (v 6) aK))))
    dX))))))
   (aS (bV (v 4)))))))))
def zjA:=bY P w mg base 0 Y.x40.fn Y.x40.bi bX ziH ziV λd c nd=>Y.c_WHOLE.elim λb a=>(aO (bA (i:=4) nd (iF (aC (bQ (aC (bQ aG) (aC (bQ aG) aG))) aG)))
   (aO (eV Bq rfl (dR (v 0)) (cQ (i:=5) nd)
    (aO (rL (i:=6) nd ["some","pieces","part","wordy","own"] [none,none,some 5,some 2,some 1] (oN (v 4)) (λB=>(jB rfl (dW (eI (i:=0)) (dW (eI (i:=1)) jA)))) (λB=>(nP (PW.pt (i8 (bW (iU c) (v 2) (v 3)) (lH (bW (iB c) (v 2) (v 4))))))) (λB=>(bQ (aC (a6 CQ (v 0) (bQ (aC (v 2) aG))) (aC (a6 CQ (v 1) (bQ (aC (cR eC (by rfl) Y.len_ eD (aC (v 0) aG)) aG))) aG)))))
   (aO (rL (i:=7) nd ["some","pieces","part","empties"] [none,none,some 5,some 3] (oN (v 4)) (λB=>(jB rfl (dW (eI (i:=0)) (dW (eI (i:=1)) jA)))) (λB=>(nP (bW (iU c) (v 2) (v 3)))) (λB=>(bQ (aC (v 0) (aC (a6 CQ (v 1) (bQ (aC (bQ (aC (oH (y:=V.str "whole") (by rfl) a ⟨_,rfl⟩ (λ_ _=>.str _)) (aC (aW c (v 3) (v 2)) aG))) aG))) aG)))))
   (aS (bA (i:=4) nd (a6 dZ (v 6) (v 7)))))))
   (aS (bV (v 4)))))
def zjB:=bY P w mg base 1 Y.x41.fn Y.x41.bi bX ziI ziW λa b nd=>(aO (bA (i:=5) nd (bK (pM Y) Y.x7 a (aC (cH (bK (nD Y) Y.x2 a (aC (v 1) aG))) aG)))
   (aS (eV Bq rfl (dR (cH (bK (zi9 Y) Y.x4 a (aC (v 1) (aC (v 2) aG))))) (cQ (i:=6) nd)
    (aS (eV Bq rfl (oN (cH (bK (zjA Y) Y.x40 a (aC (aW b (aW b (v 1) (v 6)) aK) (aC (v 5) (aC (v 3) (aC (v 4) aG))))))) (jB rfl (dW (cQ (i:=7) nd) (dW (cQ (i:=8) nd) jA)))
    (aS (c7 (PW.pt (lI (bW (jW a.units) (v 7) (bQ aG)) (mN (bW (jW a.units) (v 7) (bQ (aC (v 2) aG))))))
    (aS (dH (jL Y.cls_Plainer Y.x34.me (xT Y) (a.mono (by decide)) Y.x34.bi (v 0) (aC (v 2) (aC (v 7) (aC (bQ (aC (bQ (aC (v 6) (aC (v 8) aG))) aG)) aG))))))
    dX)))))))
def QS:=bY P w mg base 8 Y.x42.fn Y.x42.bi bX ziJ zi0 λa c nd=>Y.c_WHOLE.elim λd b=>(aO (bA (i:=1) nd (bK (QM Y) Y.x3 a (aC (v 0) aG)))
   (aO (bA (i:=2) nd (cH (bK (zjz Y) Y.x39 a (aC (v 0) aG))))
   (aO (bA (i:=3) nd (cH (bK (zjy Y) Y.x38 a (aC (v 0) aG))))
   (aO (c7 (PW.pt (lI (bW (iB c) (v 1) (v 2)) (mN (bW (iB c) (v 1) (v 3)))))
    (aS (bV (bK (zjx Y) Y.x37 a (aC (v 0) aG))))
    dX)
   (aO (bA (i:=4) nd (vV Y.x33.mak (DS Y) (a.mono (by decide)) (by rfl) Y.at__Plainer Y.x33.bi))
   (aO (eV Bq rfl (dR (cH (bK (nD Y) Y.x2 a (aC (v 0) aG)))) (cQ (i:=5) nd)
    (aS (dH (bK (zjB Y) Y.x41 a (aC (v 4) (aC (v 0) (aC (v 5) (aC (v 2) (aC (v 3) aG)))))))))
   (aO (bA (i:=6) nd (vV Y.x33.mak (DS Y) (a.mono (by decide)) (by rfl) Y.at__Plainer Y.x33.bi))
   (aO (c7 (bW (iU c) (v 1) (v 3))
    (aO (bA (i:=7) nd (v 1))
   (aO (c7 (gJ (jL Y.cls_Plainer Y.x35.me (zjw Y) (a.mono (by decide)) Y.x35.bi (v 4) (aC (v 1) aG)))
    (aO (bA (i:=7) nd (aW c (cH (bK (zjv Y) Y.x32 a (aC (cH (bK (nD Y) Y.x2 a (aC (v 0) aG))) (aC aK aG)))) aK))
   (aS (dH (jL Y.cls_Plainer Y.x34.me (xT Y) (a.mono (by decide)) Y.x34.bi (v 6) (aC (v 7) (aC (bQ (aC (v 1) aG)) (aC (bQ (aC aK aG)) aG)))))))
    dX)
   (aS (dH (jL Y.cls_Plainer Y.x34.me (xT Y) (a.mono (by decide)) Y.x34.bi (v 6) (aC (v 7) (aC (bQ aG) (aC (bQ (aC (bQ (aC (oH (y:=V.str "whole") (by rfl) b ⟨_,rfl⟩ (λ_ _=>.str _)) (aC (aW c (v 3) (v 1)) aG))) aG)) aG))))))))
    dX)
   (aO (bA (i:=8) nd (qR Y.cls_Plainer Y.x36.me (DT Y) (a.mono (by decide)) Y.x36.bi (v 4)))
   (aO (bA (i:=9) nd (qR Y.cls_Plainer Y.x36.me (DT Y) (a.mono (by decide)) Y.x36.bi (v 6)))
   (aS (bV (bQ (aC (a6 y7 (aW c (v 9) aK) (aW c (v 8) aK)) (aC (a6 y7 (aW c (v 9) aK) (aW c (v 8) aK)) aG)))))))))))))))
def QT:=bY P w mg base 0 Y.x43.fn Y.x43.bi bX zcR zc5 λb a nd=>(aO (c7 (bW qB (v 1) (cR eC (by rfl) Y.len_ eD (aC (v 0) aG)))
    (aS (bV (aW a (v 0) (v 1))))
    dX)
   (aS (bV aK)))
def zjC:=bY P w mg base 0 Y.x44.fn Y.x44.bi bX zcS zc6 λa b nd=>(aO (bA (i:=2) nd (a6 dZ (a6 dZ (a6 nQ (a6 i9 (v 0) (a6 mQ aK aK)) aK) (a6 nQ (a6 nQ (a6 mQ aK aK) (a6 dZ (v 1) aK)) (a6 dZ (v 1) aK))) (v 1)))
   (aO (bA (i:=2) nd (a6 dZ (a6 nQ (v 2) (v 2)) (a6 nQ aK (v 2))))
   (aS (bV (a6 lK (a6 i9 (a6 nQ (v 2) (v 2)) (a6 dZ (a6 mQ aK aK) aK)) aK)))))
def DU:=bY P w mg base 1 Y.x45.fn Y.x45.bi bX zcT zey λb a nd=>(aO (bA (i:=2) nd (lJ aG))
   (aO (bA (i:=3) nd (a6 oJ (v 0) (a6 mQ aK aK)))
   (aO (eV Bq rfl (zN (by rfl) Y.range_ (aC (cR eC (by rfl) Y.len_ eD (aC (v 1) aG)) aG)) (cQ (i:=4) nd)
    (aS (c7 (bW Y9 (v 0) (a6 mQ aK aK))
    (aO (dH (fH Cj Cv Dh jH (v 2) (aC (a6 i9 (v 3) (aW a (v 1) (v 4))) aG)))
   (aS (bA (i:=3) nd (a6 lK (v 3) (aW a (v 1) (v 4))))))
    (aS (dH (fH Cj Cv Dh jH (v 2) (aC (a6 i9 (bK (zjC Y) Y.x44 b (aC (v 0) (aC (v 4) aG))) (aW a (v 1) (v 4))) aG)))))))
   (aS (bV (v 2))))))
def QU:=bY P w mg base 0 Y.x46.fn Y.x46.bi bX zcU zez λb a nd=>(aO (bA (i:=3) nd kC)
   (aO (c7 (gJ (v 2))
    (aS (bA (i:=3) nd (p7 F.plainAttrs_str F.slot_str_upper F.type_str_upper m_upper (v 3))))
    dX)
   (aO (bA (i:=4) nd (aW a (v 3) (a6 i9 (v 0) aK)))
   (aO (bA (i:=5) nd (a6 dZ aK (a6 i9 (a6 lK (v 0) aK) aK)))
   (aO (bA (i:=6) nd (a6 i9 (a6 lK (v 0) aK) (v 5)))
   (aO (bA (i:=7) nd (a6 i9 (a6 lK (v 0) aK) aK))
   (aO (bA (i:=8) nd (lJ aG))
   (aO (eV Bq rfl (zN (by rfl) Y.range_ (aC (v 1) aG)) (cQ (i:=9) nd)
    (aO (bA (i:=10) nd (aW a (v 3) (a6 i9 (a6 dZ (v 7) (a6 nQ aK (v 9))) aK)))
   (aO (dH (fH Cj Cv Dh jH (v 8) (aC (a6 qX (a6 qX (a6 BE (v 4) (v 6)) (v 10)) (a6 BE (v 4) (a6 oJ (a6 oJ (v 5) (v 6)) aK))) aG)))
   (aS (c7 (PW.pt (lI (gJ (v 2)) (lI (bW (jG b.units) (a6 i9 (a6 lK (v 0) aK) aK) aK) (mN (bW (jG b.units) (a6 Y5 (a6 Y4 (a6 lK (v 0) aK) (v 9)) aK) aK)))))
    (aS (jX (a6 qX (a6 qX (aW a (v 8) (v 9)) kC) (h9 KS (by rfl) Y.str_ LG (aC (a6 i9 (a6 lK (v 0) aK) aK) aG))) (w_sub a (v 8) (v 9))))
    dX)))))
   (aS (bV (v 8)))))))))))
def zjD:=bY P w mg base 2 Y.x47.fn Y.x47.bi bX zcV zeC λb a nd=>(aO (bA (i:=4) nd (cH (bK (DU Y) Y.x45 b (aC (v 0) (aC (a6 dZ (iF (aC (cR eC (by rfl) Y.len_ eD (aC (v 1) aG)) (aC (a6 dZ (v 3) aK) (aC aK (aC (a6 mQ aK aK) aG))))) (a6 nQ (iF (aC aK aG)) (v 3))) aG)))))
   (aO (bA (i:=5) nd (lJ aG))
   (aO (eV Bq rfl (dR (zU (v 4) (sF aK) (sF (a6 dZ aK (aW a (v 4) aK))))) (cQ (i:=6) nd)
    (aS (c7 (bW qB (v 6) aK)
    (aS (dH (fH Cj Cv Dh jH (v 5) (aC (aW a (v 2) (v 6)) aG))))
    (aS (dH (fH Cj Cv Dh jH (v 5) (aC (aW a (v 1) (a6 i9 (a6 dZ (a6 oJ (v 6) aK) (aW a (v 4) aK)) (cR eC (by rfl) Y.len_ eD (aC (v 1) aG)))) aG)))))))
   (aS (bV (bQ (aC (aW a (v 1) (aW a (v 4) aK)) (aC (h9 KR (by rfl) Y.tuple_ sN (aC (v 5) aG)) (aC (a6 i9 (aW a (v 4) aK) (aW a (iF (aC aK (aC aK (aC (a6 mQ aK aK) aG)))) (aW a (v 4) aK))) aG)))))))))
def zjE:=bY P w mg base 3 Y.x48.fn Y.x48.bi bX zcW zeD λa b nd=>(aO (jX (cH (bK (DU Y) Y.x45 a (aC (bK (QT Y) Y.x43 a (aC (v 0) (aC aK aG))) (aC (iF (aC (a6 mQ aK aK) (aC (a6 mQ aK aK) aG))) aG)))) (jB rfl (dW (cQ (i:=3) nd) (dW (cQ (i:=4) nd) jA))))
   (aO (bA (i:=5) nd (cH (bK (QU Y) Y.x46 a (aC (v 3) (aC (v 1) (aC fG aG))))))
   (aO (bA (i:=6) nd (cH (bK (QU Y) Y.x46 a (aC (v 4) (aC aK (aC fG aG))))))
   (aO (zgv (i:=7) nd ["cell","heads","words","most"] [none,some 5,some 6,some 2] (dR (zU (v 0) (sF aK) ZL)) (λB=>(eI (i:=0))) (λB=>iE) (λB=>(bK (zjD Y) Y.x47 a (aC (v 0) (aC (v 1) (aC (v 2) (aC (v 3) aG)))))))
   (aO (eV Bq rfl (dR (v 5)) (cQ (i:=8) nd)
    (aS (c7 (bW (iB b) (v 8) (cH (gU ["rule"] [none] (dR (v 7)) (λB=>(eI (i:=0))) (λB=>iE) (λB=>(aW b (v 0) aK)))))
    (aS (dH (fH Cj Cv Dh jH (v 7) (aC (bQ (aC (v 8) (aC (bQ (aC (aW b (v 6) aK) aG)) (aC aK aG)))) aG))))
    dX)))
   (aS (bV (v 7))))))))
def zjF:=bY P w mg base 0 Y.x49.fn Y.x49.bi bX zgm zgp λb a nd=>(aS (bV (jO (iU a) (aW a (v 0) aK) kC)))
def zjG:=bY P w mg base 1 Y.x50.fn Y.x50.bi bX zgn zgq λb a nd=>(aO (rL (i:=1) nd ["rule"] [none] (dR (v 0)) (λB=>(eI (i:=0))) (λB=>iE) (λB=>(aW a (v 0) aK)))
   (aO (eV Bq rfl (dR (v 0)) (cQ (i:=2) nd)
    (aO (c7 (PW.pt (i8 (kE (gJ (cR qI (by rfl) Y.isinstance_ qJ (aC (v 2) (aC (p5 (by rfl) Y.tuple_ sN (y:=.ty "tuple") rfl (λ_ _=>.ty _)) aG))))) (i8 (bW (jW b.units) (cR eC (by rfl) Y.len_ eD (aC (v 2) aG)) aK) (lH (kE (gJ (cR qI (by rfl) Y.isinstance_ qJ (aC (aW a (v 2) aK) (aC (p5 (by rfl) Y.tuple_ sN (y:=.ty "tuple") rfl (λ_ _=>.ty _)) aG)))))))))
    (aS (bV fG))
    dX)
   (aO (c7 (PW.pt (i8 (gJ (cR qI (by rfl) Y.isinstance_ qJ (aC (aW a (v 2) aK) (aC (p5 (by rfl) Y.bool_ zak (y:=.ty "bool") rfl (λ_ _=>.ty _)) aG)))) (lH (bW (jW b.units) (aW a (v 2) aK) aK))))
    (aS (bV fG))
    dX)
   (aS (eV Bq rfl (dR (aW a (v 2) aK)) (cQ (i:=3) nd)
    (aS (c7 (PW.pt (lI (gJ (bK (zjF Y) Y.x49 b (aC (v 3) aG))) (mN (bW (iB a) (v 3) (v 1)))))
    (aS (bV fG))
    dX)))))))
   (aS (bV fG))))
def zjH:=bY P w mg base 0 Y.x51.fn Y.x51.bi bX zgo zgr λb a nd=>(aO (rL (i:=2) nd ["rule"] [none] (dR (v 0)) (λB=>(eI (i:=0))) (λB=>iE) (λB=>(aW a (v 0) aK)))
   (aO (eV Bq rfl (dR (cH (gU ["rule"] [none] (dR (v 1)) (λB=>(eI (i:=0))) (λB=>iE) (λB=>(aW a (v 0) aK))))) (cQ (i:=3) nd)
    (aO (jX (fH F.plainAttrs_str Ng F.type_str_partition m_partition (v 3) (aC kC aG)) (jB rfl (dW (cQ (i:=4) nd) (dW (cQ (i:=5) nd) (dW (cQ (i:=6) nd) jA)))))
   (aO (c7 (PW.pt (lI (bW (iB a) (v 3) (v 2)) (mN (PW.pt (i8 (bW (jG b.units) (v 5) kC) (i8 (kE (LM uW uW aK (cR eC (by rfl) Y.len_ eD (aC (v 6) aG)) aK)) (lH (kE (LM uW uW aK (cR eC (by rfl) Y.len_ eD (aC (v 4) aG)) aK)))))))))
    (aS (bV fG))
    dX)
   (aS (c7 (PW.pt (lI (bW (iB a) (v 3) (v 2)) (mN (bW (jW b.units) (cH (gU ["one"] [none] (dR (v 6)) (λB=>(eI (i:=0))) (λB=>(nP (bW (iB a) (v 0) kC))) (λB=>(v 0)))) (iF aG)))))
    (aS (bV fG))
    dX)))))
   (aS (bV fG))))
def zjI:=bY P w mg base 0 Y.x52.fn Y.x52.bi bX ziK zi3 λb a nd=>(aO (bA (i:=1) nd (aW a (aW a (v 0) aK) aK))
   (aO (eV Bq rfl (oN (v 0)) (jB rfl (dW (cQ (i:=2) nd) (dW (cQ (i:=3) nd) (dW (cQ (i:=4) nd) jA))))
    (aO (rL (i:=5) nd ["rule","first"] [none,some 1] (dR (v 0)) (λB=>(eI (i:=0))) (λB=>(nP (bW (iU a) (v 1) (aW a (v 0) aK)))) (λB=>(v 0)))
   (aS (c7 (PW.pt (lI (bW (jG b.units) (v 3) (bQ aG)) (mN (PW.pt (i8 (bW (jW b.units) (v 2) (v 1)) (lH (bW (jW b.units) (v 5) (iF aG))))))))
    (aS (bV fG))
    dX))))
   (aS (bV fG))))
def zjJ:=bY P w mg base 9 Y.x53.fn Y.x53.bi bX ziL zi7 λa b nd=>(aO (bA (i:=1) nd (cH (bK (zjE Y) Y.x48 a (aC (zU (v 0) (sF aK) (sF aK)) (aC (a6 dZ aK (aW b (cH (bK (DU Y) Y.x45 a (aC (bK (QT Y) Y.x43 a (aC (v 0) (aC aK aG))) (aC (iF (aC aK aG)) aG)))) aK)) (aC aK aG))))))
   (aO (bA (i:=2) nd (cH (bK (QN Y) Y.x6 a (aC (h9 (zS rfl) (by rfl) Y.list_ mV (aC (v 1) aG)) aG))))
   (aO (bA (i:=3) nd (bK (QS Y) Y.x42 a (aC (v 2) aG)))
   (aO (c7 (PW.pt (i8 (kE (gJ (cR qI (by rfl) Y.isinstance_ qJ (aC (v 3) (aC (p5 (by rfl) Y.tuple_ sN (y:=.ty "tuple") rfl (λ_ _=>.ty _)) aG))))) (i8 (bW (jW a.units) (cR eC (by rfl) Y.len_ eD (aC (v 3) aG)) aK) (lH (bW (jW a.units) (v 2) (v 1))))))
    (aS (bV fG))
    dX)
   (aO (jX (v 3) (jB rfl (dW (cQ (i:=4) nd) (dW (cQ (i:=5) nd) jA))))
   (aO (c7 (PW.pt (i8 (kE (gJ (cR qI (by rfl) Y.isinstance_ qJ (aC (v 4) (aC (p5 (by rfl) Y.list_ mV (y:=.ty "list") rfl (λ_ _=>.ty _)) aG))))) (lH (kE (gJ (cR qI (by rfl) Y.isinstance_ qJ (aC (v 5) (aC (p5 (by rfl) Y.list_ mV (y:=.ty "list") rfl (λ_ _=>.ty _)) aG))))))))
    (aS (bV fG))
    dX)
   (aO (c7 (PW.pt (i8 (bW (jG a.units) (v 4) (iF aG)) (lH (bW (jW a.units) (cR eC (by rfl) Y.len_ eD (aC (v 4) aG)) (cR eC (by rfl) Y.len_ eD (aC (v 5) aG))))))
    (aS (bV fG))
    dX)
   (aO (c7 (PW.pt (i8 (kE (gJ (bK (zjG Y) Y.x50 a (aC (v 4) aG)))) (i8 (kE (gJ (bK (zjH Y) Y.x51 a (aC (v 1) (aC (v 4) aG))))) (lH (kE (gJ (bK (zjI Y) Y.x52 a (aC (v 4) aG))))))))
    (aS (bV fG))
    dX)
   (aO (c7 (PW.pt (lI (bW (jW a.units) (aW b (aW b (v 4) aK) aK) (aW b (aW b (v 1) aK) aK)) (mN (bW (iU b) (aW b (aW b (v 4) aK) aK) (cH (gU ["rule"] [none] (dR (v 1)) (λB=>(eI (i:=0))) (λB=>iE) (λB=>(aW b (v 0) aK))))))))
    (aS (bV fG))
    dX)
   (aO (bA (i:=6) nd (h9 (zS rfl) (by rfl) Y.list_ mV (aC (v 4) aG)))
   (aO (dH (p7 Cj F.slot_list_clear F.type_list_clear O7 (v 4)))
   (aO (dH (p7 Cj F.slot_list_clear F.type_list_clear O7 (v 5)))
   (aO (bA (i:=7) nd (bK (QS Y) Y.x42 a (aC (v 2) aG)))
   (aS (bV (v_and (jO (jG a.units) (aW b (v 7) aK) (v 6)) (v_and (jO (jG a.units) (cR eC (by rfl) Y.len_ eD (aC (aW b (v 7) aK) aG)) (cR eC (by rfl) Y.len_ eD (aC (v 6) aG))) (p6 (jO (jG a.units) (cH (bK (QN Y) Y.x6 a (aC (h9 (zS rfl) (by rfl) Y.list_ mV (aC (v 6) aG)) aG))) (v 6))))))))))))))))))))
end
section
variable {w:Bl}{h:Heap}{mg:Str->Option Ae}
theorem mn(X:(hpK w.params).In h)(G:h.Ns Ee mg)(e:PySem.W.nsIn (hpK w.params) Ee x=some none:=by kernel_rfl):mg x=none:=PySem.W.mg_none_of X G e
theorem zjK(X:(hpK w.params).In h)(G:h.Ns Ee mg):Tx mg:=⟨⟨583,Gu (v:=.int 10000 583) X G (by kernel_rfl)⟩,⟨227,Gu (v:=.str "0123456789" 227) X G (by kernel_rfl)⟩,⟨225,Gu (v:=.str "ABCDEFGHIJKLMNOPQRSTUVWXYZ" 225) X G (by kernel_rfl)⟩,⟨581,Gu (v:=.str "whole" 581) X G (by kernel_rfl)⟩,mn X G,mn X G,mn X G,mn X G,mn X G,mn X G,mn X G,mn X G,mn X G,mn X G,mn X G,mn X G⟩
theorem zjL(X:(hpK w.params).In h)(G:h.Ns Ee mg):Kc (hpK w.params) mg ⟨151,207,237,244,318⟩:=⟨⟨by kernel_rfl,by kernel_rfl,by kernel_rfl,by kernel_rfl⟩,Gu (v:=.ref 151) X G (by kernel_rfl),⟨by kernel_rfl,by kernel_rfl,by kernel_rfl,by kernel_rfl⟩,Gu (v:=.ref 207) X G (by kernel_rfl),⟨by kernel_rfl,by kernel_rfl,by kernel_rfl,by kernel_rfl⟩,Gu (v:=.ref 318) X G (by kernel_rfl),(show Cg (hpK w.params) (.ref 151) "costs" = some none by kernel_rfl),(show Cg (hpK w.params) (.ref 151) "waiting" = some none by kernel_rfl),(show Cg (hpK w.params) (.ref 207) "grammar" = some none by kernel_rfl),(show Cg (hpK w.params) (.ref 207) "own" = some none by kernel_rfl),(show Cg (hpK w.params) (.ref 207) "steps" = some none by kernel_rfl),(show Cg (hpK w.params) (.ref 207) "queue" = some none by kernel_rfl),(show Cg (hpK w.params) (.ref 207) "reached" = some none by kernel_rfl),(show Cg (hpK w.params) (.ref 207) "best" = some none by kernel_rfl),(show Cg (hpK w.params) (.ref 207) "ends" = some none by kernel_rfl),(show Cg (hpK w.params) (.ref 207) "begun" = some none by kernel_rfl),(show Cg (hpK w.params) (.ref 318) "backs" = some none by kernel_rfl)⟩
def zjM(i:Nat):Addr:=([44,51,58,65,70,77,84,89,96,101,106,120,127,141,134,148,162,176,183,204,197,190,218,223,244,237,230,251,258,263,270,275,282,296,303,308,315,329,334,339,344,351,358,365,372,379,386,393,398,405,410,415,420,425]:List Addr).getD i 0
def zjN(i:Nat):Bi:=[FJ,FK,FL,FN,FO,FP,FQ,FR,FT,FU,FV,FX,FY,F0,FZ,F1,F5,F6,F7,GA,F9,F8,GB,GC,GG,GF,GD,GH,GJ,GK,GN,GO,GP,GQ,GR,GS,GU,GV,GW,GX,GY,GZ,G0,G1,G2,G3,G4,G5,G6,G7,G8,G9,HA,tU].getD i tU
theorem zjO(X:(hpK w.params).In h)(G:h.Ns Ee mg):Al (hpK w.params) mg ⟨151,207,237,244,318⟩ zjM zjN:=⟨zjK X G,zjL X G,dF X G,dF X G,dF X G,dF X G,dF X G,dF X G,dF X G,dF X G,dF X G,dF X G,dF X G,dI,dM,dM,dM,dM,dF X G,dI,dM,dM,dM,dM,dF X G,dF X G,dF X G,dF X G,dF X G,dF X G,dF X G,dF X G,dF X G,dF X G,dF X G,dI,dM,dM,dM,dF X G,dF X G,dF X G,dF X G,dF X G,dF X G,dF X G,dF X G,dF X G,dF X G,dF X G,dF X G,dF X G,dF X G,dF X G,dF X G,dF X G,rfl,rfl⟩
end
theorem zjP{l:PySem.W.OpenLaw}{w:Bl}{h:Heap}{mg:Str->Option Ae}{fa:Addr}(X:(hpK w.params).In h)(G:h.Ns Ee mg)(a:mg "law" = some (.ref fa)):
  ∃fd:Bi,(∀(s:Ah) (v:Ae),BindsTo s fd ⟨[v],[]⟩ [("script",v)])/\∀base:Heap,(hpK w.params).In base->base.Ns Ee mg->fE l.prog w (hpK w.params) mg base gP 10 fa fd ["script"] (iA (hpK w.params) sJ):=by
 have e:=a.symm.trans (Gu (v:=.ref 425) X G (by kernel_rfl));cases e;exact⟨tU,λs v=>.of_eq rfl,λbase _ _=>zjJ (zjO X G)⟩
theorem zjQ{l:PySem.W.OpenLaw}{q:Ax}{loose:List Str}{XP:(Str->Option Ae)->Heap->Prop}{YP:Bl->Heap->Prop}{d:DefRec}{K:Params->Ac}(i:l.most=some 63)(b:d.params.defaults=[])(e:∀(w:Bl) (h:Heap),YP w h->(K w.params).In h)(F:∀(w:Bl) (mg:Str->Option Ae) (fa:Addr) (h:Heap),(K w.params).In h->h.Ns Ee mg->mg d.name=some (.ref fa)->
   ∃fd:Bi,(∀(s:Ah) (u:Ae),BindsTo s fd ⟨[u],[]⟩ [("script",u)])/\∀base:Heap,(K w.params).In base->base.Ns Ee mg->fE l.prog w (K w.params) mg base gP 10 fa fd ["script"] (iA (K w.params) sJ)):
  PySem.W.WalkO q loose XP YP l.row.toRowW d [] (λf vs=>PySem.call f vs):=
 L2.XI (n:=63) (k:=10) (x:="script") (CX:=λ_=>gP) (sp:=λw=>iA (K w.params) sJ) i (by decide) b ⟨rfl,by decide,by decide⟩ e F (λ_ _ a ns hl g c=>Z7 hl g c) λ_ _ _ _ _ z=>z
end Rg
open PySem PySem.W PyProof.Rows
set_option maxRecDepth 100000 in
set_option maxHeartbeats 0 in
theorem PySem.Challenge.cw_readgrove_k60_without_empty_rules_holds : PySem.Challenge.rw_readgrove_k60_without_empty_rules.Holds := by
 w_on; refine PySem.W.holds_law Rg.tV λsaid => ?_
 refine PySem.W.holds_open (r := PySem.Challenge.rw_readgrove_k60_without_empty_rules.row) (q := Rg.qv) (loose := []) (N := 5648)
  (Xt := λs => xlAt Rg.qv [] s&&recOk (RowW.records (OpenRow.toRowW PySem.Challenge.rw_readgrove_k60_without_empty_rules.row)) s)
  (XP := XL Rg.qv []) (Yf := Rg.hk.obs) (Ya := Rg.hk.val) (YP := Rg.hk.says) ?hl Rg.hk.of Rg.hk.keeps
  (λs e => xl_of s (Bool.and_eq_true_iff.mp e).1) XL.keeps (by rfl) (by rfl) (by rfl) (λs e => recFacts_of (Bool.and_eq_true_iff.mp e).2)
  (by rfl) (by assumption) (by decide +kernel) ⟨rfl, rfl, rfl, rfl, rfl, by decide +kernel⟩ ?hw ?hc
 case hw => w_witness2
 case hc => exact Rg.zjQ (l := PySem.Challenge.rw_readgrove_k60_without_empty_rules) rfl rfl (λw h Y => PySem.W.kIn_of Y) (λw mg fa h KX G hmg => Rg.zjP KX G hmg)
 case hl => exact Rg.QW
