import PyProof.Rows.All
import Wide.All
import OpenK.AllK
import Wide.FinOn
import Lean
import PyProof.EqAt
import PyProof.EqKinds
import PyProof.TupleCall
import PySem.Challenge.RW_readgrove_k41_ways_on
open PySem renaming wpAny_bind->Aa,Value->Ae,wpAny_pure->Af,Shared->Ag,sizeLine->An,wpAny->Bc,model->Bo,starEach->Br,Program->Bt,FuncData->Bv,World->Ck,Around->Co,wpAny_holding->Ct,compareOp->Cw,wpAny_newObj_type->Cz,bootBuiltins->Dc,wpAny_ite_split->Dg,wpAny_call_entry->Dn,wpAny_rule->Ey,wpAny_Call_Name_kw->Ez,intKind->Fb,mainGlobals->Fi,wpAny_callSpecial?_slot->Fq,wpAny_setField->Fu,tupleKind_room_in1->Gb,wpAny_askSetting->Gf,wpAny_setState_of->Gi,foldedSetIterable->Gj,binaryOp->Gk,codeAny_builtin->Gr,cLine->Gu,plainId_quiet->Gw,tupleKind->Hg,sysModules->Hi,rawInt->Ho,assignEach->Hq,Paired->Hr,mem_of_lookup->Hu,SetTable->Hw,wpAny_mono->Ic,backTo->Ie,wpAny_typeNameOfWhole_keyiter->Iq,sizeLine_eq->Ir,Builtin->Iz,wpAny_passesOwn->Jb,swapsWith->Jd,behindInMarks->Je,DictEntry->Jj,builtinLookup_eq_fast->Jk,wpAny_pyIter_list->Jl,wpAny_dictEntries->Jm,holding->Jn,codeAny->Jo,NameKind->Jw,wpAny_typeNameOf_keyiter->Kl,attributeBase->Km,Scope->Kn,wpAny_typeOf->La,wpAny_truthy_bool->Lb,pyNext->Lc,firstArgMember->Ld,codeAny_mono->Lf,wpAny_notOrdered_dict->Lm,wpAny_isInstance->Lq,wpAny_eqBool_int->Lr,call_meets->Ls,wpAny_field->Lx,sliceBounds->Ly,wpAny_updateSeq->Mg,typeLookup_type->Mh,call_meetsIn->Mp,pickOrder->Mr,wpAny_tupleItemsOf->Mv,wpAny_seqItems->Mw,wpAny_pyIter_tuple->Mx,setsByText->My,isSubtype_type->Mz,PyData->Nc,Expr->Nh,wpAny_pyIter_enum->Nk,keywordEach->Nl,wpAny_attempt->Np,assign->Nr,atKey->Nx,wpAny_execs_nil->Oo,size_of_entries->Ot,letOwnedTupleGo->Ou,wpAny_tryCatch->Pc,wpAny_of_eq->Pd,wpAny_letGo->Pe,wpAny_fieldsOf->Pf,IsPart->Pg,storedH->Ph,standAt->Pj,seqItems?->Pk,scanBound->Pm,getMethod->Pn,getItem->Po,wpAny_setEntries_of->Pp,wpAny_standAt->Pq
open List renaming length_map->Ab,length_append->Aj,getElem?_eq_some_iff->Ak,mem_singleton->Ao,mem_cons_of_mem->Ap,getElem?_map->Av,map_cons->Aw,mem_map->Ax,size_toArray->Ay,map_append->Bd,mem_cons_self->Be,getElem?_eq_getElem->Bf,mem_cons->Bg,mem_of_getElem?->Bh,mem_append->Bi,length_cons->Bp,length_singleton->Bq,append_assoc->Bs,map_map->Ca,length_take->Cb,mem_append_left->Cd,replicate->Cf,mem_append_right->Cg,take_length->Cm,lookup->Cr,mem_flatMap->Cu,map_congr_left->Dv,range->Dw,nodup_cons->Dx,mem_filter->Dy,filter_cons->Dz,nodup_nil->Ee,mem_singleton_self->Ef,getD_eq_getElem?_getD->Eg,take_add_one->Eh,nodup_append->Ei,length->Ej,foldl_cons->Eu,append_nil->Ew,eq_nil_or_concat->Fd,concat_eq_append->Fe,getElem?_cons_succ->Fj,find?_cons->Fp,length_drop->Ft,any_cons->Gg,take_of_length_le->Gh,take_append_drop->Gm,perm_append_comm->Gn,mem_nil_iff->Gs,reverse_cons->Gx,foldl_append->Gy,nil_append->Gz,mem_zipIdx_iff_getElem?->Ha,replicate_succ->Hd,length_pos_iff->He,filterMap_cons->Hf,mem_filterMap->Hl,flatten_cons->Ht,mem_range->Hz,lookup_cons->Ia,length_eq_zero_iff->Ib,map_nil->Ii,filterMap_map->Ij,nodup_iff_pairwise_ne->Jg,mem_of_mem_take->Jh,mem_of_mem_drop->Ji,getElem_mem->Jp,any_eq_true->Jq,pairwise_iff_getElem->Js,getLastD_eq_getLast?->Jt,drop_eq_getElem_cons->Ju,sum_cons->Kb,pairwise_map->Ko,length_range->Kq,drop_zero->Kr,getElem?_eq_none->Kv,zipIdx_cons->Kw,perm_middle->Kx,append_cons->Ky,all_eq_true->Kz,mem_iff_getElem->Li,length_nil->Lp,length_reverse->Lv,getElem?_append_right->Me,filter_append->Mf,length_filterMap_le->Mu,not_mem_nil->Nf,map->Ng,extract->Nm,length_filter_le->Nv,getElem?_toArray->Nw,take_left->Og,drop_left->Oh,drop_drop->Oi,mem_map_of_mem->Ov,flatten_append->Ow,flatMap_append->Ox,all_cons->Oz
open PySem.W renaming Frag->Ac,findIn->Cq,kia_one->Fx,fnOf->Fy,keepIn->Gd,emptyDict->Ge,instObj->Hm,kitOne->Kg,codeIn->Kh,callWith_K->Lu,plainGet->Mq,isFn->Nb,lookIn->Nt,plainGet_of->Ny,mg_of->Of
open PySem.Heap renaming get?_push_of_some->Ah,get?_push_size->Au,lt_size->Az,SameBut->Dk,size_push->Ea,get?_update_other->Eb,get?_update_self->Ff
open Nat renaming le_refl->Ai,le_trans->Ar,zero_le->Bk,lt_of_lt_of_le->Bn,ne_of_lt->Bu,mul_le_mul_right->Ek,le_of_eq->Ep,lt_succ_of_lt->Fg,lt_succ_self->Fv,ne_of_gt->Gv,le_of_lt->Hj,add_le_add_left->Hy,mul_le_mul->Ig,lt_irrefl->Ke,not_lt_zero->Kf,lt_of_le_of_lt->Kj,zero_add->Ks,lt_of_succ_lt->Kt,le_succ->Ll,lt_of_lt_of_eq->Ml,min_le_right->Ni,mul_le_mul_left->Oy
open Bool renaming false_ne_true->Am,and_eq_true->Cv,false_eq_true->De,eq_iff_iff->Ex,not_true->Kd,and_eq_true_iff->Lj,not_not->Nn,not_false->Oj
open PyProof.Rows renaming wpS_bind->Ba,wpS_pure->Bj,Keyed->Ed,callWith_type1->Er,slot_tuple_getitem->Fc,wpS_forRange->Fm,pendingOf->Fw,SortSt->Ga,IntsAre->Hh,wpS_mono->Hv,failedOf->Ik,arrOf->Iu,wpS_modify->Iw,seqObj->Mi,wpS_get->Mo,SortKind->Na,envOfC->Nq,AllBare->Om,wpS_lift->Pb
open Option renaming map_eq_some_iff->Bb,isSome_iff_exists->Dh,isSome_map->Hn,map_some->Lh,getD_none->Ms
open PySem.PassesOwn renaming never->Bl
open Ne renaming symm->Bw
open Array renaming length_toList->Bx,toList_append->Cy,getElem?_toList->Dr,toList_push->Hs,toArray_toList->Jc,perm_iff_toList_perm->Mb,getElem?_eq_some_iff->Mc,toList_reverse->Oe
open Option.some renaming inj->Bz,injEq->Es
open PySem.Heap.SameBut renaming update->Ce
open Int renaming toNat_natCast->Ci,le_refl->Em,le_trans->Fh,zero_add->Im,add_assoc->Pa
open PySem.F renaming plainAttrs_list->Cj,plainAttrs_dict->Dl,slot_list_append->Du,type_list_append->Ec,slot_dict_keyiterator_next->Fz,type_dict_get->Gp,slot_dict_get->Gq,slot_tuple_iterator_next->Jv,plain_min_loop->Jx,called_set->Jy,entry_dict_get->Ki,slot_list_pop->Kk,type_list_pop->Lz,slot_list_getattribute->Nj,type_dict_setdefault->Oc,slot_dict_setdefault->Od
open List.Perm renaming append_left->Cp,append_right->Hx
open Prod.mk renaming injEq->Ds
open List.cons renaming injEq->El
open PySem.Str renaming ofString->Eo
open PySem.Around renaming under_plainId->Fl
open PySem.Paired renaming length->Fn
open Prod renaming fst->Fo,snd->Jz,ext->Ka
open PySem.Obj renaming mapFields->Fs,mapSeq->Hb,data_mapFields->Il,data_mapDictKeys->Lk,isFreed_of_fields->Oa
open Function renaming comp->Hc
open False renaming elim->Hk
open PySem.Builtin.SmallTypes renaming nextOf->Ih
open PySem.Builtin.Slice renaming slicePlaces->Ip,sliceAdjust->Lg
open PySem.SetTable renaming grown->Iv
open PySem.Builtin.Tuple renaming tupleExact->Iy
open PySem.Builtin.List renaming listTooLong->Ja,listExtendWith->Ku
open PySem.PyData renaming depth->Jf,eqv->Lw,eqvAll->Ol
open PySem.AutoSeq1 renaming wpAny_loadPart'->Jr
open PySem.Builtin.Str renaming occurrences->Ma
open Sum.inl renaming injEq->Mj
open PyProof.Rows.SortSt renaming mk'->Nd
open PyProof.Rows.F renaming plain_set_update_loop->Nu
set_option Elab.async false
set_option compiler.extract_closed false
set_option bootstrap.genMatcherCode false
set_option linter.all false
noncomputable section
set_option genSizeOf false
set_option maxRecDepth 100000
namespace L2
open PySem Spec PyProof.Rows
def kN(s:Stmt)(j:Nat):Stmt:=match s with
 | .ClassDef _ _ _ body _ _ _ _ _ _ _=>body.getD j (.Pass ⟨0,0,0,0⟩)
 | _=>.Pass ⟨0,0,0,0⟩
def jB(s:Stmt):Arguments:=match s with
 | .FunctionDef _ a _ _ _ _ _ _ _ _=>a
 | _=>{posonlyargs:=[],args:=[],vararg:=none,kwonlyargs:=[],kw_defaults:=[],kwarg:=none,defaults:=[]}
def h9(s:Stmt):List Stmt:=match s with
 | .FunctionDef _ _ b _ _ _ _ _ _ _=>b
 | _=>[]
def e8(s:Stmt):Kn:=match s with
 | .FunctionDef _ _ _ _ _ _ sc _ _ _=>sc
 | _=>{kind:=.function,names:=[],isGenerator:=false,isCoroutine:=false}
end L2
namespace Rg
open PySem Spec PyProof.Rows L2
def aV(i:Nat):Stmt:=PySem.Challenge.pw_readgrove_k41_ways_on.main.body.getD i (.Pass ⟨0,0,0,0⟩)
abbrev AK:Stmt:=aV 1
abbrev AL:Stmt:=aV 2
abbrev AN:Stmt:=aV 4
abbrev AQ:Stmt:=aV 5
abbrev AR:Stmt:=aV 6
abbrev AU:Stmt:=aV 7
abbrev AW:Stmt:=kN (aV 9) 0
abbrev AX:Stmt:=kN (aV 9) 1
abbrev AY:Stmt:=kN (aV 9) 2
abbrev AZ:Stmt:=kN (aV 9) 3
abbrev A0:Stmt:=kN (aV 9) 4
abbrev A1:Stmt:=aV 11
abbrev A2:Stmt:=kN (aV 12) 0
abbrev A5:Stmt:=kN (aV 12) 1
abbrev A6:Stmt:=kN (aV 12) 2
abbrev A7:Stmt:=kN (aV 12) 3
abbrev A8:Stmt:=kN (aV 12) 4
abbrev A9:Stmt:=aV 13
abbrev BA:Stmt:=aV 14
abbrev BB:Stmt:=aV 15
abbrev BC:Stmt:=aV 16
abbrev BD:Stmt:=aV 17
abbrev BE:Stmt:=aV 19
abbrev BF:Stmt:=aV 21
abbrev BG:Stmt:=aV 23
abbrev BH:Stmt:=aV 24
abbrev BI:Stmt:=aV 25
abbrev BJ:Stmt:=aV 26
abbrev BK:Stmt:=aV 28
abbrev BL:Stmt:=aV 29
abbrev BM:Stmt:=aV 30
abbrev BN:Stmt:=aV 31
abbrev BO:Stmt:=aV 32
abbrev BP:Stmt:=aV 33
abbrev BQ:Stmt:=aV 34
abbrev BR:Stmt:=aV 35
abbrev BS:Stmt:=aV 36
abbrev BU:Stmt:=aV 37
abbrev BV:Stmt:=aV 38
def en(P:Params)(x:String)(t:Tok)(v:Ae):Jj:=⟨PyData.keyHash P (Eo x),.str (Eo x) t,v⟩
abbrev sT(x:String)(t:Tok):Ae:=.str (Eo x) t
abbrev cO(x:String)(a:Tok)(q:String)(b c:Tok)(l n:Int)(r:Addr)(u v w y z:Ae)(k:Int)(d:Tok):Obj:=⟨.type "code",none,.fields #[sT x a,sT q b,sT "/claim/cut.py" c,.int l 0,.int n 0,.int 0 0,.int 0 0,.int 3 0,.ref r,.bool true,.int 181 0,u,v,w,y,z,.int k 0,.int l 0,sT "/claim/cut.py" d],#[]⟩
abbrev fO(x q:Str)(s:Stmt)(m c:Ae):Bv:=Fy x q (jB s) (h9 s) (e8 s) .none .none .none m none c .none
abbrev BW:Bv:=fO "names" "names" AK (sT "readgrove.grammars" 187) (.ref 20)
abbrev BX:Bv:=fO "first_name" "first_name" AL (sT "readgrove.grammars" 187) (.ref 27)
abbrev BY:Bv:=fO "marks" "marks" AN (sT "readgrove.covers" 205) (.ref 32)
abbrev BZ:Bv:=fO "places_of" "places_of" AQ (sT "readgrove.covers" 205) (.ref 39)
abbrev B0:Bv:=fO "row_steps" "row_steps" AR (sT "readgrove.covers" 205) (.ref 44)
abbrev B1:Bv:=fO "part_facts" "part_facts" AU (sT "readgrove.covers" 205) (.ref 49)
abbrev B3:Bv:=fO "__init__" "Queue.__init__" AW (sT "readgrove.queues" 232) (.ref 63)
abbrev B4:Bv:=fO "is_done" "Queue.is_done" AX (sT "readgrove.queues" 232) (.ref 70)
abbrev B5:Bv:=fO "put" "Queue.put" AY (sT "readgrove.queues" 232) (.ref 77)
abbrev B6:Bv:=fO "place_of" "Queue.place_of" AZ (sT "readgrove.queues" 232) (.ref 84)
abbrev B7:Bv:=fO "take" "Queue.take" A0 (sT "readgrove.queues" 232) (.ref 91)
abbrev B8:Bv:=fO "added" "added" A1 (sT "readgrove.leasts" 300) (.ref 105)
abbrev B9:Bv:=fO "__init__" "Search.__init__" A2 (sT "readgrove.leasts" 300) (.ref 119)
abbrev CA:Bv:=fO "reach" "Search.reach" A5 (sT "readgrove.leasts" 300) (.ref 126)
abbrev CB:Bv:=fO "take_next" "Search.take_next" A6 (sT "readgrove.leasts" 300) (.ref 133)
abbrev CC:Bv:=fO "step_by_name" "Search.step_by_name" A7 (sT "readgrove.leasts" 300) (.ref 140)
abbrev CD:Bv:=fO "settle" "Search.settle" A8 (sT "readgrove.leasts" 300) (.ref 147)
abbrev CF:Bv:=fO "least_trees" "least_trees" A9 (sT "readgrove.leasts" 300) (.ref 161)
abbrev CG:Bv:=fO "facts_within" "facts_within" BA (sT "readgrove.leasts" 300) (.ref 166)
abbrev CH:Bv:=fO "made_of_best" "made_of_best" BB (sT "readgrove.leasts" 300) (.ref 173)
abbrev CI:Bv:=fO "one_behind_another" "one_behind_another" BC (sT "readgrove.leasts" 300) (.ref 180)
abbrev CJ:Bv:=fO "joined" "joined" BD (sT "readgrove.leasts" 300) (.ref 187)
abbrev CK:Bv:=fO "no_weights" "no_weights" BE (sT "readgrove.spans" 455) (.ref 192)
abbrev CL:Bv:=fO "whole_fact" "whole_fact" BF (sT "readgrove.readings" 463) (.ref 199)
abbrev CM:Bv:=fO "words_of" "words_of" BG (sT "readgrove.nexts" 473) (.ref 206)
abbrev CN:Bv:=fO "steps_beyond" "steps_beyond" BH (sT "readgrove.nexts" 473) (.ref 213)
abbrev CO:Bv:=fO "listed" "listed" BI (sT "readgrove.nexts" 473) (.ref 220)
abbrev CP:Bv:=fO "way_on" "way_on" BJ (sT "readgrove.nexts" 473) (.ref 227)
abbrev CQ:Bv:=fO "_law_numbers" "_law_numbers" BK (sT "law_readgrove_k41_ways_on" 515) (.ref 234)
abbrev CS:Bv:=fO "_law_take" "_law_take" BL (sT "law_readgrove_k41_ways_on" 515) (.ref 241)
abbrev CT:Bv:=fO "_law_rules" "_law_rules" BM (sT "law_readgrove_k41_ways_on" 515) (.ref 246)
abbrev CU:Bv:=fO "_law_row" "_law_row" BN (sT "law_readgrove_k41_ways_on" 515) (.ref 251)
abbrev CV:Bv:=fO "_law_ends" "_law_ends" BO (sT "law_readgrove_k41_ways_on" 515) (.ref 258)
abbrev CW:Bv:=fO "_law_facts" "_law_facts" BP (sT "law_readgrove_k41_ways_on" 515) (.ref 263)
abbrev CY:Bv:=fO "_law_lengths" "_law_lengths" BQ (sT "law_readgrove_k41_ways_on" 515) (.ref 268)
abbrev CZ:Bv:=fO "_law_rest" "_law_rest" BR (sT "law_readgrove_k41_ways_on" 515) (.ref 273)
abbrev C0:Bv:=fO "_law_least" "_law_least" BS (sT "law_readgrove_k41_ways_on" 515) (.ref 278)
abbrev C1:Bv:=fO "_law_more" "_law_more" BU (sT "law_readgrove_k41_ways_on" 515) (.ref 285)
abbrev sQ:Bv:=fO "law" "law" BV (sT "law_readgrove_k41_ways_on" 515) (.ref 292)
def hpK:Params->Ac:=λP=>[(nat_lit 3,⟨(.type "dict"),none,.dict [en P "__name__" 165 (sT "law_readgrove_k41_ways_on" 515),en P "__doc__" 166 .none,en P "__package__" 167 .none,en P "__loader__" 168 (.builtin "__main__.__loader__#opaque"),en P "__spec__" 169 .none,en P "__annotations__" 170 (.ref 6),en P "__builtins__" 171 (.ref 4),en P "__file__" 173 (sT "/claim/cut.py" 172),en P "__cached__" 174 .none,en P "names" 197 (.ref 21),en P "first_name" 204 (.ref 28),en P "marks" 212 (.ref 33),en P "places_of" 219 (.ref 40),en P "row_steps" 225 (.ref 45),en P "part_facts" 231 (.ref 50),en P "Queue" 299 (.ref 95),en P "added" 309 (.ref 106),en P "Search" 399 (.ref 151),en P "least_trees" 412 (.ref 162),en P "facts_within" 418 (.ref 167),en P "made_of_best" 437 (.ref 174),en P "one_behind_another" 446 (.ref 181),en P "joined" 454 (.ref 188),en P "no_weights" 462 (.ref 193),en P "whole_fact" 472 (.ref 200),en P "words_of" 485 (.ref 207),en P "steps_beyond" 495 (.ref 214),en P "listed" 504 (.ref 221),en P "way_on" 514 (.ref 228),en P "_law_numbers" 529 (.ref 235),en P "_law_take" 538 (.ref 242),en P "_law_rules" 544 (.ref 247),en P "_law_row" 550 (.ref 252),en P "_law_ends" 561 (.ref 259),en P "_law_facts" 567 (.ref 264),en P "_law_lengths" 573 (.ref 269),en P "_law_rest" 579 (.ref 274),en P "_law_least" 585 (.ref 279),en P "_law_more" 602 (.ref 286),en P "law" 616 (.ref 293)].toArray 40,#[]⟩),
 (nat_lit 20,cO "names" 189 "names" 190 191 2 1 15 (.ref 16) .none (.ref 17) (.ref 18) (.ref 19) 195 196),
 (nat_lit 21,⟨(.type "function"),none,.func BW,#[]⟩),
 (nat_lit 27,cO "first_name" 198 "first_name" 199 200 7 1 22 (.ref 23) .none (.ref 24) (.ref 25) (.ref 26) 202 203),
 (nat_lit 28,⟨(.type "function"),none,.func BX,#[]⟩),
 (nat_lit 32,cO "marks" 207 "marks" 208 209 10 1 29 (.ref 30) .none .none .none (.ref 31) 210 211),
 (nat_lit 33,⟨(.type "function"),none,.func BY,#[]⟩),
 (nat_lit 39,cO "places_of" 213 "places_of" 214 215 12 1 34 (.ref 35) .none (.ref 36) (.ref 37) (.ref 38) 217 218),
 (nat_lit 40,⟨(.type "function"),none,.func BZ,#[]⟩),
 (nat_lit 44,cO "row_steps" 220 "row_steps" 221 222 14 1 41 (.ref 42) .none .none .none (.ref 43) 223 224),
 (nat_lit 45,⟨(.type "function"),none,.func B0,#[]⟩),
 (nat_lit 49,cO "part_facts" 226 "part_facts" 227 228 16 3 46 (.ref 47) .none .none .none (.ref 48) 229 230),
 (nat_lit 50,⟨(.type "function"),none,.func B1,#[]⟩),
 (nat_lit 63,cO "__init__" 246 "Queue.__init__" 247 248 21 1 58 (.ref 59) .none (.ref 60) (.ref 61) (.ref 62) 250 251),
 (nat_lit 64,⟨(.type "function"),none,.func B3,#[]⟩),
 (nat_lit 70,cO "is_done" 253 "Queue.is_done" 254 255 25 1 65 (.ref 66) .none (.ref 67) (.ref 68) (.ref 69) 257 258),
 (nat_lit 71,⟨(.type "function"),none,.func B4,#[]⟩),
 (nat_lit 77,cO "put" 260 "Queue.put" 261 262 28 3 72 (.ref 73) .none (.ref 74) (.ref 75) (.ref 76) 266 267),
 (nat_lit 78,⟨(.type "function"),none,.func B5,#[]⟩),
 (nat_lit 84,cO "place_of" 269 "Queue.place_of" 270 271 34 2 79 (.ref 80) .none (.ref 81) (.ref 82) (.ref 83) 277 278),
 (nat_lit 85,⟨(.type "function"),none,.func B6,#[]⟩),
 (nat_lit 91,cO "take" 280 "Queue.take" 281 282 45 1 86 (.ref 87) .none (.ref 88) (.ref 89) (.ref 90) 287 288),
 (nat_lit 92,⟨(.type "function"),none,.func B7,#[]⟩),
 (nat_lit 94,⟨(.type "dict"),none,.dict [en P "__module__" 241 (sT "readgrove.queues" 232),en P "__firstlineno__" 245 (.int 19 244),en P "__init__" 252 (.ref 64),en P "is_done" 259 (.ref 71),en P "put" 268 (.ref 78),en P "place_of" 279 (.ref 85),en P "take" 289 (.ref 92),en P "__static_attributes__" 292 (.ref 93),en P "__dict__" 294 (.ref 96),en P "__weakref__" 296 (.ref 97),en P "__doc__" 297 .none].toArray 4,#[]⟩),
 (nat_lit 95,⟨(.type "type"),none,.cls ⟨(Eo "Queue"),[(.type "object")],[(.ref 95),(.type "object")],94,(Eo "Queue"),true,[],[],false,none,false⟩,#[none,none,some (sT "Queue" 234),some (sT "Queue" 242),some (.builtin "object.__new__"),some (.bool true)]⟩),
 (nat_lit 105,cO "added" 302 "added" 303 304 54 2 100 (.ref 101) .none (.ref 102) (.ref 103) (.ref 104) 307 308),
 (nat_lit 106,⟨(.type "function"),none,.func B8,#[]⟩),
 (nat_lit 119,cO "__init__" 322 "Search.__init__" 323 324 58 3 114 (.ref 115) .none (.ref 116) (.ref 117) (.ref 118) 328 329),
 (nat_lit 120,⟨(.type "function"),none,.func B9,#[]⟩),
 (nat_lit 126,cO "reach" 331 "Search.reach" 332 333 68 4 121 (.ref 122) .none (.ref 123) (.ref 124) (.ref 125) 339 340),
 (nat_lit 127,⟨(.type "function"),none,.func CA,#[]⟩),
 (nat_lit 133,cO "take_next" 342 "Search.take_next" 343 344 74 1 128 (.ref 129) .none (.ref 130) (.ref 131) (.ref 132) 353 354),
 (nat_lit 134,⟨(.type "function"),none,.func CB,#[]⟩),
 (nat_lit 140,cO "step_by_name" 356 "Search.step_by_name" 357 358 90 5 135 (.ref 136) .none (.ref 137) (.ref 138) (.ref 139) 366 367),
 (nat_lit 141,⟨(.type "function"),none,.func CC,#[]⟩),
 (nat_lit 147,cO "settle" 369 "Search.settle" 370 371 95 4 142 (.ref 143) .none (.ref 144) (.ref 145) (.ref 146) 381 382),
 (nat_lit 148,⟨(.type "function"),none,.func CD,#[]⟩),
 (nat_lit 150,⟨(.type "dict"),none,.dict [en P "__module__" 317 (sT "readgrove.leasts" 300),en P "__firstlineno__" 321 (.int 56 320),en P "__init__" 330 (.ref 120),en P "reach" 341 (.ref 127),en P "take_next" 355 (.ref 134),en P "step_by_name" 368 (.ref 141),en P "settle" 383 (.ref 148),en P "__static_attributes__" 392 (.ref 149),en P "__dict__" 394 (.ref 152),en P "__weakref__" 396 (.ref 153),en P "__doc__" 397 .none].toArray 4,#[]⟩),
 (nat_lit 151,⟨(.type "type"),none,.cls ⟨(Eo "Search"),[(.type "object")],[(.ref 151),(.type "object")],150,(Eo "Search"),true,[],[],false,none,false⟩,#[none,none,some (sT "Search" 310),some (sT "Search" 318),some (.builtin "object.__new__"),some (.bool true)]⟩),
 (nat_lit 161,cO "least_trees" 400 "least_trees" 401 402 104 4 156 (.ref 157) .none (.ref 158) (.ref 159) (.ref 160) 410 411),
 (nat_lit 162,⟨(.type "function"),none,.func CF,#[]⟩),
 (nat_lit 166,cO "facts_within" 413 "facts_within" 414 415 112 3 163 (.ref 164) .none .none .none (.ref 165) 416 417),
 (nat_lit 167,⟨(.type "function"),none,.func CG,#[]⟩),
 (nat_lit 173,cO "made_of_best" 419 "made_of_best" 420 421 123 5 168 (.ref 169) .none (.ref 170) (.ref 171) (.ref 172) 435 436),
 (nat_lit 174,⟨(.type "function"),none,.func CH,#[]⟩),
 (nat_lit 180,cO "one_behind_another" 438 "one_behind_another" 439 440 137 1 175 (.ref 176) .none (.ref 177) (.ref 178) (.ref 179) 444 445),
 (nat_lit 181,⟨(.type "function"),none,.func CI,#[]⟩),
 (nat_lit 187,cO "joined" 447 "joined" 448 449 142 2 182 (.ref 183) .none (.ref 184) (.ref 185) (.ref 186) 452 453),
 (nat_lit 188,⟨(.type "function"),none,.func CJ,#[]⟩),
 (nat_lit 192,cO "no_weights" 457 "no_weights" 458 459 145 1 189 (.ref 190) .none .none .none (.ref 191) 460 461),
 (nat_lit 193,⟨(.type "function"),none,.func CK,#[]⟩),
 (nat_lit 199,cO "whole_fact" 465 "whole_fact" 466 467 148 2 194 (.ref 195) .none (.ref 196) (.ref 197) (.ref 198) 470 471),
 (nat_lit 200,⟨(.type "function"),none,.func CL,#[]⟩),
 (nat_lit 206,cO "words_of" 475 "words_of" 476 477 151 1 201 (.ref 202) .none (.ref 203) (.ref 204) (.ref 205) 483 484),
 (nat_lit 207,⟨(.type "function"),none,.func CM,#[]⟩),
 (nat_lit 213,cO "steps_beyond" 486 "steps_beyond" 487 488 159 2 208 (.ref 209) .none (.ref 210) (.ref 211) (.ref 212) 493 494),
 (nat_lit 214,⟨(.type "function"),none,.func CN,#[]⟩),
 (nat_lit 220,cO "listed" 496 "listed" 497 498 164 3 215 (.ref 216) .none (.ref 217) (.ref 218) (.ref 219) 502 503),
 (nat_lit 221,⟨(.type "function"),none,.func CO,#[]⟩),
 (nat_lit 227,cO "way_on" 505 "way_on" 506 507 166 2 222 (.ref 223) .none (.ref 224) (.ref 225) (.ref 226) 512 513),
 (nat_lit 228,⟨(.type "function"),none,.func CP,#[]⟩),
 (nat_lit 234,cO "_law_numbers" 517 "_law_numbers" 518 519 171 1 229 (.ref 230) .none (.ref 231) (.ref 232) (.ref 233) 527 528),
 (nat_lit 235,⟨(.type "function"),none,.func CQ,#[]⟩),
 (nat_lit 241,cO "_law_take" 530 "_law_take" 531 532 183 2 236 (.ref 237) .none (.ref 238) (.ref 239) (.ref 240) 536 537),
 (nat_lit 242,⟨(.type "function"),none,.func CS,#[]⟩),
 (nat_lit 246,cO "_law_rules" 539 "_law_rules" 540 541 189 1 243 (.ref 244) .none .none .none (.ref 245) 542 543),
 (nat_lit 247,⟨(.type "function"),none,.func CT,#[]⟩),
 (nat_lit 251,cO "_law_row" 545 "_law_row" 546 547 200 2 248 (.ref 249) .none .none .none (.ref 250) 548 549),
 (nat_lit 252,⟨(.type "function"),none,.func CU,#[]⟩),
 (nat_lit 258,cO "_law_ends" 551 "_law_ends" 552 553 215 5 253 (.ref 254) .none (.ref 255) (.ref 256) (.ref 257) 559 560),
 (nat_lit 259,⟨(.type "function"),none,.func CV,#[]⟩),
 (nat_lit 263,cO "_law_facts" 562 "_law_facts" 563 564 221 2 260 (.ref 261) .none .none .none (.ref 262) 565 566),
 (nat_lit 264,⟨(.type "function"),none,.func CW,#[]⟩),
 (nat_lit 268,cO "_law_lengths" 568 "_law_lengths" 569 570 240 1 265 (.ref 266) .none .none .none (.ref 267) 571 572),
 (nat_lit 269,⟨(.type "function"),none,.func CY,#[]⟩),
 (nat_lit 273,cO "_law_rest" 574 "_law_rest" 575 576 249 3 270 (.ref 271) .none .none .none (.ref 272) 577 578),
 (nat_lit 274,⟨(.type "function"),none,.func CZ,#[]⟩),
 (nat_lit 278,cO "_law_least" 580 "_law_least" 581 582 254 7 275 (.ref 276) .none .none .none (.ref 277) 583 584),
 (nat_lit 279,⟨(.type "function"),none,.func C0,#[]⟩),
 (nat_lit 285,cO "_law_more" 586 "_law_more" 587 588 272 2 280 (.ref 281) .none (.ref 282) (.ref 283) (.ref 284) 600 601),
 (nat_lit 286,⟨(.type "function"),none,.func C1,#[]⟩),
 (nat_lit 292,cO "law" 603 "law" 604 605 283 1 287 (.ref 288) .none (.ref 289) (.ref 290) (.ref 291) 614 615),
 (nat_lit 293,⟨(.type "function"),none,.func sQ,#[]⟩)]
def NN:List Addr:=[nat_lit 3,nat_lit 20,nat_lit 21,nat_lit 27,nat_lit 28,nat_lit 32,nat_lit 33,nat_lit 39,nat_lit 40,nat_lit 44,nat_lit 45,nat_lit 49,nat_lit 50,nat_lit 63,nat_lit 64,nat_lit 70,nat_lit 71,nat_lit 77,nat_lit 78,nat_lit 84,nat_lit 85,nat_lit 91,nat_lit 92,nat_lit 94,nat_lit 95,nat_lit 105,nat_lit 106,nat_lit 119,nat_lit 120,nat_lit 126,nat_lit 127,nat_lit 133,nat_lit 134,nat_lit 140,nat_lit 141,nat_lit 147,nat_lit 148,nat_lit 150,nat_lit 151,nat_lit 161,nat_lit 162,nat_lit 166,nat_lit 167,nat_lit 173,nat_lit 174,nat_lit 180,nat_lit 181,nat_lit 187,nat_lit 188,nat_lit 192,nat_lit 193,nat_lit 199,nat_lit 200,nat_lit 206,nat_lit 207,nat_lit 213,nat_lit 214,nat_lit 220,nat_lit 221,nat_lit 227,nat_lit 228,nat_lit 234,nat_lit 235,nat_lit 241,nat_lit 242,nat_lit 246,nat_lit 247,nat_lit 251,nat_lit 252,nat_lit 258,nat_lit 259,nat_lit 263,nat_lit 264,nat_lit 268,nat_lit 269,nat_lit 273,nat_lit 274,nat_lit 278,nat_lit 279,nat_lit 285,nat_lit 286,nat_lit 292,nat_lit 293]
def qv:Bt:={PySem.Challenge.pw_readgrove_k41_ways_on with main:={PySem.Challenge.pw_readgrove_k41_ways_on.main with body:=[aV 1,aV 2,aV 4,aV 5,aV 6,aV 7,aV 9,aV 11,aV 12,aV 13,aV 14,aV 15,aV 16,aV 17,aV 19,aV 21,aV 23,aV 24,aV 25,aV 26,aV 28,aV 29,aV 30,aV 31,aV 32,aV 33,aV 34,aV 35,aV 36,aV 37,aV 38]}}
def hk:PySem.W.Hook:=PySem.W.kHook hpK NN (λ_=>by kernel_rfl)
theorem NO{Z O J:Type}{o:Option Z}{f:Z->O}{g:Z->J}{a:O}{b:J}(h:o.map f=some a)(k:o.map g=some b):o.map (λs=>(f s,g s))=some (a,b):=by
 cases o with
 | none=>cases h
 | some s=>cases h;cases k;rfl
set_option maxHeartbeats 0 in
open PySem.W in
theorem wF(w:Ck):(openEnds treeTable PySem.Challenge.rw_readgrove_k41_ways_on.row.prog w 3486).map hk.obs=some (hk.val w):=by kernel_rfl
set_option maxHeartbeats 0 in
open PySem.W in
theorem qH(w:Ck):(openEnds treeTable PySem.Challenge.rw_readgrove_k41_ways_on.row.prog w 3486).map (λs=>openSeen qv [] (importedModules PySem.Challenge.rw_readgrove_k41_ways_on.row.prog.main.body) (λs=>xlAt qv [] s&&recOk (RowW.records (OpenRow.toRowW PySem.Challenge.rw_readgrove_k41_ways_on.row)) s) true s)=some (openGood qv []):=by kernel_rfl
set_option maxHeartbeats 0 in
theorem NP:PySem.Challenge.rw_readgrove_k41_ways_on.wellSaid=true:=by kernel_rfl
open PySem.W in
theorem NQ:LeftO PySem.Challenge.rw_readgrove_k41_ways_on.row.prog qv [] (λs=>xlAt qv [] s&&recOk (RowW.records (OpenRow.toRowW PySem.Challenge.rw_readgrove_k41_ways_on.row)) s) hk.obs hk.val 3486:=λw=>NO (qH w) (wF w)
end Rg
namespace L2
open PySem Spec PyProof.Rows
abbrev aF:=Sum Int Str
def nL:aF->Ae->Bool
 | .inl k,v=>Value.isInt k v
 | .inr x,v=>Value.isStrOf x v
def NR(w:Ck):aF->Int
 | .inl k=>hashInt k
 | .inr x=>hashStr w x
theorem kO:∀{k:aF} {v:Ae},nL k v=true->(∃i t,k=Sum.inl i/\v=Value.int i t)\/(∃x t,k=Sum.inr x/\v=Value.str x t)
 | .inl i,v,h=>by
  obtain⟨t,e⟩:=Value.isInt_shape (k:=i) (v:=v) h;exact .inl ⟨i,t,rfl,e⟩
 | .inr x,v,h=>by
  obtain⟨t,e⟩:=Value.isStrOf_shape (x:=x) (v:=v) h;exact .inr ⟨x,t,rfl,e⟩
theorem NS(i:Int)(t:Tok):nL (.inl i) (.int i t)=true:=by simp[nL,Value.isInt]
theorem NT(x:Str)(t:Tok):nL (.inr x) (.str x t)=true:=by simp[nL,Value.isStrOf]
theorem NU(a b:Int):decide ((Sum.inl a:aF)=Sum.inl b)=(a==b):=by
 by_cases e:a=b
 .subst e;simp
 .have h:¬(Sum.inl a:aF)=Sum.inl b:=λq=>e (Sum.inl.inj q);rw[decide_eq_false h];exact(beq_eq_false_iff_ne.mpr e).symm
theorem NV(a b:Str):decide ((Sum.inr a:aF)=Sum.inr b)=decide (a=b):=by
 by_cases e:a=b
 .subst e;simp
 .have h:¬(Sum.inr a:aF)=Sum.inr b:=λq=>e (Sum.inr.inj q);rw[decide_eq_false h,decide_eq_false e]
theorem NW(a:Int)(b:Str):decide ((Sum.inl a:aF)=Sum.inr b)=false:=decide_eq_false (λq=>nomatch q)
theorem NX(a:Str)(b:Int):decide ((Sum.inr a:aF)=Sum.inl b)=false:=decide_eq_false (λq=>nomatch q)
def dH(prog:Bt)(w:Ck):PySem.KeyKind prog w aF where
 is:=nL
 hash:=NR w
 inj:=λv a b ha hb=>by
  rcases kO ha with⟨i,t,rfl,rfl⟩|⟨x,t,rfl,rfl⟩
  .rcases kO hb with⟨j,u,rfl,e⟩|⟨y,u,rfl,e⟩
   .injection e with e1 _;rw[e1]
   .exact nomatch e
  .rcases kO hb with⟨j,u,rfl,e⟩|⟨y,u,rfl,e⟩
   .exact nomatch e
   .injection e with e1 _;rw[e1]
 byValue:=λk v h=>by
  rcases kO h with⟨i,t,rfl,rfl⟩|⟨x,t,rfl,rfl⟩<;>rfl
 pyHash:=λhv h=>by
  rcases kO hv with⟨i,t,rfl,rfl⟩|⟨x,t,rfl,rfl⟩
  .exact wpAny_pyHash_int h
  .exact wpAny_pyHash_str h
 eqBool:=λhu hv h=>by
  rcases kO hu with⟨i,t,rfl,rfl⟩|⟨x,t,rfl,rfl⟩
  .rcases kO hv with⟨j,u,rfl,rfl⟩|⟨y,u,rfl,rfl⟩
   .rw[NU]at h;exact Lr h
   .rw[NW]at h;exact SeqAt.EqAt.int_str i t y u _ _ _ _ h
  .rcases kO hv with⟨j,u,rfl,rfl⟩|⟨y,u,rfl,rfl⟩
   .rw[NX]at h;exact SeqAt.EqAt.str_int x t j u _ _ _ _ h
   .rw[NV]at h;exact wpAny_eqBool_str h
 «strs»:=λk x t v h=>by
  rcases kO h with⟨i,u,rfl,e⟩|⟨y,u,rfl,e⟩
  .exact nomatch e
  .injection e with e1 _;subst e1;cases v<;>rfl
theorem NY(prog:Bt)(w:Ck)(i:Int)(t:Tok):(dH prog w).is (.inl i) (.int i t)=true:=NS i t
theorem NZ(prog:Bt)(w:Ck)(x:Str)(t:Tok):(dH prog w).is (.inr x) (.str x t)=true:=NT x t
inductive V where
 | non|bl (b:Bool)|int (i:Int)|str (x:Str)|byt (b:Array UInt8)|flt (b:UInt64)|ref (a:Addr)|ty (n:String)
 deriving DecidableEq
def RelV:V->Ae->Prop
 | .non,u=>u=Value.none
 | .bl b,u=>u=Value.bool b
 | .int i,u=>∃t,u=Value.int i t
 | .str x,u=>∃t,u=Value.str x t
 | .byt b,u=>∃t,u=Value.bytes b t
 | .flt b,u=>∃t,u=Value.float b t
 | .ref a,u=>u=Value.ref a
 | .ty n,u=>u=Value.type n
abbrev aT:List V->List Ae->Prop:=Hr RelV
theorem aT.length{xs:List V}{us:List Ae}(r:aT xs us):xs.length=us.length:=Fn r
theorem aT.get:∀{xs:List V} {us:List Ae} {i:Nat} {x:V},aT xs us->xs[i]? = some x->∃u,us[i]? = some u/\RelV x u
 | _,_,_,_,.nil,e=>by simp at e
 | _,_,0,_,.cons r _,e=>by simp at e;subst e;exact⟨_,rfl,r⟩
 | _,_,i+1,x,.cons _ t,e=>by
  obtain⟨u,h1,h2⟩:=aT.get (i:=i) (x:=x) t (by simpa using e);exact⟨u,by simpa using h1,h2⟩
theorem aT.set{x:V}{u:Ae}(r:RelV x u):∀{xs:List V} {us:List Ae} (i:Nat),aT xs us->aT (xs.set i x) (us.set i u)
 | _,_,_,.nil=>.nil
 | _,_,0,.cons _ t=>.cons r t
 | _,_,i+1,.cons q t=>.cons q (aT.set r i t)
theorem aT.append:∀{xs ys:List V} {us ws:List Ae},aT xs us->aT ys ws->aT (xs++ys) (us++ws)
 | _,_,_,_,.nil,s=>s
 | _,_,_,_,.cons r t,s=>.cons r (aT.append t s)
theorem aT.take:∀{xs:List V} {us:List Ae} (n:Nat),aT xs us->aT (xs.take n) (us.take n)
 | _,_,0,_=>.nil
 | _,_,_+1,.nil=>.nil
 | _,_,n+1,.cons r t=>.cons r (aT.take n t)
theorem aT.drop:∀{xs:List V} {us:List Ae} (n:Nat),aT xs us->aT (xs.drop n) (us.drop n)
 | _,_,0,r=>r
 | _,_,_+1,.nil=>.nil
 | _,_,n+1,.cons _ t=>aT.drop n t
def fV:Option V->Option Ae->Prop
 | some v,some u=>RelV v u
 | none,none=>True
 | _,_=>False
def KV{U:Type}:List (U×V)->List (U×Ae)->Prop:=Hr λ(p:U×V) (q:U×Ae)=>p.1=q.1/\RelV p.2 q.2
def kV:aF->V
 | .inl i=>.int i
 | .inr x=>.str x
inductive HO where
 | lst (xs:List V)
 | tup (xs:List V)
 | dK (kvs:List (aF×V))|dT (kvs:List (List aF×V))
 | set (S:Int->Bool) (n:Nat)
 | ins (C dx:Addr) (fs:List (Str×V))
 | own (x:Addr)
 | xd (fs:List (Str×V))
 | met (f x:Addr)
 | rng (lo hi:Int)
 | frz (o:Obj) (u:HO)
 | tbl (ps:Array Ae)
 | ext (φ:Heap->Prop)
abbrev Hp:=Addr->Option HO
def aR(H:Hp)(a:Addr)(o:HO):Hp:=λb=>if b=a then some o else H b
theorem dO{H:Hp}{a:Addr}{o:HO}:aR H a o a=some o:=by unfold aR;rw[if_pos rfl]
theorem bF{H:Hp}{a b:Addr}{o:HO}(h:b≠a):aR H a o b=H b:=by unfold aR;rw[if_neg h]
theorem sR{H:Hp}{a b:Addr}{o u:HO}(h:H a=some o)(h':H b=some u)(d:o≠u):a≠b:=by
 intro e;subst e;rw[h]at h';exact d (Bz h')
theorem fH{H:Hp}{a b:Addr}{o:HO}(h:H a=some o)(h':H b=none):a≠b:=by
 intro e;subst e;rw[h]at h';cases h'
section
variable (P:Bt)(w:Ck)
def cL(H:Hp)(h:Heap)(a:Addr):HO->Prop
 | .lst xs=>xs.length<=An/\∃(its:List Ae) (n:Nat),aT xs its/\h.get? a=some {cls:=.type "list",data:=.seq its.toArray n}
 | .tup xs=>xs.length<=An/\∃its:List Ae,aT xs its/\IsTup h a its.toArray
 | .dK kvs=>kvs.length<=An/\(a==Hi)=false/\∃vs,KV kvs vs/\h.DictOf (dH P w) a vs
 | .dT kvs=>kvs.length<=An/\(a==Hi)=false/\∃xs:List (List aF×Addr×Ae),
   Hr (λ(p:List aF×V) (q:List aF×Addr×Ae)=>p.1=q.1/\H q.2.1=some (.tup (p.1.map kV))/\RelV p.2 q.2.2) kvs xs/\
   ∃o es ep,h.get? a=some o/\o.ExactDict/\o.data=.dict es ep/\es.toList=xs.map (entryOfKey (Hg (dH P w)))/\(xs.map (·.1)).Nodup
 | .set S n=>h.SetOf (Fb P w) a S n
 | .ins C dx fs=>H dx=some (.own a)/\fs.length<=1000/\dx≠a/\h.get? a=some (Hm C dx)/\
   ∃mA,h.Ns1 dx mA/\(∀f,fV (fs.lookup f) (mA f))/\PySem.Within mA (fs.map (·.1))
 | .own _=>∃o,h.get? a=some o
 | .xd fs=>∃mA,h.Ns1 a mA/\∀f,fV (fs.lookup f) (mA f)
 | .rng lo hi=>∃t u v,h.get? a=some {cls:=.type "range",data:=.fields #[.int lo t,.int hi u,.int 1 v]}
 | .frz o u=>h.get? a=some o/\cL H h a u
 | .tbl ps=>h.get? a=some {cls:=.none,data:=.fields ps}
 | .met f x=>h.get? a=some (PySem.W.methodObj (.ref f) (.ref x))
 | .ext φ=>φ h/\(∃o,h.get? a=some o)/\∀h1 h2:Heap,φ h1->(∀o,h1.get? a=some o->h2.get? a=some o)->φ h2
def cV(H:Hp)(h:Heap):Prop:=∀a o,H a=some o->cL P w H h a o
end
section
variable {P:Bt}{w:Ck}{H H':Hp}{h h':Heap}{a:Addr}{o:HO}
theorem cL.lt(x:cL P w H h a o):a<h.objs.size:=by
 cases o with
 | lst xs=>obtain⟨_,_,_,_,e⟩:=x;exact Az e
 | tup xs=>obtain⟨_,_,_,p⟩:=x;exact p.lt
 | dK kvs=>obtain⟨_,_,_,_,o,_,_,e,_⟩:=x;exact Az e
 | dT kvs=>obtain⟨_,_,_,_,o,_,_,e,_⟩:=x;exact Az e
 | set S n=>obtain⟨o,_,_,_,e,_⟩:=x;exact Az e
 | ins C dx fs=>obtain⟨_,_,_,e,_⟩:=x;exact Az e
 | own y=>obtain⟨_,e⟩:=x;exact Az e
 | xd fs=>obtain⟨_,⟨_,_,_,e,_⟩,_⟩:=x;exact Az e
 | rng lo hi=>obtain⟨_,_,_,e⟩:=x;exact Az e
 | frz ob u=>obtain⟨e,_⟩:=x;exact Az e
 | tbl ps=>exact Az (show h.get? a=some _ from x)
 | met f y=>exact Az (show h.get? a=some _ from x)
 | ext φ=>obtain⟨_,⟨_,e⟩,_⟩:=x;exact Az e
theorem Paired.mapP{O J:Type}{F G:O->J->Prop}:∀{l1:List O} {l2:List J},Hr F l1 l2->(∀a b,F a b->G a b)->Hr G l1 l2
 | _,_,.nil,_=>.nil
 | _,_,.cons r t,f=>.cons (f _ _ r) (Paired.mapP t f)
theorem cL.stay(x:cL P w H h a o)(k:∀b u,(b=a\/H b=some (.own a))->h.get? b=some u->h'.get? b=some u)(ho:∀b,H b=some (.own a)->H' b=some (.own a))(ht:∀b xs,H b=some (.tup xs)->H' b=some (.tup xs)):cL P w H' h' a o:=by
 induction o with
 | lst xs=>obtain⟨z,its,n,r,e⟩:=x;exact⟨z,its,n,r,k _ _ (.inl rfl) e⟩
 | tup xs=>obtain⟨z,its,r,ob,e,c⟩:=x;exact⟨z,its,r,ob,k _ _ (.inl rfl) e,c⟩
 | dK kvs=>obtain⟨z,y,vs,r,ob,es,ep,e,c⟩:=x;exact⟨z,y,vs,r,ob,es,ep,k _ _ (.inl rfl) e,c⟩
 | dT kvs=>
  obtain⟨z,y,xs,r,ob,es,ep,e,c⟩:=x;exact⟨z,y,xs,Paired.mapP r λp q z=>⟨z.1,ht _ _ z.2.1,z.2.2⟩,ob,es,ep,k _ _ (.inl rfl) e,c⟩
 | set S n=>obtain⟨ob,es,ep,t,e,c⟩:=x;exact⟨ob,es,ep,t,k _ _ (.inl rfl) e,c⟩
 | ins C dx fs=>
  obtain⟨d,z,ne,e,mA,⟨od,es,ep,e2,c⟩,r⟩:=x;exact⟨ho _ d,z,ne,k _ _ (.inl rfl) e,mA,⟨od,es,ep,k _ _ (.inr d) e2,c⟩,r⟩
 | own y=>obtain⟨ob,e⟩:=x;exact⟨ob,k _ _ (.inl rfl) e⟩
 | xd fs=>obtain⟨mA,⟨od,es,ep,e,c⟩,r⟩:=x;exact⟨mA,⟨od,es,ep,k _ _ (.inl rfl) e,c⟩,r⟩
 | rng lo hi=>obtain⟨t,u,v,e⟩:=x;exact⟨t,u,v,k _ _ (.inl rfl) e⟩
 | frz ob u ih=>obtain⟨e,q⟩:=x;exact⟨k _ _ (.inl rfl) e,ih q⟩
 | tbl ps=>
  have e:h.get? a=some {cls:=.none,data:=.fields ps}:=x;show h'.get? a=some {cls:=.none,data:=.fields ps};exact k a _ (.inl rfl) e
 | met f y=>
  have e:h.get? a=some (PySem.W.methodObj (.ref f) (.ref y)):=x;show h'.get? a=some (PySem.W.methodObj (.ref f) (.ref y));exact k a _ (.inl rfl) e
 | ext φ=>obtain⟨p,⟨o,e⟩,st⟩:=x;exact⟨st _ _ p λo q=>k _ _ (.inl rfl) q,⟨o,k _ _ (.inl rfl) e⟩,st⟩
theorem cV.lt(x:cV P w H h)(e:H a=some o):a<h.objs.size:=(x a o e).lt
theorem cV.fresh(x:cV P w H h)(e:h.objs.size<=a):H a=none:=by
 cases q:H a with
 | none=>rfl
 | some u=>exact absurd (Bn (x.lt q) e) (Ke _)
theorem cV.kept(x:cV P w H h)(k:∀b u,h.get? b=some u->h'.get? b=some u):cV P w H h':=λa o e=>
 (x a o e).stay (λb u _ q=>k b u q) (λ_ q=>q) λ_ _ q=>q
theorem cV.laid(x:cV P w H h)(k:∀b u,h.get? b=some u->h'.get? b=some u)(hp:h.objs.size<=a)(new:cL P w (aR H a o) h' a o):cV P w (aR H a o) h':=λb u e=>by
 have hn:=x.fresh hp
 by_cases hb:b=a
 .subst hb;rw[dO]at e;cases e;exact new
 .rw[bF hb]at e;exact(x b u e).stay (λc v _ q=>k c v q) (λc q=>by rw[bF (fH q hn)];exact q) λc xs q=>by rw[bF (fH q hn)];exact q
end
def Rd(H:Hp)(a:Addr)(u:HO):Prop:=H a=some u\/∃o,H a=some (.frz o u)
theorem Rd.ok{P:Bt}{w:Ck}{H:Hp}{h:Heap}{a:Addr}{u:HO}(r:Rd H a u)(x:cV P w H h):cL P w H h a u:=by
 rcases r with r|⟨o,r⟩
 .exact x a u r
 .obtain⟨_,q⟩:=x a _ r;exact q
def qI:Option HO->Prop
 | some (.lst _)=>True
 | some (.dK _)=>True
 | some (.dT _)=>True
 | some (.set _ _)=>True
 | some (.ins _ _ _)=>True
 | some (.ext _)=>True
 | _=>False
section
variable {P:Bt}{w:Ck}{H:Hp}{h h':Heap}{x e:Addr}{o':HO}
theorem cV.write(ok:cV P w H h)(mu:qI (H x))(he:e=x\/H e=some (.own x))(k:∀b u,b≠e->h.get? b=some u->h'.get? b=some u)(heo:∃u,h'.get? e=some u)(new:cL P w (aR H x o') h' x o'):cV P w (aR H x o') h':=λb u q=>by
 have nown:∀c y,H c=some (.own y)->c≠x:=λc y r z=>by subst z;rw[r]at mu;exact mu
 have ntup:∀c xs,H c=some (.tup xs)->c≠x:=λc xs r z=>by subst z;rw[r]at mu;exact mu
 by_cases hb:b=x
 .subst hb;rw[dO]at q;cases q;exact new
 .rw[bF hb]at q
  by_cases hbe:b=e
  .have q':H b=some (.own x):=by
    rcases he with z|z
    .exact absurd (hbe.trans z) hb
    .rw[hbe];exact z
   rw[q]at q';cases q';obtain⟨v,hv⟩:=heo;exact⟨v,by rw[hbe];exact hv⟩
  .refine(ok b u q).stay (λc v hc r=>k c v ?_ r) (λc r=>by rw[bF (nown c b r)];exact r) λc xs r=>by rw[bF (ntup c xs r)];exact r
   rcases hc with rfl|hc
   .exact hbe
   .rintro rfl;rcases he with z|z
    .exact nown c b hc z
    .rw[hc]at z;cases z;exact hb rfl
end
structure Un(fs ex:List Addr)(H H':Hp)(h h':Heap):Prop where
 keep:∀b o,h.get? b=some o->H b=none->b∉fs->b∉ex->h'.get? b=some o
 slot:∀b o,h.get? b=some o->H b=none->b∈fs->b∉ex->∃sl,h'.get? b=some {o with slots:=sl}
 free:∀b o,h.get? b=some o->H b=none->b∉ex->H' b=none
 there:∀b o,h.get? b=some o->b∉ex->∃o',h'.get? b=some o'
 tups:∀b xs,H b=some (.tup xs)->H' b=some (.tup xs)
 frzs:∀b o u,H b=some (.frz o u)->H' b=some (.frz o u)
 tbls:∀b ps,H b=some (.tbl ps)->∃more,H' b=some (.tbl (ps++more))
section
variable {fs fs' ex ex':List Addr}{H H1 H2:Hp}{h h1 h2 h':Heap}{a x e:Addr}{o:HO}
theorem Un.any(u:Un fs ex H H1 h h1){b:Addr}{ob:Obj}(q:h.get? b=some ob)(n:H b=none)(hx:b∉ex):∃sl,h1.get? b=some {ob with slots:=sl}:=by
 by_cases hb:b∈fs
 .exact u.slot b ob q n hb hx
 .exact⟨ob.slots,u.keep b ob q n hb hx⟩
theorem Un.kept(k:∀b u,h.get? b=some u->h'.get? b=some u):Un fs ex H H h h':=
 ⟨λb ob q _ _ _=>k b ob q,λb ob q _ _ _=>⟨ob.slots,k b ob q⟩,λ_ _ _ n _=>n,λb ob q _=>⟨ob,k b ob q⟩,λ_ _ q=>q,λ_ _ _ q=>q,λ_ ps q=>⟨#[],by rw[q];simp⟩⟩
theorem Un.refl:Un fs ex H H h h:=Un.kept λ_ _ q=>q
theorem Un.laid(k:∀b u,h.get? b=some u->h'.get? b=some u)(hp:h.objs.size<=a)(hn:H a=none):Un fs ex H (aR H a o) h h' where
 keep:=λb u q _ _ _=>k b u q
 slot:=λb u q _ _ _=>⟨u.slots,k b u q⟩
 free:=λb u q n _=>by rw[bF (Bu (Bn (Az q) hp))];exact n
 there:=λb u q _=>⟨u,k b u q⟩
 tups:=λb xs q=>by rw[bF (fH q hn)];exact q
 frzs:=λb u xs q=>by rw[bF (fH q hn)];exact q
 tbls:=λb ps q=>⟨#[],by rw[bF (fH q hn),q];simp⟩
theorem Un.write(mu:qI (H x))(he:e=x\/H e=some (.own x))(k:∀b u,b≠e->h.get? b=some u->h'.get? b=some u)(heo:∃u,h'.get? e=some u):Un fs ex H (aR H x o) h h':=by
 have hx:∀b,H b=none->b≠x:=λb n z=>by subst z;rw[n]at mu;exact mu
 have hb:∀b,H b=none->b≠e:=λb n z=>by
  subst z;rcases he with r|r
  .exact hx b n r
  .rw[n]at r;cases r
 have hm:∀b u,H b=some u->¬qI (some u)->b≠x:=λb u q nm z=>by subst z;rw[q]at mu;exact nm mu
 refine⟨λb u q n _ _=>k b u (hb b n) q,λb u q n _ _=>⟨u.slots,k b u (hb b n) q⟩,λb u q n _=>by rw[bF (hx b n)];exact n,λb u q _=>?_,
  λb xs q=>by rw[bF (hm b _ q λz=>z)];exact q,λb u xs q=>by rw[bF (hm b _ q λz=>z)];exact q,λb ps q=>⟨#[],by rw[bF (hm b _ q λz=>z),q];simp⟩⟩
 by_cases hbe:b=e
 .subst hbe;exact heo
 .exact⟨u,k b u hbe q⟩
end
def sS(h:Heap)(H:Hp):List Addr:=(Dw h.objs.size).filter λa=>(H a).isSome
def lK(h:Heap)(H:Hp):Heap:=PySem.W.hideAll h (sS h H)
theorem N0(h:Heap)(H:Hp):(lK h H).objs.size=h.objs.size:=PySem.W.hideAll_size _ _
theorem N2{h:Heap}{H:Hp}{b:Addr}{o:Obj}(e:h.get? b=some o)(n:H b=none):(lK h H).get? b=some o:=
 PySem.W.hideAll_get _ e λhm=>by
  have q:(H b).isSome=true:=(Dy.mp hm).2;rw[n]at q;simp at q
theorem N3{h:Heap}{H:Hp}{b:Addr}{o:Obj}(e:(lK h H).get? b=some o):h.get? b=some o/\H b=none:=by
 have e':h.get? b=some o:=PySem.W.of_hideAll (sS h H) e;refine⟨e',?_⟩;cases q:H b with
 | none=>rfl
 | some x=>
  have hm:b∈sS h H:=Dy.mpr ⟨Hz.mpr (Az e'),by simp[q]⟩;have z:(lK h H).get? b=none:=PySem.W.hideAll_none (sS h H) hm;rw[z]at e;cases e
structure Mod(K:Ac)(mg:Str->Option Ae)(base:Heap):Prop where
 kin:K.In base
 glob:base.Ns Fi mg
 blt:∃mb,base.Ns builtinsNs mb/\∀x:Str,x≠"__name__"->mb x=Dc x
 nolimit:base.NoLimit
structure Cx where
 prog:Bt
 w:Ck
 K:Ac
 mg:Str->Option Ae
 base:Heap
 A:Co
 N:List Str
 s₀:Ag
 H₀:Hp
 env:Env
 outer:List Env
 stack:List Env
 ex:List Addr
 fn:Str->Bool
 calm:Bool
 pn:List (Addr×Obj)
 xe:Ae->Ag->Prop
def iL(l:List Env):List Addr:=l.filterMap (·.frame)
abbrev Cx.fs(X:Cx):List Addr:=iL X.outer
def sU(sc:Kn)(x:Str):Prop:=sc.names.lookup x=some .local\/sc.names.lookup x=some .cell\/sc.names.lookup x=some .free
def Loc(sc:Kn)(x:Str):Prop:=sc.names.lookup x=some .local\/sc.names.lookup x=some .cell
def Look(env:Env)(h:Heap)(m:Str->Option Ae)(x:Str)(u:Ae):Prop:=
 (env.kindOf x=some .local/\m x=some u)\/((env.kindOf x=some .cell\/env.kindOf x=some .free)/\∃c,env.cells.lookup x=some c/\h.IsCell c (some u))
structure Cx.Ok(X:Cx):Prop where
 mod:Mod X.K X.mg X.base
 kind:X.env.scope.kind=.function
 glob:X.env.globals=Fi
 blt:X.env.builtins=builtinsNs
 above:X.s₀.heap.objs.size<=X.env.locals
 inj:∀x y c,X.env.cells.lookup x=some c->X.env.cells.lookup y=some c->x=y
 has:∀x,(X.env.kindOf x=some .cell\/X.env.kindOf x=some .free)->∃c,X.env.cells.lookup x=some c
 cab:∀x c,X.fn x=true->X.env.cells.lookup x=some c->X.s₀.heap.objs.size<=c
 hd:X.calm=true->X.A.handled=none
 frames:X.A.frames=some X.stack
 stk:X.stack=X.outer\/(X.stack=X.env::X.outer/\X.env.frame=some X.env.locals)
 exf:∀b∈X.ex,b≠X.env.locals/\∀x c,X.env.cells.lookup x=some c->c≠b
 bs:∀b o,X.base.get? b=some o->X.s₀.heap.get? b=some o/\X.H₀ b=none
 bsz:X.base.objs.size<=X.s₀.heap.objs.size
 noex:∀b o,X.base.get? b=some o->b∉X.ex
 exfs:∀b∈X.ex,b∉X.fs
 funs:X.s₀.heap.FunFrames X.base X.outer
 frf:∀b∈X.fs,X.H₀ b=none
structure Inv(X:Cx)(pins:List (Addr×Obj))(Z:List (Option V))(H:Hp)(s:Ag):Prop where
 ok:X.Ok
 os:s.os=X.s₀.os
 bare:Om s.gens
 base:Un X.fs X.ex X.H₀ H X.s₀.heap s.heap
 loc:∃m,s.heap.Ns X.env.locals m/\∀(i:Nat) (x:Str) (v:V),X.N[i]? = some x->Z[i]? = some (some v)->sU X.env.scope x->∃u,RelV v u/\Look X.env s.heap m x u
 cell:∀x c,X.env.cells.lookup x=some c->∃v,s.heap.IsCell c v
 free:H X.env.locals=none
 freeC:∀x c,X.env.cells.lookup x=some c->H c=none
 pin:∀p∈X.pn++pins,s.heap.get? p.1=some p.2/\H p.1=none/\p.1≠X.env.locals/\p.1∉X.fs/\∀v,p.2.data≠.cell v
 hok:cV X.prog X.w H s.heap
 len:Z.length=X.N.length
section
variable {X:Cx}{pins:List (Addr×Obj)}{Z:List (Option V)}{H H':Hp}{s:Ag}{h':Heap}
theorem Cx.Ok.nofr(ok:X.Ok){b:Addr}{o:Obj}(e:X.base.get? b=some o):b∉X.fs:=λhb=>by
 have:=(ok.funs.mem hb).1;rw[e]at this;cases this
theorem Inv.bs(I:Inv X pins Z H s):∀b o,X.base.get? b=some o->s.heap.get? b=some o/\H b=none:=λb o e=>
 ⟨I.base.keep b o (I.ok.bs b o e).1 (I.ok.bs b o e).2 (I.ok.nofr e) (I.ok.noex b o e),I.base.free b o (I.ok.bs b o e).1 (I.ok.bs b o e).2 (I.ok.noex b o e)⟩
theorem Inv.bk(I:Inv X pins Z H s):∀b o,X.base.get? b=some o->s.heap.get? b=some o:=λb o e=>(I.bs b o e).1
theorem Inv.mod(I:Inv X pins Z H s):Mod X.K X.mg X.base:=I.ok.mod
theorem Inv.kIn(I:Inv X pins Z H s):X.K.In s.heap:=I.ok.mod.kin.keeps I.bk
theorem Inv.lt(I:Inv X pins Z H s):X.env.locals<s.heap.objs.size:=let ⟨_,hn,_⟩:=I.loc;hn.lt
theorem Inv.sz(I:Inv X pins Z H s):X.s₀.heap.objs.size<=s.heap.objs.size:=Ar I.ok.above (Hj I.lt)
theorem Inv.nofs(I:Inv X pins Z H s){a:Addr}(h:s.heap.objs.size<=a):a∉X.fs:=λhb=>by
 obtain⟨_,o,ho,_⟩:=I.ok.funs.mem hb;exact absurd (Bn (Az ho) (Ar I.sz h)) (Ke _)
theorem Inv.cne(I:Inv X pins Z H s):∀x c,X.env.cells.lookup x=some c->c≠X.env.locals:=λx c e z=>by
 obtain⟨v,o,ho,hd⟩:=I.cell x c e;obtain⟨m,⟨o',es,ep,ho',hd',_⟩,_⟩:=I.loc;rw[z,ho']at ho;cases ho;rw[hd']at hd;cases hd
theorem Inv.funs(I:Inv X pins Z H s):s.heap.FunFrames X.base X.outer:=by
 have all:∀(l:List Env),(∀b∈iL l,b∈X.fs)->X.s₀.heap.FunFrames X.base l->s.heap.FunFrames X.base l:=by
  intro l
  induction l with
  | nil=>intro _ _;trivial
  | cons env r ih=>
   intro hs hl;obtain⟨hk,⟨L,o,hf,hn,ho,hd⟩,hr⟩:=hl;have hL:L∈X.fs:=hs L (by unfold iL;rw[Hf,hf];exact Be);obtain⟨sl,e⟩:=I.base.slot L o ho (I.ok.frf L hL) hL λz=>I.ok.exfs L z hL;exact⟨hk,⟨L,_,hf,hn,e,hd⟩,ih (λb hb=>hs b (by unfold iL;rw[Hf,hf];exact Ap _ hb)) hr⟩
 exact all X.outer (λ_ hb=>hb) I.ok.funs
theorem Inv.stack(I:Inv X pins Z H s):s.heap.FunFrames X.base X.stack:=by
 rcases I.ok.stk with e|⟨e,hf⟩
 .rw[e];exact I.funs
 .rw[e];obtain⟨m,hn,_⟩:=I.loc;refine .cons (by rw[I.ok.kind];decide) hf hn ?_ I.funs;exact Heap.get?_none_of_le (Ar I.ok.bsz I.ok.above)
theorem Inv.stkSub(I:Inv X pins Z H s):∀b∈iL X.stack,b∈X.env.locals::X.fs:=λb hb=>by
 rcases I.ok.stk with e|⟨e,hf⟩
 .rw[e]at hb;exact Ap _ hb
 .rw[e]at hb;unfold iL at hb;rw[Hf,hf]at hb;exact hb
theorem Inv.stkFree(I:Inv X pins Z H s):∀b∈iL X.stack,H b=none:=λb hb=>by
 rcases Bg.mp (I.stkSub b hb) with e|hb
 .rw[e];exact I.free
 .obtain⟨_,o,ho,_⟩:=I.ok.funs.mem hb;exact I.base.free b o ho (I.ok.frf b hb) λz=>I.ok.exfs b z hb
theorem Inv.step{g':Array GenState}{t':Nat}{d':Drawn}{ch:List Addr}(I:Inv X pins Z H s)(hch:∀b∈ch,(b∈X.ex\/X.s₀.heap.objs.size<=b)/\b≠X.env.locals/\(∀x c,X.env.cells.lookup x=some c->c≠b)/\∀p∈X.pn++pins,p.1≠b)(keep:∀b o,b≠X.env.locals->b∉X.fs->b∉ch->s.heap.get? b=some o->H b=none->h'.get? b=some o)(slot:∀b o,b≠X.env.locals->b∈X.fs->b∉ch->s.heap.get? b=some o->H b=none->∃sl,h'.get? b=some {o with slots:=sl})(free:∀b o,b∉ch->s.heap.get? b=some o->H b=none->H' b=none)(there:∀b o,b∉ch->s.heap.get? b=some o->∃o',h'.get? b=some o')(tups:∀b xs,H b=some (.tup xs)->H' b=some (.tup xs))(frzs:∀b o u,H b=some (.frz o u)->H' b=some (.frz o u))(tbls:∀b ps,H b=some (.tbl ps)->∃more,H' b=some (.tbl (ps++more)))(ns:∀m,s.heap.Ns X.env.locals m->h'.Ns X.env.locals m)(hok:cV X.prog X.w H' h')(hg:Om g'):
  Inv X pins Z H' {s with heap:=h',gens:=g',drawn:=d',toks:=t'}:=by
 have neL:∀b o,X.s₀.heap.get? b=some o->b≠X.env.locals:=λb o e=>Bu (Bn (Az e) I.ok.above);have neC:∀b o,X.s₀.heap.get? b=some o->b∉X.ex->b∉ch:=λb o e hx hb=>by
  rcases(hch b hb).1 with z|z
  .exact hx z
  .exact absurd (Bn (Az e) z) (Ke _)
 have cellK:∀x c,X.env.cells.lookup x=some c->∀v,s.heap.IsCell c v->h'.IsCell c v:=λx c e v ⟨o,ho,hd⟩=>by
  have nch:c∉ch:=λz=>(hch c z).2.2.1 x c e rfl
  by_cases hc:c∈X.fs
  .obtain⟨sl,q⟩:=slot c o (I.cne x c e) hc nch ho (I.freeC x c e);exact⟨_,q,hd⟩
  .exact⟨o,keep c o (I.cne x c e) hc nch ho (I.freeC x c e),hd⟩
 refine⟨I.ok,I.os,hg,⟨λb o e n hb hx=>?_,λb o e n hb hx=>?_,λb o e n hx=>?_,λb o e hx=>?_,λb xs e=>tups b xs (I.base.tups b xs e),λb o xs e=>frzs b o xs (I.base.frzs b o xs e),λb ps e=>?_⟩,?_,λx c e=>?_,?_,λx c e=>?_,λp hp=>?_,hok,I.len⟩
 .exact keep b o (neL b o e) hb (neC b o e hx) (I.base.keep b o e n hb hx) (I.base.free b o e n hx)
 .obtain⟨sl,e1⟩:=I.base.slot b o e n hb hx;obtain⟨sl',e2⟩:=slot b _ (neL b o e) hb (neC b o e hx) e1 (I.base.free b o e n hx);exact⟨sl',e2⟩
 .obtain⟨o',e1⟩:=I.base.there b o e hx;exact free b o' (neC b o e hx) e1 (I.base.free b o e n hx)
 .obtain⟨o',e1⟩:=I.base.there b o e hx;exact there b o' (neC b o e hx) e1
 .obtain⟨m1,e1⟩:=I.base.tbls b ps e;obtain⟨m2,e2⟩:=tbls b _ e1;exact⟨m1++m2,by rw[e2,Array.append_assoc]⟩
 .obtain⟨m,hn,hl⟩:=I.loc;refine⟨m,ns m hn,λi x v e1 e2 e3=>?_⟩;obtain⟨u,r,l⟩:=hl i x v e1 e2 e3;refine⟨u,r,?_⟩;rcases l with l|⟨k,c,e,z⟩
  .exact .inl l
  .exact .inr ⟨k,c,e,cellK x c e _ z⟩
 .obtain⟨v,z⟩:=I.cell x c e;exact⟨v,cellK x c e v z⟩
 .obtain⟨m,⟨o,_,_,ho,_⟩,_⟩:=I.loc;exact free _ o (λz=>(hch _ z).2.1 rfl) ho I.free
 .obtain⟨v,o,ho,hd⟩:=I.cell x c e;exact free c o (λz=>(hch c z).2.2.1 x c e rfl) ho (I.freeC x c e)
 .obtain⟨e,n,ne,nf,d⟩:=I.pin p hp;have nch:p.1∉ch:=λz=>(hch p.1 z).2.2.2 p hp rfl;exact⟨keep p.1 p.2 ne nf nch e n,free p.1 p.2 nch e n,ne,nf,d⟩
theorem Inv.un{t':Nat}(I:Inv X pins Z H s)(u:Un X.fs [] H H' s.heap h')(hok:cV X.prog X.w H' h'):Inv X pins Z H' {s with heap:=h',toks:=t'}:=by
 obtain⟨m,⟨o,es,ep,ho,r⟩,_⟩:=id I.loc;obtain⟨sl,hL⟩:=u.any ho I.free (by simp);exact I.step (g':=s.gens) (d':=s.drawn) (ch:=[]) (λ_ z=>nomatch z) (λb o _ hb _ e n=>u.keep b o e n hb (by simp)) (λb o _ hb _ e n=>u.slot b o e n hb (by simp)) (λb o _ e n=>u.free b o e n (by simp)) (λb o _ e=>u.there b o e (by simp)) u.tups u.frzs u.tbls (λm' hm=>by
  obtain⟨o',es',ep',ho',r'⟩:=hm;rw[ho]at ho';cases ho';exact⟨_,es',ep',hL,r'⟩) hok I.bare
theorem Inv.call{g':Array GenState}{t':Nat}{d':Drawn}{ch:List Addr}(I:Inv X pins Z H s)(u:Un (iL X.stack) ch H H' s.heap h')(hok:cV X.prog X.w H' h')(hg:Om g')(hch:∀b∈ch,(b∈X.ex\/X.s₀.heap.objs.size<=b)/\b≠X.env.locals/\(∀x c,X.env.cells.lookup x=some c->c≠b)/\∀p∈X.pn++pins,p.1≠b):
  Inv X pins Z H' {s with heap:=h',gens:=g',drawn:=d',toks:=t'}:=by
 obtain⟨m,⟨o,es,ep,ho,r⟩,_⟩:=id I.loc;obtain⟨sl,hL⟩:=u.any ho I.free λz=>(hch _ z).2.1 rfl;exact I.step (ch:=ch) hch (λb o hL hb hc e n=>u.keep b o e n (λz=>(Bg.mp (I.stkSub b z)).elim hL hb) hc) (λb o _ _ hc e n=>u.any e n hc) (λb o hc e n=>u.free b o e n hc) (λb o hc e=>u.there b o e hc) u.tups u.frzs u.tbls (λm' hm=>by
  obtain⟨o',es',ep',ho',r'⟩:=hm;rw[ho]at ho';cases ho';exact⟨_,es',ep',hL,r'⟩) hok hg
theorem Inv.turned{t':Nat}{it:Addr}(I:Inv X pins Z H s)(k:∀b o,b≠it->s.heap.get? b=some o->h'.get? b=some o)(hn:H it=none)(hL:it≠X.env.locals)(h1:it∈X.ex\/X.s₀.heap.objs.size<=it)(h2:∀x c,X.env.cells.lookup x=some c->c≠it)(h3:∀p∈X.pn++pins,p.1≠it):Inv X pins Z H {s with heap:=h',toks:=t'}:=by
 have nit:∀b u,H b=some u->b≠it:=λb u e z=>by rw[z,hn]at e;cases e
 refine I.step (g':=s.gens) (d':=s.drawn) (ch:=[it]) (λb hb=>?_) (λb o _ _ hc e _=>k b o (λz=>hc (by simp[z])) e) (λb o _ _ hc e _=>⟨o.slots,k b o (λz=>hc (by simp[z])) e⟩) (λ_ _ _ _ n=>n)
  (λb o hc e=>⟨o,k b o (λz=>hc (by simp[z])) e⟩) (λ_ _ e=>e) (λ_ _ _ e=>e) (λb ps e=>⟨#[],by rw[e];simp⟩) (λm hm=>?_) (λb u e=>?_) I.bare
 .have e:b=it:=by simpa using hb
  subst e;exact⟨h1,hL,h2,h3⟩
 .obtain⟨o,es,ep,ho,r⟩:=hm;exact⟨o,es,ep,k _ o (Bw hL) ho,r⟩
 .refine(I.hok b u e).stay (λc v hc q=>k c v ?_ q) (λ_ q=>q) λ_ _ q=>q;rcases hc with z|z
  .rw[z];exact nit b u e
  .exact nit c _ z
theorem Inv.tok(I:Inv X pins Z H s)(t:Nat):Inv X pins Z H {s with toks:=t}:=I.un (h':=s.heap) (t':=t) Un.refl I.hok
theorem Inv.kept{t':Nat}(I:Inv X pins Z H s)(k:∀b u,s.heap.get? b=some u->h'.get? b=some u):Inv X pins Z H {s with heap:=h',toks:=t'}:=I.un (Un.kept k) (I.hok.kept k)
theorem Inv.laid{a:Addr}{o:HO}{t':Nat}(I:Inv X pins Z H s)(k:∀b u,s.heap.get? b=some u->h'.get? b=some u)(hp:s.heap.objs.size<=a)(new:cL X.prog X.w (aR H a o) h' a o):
  Inv X pins Z (aR H a o) {s with heap:=h',toks:=t'}:=I.un (Un.laid k hp (I.hok.fresh hp)) (I.hok.laid k hp new)
theorem Inv.write{x e:Addr}{o:HO}{t':Nat}(I:Inv X pins Z H s)(mu:qI (H x))(he:e=x\/H e=some (.own x))(k:∀b u,b≠e->s.heap.get? b=some u->h'.get? b=some u)(heo:∃u,h'.get? e=some u)(new:cL X.prog X.w (aR H x o) h' x o):Inv X pins Z (aR H x o) {s with heap:=h',toks:=t'}:=I.un (Un.write mu he k heo) (I.hok.write mu he k heo new)
theorem Inv.pins_of{pins':List (Addr×Obj)}(I:Inv X pins Z H s)(h:∀p∈pins',s.heap.get? p.1=some p.2/\H p.1=none/\p.1≠X.env.locals/\p.1∉X.fs/\∀v,p.2.data≠.cell v):Inv X pins' Z H s:=
 ⟨I.ok,I.os,I.bare,I.base,I.loc,I.cell,I.free,I.freeC,λp hp=>(Bi.mp hp).elim (λz=>I.pin p (Cd _ z)) (h p),I.hok,I.len⟩
theorem C2{N:List Str}(hN:N.Nodup){i j:Nat}{x:Str}(a:N[i]? = some x)(b:N[j]? = some x):i=j:=by
 obtain⟨h1,e1⟩:=Ak.mp a;obtain⟨h2,e2⟩:=Ak.mp b;exact(List.getElem_inj hN).mp (e1.trans e2.symm)
theorem C3{M:Model}{A:Co}{E:Ae->Ag->Prop}{i:Nat}{x:Str}{v:V}{u:Ae}{Q:Unit->Ag->Prop}(I:Inv X pins Z H s)(hN:X.N.Nodup)(hi:X.N[i]? = some x)(hx:Loc X.env.scope x)(r:RelV v u)(h:∀s',Inv X pins (Z.set i (some v)) H s'->(∃a,Dk a s.heap s'.heap/\(a=X.env.locals\/X.env.cells.lookup x=some a))->Q () s')(hf:X.fn x=true\/X.env.scope.names.lookup x=some .local:=by first|exact .inl rfl|exact .inr rfl|assumption):Bc M A (storeName X.env x u) Q E s:=by
 obtain⟨m,hn,hl⟩:=id I.loc;have hcls:(X.env.scope.kind==.class||(X.env.scope.kind==.module&&X.env.locals !=X.env.globals))=false:=by rw[I.ok.kind];rfl
 have hiσ:i<Z.length:=by rw[I.len];exact(Ak.mp hi).1
 have cne:=I.cne;have tracked:∀{a:Addr} {h':Heap},(∃o,s.heap.get? a=some o/\H a=none)->Dk a s.heap h'->cV X.prog X.w H h':=λ{a h'} ha hs b ob e=>by
  obtain⟨_,_,hfree⟩:=ha;refine(I.hok b ob e).stay (λc w' hc q=>(hs.2 c ?_).trans q) (λ_ q=>q) λ_ _ q=>q;rintro rfl;rcases hc with rfl|hc
  .rw[hfree]at e;cases e
  .rw[hfree]at hc;cases hc
 rcases hx with hk|hk
 .refine wpAny_storeName_local hk hn (λh' hn' hs=>?_) hcls;obtain⟨oL,_,_,hoL,_⟩:=id hn;refine h _ ⟨I.ok,I.os,I.bare,⟨λb o e n hb hx=>?_,λb o e n hb hx=>?_,I.base.free,λb o e hx=>?_,I.base.tups,I.base.frzs,I.base.tbls⟩,⟨_,hn',λj y v' e1 e2 e3=>?_⟩,λy c e=>?_,I.free,I.freeC,λp hp=>?_,tracked ⟨oL,hoL,I.free⟩ hs,by simpa using I.len⟩ ⟨_,hs,.inl rfl⟩
  .exact(hs.2 b (Bu (Bn (Az e) I.ok.above))).trans (I.base.keep b o e n hb hx)
  .obtain⟨sl,e1⟩:=I.base.slot b o e n hb hx;exact⟨sl,(hs.2 b (Bu (Bn (Az e) I.ok.above))).trans e1⟩
  .obtain⟨o',e1⟩:=I.base.there b o e hx;exact⟨o',(hs.2 b (Bu (Bn (Az e) I.ok.above))).trans e1⟩
  .by_cases hj:j=i
   .subst hj;rw[hi]at e1;cases e1;rw[List.getElem?_set_self hiσ]at e2;cases e2;exact⟨u,r,.inl ⟨hk,by simp⟩⟩
   .rw[List.getElem?_set_ne (Bw hj)]at e2;obtain⟨u',r',q⟩:=hl j y v' e1 e2 e3;refine⟨u',r',?_⟩;rcases q with⟨k,e⟩|⟨k,c,e,z⟩
    .refine .inl ⟨k,?_⟩;have:y≠x:=λe=>hj (C2 hN e1 (e▸hi));simp[this,e]
    .exact .inr ⟨k,c,e,z.sameBut hs (cne y c e)⟩
  .obtain⟨w',z⟩:=I.cell y c e;exact⟨w',z.sameBut hs (cne y c e)⟩
  .obtain⟨e,n,ne,nf,d⟩:=I.pin p hp;exact⟨(hs.2 p.1 ne).trans e,n,ne,nf,d⟩
 .have hfn:X.fn x=true:=by
   rcases hf with z|z
   .exact z
   .rw[z]at hk;cases hk
  obtain⟨c,hc⟩:=I.ok.has x (.inl hk);obtain⟨w',z⟩:=I.cell x c hc;refine wpAny_storeName_cell I.ok.kind hk hc z (λh' hc' hs=>?_);obtain⟨oc,hoc,hocd⟩:=id z;refine h {s with heap:=h'} ⟨I.ok,I.os,I.bare,⟨λb o e n hb hx=>?_,λb o e n hb hx=>?_,I.base.free,λb o e hx=>?_,I.base.tups,I.base.frzs,I.base.tbls⟩,⟨m,hn.sameBut hs (Bw (cne x c hc)),λj y v' e1 e2 e3=>?_⟩,λy c' e=>?_,I.free,I.freeC,λp hp=>?_,tracked ⟨oc,hoc,I.freeC x c hc⟩ hs,by simpa using I.len⟩ ⟨c,hs,.inr hc⟩
  .exact(hs.2 b (Bu (Bn (Az e) (I.ok.cab x c hfn hc)))).trans (I.base.keep b o e n hb hx)
  .obtain⟨sl,e1⟩:=I.base.slot b o e n hb hx;exact⟨sl,(hs.2 b (Bu (Bn (Az e) (I.ok.cab x c hfn hc)))).trans e1⟩
  .obtain⟨o',e1⟩:=I.base.there b o e hx;exact⟨o',(hs.2 b (Bu (Bn (Az e) (I.ok.cab x c hfn hc)))).trans e1⟩
  .by_cases hj:j=i
   .subst hj;rw[hi]at e1;cases e1;rw[List.getElem?_set_self hiσ]at e2;cases e2;exact⟨u,r,.inr ⟨.inl hk,c,hc,hc'⟩⟩
   .rw[List.getElem?_set_ne (Bw hj)]at e2;obtain⟨u',r',q⟩:=hl j y v' e1 e2 e3;refine⟨u',r',?_⟩;rcases q with q|⟨k,c',e,z'⟩
    .exact .inl q
    .refine .inr ⟨k,c',e,z'.sameBut hs ?_⟩;rintro rfl;exact hj (C2 hN e1 (I.ok.inj _ _ _ e hc▸hi))
  .by_cases hcc:c'=c
   .subst hcc;exact⟨_,hc'⟩
   .obtain⟨w2,z2⟩:=I.cell y c' e;exact⟨w2,z2.sameBut hs hcc⟩
  .obtain⟨e,n,ne,nf,d⟩:=I.pin p hp;refine⟨(hs.2 p.1 ?_).trans e,n,ne,nf,d⟩;intro q;rw[q,hoc]at e;have q':oc=p.2:=Bz e;exact d w' (by rw[<-q'];exact hocd)
theorem C4{M:Model}{A:Co}{E:Ae->Ag->Prop}{i:Nat}{x:Str}{v:V}{u:Ae}{Q:Unit->Ag->Prop}(I:Inv X pins Z H s)(hN:X.N.Nodup)(hi:X.N[i]? = some x)(hx:Loc X.env.scope x)(r:RelV v u)(h:∀s',Inv X pins (Z.set i (some v)) H s'->Q () s')(hf:X.fn x=true\/X.env.scope.names.lookup x=some .local:=by first|exact .inl rfl|exact .inr rfl|assumption):Bc M A (storeName X.env x u) Q E s:=
 C3 I hN hi hx r (λs' I' _=>h s' I') hf
theorem Inv.call'{s':Ag}{ch:List Addr}(I:Inv X pins Z H s)(ho:s'.os=s.os)(u:Un (iL X.stack) ch H H' s.heap s'.heap)(hok:cV X.prog X.w H' s'.heap)(hg:Om s'.gens)(hch:∀b∈ch,(b∈X.ex\/X.s₀.heap.objs.size<=b)/\b≠X.env.locals/\(∀x c,X.env.cells.lookup x=some c->c≠b)/\∀p∈X.pn++pins,p.1≠b):Inv X pins Z H' s':=by
 obtain⟨h',g',d',t',o'⟩:=s';have e:o'=s.os:=ho;subst e;exact I.call (g':=g') (t':=t') (d':=d') u hok hg hch
end
abbrev XK:=Ae->Option Addr->Hp->Prop
abbrev St:=List (Option V)
abbrev VK:=V->Hp->Prop
abbrev TE:=St->Hp->VK->Prop
abbrev TT:=St->Hp->(Bool->Hp->Prop)->Prop
abbrev TA:=St->Hp->(List V->Hp->Prop)->Prop
structure lM where
 nx:St->Hp->Prop
 rt:VK
 bk:St->Hp->Prop:=λ_ _=>False
 ct:St->Hp->Prop:=λ_ _=>False
abbrev TS:=lM->St->Hp->Prop
def EP(X:Cx)(pins:List (Addr×Obj))(Z:St)(Q:VK)(u:Ae)(b:Ag):Prop:=∃v a,Inv X pins Z a b/\RelV v u/\Q v a
def TP(X:Cx)(pins:List (Addr×Obj))(Z:St)(Q:Bool->Hp->Prop)(b:Bool)(c:Ag):Prop:=∃a,Inv X pins Z a c/\Q b a
def AP(X:Cx)(pins:List (Addr×Obj))(Z:St)(Q:List V->Hp->Prop)(us:List Ae)(b:Ag):Prop:=∃vs a,Inv X pins Z a b/\aT vs us/\Q vs a
def SP(X:Cx)(pins:List (Addr×Obj))(D:lM)(f:Flow)(c:Ag):Prop:=
 match f with
 | .next=>∃a b,Inv X pins a b c/\D.nx a b
 | .brk=>∃a b,Inv X pins a b c/\D.bk a b
 | .cont=>∃a b,Inv X pins a b c/\D.ct a b
 | .ret u=>∃v a b,Inv X pins a b c/\RelV v u/\D.rt v b
def PE(X:Cx)(e:Expr)(t:TE):Prop:=
 ∀(pins:List (Addr×Obj)) (s:Ag) (Z:St) (H:Hp) (Q:VK),Inv X pins Z H s->t Z H Q->Bc (Bo X.prog X.w) X.A (eval e X.env) (EP X pins Z Q) X.xe s
def PT(X:Cx)(e:Expr)(t:TT):Prop:=
 ∀(pins:List (Addr×Obj)) (s:Ag) (Z:St) (H:Hp) (Q:Bool->Hp->Prop),Inv X pins Z H s->t Z H Q->Bc (Bo X.prog X.w) X.A (isTrue e X.env (eval e X.env)) (TP X pins Z Q) X.xe s
def PW(X:Cx)(e:Expr)(t:TT):Prop:=
 ∀(a:Sem Ae) (pins:List (Addr×Obj)) (s:Ag) (Z:St) (H:Hp) (Q:Bool->Hp->Prop),Inv X pins Z H s->t Z H Q->Bc (Bo X.prog X.w) X.A (isTrue e X.env a) (TP X pins Z Q) X.xe s
theorem PW.pt(h:PW X e t):PT X e t:=h _
def PA(X:Cx)(es:List Expr)(t:TA):Prop:=
 ∀(pos:Pos) (pins:List (Addr×Obj)) (s:Ag) (Z:St) (H:Hp) (Q:List V->Hp->Prop),Inv X pins Z H s->t Z H Q->Bc (Bo X.prog X.w) X.A (spliced (Ie pos (Br es X.env))) (AP X pins Z Q) X.xe s
def PS(X:Cx)(st:Stmt)(t:TS):Prop:=
 ∀(pins:List (Addr×Obj)) (s:Ag) (Z:St) (H:Hp) (D:lM),Inv X pins Z H s->t D Z H->Bc (Bo X.prog X.w) X.A (exec st X.env) (SP X pins D) X.xe s
def f7(X:Cx)(st:List Stmt)(t:TS):Prop:=
 ∀(pins:List (Addr×Obj)) (s:Ag) (Z:St) (H:Hp) (D:lM),Inv X pins Z H s->t D Z H->Bc (Bo X.prog X.w) X.A (execs st X.env) (SP X pins D) X.xe s
theorem a5{c:Type}{t:Sem c}{Q b:c->Ag->Prop}{M:Model}{A:Co}{E:Ae->Ag->Prop}{s:Ag}(h:Bc M A t Q E s)(d:∀a s,Q a s->b a s):Bc M A t b E s:=Ic h d λ_ _ x=>x
section
variable {X:Cx}
def N4(i:Nat):TE:=λZ H Q=>∃v,Z[i]? = some (some v)/\Q v H
def tC(v:V):TE:=λ_ H Q=>Q v H
theorem C5{i:Nat}(d:X.N[i]? = some x)(f:sU X.env.scope x)(hd:(x==("__debug__" : Str))=false:=by decide)(b:(x==("__classdict__" : Str))=false:=by decide):PE X (.Name x pos) (N4 i):=by
 intro pins s Z H Q I h;obtain⟨v,e,h⟩:=h;obtain⟨m,g,hl⟩:=I.loc;obtain⟨u,r,l⟩:=hl i x v d e f;have fin:EP X pins Z Q u s:=⟨v,H,I,r,h⟩;rcases l with⟨hk,j⟩|⟨hk,c,hc,a⟩
 .exact wpAny_Name (wpAny_loadName_local I.ok.kind hk g j fin) hd
 .rcases hk with hk|hk
  .exact wpAny_Name (wpAny_loadName_cell I.ok.kind hk hc a fin) hd
  .exact wpAny_Name (wpAny_loadName_free I.ok.kind hk hc a fin b) hd
theorem N5{i j pos}:PE X (.Constant (.int i) j pos) (tC (.int i)):=λ_ _ _ H _ I h=>wpAny_Constant_int ⟨.int i,H,I.tok _,⟨_,rfl⟩,h⟩
theorem N6{b j pos}:PE X (.Constant (.bool b) j pos) (tC (.bl b)):=λ_ _ _ H _ I h=>Constant_bool ⟨.bl b,H,I,rfl,h⟩
theorem N7{j pos}:PE X (.Constant .none j pos) (tC .non):=λ_ _ _ H _ I h=>Constant_none ⟨.non,H,I,rfl,h⟩
theorem N8{x j pos}:PE X (.Constant (.str x) j pos) (tC (.str x)):=λ_ _ _ H _ I h=>Calls.Constant_str ⟨.str x,H,I.tok _,⟨_,rfl⟩,h⟩
def Gl(X:Cx)(x:Str):Prop:=X.env.kindOf x=some .globalImplicit
theorem sW{E:Ae->Ag->Prop}{Q:Ae->Ag->Prop}(I:Inv X pins Z H s)(b:Gl X x)(a:X.mg x=some u)(h:Q u s)(hd:(x==("__debug__" : Str))=false:=by decide):Bc (Bo X.prog X.w) X.A (eval (.Name x pos) X.env) Q E s:=
 Calls.Name_function_global I.ok.kind b (Calls.loadGlobal_global (by rw[I.ok.glob];exact I.mod.glob.keeps I.bk) a h) hd
theorem jZ{E:Ae->Ag->Prop}{Q:Ae->Ag->Prop}(I:Inv X pins Z H s)(a:Gl X x)(f:X.mg x=none)(b:Dc x=some u)(h:Q u s)(d:x≠"__name__":=by decide)(hd:(x==("__debug__" : Str))=false:=by decide):Bc (Bo X.prog X.w) X.A (eval (.Name x pos) X.env) Q E s:=by
 obtain⟨g,e,c⟩:=I.mod.blt;exact Calls.Name_function_global I.ok.kind a (Calls.loadGlobal_builtin (by rw[I.ok.glob];exact I.mod.glob.keeps I.bk) f (by rw[I.ok.blt];exact e.keeps I.bk) ((c x d).trans b) h) hd
theorem N9(b:Gl X x)(a:X.mg x=some u)(r:RelV v u)(hd:(x==("__debug__" : Str))=false:=by decide):PE X (.Name x pos) (tC v):=
 λ_ _ _ H _ I h=>sW I b a ⟨v,H,I,r,h⟩ hd
theorem OA(d:Gl X x)(b:X.mg x=none)(c:Dc x=some u)(r:RelV v u)(a:x≠"__name__":=by decide)(hd:(x==("__debug__" : Str))=false:=by decide):PE X (.Name x pos) (tC v):=
 λ_ _ _ H _ I h=>jZ I d b c ⟨v,H,I,r,h⟩ a hd
variable {a b:Expr}{ta tb:TE}{pos:Pos}
variable {tA tB':TT}{rest:List Expr}
def OB(t u:TT):TT:=λZ H Q=>t Z H λc a=>if c=true then u Z a Q else Q false a
def OC(t u:TT):TT:=λZ H Q=>t Z H λc a=>if c=true then Q true a else u Z a Q
def OD(t:TT):TT:=λZ H Q=>t Z H λc a=>Q (!c) a
theorem OE(ha:PT X a tA):PW X (.BoolOp .And [a] pos) tA:=by
 intro d pins s Z H Q I h;refine isTrue_and (a5 (ha pins s Z H Q I h) λc b e=>?_);cases c with
 | true=>exact isTrue_and_nil e
 | false=>exact e
theorem OF(ha:PT X a tA):PW X (.BoolOp .Or [a] pos) tA:=by
 intro d pins s Z H Q I h;refine isTrue_or (a5 (ha pins s Z H Q I h) λc b e=>?_);cases c with
 | false=>exact isTrue_or_nil e
 | true=>exact e
theorem OG(ha:PT X a tA)(hb:PW X (.BoolOp .And (b::rest) pos) tB'):PW X (.BoolOp .And (a::b::rest) pos) (OB tA tB'):=by
 intro g pins s Z H Q I h;refine isTrue_and (a5 (ha pins s Z H _ I h) λc i ⟨e,d,f⟩=>?_);cases c with
 | true=>exact hb g pins i Z e Q d f
 | false=>exact⟨e,d,f⟩
theorem OH(ha:PT X a tA)(hb:PW X (.BoolOp .Or (b::rest) pos) tB'):PW X (.BoolOp .Or (a::b::rest) pos) (OC tA tB'):=by
 intro g pins s Z H Q I h;refine isTrue_or (a5 (ha pins s Z H _ I h) λc i ⟨e,d,f⟩=>?_);cases c with
 | true=>exact⟨e,d,f⟩
 | false=>exact hb g pins i Z e Q d f
theorem OI(ha:PT X a tA):PT X (.UnaryOp .Not a pos) (OD tA):=by
 intro pins s Z H Q I h;exact isTrue_not (ha pins s Z H (λc b=>Q (!c) b) I h)
def OJ(ta tb:TE):TE:=λZ H Q=>ta Z H λx a=>∃c,x=.bl c/\if c=true then tb Z a Q else Q (.bl false) a
def OK(ta tb:TE):TE:=λZ H Q=>ta Z H λx a=>∃c,x=.bl c/\if c=true then Q (.bl true) a else tb Z a Q
theorem OL{op}(h:PE X a t):PE X (.BoolOp op [a] pos) t:=λpins s Z H Q I hw=>BoolOp_one (h pins s Z H Q I hw)
theorem OM(ha:PE X a ta)(hb:PE X (.BoolOp .And (b::rest) pos) tb):PE X (.BoolOp .And (a::b::rest) pos) (OJ ta tb):=by
 intro pins s Z H Q I h;refine BoolOp_and (a5 (ha pins s Z H _ I h) λv g ⟨x,f,e,i,d⟩=>?_);obtain⟨c,rfl,d⟩:=d;cases i;refine Lb ?_;cases c with
 | true=>exact hb pins g Z f Q e d
 | false=>exact⟨.bl false,f,e,rfl,d⟩
theorem ON(ha:PE X a ta)(hb:PE X (.BoolOp .Or (b::rest) pos) tb):PE X (.BoolOp .Or (a::b::rest) pos) (OK ta tb):=by
 intro pins s Z H Q I h;refine BoolOp_or (a5 (ha pins s Z H _ I h) λv g ⟨x,f,e,i,d⟩=>?_);obtain⟨c,rfl,d⟩:=d;cases i;refine Lb ?_;cases c with
 | false=>exact hb pins g Z f Q e d
 | true=>exact⟨.bl true,f,e,rfl,d⟩
def OO(t:TT)(ta tb:TE):TE:=λZ H Q=>t Z H λc a=>if c=true then ta Z a Q else tb Z a Q
theorem OP{c:Expr}(hc:PT X c tA)(ha:PE X a ta)(hb:PE X b tb):PE X (.IfExp c a b pos) (OO tA ta tb):=by
 intro pins s Z H Q I h;refine wpAny_IfExp (a5 (hc pins s Z H _ I h) λd f ⟨e,i,g⟩=>?_);cases d with
 | true=>exact ha pins f Z e Q i g
 | false=>exact hb pins f Z e Q i g
end
def bI(K:Ac)(H:Hp)(a:Addr)(xs:List V):Prop:=
 Rd H a (.lst xs)\/
  ∃(o:Obj) (its:Array Ae) (n:Nat),K.lookup a=some o/\o.cls=.type "list"/\o.dict=none/\o.data=.seq its n/\its.size<=An/\aT xs its.toList
def bV(K:Ac)(H:Hp)(a:Addr)(xs:List V):Prop:=
 Rd H a (.tup xs)\/
  ∃(o:Obj) (its:Array Ae) (n:Nat),K.lookup a=some o/\o.cls=.type "tuple"/\o.data=.seq its n/\its.size<=An/\aT xs its.toList
def OQ:Ae->Option V
 | .none=>some .non
 | .bool b=>some (.bl b)
 | .int i _=>some (.int i)
 | .str x _=>some (.str x)
 | .bytes b _=>some (.byt b)
 | .float b _=>some (.flt b)
 | .ref a=>some (.ref a)
 | .type n=>some (.ty n)
 | _=>none
theorem RelV.abs(r:RelV x u):OQ u=some x:=by
 cases x with
 | non=>cases r;rfl
 | bl _=>cases r;rfl
 | int _=>obtain⟨t,rfl⟩:=r;rfl
 | str _=>obtain⟨t,rfl⟩:=r;rfl
 | byt _=>obtain⟨t,rfl⟩:=r;rfl
 | flt _=>obtain⟨t,rfl⟩:=r;rfl
 | ref _=>cases r;rfl
 | ty _=>cases r;rfl
theorem RelV.inj(r:RelV x u)(q:RelV y u):x=y:=Bz (r.abs.symm.trans q.abs)
theorem aT.inj:∀{xs ys:List V} {us:List Ae},aT xs us->aT ys us->xs=ys
 | _,_,_,.nil,.nil=>rfl
 | _,_,_,.cons r t,.cons a t'=>by rw[r.inj a,aT.inj t t']
section
variable {X:Cx}{pins:List (Addr×Obj)}{Z:St}{H:Hp}{s:Ag}{a:Addr}{xs ys:List V}
theorem bI.of{K:Ac}(h:H a=some (.lst xs)):bI K H a xs:=.inl (.inl h)
theorem bV.of{K:Ac}(h:H a=some (.tup xs)):bV K H a xs:=.inl (.inl h)
theorem Inv.list(I:Inv X pins Z H s)(h:bI X.K H a xs):∃its:List Ae,aT xs its/\PlainL s.heap a its.toArray/\xs.length<=An:=by
 rcases h with h|⟨o,its,n,hk,hc,hd,b,hz,r⟩
 .obtain⟨z,its,n,r,e⟩:=h.ok I.hok;exact⟨its,r,⟨_,n,e,rfl,rfl,rfl⟩,z⟩
 .refine⟨its.toList,r,⟨o,n,I.kIn a o hk,hc,hd,by simpa using b⟩,?_⟩;have e:=r.length;simp only[Bx]at e;lia
theorem Inv.tuple(I:Inv X pins Z H s)(h:bV X.K H a xs):∃its:List Ae,aT xs its/\IsTup s.heap a its.toArray/\xs.length<=An:=by
 rcases h with h|⟨o,its,n,hk,hc,b,hz,r⟩
 .obtain⟨z,its,r,p⟩:=h.ok I.hok;exact⟨its,r,p,z⟩
 .refine⟨its.toList,r,⟨o,I.kIn a o hk,hc,n,by simpa using b⟩,?_⟩;have e:=r.length;simp only[Bx]at e;lia
theorem Inv.list_inj(I:Inv X pins Z H s)(h:bI X.K H a xs)(h':bI X.K H a ys):xs=ys:=by
 obtain⟨its,r,⟨o,n,e,_,_,d⟩,_⟩:=I.list h;obtain⟨its',c,⟨g,f,b,_,_,d'⟩,_⟩:=I.list h';rw[e]at b;cases b;rw[d]at d';injection d' with d1 _;have:its=its':=by simpa using congrArg Array.toList d1
 subst this;exact r.inj c
theorem Inv.tuple_inj(I:Inv X pins Z H s)(h:bV X.K H a xs)(h':bV X.K H a ys):xs=ys:=by
 obtain⟨its,r,⟨o,e,_,n,d⟩,_⟩:=I.tuple h;obtain⟨its',c,⟨g,b,_,f,d'⟩,_⟩:=I.tuple h';rw[e]at b;cases b;rw[d]at d';injection d' with d1 _;have:its=its':=by simpa using congrArg Array.toList d1
 subst this;exact r.inj c
end
abbrev Cx.wish(X:Cx)(E:Ae->Ag->Prop):Cx:={X with xe:=E}
abbrev Cx.nox(X:Cx):Cx:=X.wish λ_ _=>False
theorem Cx.Ok.wish{X:Cx}(ok:X.Ok)(E:Ae->Ag->Prop):(X.wish E).Ok:=
 ⟨ok.mod,ok.kind,ok.glob,ok.blt,ok.above,ok.inj,ok.has,ok.cab,ok.hd,ok.frames,ok.stk,ok.exf,ok.bs,ok.bsz,ok.noex,ok.exfs,ok.funs,ok.frf⟩
theorem Cx.Ok.unwish{X:Cx}{E:Ae->Ag->Prop}(ok:(X.wish E).Ok):X.Ok:=
 ⟨ok.mod,ok.kind,ok.glob,ok.blt,ok.above,ok.inj,ok.has,ok.cab,ok.hd,ok.frames,ok.stk,ok.exf,ok.bs,ok.bsz,ok.noex,ok.exfs,ok.funs,ok.frf⟩
section
variable {X:Cx}{pins:List (Addr×Obj)}{Z:St}{H:Hp}{s:Ag}{E:Ae->Ag->Prop}
theorem Inv.wish(I:Inv X pins Z H s)(E:Ae->Ag->Prop):Inv (X.wish E) pins Z H s:=⟨I.ok.wish E,I.os,I.bare,I.base,I.loc,I.cell,I.free,I.freeC,I.pin,I.hok,I.len⟩
theorem Inv.unwish(I:Inv (X.wish E) pins Z H s):Inv X pins Z H s:=⟨I.ok.unwish,I.os,I.bare,I.base,I.loc,I.cell,I.free,I.freeC,I.pin,I.hok,I.len⟩
theorem SP.unwish(h:SP (X.wish E) pins D f s'):SP X pins D f s':=by
 cases f with
 | next=>obtain⟨σ',H',I,q⟩:=h;exact⟨σ',H',I.unwish,q⟩
 | brk=>obtain⟨σ',H',I,q⟩:=h;exact⟨σ',H',I.unwish,q⟩
 | cont=>obtain⟨σ',H',I,q⟩:=h;exact⟨σ',H',I.unwish,q⟩
 | ret u=>obtain⟨v,σ',H',I,r,q⟩:=h;exact⟨v,σ',H',I.unwish,r,q⟩
theorem f7.nox{st:List Stmt}{t:TS}(h:f7 X.nox st t):f7 X st t:=λpins s Z H D I hw=>
 Ic (h pins s Z H D (I.wish _) hw) (λ_ _ q=>q.unwish) λ_ _ z=>Hk z
end
section
variable {X:Cx}{st:Stmt}{rest:List Stmt}{t u:TS}{e:Expr}{te:TE}{pos:Pos}
def OR:TS:=λD Z H=>D.nx Z H
def OS(t u:TS):TS:=λD Z H=>t {D with nx:=u D} Z H
theorem OT:f7 X [] OR:=λ_ _ Z H _ I h=>Oo ⟨Z,H,I,h⟩
theorem OU(h1:PS X st t)(h2:f7 X rest u):f7 X (st::rest) (OS t u):=by
 intro pins s Z H D I h;refine wpAny_execs_cons (a5 (h1 pins s Z H {D with nx:=u D} I h) λf s1 q=>?_);cases f with
 | next=>
  obtain⟨σ',H',I',q⟩:=q;exact h2 pins s1 σ' H' D I' q
 | ret v=>exact q
 | brk=>exact q
 | cont=>exact q
theorem OV(h1:PS X st t):f7 X [st] t:=by
 intro pins s Z H D I h;refine wpAny_execs_cons (a5 (h1 pins s Z H D I h) λf s1 q=>?_);cases f with
 | next=>exact Oo q
 | ret v=>exact q
 | brk=>exact q
 | cont=>exact q
theorem Inv.quiet(I:Inv X pins Z H s):interactive X.env=false:=by simp[interactive,I.ok.kind]
def OW(te:TE):TS:=λD Z H=>te Z H λ_ a=>D.nx Z a
theorem OX(b:PE X e te)(f:Jd e none pos.line X.env=pure false:=by rfl):PS X (.Expr e pos) (OW te):=by
 intro pins s Z H D I h;exact wpAny_Expr_any (a5 (b pins s Z H _ I h) λv g ⟨x,c,a,i,d⟩=>⟨Z,c,a,d⟩) I.quiet f
def OY(te:TE):TS:=λD Z H=>te Z H D.rt
theorem OZ(b:PE X e te):PS X (.Return (some e) pos) (OY te):=by
 intro pins s Z H D I h;exact wpAny_Return_some (a5 (b pins s Z H _ I h) λv g ⟨x,c,a,f,d⟩=>⟨x,Z,c,a,f,d⟩)
def O0:TS:=λD _ H=>D.rt .non H
theorem O1:PS X (.Return none pos) O0:=λ_ _ Z H _ I h=>wpAny_Return_none ⟨.non,Z,H,I,rfl,h⟩
def O2(c:TT)(t u:TS):TS:=λD Z H=>c Z H λb a=>if b=true then t D Z a else u D Z a
theorem O3{c:Expr}{a b:List Stmt}{tc:TT}(hc:PT X c tc)(ha:f7 X a t)(hb:f7 X b u):PS X (.If c a b pos) (O2 tc t u):=by
 intro pins s Z H D I h;refine wpAny_If (a5 (hc pins s Z H _ I h) λd f ⟨e,i,g⟩=>?_);cases d with
 | true=>exact ha pins f Z e D i g
 | false=>exact hb pins f Z e D i g
end
abbrev TG:=V->St->Hp->(St->Hp->Prop)->Prop
abbrev j0:=List V->St->Hp->(St->Hp->Prop)->Prop
def PG(X:Cx)(a:Expr)(t:TG):Prop:=
 ∀(pins:List (Addr×Obj)) (s:Ag) (Z:St) (H:Hp) (v:V) (u:Ae) (Q:St->Hp->Prop),Inv X pins Z H s->RelV v u->t v Z H Q->
  Bc (Bo X.prog X.w) X.A (Nr a X.env u) (λ_ d=>∃b c,Inv X pins b c d/\Q b c) X.xe s
def jC(X:Cx)(ts:List Expr)(t:j0):Prop:=
 ∀(pins:List (Addr×Obj)) (s:Ag) (Z:St) (H:Hp) (vs:List V) (us:List Ae) (Q:St->Hp->Prop),Inv X pins Z H s->aT vs us->t vs Z H Q->
  Bc (Bo X.prog X.w) X.A (assignInOrder ((Hq ts X.env).map (·.2)) us) (λ_ c=>∃a b,Inv X pins a b c/\Q a b) X.xe s
abbrev sX:=V->V->V->Hp->(Hp->Prop)->Prop
def sY(X:Cx)(t:sX):Prop:=
 ∀(pins:List (Addr×Obj)) (s:Ag) (Z:St) (H:Hp) (o i v:V) (b c u:Ae) (Q:Hp->Prop),Inv X pins Z H s->RelV o b->RelV i c->RelV v u->t o i v H Q->
  Bc (Bo X.prog X.w) X.A (setItem b c u) (λ_ d=>∃a,Inv X pins Z a d/\Q a) X.xe s
section
variable {X:Cx}{pos:Pos}
def wH(i:Nat):TG:=λv Z H Q=>Q (Z.set i (some v)) H
theorem O4{i:Nat}(c:X.N.Nodup)(hi:X.N[i]? = some x)(b:Loc X.env.scope x)(hf:X.fn x=true\/X.env.scope.names.lookup x=some .local:=by first|exact .inl rfl|exact .inr rfl|assumption):PG X (.Name x pos) (wH i):=by
 intro pins s Z H v u Q I r h;exact wpAny_assign_Name (C4 I c hi b r (λd a=>⟨_,H,a,h⟩) hf)
def O5:j0:=λvs Z H Q=>vs=[]/\Q Z H
def O6(t:TG)(u:j0):j0:=λvs Z H Q=>∃v r,vs=v::r/\t v Z H λa b=>u r a b Q
theorem O7:jC X [] O5:=by
 intro pins s Z H vs us Q I r h;obtain⟨e,h⟩:=h;subst e;cases r;exact assignInOrder_nil ⟨Z,H,I,h⟩
theorem O8{e:Expr}{es:List Expr}{t:TG}{u:j0}(j:PG X e t)(k:jC X es u)(l:(Hq (e::es) X.env).map (·.2)=Nr e X.env::(Hq es X.env).map (·.2):=by rfl):jC X (e::es) (O6 t u):=by
 intro pins s Z H vs us Q I r h;obtain⟨v,m,i,h⟩:=h;subst i;cases r with
 | cons r d=>
  rw[l];refine assignInOrder_cons (a5 (j pins s Z H _ _ _ I r h) λ_ f ⟨a,c,b,g⟩=>?_);exact k pins f a c _ _ Q b d g
def O9(K:Ac)(n:Nat)(t:j0):TG:=λv Z H Q=>∃a xs,v=.ref a/\bV K H a xs/\xs.length=n/\t xs Z H Q
theorem PB{k:Nat}{n:Nat}(hc:X.calm=true)(h:jC X es t)(hn:(Hq es X.env).length=n:=by rfl)(hst:(Hq es X.env).findIdx? (·.1)=none:=by rfl):PG X (.Tuple es k pos) (O9 X.K n t):=by
 intro pins s Z H v u Q I r hw;obtain⟨a,xs,e1,hq,hl,hw⟩:=hw;subst e1;cases r;obtain⟨its,rv,ht,hz⟩:=I.tuple hq;refine assign_Tuple_tuple (I.ok.hd hc) ht (by simp[hn,<-hl,rv.length]) hst λh' hx=>?_;have I1:Inv X pins Z H {s with heap:=h'}:=I.kept (t':=s.toks) λb o e=>hx b o (Bu (Az e)) e;exact h pins _ Z H xs _ Q I1 (by simpa using rv) hw
def PC(e b:TE)(t:sX):TG:=λv Z H Q=>e Z H λo c=>b Z c λi a=>t o i v a λd=>Q Z d
theorem PD{o i:Expr}{d c:TE}{t:sX}(w:PE X o d)(hi:PE X i c)(l:sY X t)(ha:∀v,Nr (.Subscript o i pos) X.env v=(do
   let a <-Jn [v] (eval o X.env)
   let b <-Jn [v,a] (eval i X.env)
   Pj pos
   Jn [v,a,b] (setItem a b v)
   release [v,a,b] []):=by intro _;rfl):PG X (.Subscript o i pos) (PC d c t):=by
 intro pins s Z H v u Q I r h;rw[ha];refine Aa (Ct (a5 (w pins s Z H _ I h) λa p ⟨x,g,f,k,j⟩=>?_));refine Aa (Ct (a5 (hi pins p Z g _ f j) λb e ⟨y,n,B,q,C⟩=>?_));refine Aa (Pq (Aa (Ct (a5 (l pins e Z n x y v a b u _ B k q r C) λ_ D ⟨A,z,m⟩=>?_))));exact wpAny_release ⟨Z,A,z,m⟩
def sZ(te:TE)(g:TG):TS:=λD Z H=>te Z H λx a=>g x Z a D.nx
theorem PF{tg e:Expr}{te:TE}{g:TG}(c:PE X e te)(b:PG X tg g)(l:swapsWithSole [tg] e pos.line X.env=pure false:=by rfl)(hw:swappedStores [tg] e X.env=pure none:=by rfl)(j:(Hq [tg] X.env).map (·.2)=[Nr tg X.env]:=by rfl):PS X (.Assign [tg] e pos) (sZ te g):=by
 intro pins s Z H D I h;refine wpAny_Assign_stores (a5 (c pins s Z H _ I h) λv f ⟨x,d,a,k,i⟩=>?_) l hw;rw[j];exact a5 (b pins f Z d x v _ a k i) λ_ m q=>q
theorem PH{i:Nat}{x:Str}{e:Expr}{te:TE}{a:Pos}(d:X.N.Nodup)(hi:X.N[i]? = some x)(b:Loc X.env.scope x)(f:PE X e te)(m:Jd e (some (.Name x a)) pos.line X.env=pure false:=by rfl)(hf:X.fn x=true\/X.env.scope.names.lookup x=some .local:=by first|exact .inl rfl|exact .inr rfl|assumption):
  PS X (.Assign [.Name x a] e pos) (sZ te (wH i)):=by
 intro pins s Z H D I h;refine wpAny_Assign_Name (a5 (f pins s Z H _ I h) λv o ⟨y,g,c,l,j⟩=>?_) m;exact C4 c d hi b l (λn k=>⟨_,g,k,j⟩) hf
end
section
variable {X:Cx}{pos:Pos}
def PJ(c:TT)(tb:TS):TS:=λD Z H=>∃W:Nat->St->Hp->Prop,(∃m,W m Z H)/\∀m Z H,W m Z H->
 c Z H λb d=>if b=true then ∃N:St->Hp->Prop,(∀a e,N a e->∃f,f<m/\W f a e)/\tb {D with nx:=N,ct:=N,bk:=D.nx} Z d else D.nx Z d
theorem PK{c:Expr}{body:List Stmt}{tc:TT}{tb:TS}(hp:PassesOwn (Bo X.prog X.w) X.A X.env X.xe)(hc:PT X c tc)(hb:f7 X body tb):PS X (.While c body [] pos) (PJ tc tb):=by
 intro pins s Z H D I h;obtain⟨W,⟨m0,w0⟩,turn⟩:=h;refine wpAny_While (codeAny_whileLoop (λn s'=>∃σ' H',Inv X pins σ' H' s'/\W n σ' H') ?_ m0 ⟨Z,H,I,w0⟩);rintro n s1 ⟨σ1,H1,I1,w1⟩;refine Jb hp (a5 (hc pins s1 σ1 H1 _ I1 (turn n σ1 H1 w1)) λb s2 ⟨H2,I2,q2⟩=>?_);cases b with
 | true=>
  obtain⟨N,hN,q2⟩:=q2;rw[if_pos rfl];refine Jb hp (a5 (hb pins s2 σ1 H2 _ I2 q2) λf s3 q3=>?_);cases f with
  | next=>
   obtain⟨σ3,H3,I3,n3⟩:=q3;obtain⟨m',hm,w3⟩:=hN σ3 H3 n3;exact⟨m',hm,σ3,H3,I3,w3⟩
  | cont=>
   obtain⟨σ3,H3,I3,n3⟩:=q3;obtain⟨m',hm,w3⟩:=hN σ3 H3 n3;exact⟨m',hm,σ3,H3,I3,w3⟩
  | brk=>exact q3
  | ret v=>exact q3
 | false=>
  rw[if_neg Am];exact Oo ⟨σ1,H2,I2,q2⟩
end
structure It where
 go:Nat->Hp->Prop
 yld:Nat->Hp->V->Hp->Prop
 stop:Nat->Hp->Prop
def iA(X:Cx)(pins:List (Addr×Obj))(H:Hp)(b:Addr):Prop:=
 H b=none/\b≠X.env.locals/\b∉X.fs/\(b∈X.ex\/X.s₀.heap.objs.size<=b)/\(∀x c,X.env.cells.lookup x=some c->c≠b)/\∀p∈X.pn++pins,p.1≠b
theorem Inv.fpOk(I:Inv X pins Z H s)(hb:s.heap.objs.size<=b)(d:a b=none):iA X pins a b:=by
 refine⟨d,Gv (Bn I.lt hb),I.nofs hb,.inr (Ar I.sz hb),λx c e z=>?_,λp f z=>?_⟩
 .obtain⟨v,q⟩:=I.cell x c e;exact absurd (Bn q.lt (by rw[z];exact hb)) (Ke _)
 .exact absurd (Bn (Az (I.pin p f).1) (by rw[z];exact hb)) (Ke _)
structure lN(P:Bt)(w:Ck)(K:Ac)(tg:Expr)(J:It)(fp:List Addr)(it:Addr)(tn:Nat->Heap->Prop):Prop where
 mem:it∈fp
 obj:∀i h,tn i h->∀b∈fp,∃o,h.get? b=some o/\∀v,o.data≠.cell v
 keep:∀i h h',tn i h->(∀b∈fp,∀o,h.get? b=some o->h'.get? b=some o)->tn i h'
 item:∀(X:Cx),X.prog=P->X.w=w->X.K=K->X.calm=true->∀(i:Nat) (pins:List (Addr×Obj)) (s:Ag) (Z:St) (H:Hp) (E:Ae->Ag->Prop),Inv X pins Z H s->(∀b∈fp,iA X pins H b)->tn i s.heap->J.go i H->
  Bc (Bo P w) X.A (Lc (.ref it)) (λr s1=>∃u,r=some u/\
   Bc (Bo P w) X.A (Ou tg (.ref it) u) (λ_ s2=>∃x H',Inv X pins Z H' s2/\RelV x u/\J.yld i H x H'/\tn (i+1) s2.heap/\∀b∈fp,H' b=none) E s1) E s
 done:∀(X:Cx),X.prog=P->X.w=w->X.K=K->X.calm=true->∀(i:Nat) (pins:List (Addr×Obj)) (s:Ag) (Z:St) (H:Hp) (E:Ae->Ag->Prop),Inv X pins Z H s->(∀b∈fp,iA X pins H b)->tn i s.heap->J.stop i H->
  Bc (Bo P w) X.A (Lc (.ref it)) (λr s1=>r=none/\Inv X pins Z H s1) E s
 self:∀(A:Co) (i:Nat) (s:Ag) (Q:Ae->Ag->Prop) (E:Ae->Ag->Prop),tn i s.heap->Q (.ref it) s->Bc (Bo P w) A (pyIter (.ref it)) Q E s
abbrev TI:=St->Hp->(It->Hp->Prop)->Prop
def wI(X:Cx)(pins:List (Addr×Obj))(Z:St)(tg:Expr)(R:It->Hp->Prop)(a:Ae)(d:Ag):Prop:=
 ∃(it:Addr) (fp:List Addr) (e:Nat->Heap->Prop) (J:It) (c:Hp),a=.ref it/\Inv X pins Z c d/\lN X.prog X.w X.K tg J fp it e/\e 0 d.heap/\(∀b∈fp,iA X pins c b)/\R J c
def PI(X:Cx)(tg a:Expr)(b:TI):Prop:=
 ∀(pins:List (Addr×Obj)) (s:Ag) (Z:St) (H:Hp) (R:It->Hp->Prop),Inv X pins Z H s->b Z H R->
  Bc (Bo X.prog X.w) X.A (eval a X.env) (λv c=>Bc (Bo X.prog X.w) X.A (pyIter v) (wI X pins Z tg R) X.xe c) X.xe s
theorem tB{E:Ae->Ag->Prop}{Q:Unit->Ag->Prop}(b:s.heap.get? it=some o)(hc:o.cls=.type n)(hd:o.data=.fields vs)(c : ["enumerate","zip","dict_itemiterator","dict_reverseitemiterator","odict_iterator","itertools.zip_longest","itertools.pairwise"].contains n=false)(a:Q () s):Bc M A (Ou tg (.ref it) u) Q E s:=by
 unfold Ou;cases tg<;>first
  | exact Af a
  | (cases u<;>first
    | exact Af a
    | (refine Aa (wpAny_load b ?_)
       rw[hc,hd];show Bc M A (if (["enumerate","zip","dict_itemiterator","dict_reverseitemiterator","odict_iterator","itertools.zip_longest","itertools.pairwise"].contains n&&vs[0]?==some (Ho _))=true then _ else _) Q E s;rw[if_neg (by intro h;rw[c,Bool.false_and]at h;cases h)];exact Af a))
def oO(K:Ac)(a:Addr):It:=
 ⟨λi H=>∃xs x,bI K H a xs/\xs[i]? = some x,λi H x b=>b=H/\∀xs,bI K H a xs->xs[i]? = some x,λi H=>∃xs,bI K H a xs/\xs.length<=i⟩
def wJ(K:Ac)(a:Addr):It:=
 ⟨λi H=>∃xs x,bV K H a xs/\xs[i]? = some x,λi H x b=>b=H/\∀xs,bV K H a xs->xs[i]? = some x,λi H=>∃xs,bV K H a xs/\xs.length<=i⟩
def tD(lo:Int)(n:Nat):It:=⟨λi _=>i<n,λi H x a=>a=H/\x=.int (lo+i),λi _=>n<=i⟩
theorem PL{P:Bt}{w:Ck}{K:Ac}{tg:Expr}(a it:Addr):lN P w K tg (oO K a) [it] it (λi h=>h.IsListIter it a i) where
 mem:=by simp
 obj:=λi h st b hb=>by
  have e:b=it:=by simpa using hb
  subst e;obtain⟨o,e,c,d⟩:=st;exact⟨o,e,λv z=>by rw[d]at z;cases z⟩
 keep:=λi h h' st k=>st.at λo e=>k it (by simp) o e
 item:=by
  intro X hP hw hK hc i pins s Z H E I hf st hg;subst hP hw hK;obtain⟨xs,x,hq,hx⟩:=hg;obtain⟨its,rv,p,hz⟩:=I.list hq;obtain⟨u,hu,ru⟩:=rv.get hx;obtain⟨f0,f1,f2,f3,f4,f5⟩:=hf it (by simp);refine wpAny_pyNext_list_item st p.isList (x:=u) (by simpa using hu) λh' st' sb=>?_;have I1:Inv X pins Z H {s with heap:=h'}:=I.turned (t':=s.toks) (λb o hb e=>(sb.2 b hb).trans e) f0 f1 f3 f4 f5;obtain⟨o,e,c,d⟩:=id st';exact⟨u,rfl,tB (s:={s with heap:=h'}) e c d (by decide) ⟨x,H,I1,ru,⟨rfl,λys hy=>by rw[I.list_inj hy hq];exact hx⟩,st',λb hb=>(hf b hb).1⟩⟩
 done:=by
  intro X hP hw hK hc i pins s Z H E I hf st hg;subst hP hw hK;obtain⟨xs,hq,hx⟩:=hg;obtain⟨its,rv,p,hz⟩:=I.list hq;obtain⟨f0,f1,f2,f3,f4,f5⟩:=hf it (by simp);have hl:=rv.length;exact wpAny_pyNext_list_end (I.ok.hd hc) st p.isList (by simp;lia) λh' eb=>⟨rfl,I.turned (t':=s.toks) (λb o hb e=>eb b o hb e) f0 f1 f3 f4 f5⟩
 self:=λ_ _ _ _ _ st h=>wpAny_pyIter_listiter st h
theorem PM{P:Bt}{w:Ck}{K:Ac}{tg:Expr}(a it:Addr):lN P w K tg (wJ K a) [it] it (λi h=>h.IsTupleIter it a i) where
 mem:=by simp
 obj:=λi h st b hb=>by
  have e:b=it:=by simpa using hb
  subst e;obtain⟨o,e,c,d⟩:=st;exact⟨o,e,λv z=>by rw[d]at z;cases z⟩
 keep:=λi h h' st k=>st.at λo e=>k it (by simp) o e
 item:=by
  intro X hP hw hK hc i pins s Z H E I hf st hg;subst hP hw hK;obtain⟨xs,x,hq,hx⟩:=hg;obtain⟨its,rv,p,hz⟩:=I.tuple hq;obtain⟨u,hu,ru⟩:=rv.get hx;obtain⟨f0,f1,f2,f3,f4,f5⟩:=hf it (by simp);refine wpAny_pyNext_tuple_item st (show s.heap.IsTuple a its.toArray from p) (x:=u) (by simpa using hu) λh' st' sb=>?_;have I1:Inv X pins Z H {s with heap:=h'}:=I.turned (t':=s.toks) (λb o hb e=>(sb.2 b hb).trans e) f0 f1 f3 f4 f5;obtain⟨o,e,c,d⟩:=id st';exact⟨u,rfl,tB (s:={s with heap:=h'}) e c d (by decide) ⟨x,H,I1,ru,⟨rfl,λys hy=>by rw[I.tuple_inj hy hq];exact hx⟩,st',λb hb=>(hf b hb).1⟩⟩
 done:=by
  intro X hP hw hK hc i pins s Z H E I hf st hg;subst hP hw hK;obtain⟨xs,hq,hx⟩:=hg;obtain⟨its,rv,p,hz⟩:=I.tuple hq;obtain⟨f0,f1,f2,f3,f4,f5⟩:=hf it (by simp);have hl:=rv.length;exact wpAny_pyNext_tuple_end (I.ok.hd hc) st (show s.heap.IsTuple a its.toArray from p) (by simp;lia) λh' eb=>⟨rfl,I.turned (t':=s.toks) (λb o hb e=>eb b o hb e) f0 f1 f3 f4 f5⟩
 self:=λ_ _ _ _ _ st h=>wpAny_pyIter_tupleiter st h
theorem PN{P:Bt}{w:Ck}{K:Ac}{tg:Expr}(it:Addr)(lo:Int)(n:Nat):lN P w K tg (tD lo n) [it] it (λi h=>IsRangeIter h it (lo+(i:Nat)*1) ((n:Int)-(i:Nat)) 1) where
 mem:=by simp
 obj:=λi h st b hb=>by
  have e:b=it:=by simpa using hb
  subst e;exact⟨_,st,λv z=>by
   have z':Data.fields _=Data.cell v:=z;cases z'⟩
 keep:=λi h h' st k=>k it (by simp) _ st
 item:=by
  intro X hP hw hK hc i pins s Z H E I hf st hg;subst hP hw hK;obtain⟨f0,f1,f2,f3,f4,f5⟩:=hf it (by simp);have W:=Walks.range (prog:=X.prog) (w:=X.w) (I.ok.hd hc) it lo 1 n;refine W.item i s _ _ hg st λv h' tk hv st' kk=>?_;obtain⟨t,rfl⟩:=hv;have I1:Inv X pins Z H {s with heap:=h',toks:=tk}:=I.turned (λb o hb e=>kk b o (by simpa using hb) e) f0 f1 f3 f4 f5;refine⟨_,rfl,tB (s:={s with heap:=h',toks:=tk}) (n:="range_iterator") st' rfl rfl (by decide) ⟨.int (lo+i),H,I1,⟨t,?_⟩,⟨rfl,rfl⟩,st',λb hb=>(hf b hb).1⟩⟩;rw[Int.mul_one]
 done:=by
  intro X hP hw hK hc i pins s Z H E I hf st hg;subst hP hw hK;obtain⟨f0,f1,f2,f3,f4,f5⟩:=hf it (by simp);exact wpAny_pyNext_range_end (I.ok.hd hc) st (by have:n<=i:=hg;lia) λh' eb=>⟨rfl,I.turned (t':=s.toks) (λb o hb e=>eb b o hb e) f0 f1 f3 f4 f5⟩
 self:=λ_ _ _ _ _ st h=>wpAny_pyIter_rangeiter st h
section
variable {X:Cx}{tg:Expr}
theorem PQ{R:It->Hp->Prop}{E:Ae->Ag->Prop}{lo hi:Int}{tk:Nat}(I:Inv X pins Z H s)(h1 : -(2 ^ 62)<=lo)(h2:lo<2 ^ 62)(h3 : -(2 ^ 62)<=hi)(h4:hi<2 ^ 62)(q:R (tD lo (hi-lo).toNat) H):Bc (Bo X.prog X.w) X.A (pyIter (.ref s.heap.objs.size)) (wI X pins Z tg R) E {s with heap:=s.heap.push {cls:=.type "range",data:=.fields #[.int lo t,.int hi u,.int 1 v]},toks:=tk}:=by
 refine wpAny_pyIter_range (IsRange.new ..) (small_one h1 h2 h3 h4) ?_;have I1:Inv X pins Z H {s with heap:=s.heap.push {cls:=.type "range",data:=.fields #[.int lo t,.int hi u,.int 1 v]},toks:=tk}:=I.kept λb o e=>Ah _ e;refine⟨(s.heap.push {cls:=.type "range",data:=.fields #[.int lo t,.int hi u,.int 1 v]}).objs.size,[(s.heap.push {cls:=.type "range",data:=.fields #[.int lo t,.int hi u,.int 1 v]}).objs.size],_,_,H,rfl,
  I1.kept (t':=tk) λb o e=>Ah _ e,PN _ lo (hi-lo).toNat,?_,λb hb=>?_,q⟩
 .have e1:lo+((0:Nat):Int)*1=lo:=by simp
  have e2:(((hi-lo).toNat:Nat):Int)-((0:Nat):Int)=Builtin.Range.rangeSize lo hi 1:=by rw[rangeSize_one];split<;>lia
  show IsRangeIter _ _ (lo+((0:Nat):Int)*1) ((((hi-lo).toNat:Nat):Int)-((0:Nat):Int)) 1;rw[e1,e2];exact Au _ rfl
 .have e:b=(s.heap.push {cls:=.type "range",data:=.fields #[.int lo t,.int hi u,.int 1 v]}).objs.size:=by simpa using hb
  subst e;exact I1.fpOk (Ai _) (I1.hok.fresh (Ai _))
def PR(ta:TA):TI:=λZ H R=>ta Z H λvs a=>∃j:Int,vs=[.int j]/\-(2 ^ 62)<=j/\j<2 ^ 62/\R (tD 0 j.toNat) a
theorem PU{a:Expr}{ta:TA}{p pos:Pos}(hg:Gl X "range")(hm:X.mg "range" = none)(ha:PA X [a] ta)(hs:Br [a] X.env=[(false,eval a X.env)]:=by rfl):PI X tg (.Call (.Name "range" p) [a] [] pos) (PR ta):=by
 intro pins s Z H R I h;refine Call_ (jZ I hg hm boot_range (Er (a5 (ha pos pins s Z H _ I h) λus s1 ⟨vs,H1,I1,r1,q1⟩=>?_) hs rfl));obtain⟨j,e,q1,q2,q⟩:=q1;subst e;cases r1 with
 | cons r rr=>
  cases rr;obtain⟨t,rfl⟩:=r;exact call_range_1 (PQ I1 (by lia) (by lia) q1 q2 (by simpa using q))
def PV(h:TI)(g:TG)(tb:TS):TS:=λD Z H=>h Z H λJ f=>∃W:Nat->Nat->St->Hp->Prop,(∃m,W 0 m Z f)/\∀i m Z H,W i m Z H->
 (J.stop i H/\D.nx Z H)\/(J.go i H/\∃N:St->Hp->Prop,(∀a b,N a b->∃d,d<m/\W (i+1) d a b)/\∀x b,J.yld i H x b->g x Z b λc e=>tb {D with nx:=N,ct:=N,bk:=D.nx} c e)
def qJ(fp:List Addr)(h:Heap):List (Addr×Obj):=fp.filterMap λb=>(h.get? b).map λo=>(b,o)
theorem tE(hb:b∈fp)(e:h.get? b=some o):(b,o)∈qJ fp h:=Hl.mpr ⟨b,hb,by rw[e];rfl⟩
theorem PX(c:p∈qJ fp h):p.1∈fp/\h.get? p.1=some p.2:=by
 obtain⟨b,hb,e⟩:=Hl.mp c;cases q:h.get? b with
 | none=>rw[q]at e;cases e
 | some o=>
  rw[q]at e;have a:(b,o)=p:=Bz e;subst a;exact⟨hb,q⟩
theorem Inv.pinned(I:Inv X pins Z H s)(hf:∀b∈fp,iA X pins H b)(c:∀b∈fp,∃o,s.heap.get? b=some o/\∀v,o.data≠.cell v):Inv X (pins++qJ fp s.heap) Z H s:=
 I.pins_of λp g=>(Bi.mp g).elim (λz=>I.pin p (Cg _ z)) λz=>by
  obtain⟨hb,e⟩:=PX z;obtain⟨f,i,h,_⟩:=hf p.1 hb;obtain⟨o,a,d⟩:=c p.1 hb;rw[e]at a;cases a;exact⟨e,f,i,h,d⟩
theorem Inv.unpinned(I:Inv X (pins++pl) Z H s):Inv X pins Z H s:=I.pins_of λp a=>I.pin p (Cg _ (Cd _ a))
theorem PY{iter:Expr}{body:List Stmt}{wi:TI}{g:TG}{tb:TS}{pos:Pos}(hp:PassesOwn (Bo X.prog X.w) X.A X.env X.xe)(hc:X.calm=true)(hi:PI X tg iter wi)(hg:PG X tg g)(hb:f7 X body tb)(hs:∀x,Gj iter X.env x=pure x:=by intro _;rfl):PS X (.For tg iter body [] pos) (PV wi g tb):=by
 intro pins s Z H D I h;refine wpAny_For (a5 (hi pins s Z H _ I h) λv s1 h1=>a5 h1 λitv s2 h2=>?_) hs;obtain⟨it,fp,tn,J,H2,e,I2,T,st2,f2,W,⟨m0,w0⟩,turn⟩:=h2;subst e;have stat:∀{H':Hp},(∀b∈fp,H' b=none)->∀b∈fp,iA X pins H' b:=λhn b hb=>⟨hn b hb,(f2 b hb).2⟩
 refine codeAny_forLoop_any (λn s'=>∃i σ' H',Inv X pins σ' H' s'/\tn i s'.heap/\(∀b∈fp,H' b=none)/\W i n σ' H') ?_ m0 ⟨0,Z,H2,I2,st2,λb hb=>(f2 b hb).1,w0⟩;rintro n s3 ⟨i,σ3,H3,I3,st3,fr3,w3⟩;rcases turn i n σ3 H3 w3 with⟨stop,qn⟩|⟨go,N,hN,step⟩
 .refine Jb hp (a5 (T.done X rfl rfl rfl hc i pins s3 σ3 H3 X.xe I3 (stat fr3) st3 stop) λr s4 ⟨hr,I4⟩=>?_);subst hr;exact Oo ⟨σ3,H3,I4,qn⟩
 .refine Jb hp (a5 (T.item X rfl rfl rfl hc i pins s3 σ3 H3 X.xe I3 (stat fr3) st3 go) λr s4 ⟨u,hr,h4⟩=>?_);subst hr;refine Jb hp (a5 h4 λ_ s5 ⟨x,H5,I5,r5,y5,st5,fr5⟩=>?_);have I5':=I5.pinned (stat fr5) (T.obj _ _ st5);refine Jb hp (a5 (hg _ s5 σ3 H5 x u _ I5' r5 (step x H5 y5)) λ_ s6 ⟨σ6,H6,I6,q6⟩=>?_);refine Jb hp (a5 (hb _ s6 σ6 H6 _ I6 q6) λf s7 q7=>?_);have again:∀{σ7:St} {H7:Hp},Inv X (pins++qJ fp s5.heap) σ7 H7 s7->N σ7 H7->∃m,m<n/\∃i σ' H',Inv X pins σ' H' s7/\tn i s7.heap/\(∀b∈fp,H' b=none)/\W i m σ' H':=λ{σ7 H7} I7 n7=>by
   obtain⟨m',hm,w7⟩:=hN σ7 H7 n7;refine⟨m',hm,i+1,σ7,H7,I7.unpinned,T.keep _ _ _ st5 λb hb o e=>(I7.pin (b,o) (Cg _ (Cg _ (tE hb e)))).1,λb hb=>?_,w7⟩;obtain⟨o,e,d⟩:=T.obj _ _ st5 b hb;exact(I7.pin (b,o) (Cg _ (Cg _ (tE hb e)))).2.1
  cases f with
  | next=>obtain⟨σ7,H7,I7,n7⟩:=q7;exact again I7 n7
  | cont=>obtain⟨σ7,H7,I7,n7⟩:=q7;exact again I7 n7
  | brk=>obtain⟨σ7,H7,I7,q7⟩:=q7;exact⟨σ7,H7,I7.unpinned,q7⟩
  | ret v=>obtain⟨x7,σ7,H7,I7,r7,q7⟩:=q7;exact⟨x7,σ7,H7,I7.unpinned,r7,q7⟩
end
abbrev R2:=V->V->Hp->VK->Prop
def bE(X:Cx)(f:Ae->Ae->Sem Ae)(r:R2):Prop:=
 ∀(pins:List (Addr×Obj)) (s:Ag) (Z:St) (H:Hp) (x y:V) (v u:Ae) (Q:VK),Inv X pins Z H s->RelV x v->RelV y u->r x y H Q->
  Bc (Bo X.prog X.w) X.A (f v u) (EP X pins Z Q) X.xe s
def qK(X:Cx)(f:Ae->Sem Ae)(r:V->Hp->VK->Prop):Prop:=
 ∀(pins:List (Addr×Obj)) (s:Ag) (Z:St) (H:Hp) (x:V) (v:Ae) (Q:VK),Inv X pins Z H s->RelV x v->r x H Q->
  Bc (Bo X.prog X.w) X.A (f v) (EP X pins Z Q) X.xe s
def cQ(X:Cx)(f:Ae)(r:List V->Hp->VK->Prop):Prop:=
 ∀(pins:List (Addr×Obj)) (s:Ag) (Z:St) (H:Hp) (xs:List V) (us:List Ae) (Q:VK),Inv X pins Z H s->aT xs us->r xs H Q->
  Bc (Bo X.prog X.w) X.A (call f us) (EP X pins Z Q) X.xe s
def PZ(X:Cx)(r:V->Hp->(Bool->Hp->Prop)->Prop):Prop:=
 ∀(pins:List (Addr×Obj)) (s:Ag) (Z:St) (H:Hp) (x:V) (v:Ae) (Q:Bool->Hp->Prop),Inv X pins Z H s->RelV x v->r x H Q->
  Bc (Bo X.prog X.w) X.A (truthy v) (TP X pins Z Q) X.xe s
def qL(r:R2)(ta tb:TE):TE:=λZ H Q=>ta Z H λx b=>tb Z b λy a=>r x y a Q
def P0(r:V->Hp->VK->Prop)(ta:TE):TE:=λZ H Q=>ta Z H λx a=>r x a Q
def rI(C:Int->Int->Prop)(g:Int->Int->V):R2:=λx y H Q=>∃i j,x=.int i/\y=.int j/\C i j/\Q (g i j) H
def nM(g:Int->Int->V):R2:=λx y H Q=>∃i j,x=.int i/\y=.int j/\Q (g i j) H
def rU(g:Int->V):V->Hp->VK->Prop:=λx H Q=>∃i,x=.int i/\Q (g i) H
section
variable {X:Cx}{a b c:Expr}{ta tb tc:TE}{pos:Pos}
theorem wL(ha:PE X a ta)(hb:PE X b tb){pins:List (Addr×Obj)}{s:Ag}{Z:St}{H:Hp}{R:V->V->Hp->Prop}(I:Inv X pins Z H s)(h:ta Z H λx i=>tb Z i λy c=>R x y c){Q:Ae->Ag->Prop}{f:Ae->Ae->Sem Ae}(hf:∀v u g x y c,Inv X pins Z c g->RelV x v->RelV y u->R x y c->Bc (Bo X.prog X.w) X.A (f v u) Q X.xe g):
  Bc (Bo X.prog X.w) X.A (eval a X.env) (λv d=>Bc (Bo X.prog X.w) X.A (eval b X.env) (λu e=>Bc (Bo X.prog X.w) X.A (f v u) Q X.xe e) X.xe d) X.xe s:=by
 refine a5 (ha pins s Z H _ I h) λv k ⟨x,i,j,o,l⟩=>?_;refine a5 (hb pins k Z i _ j l) λu g ⟨y,c,m,n,p⟩=>?_;exact hf v u g x y c m o n p
theorem P1(d:bE X (Gk op) r)(ha:PE X a ta)(hb:PE X b tb):PE X (.BinOp a op b pos) (qL r ta tb):=by
 intro pins s Z H Q I h;exact wpAny_BinOp (wL ha hb I h λv u e x y f i c g q=>d pins e Z f x y v u Q i c g q)
theorem P2{op:UnaryOp}{r:V->Hp->VK->Prop}(b:qK X (unaryOp op) r)(ha:PE X a ta):PE X (.UnaryOp op a pos) (P0 r ta):=by
 intro pins s Z H Q I h;exact UnaryOp_ (a5 (ha pins s Z H _ I h) λv e ⟨x,d,c,g,f⟩=>b pins e Z d x v Q c g f)
theorem qM{f:Ae->Ae->Sem Ae}{C:Int->Int->Prop}{g:Int->Int->Int}(rule:∀(i j:Int) (t u:Tok) (s:Ag) (Q:Ae->Ag->Prop) (E:Ae->Ag->Prop),C i j->Q (.int (g i j) s.toks) {s with toks:=s.toks+1}->Bc (Bo X.prog X.w) X.A (f (.int i t) (.int j u)) Q E s):
  bE X f (rI C λi j=>.int (g i j)):=by
 intro pins s Z H x y v u Q I a b h;obtain⟨i,j,rfl,rfl,hc,q⟩:=h;obtain⟨t,rfl⟩:=a;obtain⟨t',rfl⟩:=b;exact rule i j t t' s _ _ hc ⟨.int (g i j),H,I.tok _,⟨_,rfl⟩,q⟩
theorem C6{f:Ae->Ae->Sem Ae}{g:Int->Int->Int}(rule:∀(i j:Int) (t u:Tok) (s:Ag) (Q:Ae->Ag->Prop) (E:Ae->Ag->Prop),Q (.int (g i j) s.toks) {s with toks:=s.toks+1}->Bc (Bo X.prog X.w) X.A (f (.int i t) (.int j u)) Q E s):
  bE X f (nM λi j=>.int (g i j)):=by
 intro pins s Z H x y v u Q I a b h;obtain⟨i,j,rfl,rfl,q⟩:=h;obtain⟨t,rfl⟩:=a;obtain⟨t',rfl⟩:=b;exact rule i j t t' s _ _ ⟨.int (g i j),H,I.tok _,⟨_,rfl⟩,q⟩
theorem C7{f:Ae->Ae->Sem Ae}{g:Int->Int->Bool}(rule:∀(i j:Int) (t u:Tok) (s:Ag) (Q:Ae->Ag->Prop) (E:Ae->Ag->Prop),Q (.bool (g i j)) s->Bc (Bo X.prog X.w) X.A (f (.int i t) (.int j u)) Q E s):
  bE X f (nM λi j=>.bl (g i j)):=by
 intro pins s Z H x y v u Q I a b h;obtain⟨i,j,rfl,rfl,q⟩:=h;obtain⟨t,rfl⟩:=a;obtain⟨t',rfl⟩:=b;exact rule i j t t' s _ _ ⟨.bl (g i j),H,I,rfl,q⟩
def C8(i j:Int):Prop:=0<=j/\j<=1000000/\i.natAbs<2 ^ 64
def oP(i j:Int):Prop:=(-(2 ^ 64)<i/\i<2 ^ 64)\/(-(2 ^ 64)<j/\j<2 ^ 64)
theorem oP.ok{i j:Int}(h:oP i j):IntMulOk i j:=by
 rcases h with⟨a,b⟩|⟨a,b⟩
 .exact .of_left (intBits_le_64 a b)
 .exact .of_right (intBits_le_64 a b)
theorem P4:bE X (Gk .Add) (nM λi j=>.int (i+j)):=C6 λ_ _ _ _ _ _ _ q=>add_int q
theorem P5:bE X (Gk .Sub) (nM λi j=>.int (i-j)):=C6 λ_ _ _ _ _ _ _ q=>sub_int q
theorem P6:bE X (Gk .Mult) (rI oP λi j=>.int (i*j)):=qM λ_ _ _ _ _ _ _ hc q=>mul_int q hc.ok
theorem P7:bE X (Gk .Mod) (rI (λ_ j=>0<j) λi j=>.int (i % j)):=qM λi j _ _ _ _ _ hc q=>by
 have a:(0:Int)<j:=hc;exact mod_int' (by lia) (by rw[Int.fmod_eq_emod_of_nonneg i (by lia)];exact q)
theorem P8:bE X (Gk .Pow) (rI C8 λi j=>.int (i ^ j.toNat)):=qM λ_ _ _ _ _ _ _ hc q=>pow_int_small hc.1 hc.2.1 hc.2.2 q
theorem P9{f:Ae->Sem Ae}{g:Int->Int}(rule:∀(i:Int) (t:Tok) (s:Ag) (Q:Ae->Ag->Prop) (E:Ae->Ag->Prop),Q (.int (g i) s.toks) {s with toks:=s.toks+1}->Bc (Bo X.prog X.w) X.A (f (.int i t)) Q E s):
  qK X f (rU λi=>.int (g i)):=by
 intro pins s Z H x v Q I a h;obtain⟨i,rfl,q⟩:=h;obtain⟨t,rfl⟩:=a;exact rule i t s _ _ ⟨.int (g i),H,I.tok _,⟨_,rfl⟩,q⟩
theorem QA:qK X (unaryOp .USub) (rU λi=>.int (-i)):=P9 λ_ _ _ _ _ q=>neg_int q
end
def tF:V->V->Bool
 | .non,.non=>true|.non,.int _=>true|.int _,.non=>true|.non,.bl _=>true|.bl _,.non=>true|.non,.str _=>true|.str _,.non=>true
 | .int _,.int _=>true|.bl _,.bl _=>true|.str _,.str _=>true|.byt _,.byt _=>true
 | .int _,.str _=>true|.str _,.int _=>true|.bl _,.str _=>true|.str _,.bl _=>true
 | _,_=>false
def rEq:R2:=λx y H Q=>tF x y=true/\Q (.bl (decide (x=y))) H
def QB:R2:=λx y H Q=>tF x y=true/\Q (.bl (!decide (x=y))) H
theorem C9{i j:Int}:decide (V.int i=V.int j)=(i==j):=by
 rw[Ex];simp
theorem DA{i j:Bool}:decide (V.bl i=V.bl j)=(i==j):=by
 rw[Ex];simp
theorem DB:decide (V.str i=V.str j)=(i==j):=by
 rw[Ex];simp
theorem DC:decide (V.byt i=V.byt j)=(i.toList==j.toList):=by
 rw[Ex];cases i;cases j;simp
section
variable {X:Cx}{a b c:Expr}{ta tb tc:TE}{pos:Pos}
theorem cX{k a:Bool}(I:Inv X pins Z H s)(q:Q (.bl k) H)(e:k=a):EP X pins Z Q (.bool a) s:=by
 subst e;exact⟨.bl k,H,I,rfl,q⟩
theorem QC:bE X (Cw .Eq) rEq:=by
 intro pins s Z H x y v u Q I rx ry h;obtain⟨hs,q⟩:=h;cases x with
 | non=>
  cases rx;cases y with
  | non=>cases ry;exact PySem.EqNone.eq_none_none (cX I q (by simp))
  | bl j=>cases ry;exact PySem.EqNone.eq_none_bool (cX I q (by simp))
  | int j=>obtain⟨t',rfl⟩:=ry;exact PySem.EqNone.eq_none_int (cX I q (by simp))
  | str j=>obtain⟨t',rfl⟩:=ry;exact PySem.EqNone.eq_none_str (cX I q (by simp))
  | _=>exact absurd (show false=true from hs) Am
 | bl i=>
  cases rx;cases y with
  | non=>cases ry;exact PySem.EqNone.eq_bool_none (cX I q (by simp))
  | bl j=>cases ry;exact eq_bool (cX I q DA)
  | str j=>obtain⟨t',rfl⟩:=ry;exact PySem.EqMixed.eq_bool_str (cX I q (by simp))
  | _=>exact absurd (show false=true from hs) Am
 | int i=>
  obtain⟨t,rfl⟩:=rx;cases y with
  | non=>cases ry;exact PySem.EqNone.eq_int_none (cX I q (by simp))
  | int j=>obtain⟨t',rfl⟩:=ry;exact eq_int (cX I q C9)
  | str j=>obtain⟨t',rfl⟩:=ry;exact PySem.EqMixed.eq_int_str (cX I q (by simp))
  | _=>exact absurd (show false=true from hs) Am
 | str i=>
  obtain⟨t,rfl⟩:=rx;cases y with
  | non=>cases ry;exact PySem.EqNone.eq_str_none (cX I q (by simp))
  | bl j=>cases ry;exact PySem.EqMixed.eq_str_bool (cX I q (by simp))
  | int j=>obtain⟨t',rfl⟩:=ry;exact PySem.EqMixed.eq_str_int (cX I q (by simp))
  | str j=>obtain⟨t',rfl⟩:=ry;exact eq_str (cX I q DB)
  | _=>exact absurd (show false=true from hs) Am
 | byt i=>
  obtain⟨t,rfl⟩:=rx;cases y with
  | byt j=>obtain⟨t',rfl⟩:=ry;exact PySem.W.eq_bytes (cX I q DC)
  | _=>exact absurd (show false=true from hs) Am
 | _=>cases y<;>exact absurd (show false=true from hs) Am
theorem QD:bE X (Cw .NotEq) QB:=by
 intro pins s Z H x y v u Q I rx ry h;obtain⟨hs,q⟩:=h;cases x with
 | non=>
  cases rx;cases y with
  | non=>cases ry;exact PySem.EqNone.ne_none_none (cX I q (by simp))
  | bl j=>cases ry;exact PySem.EqNone.ne_none_bool (cX I q (by simp))
  | int j=>obtain⟨t',rfl⟩:=ry;exact PySem.EqNone.ne_none_int (cX I q (by simp))
  | str j=>obtain⟨t',rfl⟩:=ry;exact PySem.EqNone.ne_none_str (cX I q (by simp))
  | _=>exact absurd (show false=true from hs) Am
 | bl i=>
  cases rx;cases y with
  | non=>cases ry;exact PySem.EqNone.ne_bool_none (cX I q (by simp))
  | bl j=>cases ry;exact ne_bool (cX I q (congrArg not DA))
  | str j=>obtain⟨t',rfl⟩:=ry;exact PySem.EqMixed.ne_bool_str (cX I q (by simp))
  | _=>exact absurd (show false=true from hs) Am
 | int i=>
  obtain⟨t,rfl⟩:=rx;cases y with
  | non=>cases ry;exact PySem.EqNone.ne_int_none (cX I q (by simp))
  | int j=>obtain⟨t',rfl⟩:=ry;exact ne_int (cX I q (congrArg not C9))
  | str j=>obtain⟨t',rfl⟩:=ry;exact PySem.EqMixed.ne_int_str (cX I q (by simp))
  | _=>exact absurd (show false=true from hs) Am
 | str i=>
  obtain⟨t,rfl⟩:=rx;cases y with
  | non=>cases ry;exact PySem.EqNone.ne_str_none (cX I q (by simp))
  | bl j=>cases ry;exact PySem.EqMixed.ne_str_bool (cX I q (by simp))
  | int j=>obtain⟨t',rfl⟩:=ry;exact PySem.EqMixed.ne_str_int (cX I q (by simp))
  | str j=>obtain⟨t',rfl⟩:=ry;exact ne_str (cX I q (congrArg not DB))
  | _=>exact absurd (show false=true from hs) Am
 | byt i=>
  obtain⟨t,rfl⟩:=rx;cases y with
  | byt j=>obtain⟨t',rfl⟩:=ry;exact PySem.W.ne_bytes (cX I q (congrArg not DC))
  | _=>exact absurd (show false=true from hs) Am
 | _=>cases y<;>exact absurd (show false=true from hs) Am
theorem QE:bE X (Cw .Lt) (nM λi j=>.bl (decide (i<j))):=C7 λ_ _ _ _ _ _ _ q=>lt_int q
theorem QF:bE X (Cw .Gt) (nM λi j=>.bl (decide (j<i))):=C7 λ_ _ _ _ _ _ _ q=>gt_int q
theorem QG:bE X (Cw .In) (λx y H Q=>∃i j,x=.str i/\y=.str j/\Q (.bl (!(Ma j i 0 j.length 1).isEmpty)) H):=by
 intro pins s Z H x y v u Q I a b h;obtain⟨i,j,rfl,rfl,q⟩:=h;obtain⟨t,rfl⟩:=a;obtain⟨t',rfl⟩:=b;exact in_str (cX I q rfl)
theorem QH:bE X (Cw .Is) (λx y H Q=>y=.non/\Q (.bl (decide (x=.non))) H):=by
 intro pins s Z H x y v u Q I a b h;obtain⟨rfl,q⟩:=h;cases b;refine is_none_gen (cX I q ?_);cases x<;>first
  | (cases a;rfl)
  | (obtain⟨t,rfl⟩:=a;rfl)
theorem QI:bE X (Cw .IsNot) (λx y H Q=>y=.non/\Q (.bl (!decide (x=.non))) H):=by
 intro pins s Z H x y v u Q I a b h;obtain⟨rfl,q⟩:=h;cases b;refine isnot_none_gen (cX I q ?_);cases x<;>first
  | (cases a;rfl)
  | (obtain⟨t,rfl⟩:=a;rfl)
theorem QJ:bE X (Cw .NotIn) (λx y H Q=>∃i j,x=.str i/\y=.str j/\Q (.bl (!(!(Ma j i 0 j.length 1).isEmpty))) H):=by
 intro pins s Z H x y v u Q I a b h;obtain⟨i,j,rfl,rfl,q⟩:=h;obtain⟨t,rfl⟩:=a;obtain⟨t',rfl⟩:=b;exact notIn_str (cX I q rfl)
theorem bE.or{f:Ae->Ae->Sem Ae}{r a:R2}(h:bE X f r)(h':bE X f a):bE X f (λx y H Q=>r x y H Q\/a x y H Q):=by
 intro pins s Z H x y v u Q I b c q;rcases q with q|q
 .exact h pins s Z H x y v u Q I b c q
 .exact h' pins s Z H x y v u Q I b c q
theorem DD(b:Expr)(h:op≠.In:=by decide)(c:op≠.NotIn:=by decide):Je op b=false:=by
 have d:(op==CmpOp.In)=false:=by cases op<;>first|rfl|exact absurd rfl h
 have a:(op==CmpOp.NotIn)=false:=by cases op<;>first|rfl|exact absurd rfl c
 cases b<;>simp[Je,d,a]
theorem QK(d:bE X (Cw op) r)(ha:PE X a ta)(hb:PE X b tb)(c:Je op b=false):PE X (.Compare a [op] [b] pos) (qL r ta tb):=by
 intro pins s Z H Q I h;exact wpAny_Compare1 (wL ha hb I h λv u i x y e f g j q=>d pins i Z e x y v u Q f g j q) c
def QL(t:TE):TT:=λZ H Q=>t Z H λx H'=>∃k,x=.bl k/\Q k H'
theorem QM(i:bE X (Cw op) r)(ha:PE X a ta)(hb:PE X b tb)(d:Je op b=false):PT X (.Compare a [op] [b] pos) (QL (qL r ta tb)):=by
 intro pins s Z H Q I h;refine wpAny_isTrue_Compare1 (a5 (ha pins s Z H _ I h) λv B ⟨x,p,A,l,w⟩=>a5 (hb pins B Z p _ A w) λu C ⟨y,j,o,f,t⟩=>
  a5 (i pins C Z j x y v u _ o l f t) λc D ⟨z,m,n,g,k,e,q⟩=>?_) d
 subst e;cases g;exact Lb ⟨m,n,q⟩
def DE(K:Ac)(x:V)(H:Hp)(k:Bool):Prop:=
 match x with
 | .non=>k=false
 | .bl b=>k=b
 | .int i=>k=(i !=0)
 | .str y=>y.length<=An/\k=((y.length:Int) !=0)
 | .byt y=>y.size<=An/\k=((y.size:Int) !=0)
 | .ref p=>(∃xs,bI K H p xs/\k = !xs.isEmpty)\/(∃xs,bV K H p xs/\k = !xs.isEmpty)\/∃kvs,H p=some (.dK kvs)/\k = !kvs.isEmpty
 | _=>False
theorem QN{U:Type}{kvs:List (U×V)}{vs:List (U×Ae)}(r:KV kvs vs):(!vs.isEmpty) = !kvs.isEmpty:=by
 cases r<;>rfl
theorem DF{xs:List V}{its:List Ae}(r:aT xs its):(!its.toArray.isEmpty) = !xs.isEmpty:=by
 cases r<;>simp
theorem nN:(An:Nat)<2 ^ 63:=by rw[Ir];decide
theorem QP:PZ X (λx H Q=>∃k,DE X.K x H k/\Q k H):=by
 intro pins s Z H x v Q I rx h;obtain⟨k,e,q⟩:=h;have hl:=nN;have hs:An=16777216:=Ir;cases x with
 | non=>
  cases rx;have e':k=false:=e;subst e';exact truthy_none ⟨H,I,q⟩
 | bl b=>
  cases rx;have e':k=b:=e;subst e';exact Lb ⟨H,I,q⟩
 | int i=>
  obtain⟨t,rfl⟩:=rx;have e':k=(i !=0):=e;subst e';exact PySem.P.truthy_int ⟨H,I,q⟩
 | str y=>
  obtain⟨t,rfl⟩:=rx;obtain⟨hy,e'⟩:y.length<=An/\k=((y.length:Int) !=0):=e;subst e';exact PySem.P.truthy_str (by lia) ⟨H,I.tok _,q⟩
 | byt y=>
  obtain⟨t,rfl⟩:=rx;obtain⟨hy,e'⟩:y.size<=An/\k=((y.size:Int) !=0):=e;subst e';exact PySem.W.truthy_bytes (by lia) ⟨H,I.tok _,q⟩
 | ref p=>
  cases rx;have e':(∃xs,bI X.K H p xs/\k = !xs.isEmpty)\/(∃xs,bV X.K H p xs/\k = !xs.isEmpty)\/∃kvs,H p=some (.dK kvs)/\k = !kvs.isEmpty:=e;rcases e' with⟨xs,hx,e'⟩|⟨xs,hx,e'⟩|⟨kvs,hx,e'⟩
  .subst e';obtain⟨its,r,pl,hz⟩:=I.list hx;have hlen:=r.length;exact wpAny_truthy_list pl.isList (by simp only[Ay];lia) ⟨H,I.tok _,by rw[DF r];exact q⟩
  .subst e';obtain⟨its,r,pl,hz⟩:=I.tuple hx;have hlen:=r.length;exact truthy_tuple pl (by simp only[Ay];lia) ⟨H,I.tok _,by rw[DF r];exact q⟩
  .subst e';obtain⟨hz,hS,vs,r,m⟩:kvs.length<=An/\(p==Hi)=false/\∃vs,KV kvs vs/\s.heap.DictOf (dH X.prog X.w) p vs:=I.hok p _ hx;have hlen:kvs.length=vs.length:=Fn r;exact wpAny_truthy_dict hS m (by lia) ⟨H,I.tok _,by rw[QN r];exact q⟩
 | _=>exact(show False from e).elim
theorem QQ(ha:PE X a ta)(c:∀b,isTrue a X.env b=(do let v <-b;Pj a.pos;Jn [v] (truthy v))):
  PT X a (λZ H Q=>ta Z H λx H'=>∃k,DE X.K x H' k/\Q k H'):=by
 intro pins s Z H Q I h;exact isTrue_plain (a5 (ha pins s Z H _ I h) λv i ⟨x,e,g,d,f⟩=>QP pins i Z e x v Q g d f) (c _)
theorem vals1(r:aT [x] us):∃u,us=[u]/\RelV x u:=by
 cases r with
 | cons a b=>cases b;exact⟨_,rfl,a⟩
theorem vals2(r:aT [x,y] us):∃u a,us=[u,a]/\RelV x u/\RelV y a:=by
 cases r with
 | cons e c=>
  cases c with
  | cons d b=>cases b;exact⟨_,_,rfl,e,d⟩
theorem QS:cQ X (.builtin "abs") (λxs H Q=>∃i,xs=[.int i]/\Q (.int (if i<0 then -i else i)) H):=by
 intro pins s Z H xs us Q I r h;obtain⟨i,rfl,q⟩:=h;obtain⟨u,rfl,t,rfl⟩:=vals1 r;exact call_abs_int λu tk=>⟨.int (if i<0 then -i else i),H,I.tok _,⟨_,rfl⟩,q⟩
theorem QT(hc:X.calm=true):cQ X (.builtin "min") (λxs H Q=>∃i j,xs=[.int i,.int j]/\Q (.int (if j<i then j else i)) H):=by
 intro pins s Z H xs us Q I r h;obtain⟨i,j,rfl,q⟩:=h;obtain⟨u,b,rfl,⟨t,rfl⟩,⟨t',rfl⟩⟩:=vals2 r;refine min_two_ints (I.ok.hd hc) λh' tk k=>⟨_,H,I.kept k,?_,q⟩
 by_cases a:j<i
 .rw[if_pos a,if_pos a];exact⟨_,rfl⟩
 .rw[if_neg a,if_neg a];exact⟨_,rfl⟩
end
structure nO(h:Heap)(x dx C:Addr)(mA:Str->Option Ae):Prop where
 obj:h.get? x=some (Hm C dx)
 ns:h.Ns1 dx mA
 ne:dx≠x
theorem QU{h:Heap}{dx:Addr}{mA:Str->Option Ae}(n:h.Ns1 dx mA):∃c,h.get? dx=some c/\∀name,Nt name c=some (mA name):=by
 obtain⟨o,es,ep,g,hd,hk,_,d⟩:=n;refine⟨o,g,λname=>?_⟩;have e:=d name;unfold nsFind findBy at e;rw[<-Array.find?_toList]at e;unfold Nt;rw[hd];dsimp only;split
 .rename_i y q;rw[q]at e;exact congrArg some e
 .rename_i q;rw[q]at e;have a:es.toList.any (·.refKey)=false:=by
   rw[List.any_eq_false];intro y f;obtain⟨z,t,b⟩:=hk y (Array.mem_toList_iff.mp f);simp[DictEntry.refKey,b]
  have i:¬es.toList.any (·.refKey)=true:=by rw[a];exact Am
  rw[if_neg i];exact congrArg some e
theorem nO.look{mA:Str->Option Ae}(I:nO h x dx C mA):∃a,PySem.W.InstAt h x (Hm C dx) C (some a)/\∀name,Nt name a=some (mA name):=
 let ⟨a,ho,hl⟩:=QU I.ns
 ⟨a,⟨I.obj,rfl,rfl,ho⟩,hl⟩
section
variable {prog:Bt}{w:Ck}{A:Co}{E:Ae->Ag->Prop}{s:Ag}{K:Ac}{x dx C f:Addr}{mA:Str->Option Ae}{name:Str}{v:Ae}
theorem QV{a:Bool}{Q:Ae->Ag->Prop}(X:K.In s.heap)(I:nO s.heap x dx C mA)(e:Mq K C name=true)(d:PySem.W.hasDictIn K C=true)(ha:Cq K (.ref C) name=some none)(c:mA name=some v)(b:PySem.W.handedIn v=true)(h:Q v {s with toks:=s.toks+1}):
  Bc (Bo prog w) A (getAttr (.ref x) name a) Q E s:=by
 obtain⟨f,J,hl⟩:=I.look;exact PySem.W.get_value X J (Ny e).1 (PySem.W.findObj_own d ha rfl (by rw[hl,c])) b h
theorem QW{Q:Ae×List Ae->Ag->Prop}(X:K.In s.heap)(I:nO s.heap x dx C mA)(a:Mq K C name=true)(hf:Cq K (.ref C) name=some (some (.ref f)))(ht:Nb K (.ref f)=true)(b:mA name=none)(h:Q (.ref f,[.ref x]) s):
  Bc (Bo prog w) A (Pn (.ref x) name pl) Q E s:=by
 obtain⟨c,J,hl⟩:=I.look;exact PySem.W.method_fn X J (Ny a).1 (Ny a).2 hf (beq_iff_eq.mp ht) (by show(Nt name c).map (·.isSome)=some false;rw[hl,b];rfl) h
theorem QX{Q:Unit->Ag->Prop}(X:K.In s.heap)(I:nO s.heap x dx C mA)(hs:Cq K (.ref C) "__setattr__" = some (some (.builtin "object.__setattr__")))(hp:PySem.W.plainOver K C=true)(ht:PySem.W.takerIn K C name=some none)(hh:PySem.W.hasDictIn K C=true)(hw:PySem.Within mA ns)(hsz:ns.length<=An)(h:∀h',nO h' x dx C (λy=>if y=name then some v else mA y)->Dk dx s.heap h'->Q () {s with heap:=h',toks:=s.toks+2}):
  Bc (Bo prog w) A (setAttr (.ref x) name v) Q E s:=by
 obtain⟨od,J,hl⟩:=I.look;refine PySem.W.set_plain X J hs (PySem.W.osa_open (s:={s with toks:=s.toks+1}) (r:=none) X J hp ht λb=>?_);obtain⟨cd,hc,hd'⟩:=PySem.W.any_some hh;have hx:s.heap.get? x=some ⟨.ref C,some dx,.plain,#[]⟩:=I.obj;refine Aa (Af (Aa (Aa (wpAny_loadPart hx (Aa (PySem.W.Looks.here (s:={s with toks:=s.toks+1}) (PySem.W.looks_clsIn X hc) ?_))))));rw[hd'];refine Af (a:=some dx) (Aa (Af (Aa ?_)));refine wpAny_nsSet1 (s:={s with toks:=s.toks+1}) I.ns λh' hn2 hs2=>?_;obtain⟨oD,esD,epD,hoD,hdD,hcD⟩:=hn2.count (PySem.Within.cons name v hw);refine Aa (wpAny_lookBehind hoD (by rw[hdD];exact pastItsLine_dict (Ar hcD (by rw[Bp];lia))) ?_);exact Af (h _ ⟨(hs2.2 _ (Bw I.ne)).trans I.obj,hn2,I.ne⟩ hs2)
theorem QY{R:Result->Ag->Prop}(X:K.In s.heap)(hm:PySem.W.makesIn K C=true)(hi:Cq K (.ref C) "__init__" = some (some (.ref f)))(hf:PySem.W.typeIn K (.ref f)=some (.type "function"))(h:Jo (Bo prog w) (A.under (.builtin "type.__call__" ⟨.ref C::vs,kw⟩)) (.call (.ref f) ⟨.ref (s.heap.objs.size+1)::vs,kw⟩) (PySem.W.InitBack (s.heap.objs.size+1) R)
   {s with heap:=(s.heap.push Ge).push (Hm C s.heap.objs.size)}):
  Jo (Bo prog w) A (.call (.ref C) ⟨vs,kw⟩) R s:=by
 obtain⟨hh,g,d,t,os⟩:=s;exact PySem.W.make_core (PySem.W.makes_of X hm) (PySem.W.looks_findIn X hi) (λself=>PySem.W.bind_fn X self hf) (.inl rfl) h
end
def putF(f:Str)(v:V):List (Str×V)->List (Str×V)
 | []=>[(f,v)]
 | (g,x)::r=>if g=f then(g,v)::r else(g,x)::putF f v r
theorem DG(f g:Str)(v:V):∀fs:List (Str×V),(putF f v fs).lookup g=if g=f then some v else fs.lookup g
 | []=>by
  show Cr g [(f,v)]=_
  by_cases h:g=f
  .have hb:(g==f)=true:=beq_iff_eq.mpr h;simp only[Cr,hb,if_pos h]
  .have hb:(g==f)=false:=beq_eq_false_iff_ne.mpr h;simp only[Cr,hb,if_neg h]
 | (k,x)::r=>by
  have a:=DG f g v r;rw[show putF f v ((k,x)::r)=(if k=f then(k,v)::r else(k,x)::putF f v r) from rfl]
  by_cases hk:k=f
  .rw[if_pos hk]
   by_cases h:g=k
   .have hb:(g==k)=true:=beq_iff_eq.mpr h;simp only[Cr,hb,if_pos (h.trans hk)]
   .have hb:(g==k)=false:=beq_eq_false_iff_ne.mpr h;simp only[Cr,hb,if_neg (λe:g=f=>h (e.trans hk.symm))]
  .rw[if_neg hk]
   by_cases h:g=k
   .have hb:(g==k)=true:=beq_iff_eq.mpr h;simp only[Cr,hb,if_neg (λe:g=f=>hk (h.symm.trans e))]
   .have hb:(g==k)=false:=beq_eq_false_iff_ne.mpr h;simp only[Cr,hb];exact a
theorem wM(f:Str)(v:V):∀fs:List (Str×V),f∈(putF f v fs).map (·.1)/\∀g,g∈fs.map (·.1)->g∈(putF f v fs).map (·.1)
 | []=>⟨by simp[putF],λg h=>by simp at h⟩
 | (k,x)::r=>by
  obtain⟨b,a⟩:=wM f v r;rw[show putF f v ((k,x)::r)=(if k=f then(k,v)::r else(k,x)::putF f v r) from rfl]
  by_cases hk:k=f
  .rw[if_pos hk];subst hk;exact⟨by simp,λg h=>by simpa using h⟩
  .rw[if_neg hk];refine⟨?_,λg h=>?_⟩
   .rw[Aw];exact Ap _ b
   .rw[Aw]at h⊢;rcases Bg.mp h with e|e
    .exact Bg.mpr (.inl e)
    .exact Ap _ (a g e)
theorem DH(f:Str)(v:V):∀fs:List (Str×V),(putF f v fs).length<=fs.length+1
 | []=>by simp[putF]
 | (k,x)::r=>by
  have a:=DH f v r;rw[show putF f v ((k,x)::r)=(if k=f then(k,v)::r else(k,x)::putF f v r) from rfl]
  by_cases hk:k=f
  .rw[if_pos hk,Bp,Bp];lia
  .rw[if_neg hk,Bp,Bp];lia
theorem fV.some_of(r:fV (some v) o):∃u,o=some u/\RelV v u:=by
 cases o with
 | none=>exact(show False from r).elim
 | some u=>exact⟨u,rfl,r⟩
theorem fV.none_of(r:fV none o):o=none:=by
 cases o with
 | none=>rfl
 | some u=>exact(show False from r).elim
theorem QZ(r:RelV v u):PySem.W.handedIn u=true:=by
 cases v with
 | non=>cases (show u=Value.none from r);rfl
 | bl b=>cases (show u=Value.bool b from r);rfl
 | int i=>obtain⟨t,e⟩:=(show ∃t,u=Value.int i t from r);cases e;rfl
 | str x=>obtain⟨t,e⟩:=(show ∃t,u=Value.str x t from r);cases e;rfl
 | byt b=>obtain⟨t,e⟩:=(show ∃t,u=Value.bytes b t from r);cases e;rfl
 | flt b=>obtain⟨t,e⟩:=(show ∃t,u=Value.float b t from r);cases e;rfl
 | ref a=>cases (show u=Value.ref a from r);rfl
 | ty n=>cases (show u=Value.type n from r);rfl
section
variable {P:Bt}{w:Ck}{H H':Hp}{h h':Heap}{a C dx:Addr}{fs fs':List (Str×V)}
theorem tG(hok:cV P w H h)(e:H a=some (.ins C dx fs)):∃mA,nO h a dx C mA/\(∀f,fV (fs.lookup f) (mA f))/\PySem.Within mA (fs.map (·.1))/\fs.length<=1000/\H dx=some (.own a):=by
 obtain⟨d,z,ne,ob,mA,n,r,q⟩:=(show cL P w H h a (.ins C dx fs) from hok a _ e);exact⟨mA,⟨ob,n,ne⟩,r,q,z,d⟩
end
structure gX(K:Ac)(C:Addr):Prop where
 pg:Mq K C Str.empty=true
 hd:PySem.W.hasDictIn K C=true
 po:PySem.W.plainOver K C=true
 sa:Cq K (.ref C) "__setattr__" = some (some (.builtin "object.__setattr__"))
theorem gX.get{K:Ac}{C:Addr}(c:gX K C)(f:Str):Mq K C f=true:=c.pg
def f9(K:Ac)(C:Addr)(f:Str):Prop:=Cq K (.ref C) f=some none
theorem f9.taker{K:Ac}{C:Addr}{f:Str}(n:f9 K C f):PySem.W.takerIn K C f=some none:=by
 unfold PySem.W.takerIn;rw[show Cq K (.ref C) f=some none from n];rfl
structure oQ(K:Ac)(C:Addr)(m:Str)(f:Addr):Prop where
 at_:Cq K (.ref C) m=some (some (.ref f))
 fn:Nb K (.ref f)=true
 kp:Gd K (.ref f)=true
section
variable {X:Cx}{pins:List (Addr×Obj)}{Z:St}{H:Hp}{s:Ag}{a C dx:Addr}{fs:List (Str×V)}{f:Str}{v:V}{A:Co}{E:Ae->Ag->Prop}
theorem Q0{b:Bool}{Q:Ae->Ag->Prop}(I:Inv X pins Z H s)(e:H a=some (.ins C dx fs))(c:gX X.K C)(n:f9 X.K C f)(l:fs.lookup f=some v)(h:∀u s',Inv X pins Z H s'->RelV v u->Q u s'):Bc (Bo X.prog X.w) A (getAttr (.ref a) f b) Q E s:=by
 obtain⟨mA,O,r,_,_,_⟩:=tG I.hok e;obtain⟨u,d,ru⟩:=fV.some_of (v:=v) (o:=mA f) (by rw[<-l];exact r f);exact QV I.kIn O (c.get f) c.hd n d (QZ ru) (h u _ (I.tok _) ru)
theorem DJ{Q:Ae×List Ae->Ag->Prop}(I:Inv X pins Z H s)(e:H a=some (.ins C dx fs))(c:gX X.K C)(k:oQ X.K C m g)(l:fs.lookup m=none)(h:Q (.ref g,[.ref a]) s):Bc (Bo X.prog X.w) A (Pn (.ref a) m pl) Q E s:=by
 obtain⟨mA,O,r,_,_,_⟩:=tG I.hok e;have b:mA m=none:=fV.none_of (by rw[<-l];exact r m);exact QW I.kIn O (c.get m) k.at_ k.fn b h
theorem Q1{Q:Unit->Ag->Prop}(I:Inv X pins Z H s)(e:H a=some (.ins C dx fs))(c:gX X.K C)(n:f9 X.K C f)(hl:fs.length<1000)(ry:RelV y u)(h:∀s',Inv X pins Z (aR H a (.ins C dx (putF f y fs))) s'->Q () s'):Bc (Bo X.prog X.w) A (setAttr (.ref a) f u) Q E s:=by
 obtain⟨mA,O,r,wi,_,ho⟩:=tG I.hok e;have hz:(fs.map (·.1)).length<=An:=by rw[Ab,Ir];lia
 refine QX I.kIn O c.sa c.po n.taker c.hd wi hz λh' O' sb=>h _ ?_;have hd:∃o,h'.get? dx=some o:=let ⟨o,_,_,e',_⟩:=O'.ns;⟨o,e'⟩;refine I.write (x:=a) (e:=dx) (by rw[e];exact True.intro) (.inr ho) (λb q hb z=>(sb.2 b hb).trans z) hd ?_;refine⟨by rw[bF O.ne];exact ho,?_,O.ne,O'.obj,_,O'.ns,λg=>?_,λg hg=>?_⟩
 .have:=DH f y fs;lia
 .show fV ((putF f y fs).lookup g) (if g=f then some u else mA g);rw[DG]
  by_cases q:g=f
  .rw[if_pos q,if_pos q];exact ry
  .rw[if_neg q,if_neg q];exact r g
 .by_cases q:g=f
  .rw[q];exact(wM f y fs).1
  .refine(wM f y fs).2 g (wi g λz=>hg ?_);show(if g=f then some u else mA g)=none;rw[if_neg q];exact z
theorem Inv.made(I:Inv X pins Z H s):Inv X pins Z (aR (aR H s.heap.objs.size (.own (s.heap.objs.size+1))) (s.heap.objs.size+1) (.ins C s.heap.objs.size []))
  {s with heap:=(s.heap.push Ge).push (Hm C s.heap.objs.size)}:=by
 have e1:(s.heap.push Ge).get? s.heap.objs.size=some Ge:=Au s.heap rfl;have e2:((s.heap.push Ge).push (Hm C s.heap.objs.size)).get? (s.heap.objs.size+1)=some (Hm C s.heap.objs.size):=by
  have:=Au (s.heap.push Ge) (o:=Hm C s.heap.objs.size) rfl;rwa [Ea]at this
 have e3:(s.heap.push Ge).Ns s.heap.objs.size (λ_=>none):=⟨Ge,#[],_,e1,rfl,(λe he=>absurd he (by simp)),λ_=>rfl⟩;have I1:=I.laid (a:=s.heap.objs.size) (o:=.own (s.heap.objs.size+1)) (h':=s.heap.push Ge) (t':=s.toks) (λb u q=>Ah _ q) (Ai _) ⟨_,e1⟩;refine I1.laid (a:=s.heap.objs.size+1) (o:=.ins C s.heap.objs.size []) (t':=s.toks) (λb u q=>Ah _ q) (Ep (Ea _ _)) ?_;have ne:s.heap.objs.size≠s.heap.objs.size+1:=Bu (Fv _);refine⟨by rw[bF ne,dO],Bk _,ne,e2,λ_=>none,(Heap.Ns1.of_empty e3).at λo q=>Ah _ q,λ_=>True.intro,λy hy=>absurd rfl hy⟩
theorem Q2{Q:Ae->Ag->Prop}(hb:Km e f env (eval e env)=eval e env)(h:Bc (Bo prog w) A (eval e env) (λo a=>Bc (Bo prog w) A (getAttr o f true) Q E a) E s):Bc (Bo prog w) A (eval (.Attribute e f pos) env) Q E s:=
 Attribute_any_ h (by rw[arm_eval_Attribute,hb])
end
def Q3(K:Ac)(ta:TE)(f:Str):TE:=λZ H Q=>ta Z H λx b=>∃a C dx fs v,x=.ref a/\b a=some (.ins C dx fs)/\gX K C/\f9 K C f/\fs.lookup f=some v/\Q v b
def Q4(K:Ac)(ta tv:TE)(f:Str):TS:=λD Z H=>tv Z H λy c=>ta Z c λx b=>∃a C dx fs,x=.ref a/\b a=some (.ins C dx fs)/\gX K C/\f9 K C f/\fs.length<1000/\
 D.nx Z (aR b a (.ins C dx (putF f y fs)))
section
variable {X:Cx}{o e value:Expr}{f:Str}{pos pos' tpos:Pos}{ta tv:TE}
theorem Q5(b:PE X e ta)(hb:Km e f X.env (eval e X.env)=eval e X.env):PE X (.Attribute e f pos) (Q3 X.K ta f):=by
 intro pins s Z H Q I h;refine Q2 hb (a5 (b pins s Z H _ I h) λu k ⟨x,g,j,i,a,C,dx,fs,v,ex,ea,c,n,l,q⟩=>?_);subst ex;obtain rfl:u=Value.ref a:=i;exact Q0 j ea c n l λo m d ru=>⟨v,g,d,ru,q⟩
theorem Q6(ha:PE X o ta)(d:PE X value tv)(b:Jd value (some (.Attribute o f pos')) pos.line X.env=pure false):PS X (.Assign [.Attribute o f pos'] value pos) (Q4 X.K ta tv f):=by
 intro pins s Z H D I h;refine plainObj_wpAny_Assign_Attribute (a5 (d pins s Z H _ I h) λu r ⟨y,i,p,t,q⟩=>a5 (ha pins r Z i _ p q) λm z ⟨x,v,g,k,a,C,dx,fs,ex,ea,c,n,l,j⟩=>?_) b;subst ex;obtain rfl:m=Value.ref a:=k;exact Q1 g ea c n l t λw e=>⟨Z,_,e,j⟩
end
section
variable {X:Cx}{pins:List (Addr×Obj)}{Z:St}{H:Hp}{s:Ag}{A:Co}{E:Ae->Ag->Prop}{Q:Ae->Ag->Prop}{c:Ae}{b:Bool}
inductive iM(K:Ac)(H:Hp):V->Ae->Prop where
 | non:iM K H .non (.type "NoneType")
 | bl (x:Bool):iM K H (.bl x) (.type "bool")
 | int (i:Int):iM K H (.int i) (.type "int")
 | str (x:Str):iM K H (.str x) (.type "str")
 | flt (x:UInt64):iM K H (.flt x) (.type "float")
 | lst {a:Addr} {xs:List V} (e:H a=some (.lst xs)):iM K H (.ref a) (.type "list")
 | frz {a:Addr} {o:Obj} {xs:List V} (e:H a=some (.frz o (.lst xs))):iM K H (.ref a) (.type "list")
 | tup {a:Addr} {xs:List V} (e:H a=some (.tup xs)):iM K H (.ref a) (.type "tuple")
 | dK {a:Addr} {kvs:List (aF×V)} (e:H a=some (.dK kvs)):iM K H (.ref a) (.type "dict")
 | dT {a:Addr} {kvs:List (List aF×V)} (e:H a=some (.dT kvs)):iM K H (.ref a) (.type "dict")
 | ins {a C dx:Addr} {fs:List (Str×V)} (e:H a=some (.ins C dx fs)) (cl:gX K C) (ha:Cq K (.ref C) "__class__" = some (some (.builtin "object.__class__")))
   (hn:PySem.W.specialIn K (.builtin "object.__class__") "__get__" = some (some (.builtin "getset_descriptor.__get__"))) (htk:PySem.W.takesIn K (.builtin "object.__class__")=some true)
   (hm:PySem.W.mroIn K C (.type "object")=some true):iM K H (.ref a) (.ref C)
theorem Q7(I:Inv X pins Z H s)(d:RelV x u)(ty:iM X.K H x t)(e:Kg X.K t c=some b)(h:∀tk,Q (.bool b) {s with toks:=tk}):
  Bc (Bo X.prog X.w) A (call (.builtin "isinstance") [u,c]) Q E s:=by
 cases ty with
 | non=>cases (show u=Value.none from d);exact Fx PySem.W.kitx_none I.kIn True.intro e (λz=>nomatch z) h
 | bl y=>cases (show u=Value.bool y from d);exact Fx PySem.W.kitx_bool I.kIn True.intro e (λz=>nomatch z) h
 | int i=>obtain⟨t,q⟩:=(show ∃t,u=Value.int i t from d);cases q;exact Fx PySem.W.kitx_int I.kIn True.intro e (λz=>nomatch z) h
 | str y=>obtain⟨t,q⟩:=(show ∃t,u=Value.str y t from d);cases q;exact Fx PySem.W.kitx_str I.kIn True.intro e (λz=>nomatch z) h
 | flt y=>obtain⟨t,q⟩:=(show ∃t,u=Value.float y t from d);cases q;exact Fx PySem.W.kitx_float I.kIn True.intro e (λz=>nomatch z) h
 | @lst a xs ea=>
  cases (show u=Value.ref a from d);obtain⟨_,_,n,_,f⟩:=(show cL X.prog X.w H s.heap a (.lst xs) from I.hok a _ ea);exact Fx PySem.W.kitx_list I.kIn ⟨_,f,rfl⟩ e (λz=>nomatch z) h
 | @frz a ob xs ea=>
  cases (show u=Value.ref a from d);obtain⟨_,_,_,n,_,f⟩:=(show cL X.prog X.w H s.heap a (.frz ob (.lst xs)) from I.hok a _ ea);exact Fx PySem.W.kitx_list I.kIn ⟨_,f,rfl⟩ e (λz=>nomatch z) h
 | @tup a xs ea=>
  cases (show u=Value.ref a from d);obtain⟨_,_,_,p⟩:=(show cL X.prog X.w H s.heap a (.tup xs) from I.hok a _ ea);obtain⟨o,f,g,_⟩:=p;exact Fx PySem.W.kitx_tuple I.kIn ⟨o,f,g⟩ e (λz=>nomatch z) h
 | @dK a kvs ea=>
  cases (show u=Value.ref a from d);obtain⟨_,_,vs,_,p⟩:=(show cL X.prog X.w H s.heap a (.dK kvs) from I.hok a _ ea);obtain⟨o,es,ep,f,g,_⟩:=p;exact Fx PySem.W.kitx_dict I.kIn ⟨o,f,g.1⟩ e (λz=>nomatch z) h
 | @dT a kvs ea=>
  cases (show u=Value.ref a from d);obtain⟨_,_,xs,_,o,es,ep,f,g,_⟩:=(show cL X.prog X.w H s.heap a (.dT kvs) from I.hok a _ ea);exact Fx PySem.W.kitx_dict I.kIn ⟨o,f,g.1⟩ e (λz=>nomatch z) h
 | @ins a C dx fs ea cl ha l j k=>
  cases (show u=Value.ref a from d);obtain⟨mA,O,_⟩:=tG I.hok ea;obtain⟨m,J,_⟩:=O.look;exact Fx (PySem.W.kitx_own (cl.get _) cl.hd ha l j k) I.kIn J e (λz=>nomatch z) h
end
structure cM(k:Nat)(A:Co):Prop where
 hd:A.handled=none
 dp:A.depth+3*k+5<recursionLimit
 un:A.units+16*k+200<Gu
theorem cM.mono{j k:Nat}(r:cM k A)(h:j<=k):cM j A:=⟨r.hd,by have:=r.dp;lia,by have:=r.un;lia⟩
theorem cM.deeper{k:Nat}(r:cM (k+1) A)(env:Env):cM k (A.deeper env):=
 ⟨r.hd,by have:=r.dp;show A.depth+1+3*k+5<_;lia,by have:=r.un;show A.units+3+16*k+200<_;lia⟩
theorem Q8{A:Co}{C:Addr}{us:List Ae}{a:List (Str×Ae)}:(A.under (.builtin "type.__call__" ⟨.ref C::us,a⟩)).depth=A.depth+1:=by
 first|rfl|simp[Around.under,Code.weight,Code.isCreation,Code.isGuard,Code.isCaller,Code.frames,Code.isFrame,guardIds]
theorem Q9{A:Co}{C:Addr}{us:List Ae}{a:List (Str×Ae)}:(A.under (.builtin "type.__call__" ⟨.ref C::us,a⟩)).units=A.units+1:=by
 first|rfl|simp[Around.under,Code.cUnits,Code.frames,Code.isFrame]
theorem cM.make{k:Nat}(r:cM (k+1) A)(C:Addr)(us:List Ae)(a:List (Str×Ae)):cM k (A.under (.builtin "type.__call__" ⟨.ref C::us,a⟩)):=
 ⟨r.hd,by have:=r.dp;rw[Q8];lia,by have:=r.un;rw[Q9];lia⟩
theorem cM.depth{k:Nat}(r:cM k A):A.depth<recursionLimit:=by have:=r.dp;lia
theorem cM.units{k:Nat}(r:cM k A):A.units+64<Gu:=by have:=r.un;lia
def wN:TA:=λ_ H Q=>Q [] H
def RA(ta:TE)(b:TA):TA:=λZ H Q=>ta Z H λx c=>b Z c λxs a=>Q (x::xs) a
section
variable {X:Cx}{e:Expr}{es:List Expr}{te:TE}{t:TA}{pos:Pos}
theorem RB:PA X [] wN:=λ_ _ _ _ H Q I h=>Calls.spliced_nil ⟨[],H,I,.nil,h⟩
theorem RC(ha:PE X e te)(f:PA X es t)(c:Br (e::es) X.env=(false,eval e X.env)::Br es X.env:=by rfl):PA X (e::es) (RA te t):=by
 intro pos pins s Z H Q I h;rw[c];show Bc _ _ (spliced ((false,eval e X.env)::Ie pos (Br es X.env))) _ _ s;refine Calls.spliced_cons (a5 (ha pins s Z H _ I h) λu m ⟨x,i,l,d,k⟩=>?_);exact a5 (f pos pins m Z i _ l k) λus n ⟨xs,b,g,a,j⟩=>⟨x::xs,b,g,.cons d a,j⟩
def RD(t:TA):TE:=λZ H Q=>t Z H λxs a=>xs.length<=An/\∀p,a p=none->Q (.ref p) (aR a p (.tup xs))
def RE(t:TA):TE:=λZ H Q=>t Z H λxs a=>xs.length<=An/\∀p,a p=none->Q (.ref p) (aR a p (.lst xs))
theorem RF{x1}(h:PA X es t):PE X (.Tuple es x1 pos) (RD t):=by
 intro pins s Z H Q I f;refine wpAny_Tuple_spliced (a5 (h pos pins s Z H _ I f) λus a ⟨xs,d,c,r,z,q⟩=>⟨by rw[<-r.length];exact z,?_⟩);have hf:d a.heap.objs.size=none:=c.hok.fresh (Ai _);refine⟨.ref a.heap.objs.size,aR d a.heap.objs.size (.tup xs),c.laid (t':=a.toks) (λb u e=>Ah _ e) (Ai _) ?_,rfl,q _ hf⟩;exact⟨z,us,r,⟨_,Au _ rfl,rfl,_,rfl⟩⟩
theorem DK(h:PA X es t):PE X (.List es pos) (RE t):=by
 intro pins s Z H Q I f;refine wpAny_List_spliced (a5 (h pos pins s Z H _ I f) λus a ⟨xs,d,c,r,z,q⟩=>⟨by rw[<-r.length];exact z,?_⟩);have hf:d a.heap.objs.size=none:=c.hok.fresh (Ai _);refine⟨.ref a.heap.objs.size,aR d a.heap.objs.size (.lst xs),c.laid (t':=a.toks) (λb u e=>Ah _ e) (Ai _) ?_,rfl,q _ hf⟩;exact⟨z,us,0,r,Au _ rfl⟩
end
abbrev Sp:=List V->Hp->VK->XK->Prop
abbrev kP:=List Env->Hp->Ag->XK->Ae->Ag->Prop
structure nP(P:Bt)(w:Ck)(K:Ac)(mg:Str->Option Ae)(base:Heap)(A:Co)(outer:List Env)(s:Ag)(H:Hp):Prop where
 frames:A.frames=some outer
 mod:Mod K mg base
 bs:∀b o,base.get? b=some o->s.heap.get? b=some o/\H b=none
 bsz:base.objs.size<=s.heap.objs.size
 funs:s.heap.FunFrames base outer
 frf:∀b∈iL outer,H b=none
 hok:cV P w H s.heap
 bare:Om s.gens
def CE(outer:List Env)(P:Bt)(w:Ck)(H:Hp)(s:Ag)(Q:VK)(u:Ae)(s':Ag):Prop:=
 ∃v H',s'.os=s.os/\Om s'.gens/\Un (iL outer) [] H H' s.heap s'.heap/\cV P w H' s'.heap/\RelV v u/\Q v H'
def CR(CX:kP)(outer:List Env)(P:Bt)(w:Ck)(H:Hp)(s:Ag)(Q:VK)(E:XK)(r:Result)(s':Ag):Prop:=
 match r with
 | .ok (.ret u)=>CE outer P w H s Q u s'
 | .ok _=>False
 | .error e=>CX outer H s E e s'
structure e9(P:Bt)(w:Ck)(K:Ac)(mg:Str->Option Ae)(base:Heap)(CX:kP)(k:Nat)(f:Addr)(fd:Bv)(ps:List Str)(sp:Sp):Prop where
 len:∀vs H Q E,sp vs H Q E->vs.length=ps.length
 run:∀(A:Co) (outer:List Env) (s:Ag) (H:Hp) (args:Args) (us:List Ae) (vs:List V) (Q:VK) (E:XK),cM k A->nP P w K mg base A outer s H->BindsTo s fd args (ps.zip us)->aT vs us->sp vs H Q E->
  Jo (Bo P w) A (.call (.ref f) args) (CR CX outer P w H s Q E) s
theorem nP.make{P:Bt}{w:Ck}{K:Ac}{mg:Str->Option Ae}{base:Heap}{A:Co}{outer:List Env}{s:Ag}{H:Hp}(e:nP P w K mg base A outer s H)(C:Addr)(us:List Ae)(a:List (Str×Ae)):
  nP P w K mg base (A.under (.builtin "type.__call__" ⟨.ref C::us,a⟩)) outer s H:=⟨by first|exact e.frames|(simpa [Around.under,Code.envs,Code.isFrame,pushEnvs] using e.frames),e.mod,e.bs,e.bsz,e.funs,e.frf,e.hok,e.bare⟩
section
variable {X:Cx}{pins:List (Addr×Obj)}{Z:St}{H:Hp}{s s':Ag}
theorem Inv.env0(I:Inv X pins Z H s):nP X.prog X.w X.K X.mg X.base X.A X.stack s H:=
 ⟨I.ok.frames,I.ok.mod,I.bs,Ar I.ok.bsz I.sz,I.stack,I.stkFree,I.hok,I.bare⟩
theorem Inv.after(I:Inv X pins Z H s)(h:CE X.stack X.prog X.w H s Q u s'):EP X pins Z Q u s':=by
 obtain⟨v,H',os,bare,un,hok,r,q⟩:=h;obtain⟨c,g,d,t,a⟩:=s';obtain rfl:a=s.os:=os;exact⟨v,H',I.call (h':=c) (g':=g) (d':=d) (t':=t) (ch:=[]) un hok bare (λb z=>absurd z (by simp)),r,q⟩
end
def DL(sp:Sp)(dvs:List V)(E:XK)(t:TA):TE:=λZ H Q=>t Z H λvs a=>sp (vs++dvs) a Q E
def wO(C:Addr)(m:Str)(sp:Sp)(dvs:List V)(E:XK)(ta:TE)(t:TA):TE:=λZ H Q=>ta Z H λx b=>∃a dx fs,x=.ref a/\b a=some (.ins C dx fs)/\fs.lookup m=none/\
 t Z b λvs c=>sp (x::(vs++dvs)) c Q E
def DM(C:Addr)(sp:Sp)(dvs:List V)(E:XK)(t:TA):TE:=λZ H Q=>t Z H λvs a=>∀x dx,a x=none->a dx=none->dx≠x->
 sp (.ref x::(vs++dvs)) (aR (aR a dx (.own x)) x (.ins C dx [])) (λv b=>v=.non/\Q (.ref x) b) E
def Binds(K:Ac)(fd:Bv)(ps:List Str)(ds:List Ae):Prop:=
 ∀(s:Ag) (us:List Ae),K.In s.heap->(us++ds).length=ps.length->BindsTo s fd ⟨us,[]⟩ (ps.zip (us++ds))
theorem Binds.all{K:Ac}{fd:Bv}{ps:List Str}(h:∀us:List Ae,us.length=ps.length->bindArgs fd ⟨us,[]⟩=pure (ps.zip us)):Binds K fd ps []:=λs us _ hl=>by
 rw[Ew]at hl⊢;exact .of_eq (h us hl)
def mF(CX:kP)(X:Cx)(E:XK):Prop:=∀(pins:List (Addr×Obj)) (Z:St) (H:Hp) (s:Ag) (e:Ae) (s':Ag),Inv X pins Z H s->CX X.stack H s E e s'->X.xe e s'
section
variable {X:Cx}{CX:kP}{k:Nat}{f C:Addr}{fd:Bv}{ps:List Str}{sp:Sp}{dvs:List V}{ds:List Ae}{E:XK}{x m:Str}{p pos apos:Pos}{e o:Expr}{es:List Expr}{ta:TE}{t:TA}
theorem tH(F:e9 X.prog X.w X.K X.mg X.base CX k f fd ps sp)(hr:cM k X.A)(hb:Binds X.K fd ps ds)(hd:aT dvs ds)(hx:mF CX X E)(I:Inv X pins Z H s)(r:aT vs us)(h:sp (vs++dvs) H Q E):Bc (Bo X.prog X.w) X.A (call (.ref f) us) (EP X pins Z Q) X.xe s:=by
 have r2:aT (vs++dvs) (us++ds):=r.append hd;have hl:(us++ds).length=ps.length:=by rw[<-r2.length];exact F.len _ _ _ _ h
 refine wpAny_call (Lf (F.run X.A X.stack s H ⟨us,[]⟩ (us++ds) (vs++dvs) Q E hr I.env0 (hb s us I.kIn hl) r2 h) λr s' hq=>?_);cases r with
 | error e=>exact hx pins Z H s e s' I hq
 | ok fl=>
  cases fl with
  | ret u=>exact I.after hq
  | next=>exact Hk hq
  | brk=>exact Hk hq
  | cont=>exact Hk hq
theorem RG(F:e9 X.prog X.w X.K X.mg X.base CX k f fd ps sp)(j:cM k X.A)(l:Gl X x)(g:X.mg x=some (.ref f))(hk:Gd X.K (.ref f)=true)(hb:Binds X.K fd ps ds)(hd:aT dvs ds)(i:mF CX X E)(ha:PA X (e::es) t)(a:(x==("__debug__" : Str))=false:=by decide)(d:Br (e::es) X.env=(false,eval e X.env)::Br es X.env:=by rfl)(b:(Ie pos (Br es X.env)).any (·.1)=false:=by rfl):
  PE X (.Call (.Name x p) (e::es) [] pos) (DL sp dvs E t):=by
 intro pins s Z H Q I h;refine Ez (sW I l g ?_ a);refine Lu (h₀:=X.base) I.ok.mod.kin hk (a5 (ha pos pins s Z H _ I h) λus n ⟨vs,m,c,r,q⟩=>⟨c.kIn,?_⟩) d b;exact tH F j hb hd i c r q
theorem RH(p:PE X o ta)(c:gX X.K C)(g:oQ X.K C m f)(F:e9 X.prog X.w X.K X.mg X.base CX k f fd ps sp)(y:cM k X.A)(hb:Binds X.K fd ps ds)(hd:aT dvs ds)(v:mF CX X E)(ha:PA X (e::es) t)(b:Br (e::es) X.env=(false,eval e X.env)::Br es X.env:=by rfl)(d:(Ie pos (Br es X.env)).any (·.1)=false:=by rfl)(ht:eval (.Call (.Attribute o m apos) (e::es) [] pos) X.env=(do
   let j <-eval o X.env
   Pj apos.atName
   let (f,first) <-Jn [j] (Pn j m pl)
   callWith pos f first (Ie pos (Br (e::es) X.env)) (backToKw pos (Nl [] X.env))):=by rfl):
  PE X (.Call (.Attribute o m apos) (e::es) [] pos) (wO C m sp dvs E ta t):=by
 intro pins s Z H Q I h;refine PySem.W.methodCall_KW (pl:=pl) (a5 (p pins s Z H _ I h) λu G ⟨x,z,n,D,a,dx,fs,ex,ea,l,q⟩=>?_) ht;subst ex;obtain rfl:u=Value.ref a:=D;refine DJ n ea c g l ?_;refine Lu (first:=[.ref a]) (h₀:=X.base) I.ok.mod.kin g.kp (a5 (ha pos pins G Z z _ n q) λus L ⟨vs,J,i,r,B⟩=>⟨i.kIn,?_⟩) b d;exact tH (us:=.ref a::us) (vs:=.ref a::vs) F y hb hd v i (.cons rfl r) B
theorem RI(g:PE X o ta)(c:gX X.K C)(d:oQ X.K C m f)(F:e9 X.prog X.w X.K X.mg X.base CX k f fd ps sp)(j:cM k X.A)(hb:Binds X.K fd ps ds)(hd:aT dvs ds)(i:mF CX X E)(ht:eval (.Call (.Attribute o m apos) [] [] pos) X.env=(do
   let e <-eval o X.env
   Pj apos.atName
   let (f,first) <-Jn [e] (Pn e m pl)
   callWith pos f first (Ie pos (Br [] X.env)) (backToKw pos (Nl [] X.env))):=by rfl):
  PE X (.Call (.Attribute o m apos) [] [] pos) (wO C m sp dvs E ta wN):=by
 intro pins s Z H Q I h;refine PySem.W.methodCall_KW (pl:=pl) (a5 (g pins s Z H _ I h) λu r ⟨x,p,b,n,a,dx,fs,ex,ea,l,q⟩=>?_) ht;subst ex;obtain rfl:u=Value.ref a:=n;refine DJ b ea c d l ?_;exact PySem.W.callWith_K0 (first:=[.ref a]) b.kIn d.kp (tH (us:=[.ref a]) (vs:=[.ref a]) F j hb hd i b (.cons rfl .nil) q)
structure Mk(K:Ac)(C f:Addr):Prop where
 makes:PySem.W.makesIn K C=true
 init:Cq K (.ref C) "__init__" = some (some (.ref f))
 fn:Nb K (.ref f)=true
 kp:Gd K (.ref C)=true
theorem DN(M:Mk X.K C f)(F:e9 X.prog X.w X.K X.mg X.base CX k f fd ps sp)(hr:cM (k+1) X.A)(hb:Binds X.K fd ps ds)(hd:aT dvs ds)(hx:mF CX X E)(I:Inv X pins Z H s)(r:aT vs us)(h:∀x dx,H x=none->H dx=none->dx≠x->sp (.ref x::(vs++dvs)) (aR (aR H dx (.own x)) x (.ins C dx [])) (λv H2=>v=.non/\Q (.ref x) H2) E):
  Bc (Bo X.prog X.w) X.A (call (.ref C) us) (EP X pins Z Q) X.xe s:=by
 have hq:=h (s.heap.objs.size+1) s.heap.objs.size (I.hok.fresh (Ll _)) (I.hok.fresh (Ai _)) (Bu (Fv _));have I2:=Inv.made (C:=C) I;have r2:aT (V.ref (s.heap.objs.size+1)::(vs++dvs)) (Value.ref (s.heap.objs.size+1)::(us++ds)):=.cons rfl (r.append hd);have hl:(Value.ref (s.heap.objs.size+1)::us++ds).length=ps.length:=by
  have e:=r2.length;rw[F.len _ _ _ _ hq]at e;exact e.symm
 refine wpAny_call (QY (f:=f) I.kIn M.makes M.init (beq_iff_eq.mp M.fn) (Lf (F.run _ X.stack _ _ ⟨Value.ref (s.heap.objs.size+1)::us,[]⟩ (Value.ref (s.heap.objs.size+1)::(us++ds)) _ _ E (hr.make C us [])
  (I2.env0.make C us []) (hb _ (Value.ref (s.heap.objs.size+1)::us) I2.kIn hl) r2 hq) λr s' hq'=>?_))
 cases r with
 | error e=>exact hx pins Z _ _ e s' I2 hq'
 | ok fl=>
  cases fl with
  | ret u=>
   obtain⟨v,H',I3,rv,ev,q3⟩:=I2.after hq';subst ev;exact⟨rv,⟨V.ref (s.heap.objs.size+1),H',I3,rfl,q3⟩⟩
  | next=>exact Hk hq'
  | brk=>exact Hk hq'
  | cont=>exact Hk hq'
theorem RJ(M:Mk X.K C f)(F:e9 X.prog X.w X.K X.mg X.base CX k f fd ps sp)(j:cM (k+1) X.A)(l:Gl X x)(g:X.mg x=some (.ref C))(hb:Binds X.K fd ps ds)(hd:aT dvs ds)(i:mF CX X E)(ha:PA X (e::es) t)(a:(x==("__debug__" : Str))=false:=by decide)(d:Br (e::es) X.env=(false,eval e X.env)::Br es X.env:=by rfl)(b:(Ie pos (Br es X.env)).any (·.1)=false:=by rfl):
  PE X (.Call (.Name x p) (e::es) [] pos) (DM C sp dvs E t):=by
 intro pins s Z H Q I h;refine Ez (sW I l g ?_ a);refine Lu (h₀:=X.base) I.ok.mod.kin M.kp (a5 (ha pos pins s Z H _ I h) λus n ⟨vs,m,c,r,q⟩=>⟨c.kIn,?_⟩) d b;exact DN M F j hb hd i c r q
theorem RK(M:Mk X.K C f)(F:e9 X.prog X.w X.K X.mg X.base CX k f fd ps sp)(d:cM (k+1) X.A)(e:Gl X x)(b:X.mg x=some (.ref C))(hb:Binds X.K fd ps ds)(hd:aT dvs ds)(c:mF CX X E)(a:(x==("__debug__" : Str))=false:=by decide):PE X (.Call (.Name x p) [] [] pos) (DM C sp dvs E wN):=by
 intro pins s Z H Q I h;refine Ez (sW I e b ?_ a);exact PySem.W.callWith_K0 I.kIn M.kp (DN (us:=[]) M F d hb hd c I .nil h)
end
structure oR(N P:List Str)(sc:Kn):Prop where
 kind:sc.kind=.function
 co:sc.isCoroutine=false
 gen:sc.isGenerator=false
 nd:N.Nodup
 pre:N.take P.length=P
 par:∀x∈P,sc.names.lookup x=some .local\/sc.names.lookup x=some .cell
 nofree:∀y∈sc.names,y.2≠.free
theorem DP{a:Str->Option Jw}:∀{binds:List (Str×Ae)} {m:Str->Option Ae},(∀v,(x,v)∉binds)->bindL a binds m x=m x
 | [],_,_=>rfl
 | (n,v)::r,m,h=>by
  unfold bindL;rw[DP λw hw=>h w (Ap _ hw)];split
  .have:x≠n:=by rintro rfl;exact h v Be
   simp[this]
  .rfl
theorem DQ{a:Str->Option Jw}:∀{binds:List (Str×Ae)} {m:Str->Option Ae},(∀v,(x,v)∉binds)->bindC a binds m x=m x
 | [],_,_=>rfl
 | (n,v)::r,m,h=>by
  unfold bindC;rw[DQ λw hw=>h w (Ap _ hw)];split
  .rfl
  .have:x≠n:=by rintro rfl;exact h v Be
   simp[this]
theorem DR{a:Str->Option Jw}:∀{P:List Str} {vs:List Ae} {i:Nat} {m:Str->Option Ae},P.Nodup->P[i]? = some x->vs[i]? = some v->a x=some .local->
  bindL a (P.zip vs) m x=some v
 | [],_,_,_,_,h,_,_=>by simp at h
 | _::_,[],_,_,_,_,h,_=>by simp at h
 | p::P,w::vs,0,m,nd,c,b,hk=>by
  simp at c b;subst c;subst b;show bindL a ((p,w)::P.zip vs) m p=_;unfold bindL;rw[DP λv d=>(Dx.mp nd).1 (List.of_mem_zip d).1,if_pos hk];simp
 | p::P,w::vs,i+1,m,nd,c,b,hk=>by
  show bindL a ((p,w)::P.zip vs) m x=_;unfold bindL;exact DR (i:=i) (Dx.mp nd).2 (by simpa using c) (by simpa using b) hk
theorem DS{a:Str->Option Jw}:∀{P:List Str} {vs:List Ae} {i:Nat} {m:Str->Option Ae},P.Nodup->P[i]? = some x->vs[i]? = some v->a x≠some .local->
  bindC a (P.zip vs) m x=some v
 | [],_,_,_,_,h,_,_=>by simp at h
 | _::_,[],_,_,_,_,h,_=>by simp at h
 | p::P,w::vs,0,m,nd,c,b,hk=>by
  simp at c b;subst c;subst b;show bindC a ((p,w)::P.zip vs) m p=_;unfold bindC;rw[DQ λv d=>(Dx.mp nd).1 (List.of_mem_zip d).1,if_neg hk];simp
 | p::P,w::vs,i+1,m,nd,c,b,hk=>by
  show bindC a ((p,w)::P.zip vs) m x=_;unfold bindC;exact DS (i:=i) (Dx.mp nd).2 (by simpa using c) (by simpa using b) hk
def start(N:List Str)(vs:List V):St:=vs.map some++Cf (N.length-vs.length) none
def mG(CX:kP)(P:Bt)(w:Ck)(K:Ac)(mg:Str->Option Ae)(base:Heap)(N:List Str)(b:Str)(a:Kn)(f:Addr)(d:Ae)(A:Co)(outer:List Env)(s:Ag)(H:Hp)(E:XK):Cx where
 prog:=P
 w:=w
 K:=K
 mg:=mg
 base:=base
 A:=A.deeper (Nq b a s.heap.objs.size f d)
 N:=N
 s₀:=s
 H₀:=H
 env:=Nq b a s.heap.objs.size f d
 outer:=outer
 stack:=Nq b a s.heap.objs.size f d::outer
 ex:=[]
 calm:=true
 fn:=λ_=>true
 pn:=[]
 xe:=λe h=>Bc (Bo P w) (A.deeper (Nq b a s.heap.objs.size f d)) (leaving (Nq b a s.heap.objs.size f d) e) (λ_ c=>CX outer H s E e c) (λg c=>CX outer H s E g c) h
theorem DT{sc:Kn}{n:Nat}{x:Str}(h:sc.names.lookup x=some .cell):∃c,(cellsFrom n sc.names []).lookup x=some c:=by
 have q:=PySem.W.cellsFrom_some sc.names n [] (.inl h);exact Dh.mp q
theorem RL{CX:kP}{P:Bt}{w:Ck}{K:Ac}{mg:Str->Option Ae}{base:Heap}{N ps:List Str}{g:Str}{d:Kn}{f:Addr}{C:Ae}{A:Co}{outer:List Env}{s F:Ag}{H:Hp}{E:XK}{us:List Ae}{vs:List V}(S:oR N ps d)(hd:A.handled=none)(l:nP P w K mg base A outer s H)(hl:vs.length=ps.length)(r:aT vs us)(x:InCallC s s.heap.objs.size (bindL (Nq g d s.heap.objs.size f C).kindOf (ps.zip us) λ_=>none) (cellsFrom (s.heap.objs.size+1) d.names []) (bindC (Nq g d s.heap.objs.size f C).kindOf (ps.zip us) λ_=>none) F):
  Inv (mG CX P w K mg base N g d f C A outer s H E) [] (start N vs) H F:=by
 have J:ps.length<=N.length:=by have:=congrArg Ej S.pre;rw[Cb]at this;lia
 obtain⟨D,tk,rfl,hk⟩:=x.done;have m:∀b:Addr,b∉(mG CX P w K mg base N g d f C A outer s H E).ex:=λb z=>absurd (show b∈([]:List Addr) from z) (by simp);refine⟨⟨l.mod,S.kind,rfl,rfl,Ai _,λy z c D j=>?_,λy o=>?_,λy c _ h=>?_,λ_=>hd,Around.frames_deeper l.frames,.inr ⟨rfl,rfl⟩,λb z=>absurd z (m b),l.bs,l.bsz,λb _ _=>m b,λb z=>absurd z (m b),l.funs,l.frf⟩,
  rfl,l.bare,Un.kept hk,⟨_,x.toInCall.ns,λi y v D j L=>?_⟩,λy c h=>⟨_,x.cell y c h⟩,l.hok.fresh (Ai _),λy c h=>?_,λp t=>absurd (show p∈([]:List (Addr×Obj)) from t) (by simp),l.hok.kept hk,?_⟩
 .exact name_of_addr x.apart (Hu D) (Hu j)
 .have o:d.names.lookup y=some .cell\/d.names.lookup y=some .free:=o;rcases o with o|o
  .exact DT o
  .exact absurd rfl (S.nofree _ (Hu o))
 .exact Hj (x.above y c (Hu h))
 .have hi:i<vs.length:=by
   unfold start at j
   by_cases hi:i<vs.length
   .exact hi
   .rw[Me (by simpa using hi)]at j;rw[List.getElem?_replicate]at j;split at j<;>cases j
  have ha:vs[i]? = some v:=by
   unfold start at j;rw[List.getElem?_append_left (by simpa using hi),Av]at j;cases e:vs[i]? with
   | none=>rw[e]at j;cases j
   | some a=>rw[e]at j;cases j;rfl
  obtain⟨u,G,I⟩:=r.get ha;have t:ps[i]? = some y:=by
   rw[<-S.pre,List.getElem?_take_of_lt (by lia)];exact D
  have B:ps.Nodup:=by rw[<-S.pre];exact S.nd.sublist (List.take_sublist _ _)
  refine⟨u,I,?_⟩;rcases S.par y (Bh t) with k|k
  .exact .inl ⟨k,DR B t G k⟩
  .obtain⟨c,e⟩:=DT (n:=s.heap.objs.size+1) k;refine .inr ⟨.inl k,c,e,?_⟩;have q:=x.cell y c e;rw[DS B t G (by show d.names.lookup y≠_;rw[k];decide)]at q;exact q
 .exact l.hok.fresh (Hj (x.above y c (Hu h)))
 .unfold start;show _=N.length;rw[Aj,Ab,List.length_replicate];lia
theorem RM{CX:kP}{P:Bt}{w:Ck}{K:Ac}{mg:Str->Option Ae}{base:Heap}{k:Nat}{f:Addr}{name qual:Str}{params:Arguments}{body:List Stmt}{scope:Kn}{dV kV doc pm cdv ct oc:Ae}{an od:Option Addr}{osl:Array (Option Ae)}{N ps:List Str}{sp:Sp}(lk:K.lookup f=some ⟨oc,od,.func (Fy name qual params body scope dV kV doc pm an cdv ct),osl⟩)(hcd:Kh K cdv qual=true)(S:oR N ps scope)(len:∀vs H Q E,sp vs H Q E->vs.length=ps.length)(hbody:∀(A:Co) (outer:List Env) (s:Ag) (H:Hp) (vs:List V) (Q:VK) (E:XK),cM k (A.deeper (Nq qual scope s.heap.objs.size f cdv))->sp vs H Q E->
   ∃t,f7 (mG CX P w K mg base N qual scope f cdv A outer s H E) body t/\t {nx:=λ_ H'=>Q .non H',rt:=Q} (start N vs) H):
  e9 P w K mg base CX (k+1) f (Fy name qual params body scope dV kV doc pm an cdv ct) ps sp:=by
 refine⟨len,λA outer s H args us vs Q E hr e0 hb r hsp=>?_⟩;have hl:=len _ _ _ _ hsp;have KX:K.In s.heap:=e0.mod.kin.keeps λb o e=>(e0.bs b o e).1;have lim:s.heap.NoLimit:=e0.mod.nolimit.keeps λb o e=>(e0.bs b o e).1;have hkind:∀y∈ps.zip us,scope.names.lookup y.1=some .local\/(scope.names.lookup y.1=some .cell/\((cellsFrom (s.heap.objs.size+1) scope.names []).lookup y.1).isSome=true):=λ⟨n,v⟩ hy=>by
  rcases S.par n (List.of_mem_zip hy).1 with q|q
  .exact .inl q
  .exact .inr ⟨q,PySem.W.cellsFrom_some _ _ _ (.inl q)⟩
 refine codeAny_call_function hr.depth (KX _ _ lk) rfl S.co S.gen rfl (PySem.W.codeRec_of KX hcd) (hb _ _ _ _ ?_);refine wpAny_newFunctionEnv_cells S.kind hkind λenv he s1 x=>?_;subst he;refine⟨lim.keeps x.toInCall.keep,codeAny_func ?_⟩;obtain⟨t,ht,hq⟩:=hbody A outer s H vs Q E (hr.deeper _) hsp;have I:Inv (mG CX P w K mg base N qual scope f cdv A outer s H E) [] (start N vs) H s1:=RL S hr.hd e0 hl r x;refine Ic (ht [] s1 (start N vs) H _ I hq) (λfl s' hs=>?_) λe s' hs=>hs;have fin:∀{σ':St} {H':Hp} {v:V} {u:Ae},Inv (mG CX P w K mg base N qual scope f cdv A outer s H E) [] σ' H' s'->RelV v u->Q v H'->CE outer P w H s Q u s':=
  λ{σ' H' v u} J rv q=>⟨v,H',J.os,J.bare,J.base,J.hok,rv,q⟩
 cases fl with
 | ret u=>
  obtain⟨v,σ',H',J,rv,q⟩:=hs;exact fin J rv q
 | next=>
  obtain⟨σ',H',J,q⟩:=hs;exact fin (v:=V.non) (u:=Value.none) J rfl q
 | brk=>
  obtain⟨_,_,_,q⟩:=hs;exact Hk q
 | cont=>
  obtain⟨_,_,_,q⟩:=hs;exact Hk q
section
variable {X:Cx}{x:Str}{p pos:Pos}{e:Expr}{es:List Expr}{t:TA}{id T:String}{r:List V->Hp->VK->Prop}
def wQ(r:List V->Hp->VK->Prop)(t:TA):TE:=λb H Q=>t b H λvs a=>r vs a Q
theorem RN(hc:cQ X (.builtin id) r)(o:Gl X x)(g:X.mg x=none)(l:Dc x=some (.builtin id))(ha:PA X (e::es) t)(q:x≠"__name__":=by decide)(b:(x==("__debug__" : Str))=false:=by decide)(f:Br (e::es) X.env=(false,eval e X.env)::Br es X.env:=by rfl)(c:(Ie pos (Br es X.env)).any (·.1)=false:=by rfl):PE X (.Call (.Name x p) (e::es) [] pos) (wQ r t):=by
 intro a s d H Q I h;refine Ez (jZ I o g l ?_ q b);exact PyProof.Rows.callWith_builtin1 (a5 (ha pos a s d H _ I h) λus j ⟨vs,i,n,m,k⟩=>hc a j d i vs us Q n m k) f c
theorem RO(hc:cQ X (.type T) r)(o:Gl X x)(g:X.mg x=none)(l:Dc x=some (.type T))(ha:PA X (e::es) t)(q:x≠"__name__":=by decide)(b:(x==("__debug__" : Str))=false:=by decide)(f:Br (e::es) X.env=(false,eval e X.env)::Br es X.env:=by rfl)(c:(Ie pos (Br es X.env)).any (·.1)=false:=by rfl):PE X (.Call (.Name x p) (e::es) [] pos) (wQ r t):=by
 intro a s d H Q I h;refine Ez (jZ I o g l ?_ q b);exact Er (a5 (ha pos a s d H _ I h) λus j ⟨vs,i,n,m,k⟩=>hc a j d i vs us Q n m k) f c
end
end L2
namespace HT
open PySem PyProof.Rows
section
variable {prog:Bt}{w:Ck}{A:Co}{E:Ae->Ag->Prop}{s:Ag}
theorem cat_tup{Q:Ae->Ag->Prop}(ht:IsTup s.heap t vs.toArray)(hb:IsTup s.heap b ws.toArray)(hv:vs≠[])(h1:ws=[]->Q (.ref t) s)(h2:ws≠[]->Q (.ref s.heap.objs.size) {s with heap:=s.heap.push {cls:=.type "tuple",data:=.seq (vs++ws).toArray}})(hsz:vs.length+ws.length<=An):Bc (Bo prog w) A (Gk .Add (.ref t) (.ref b)) Q E s:=by
 obtain⟨⟨cls,dd,data,sl⟩,ho,hc,n,hd⟩:=id ht;obtain⟨⟨cls2,dd2,data2,sl2⟩,ho2,hc2,n2,hd2⟩:=id hb;simp only at hc hd hc2 hd2;subst hc hd hc2 hd2;have e:vs.toArray++ws.toArray=(vs++ws).toArray:=by simp
 by_cases hw:ws=[]
 .exact concat_meets ⟨_,ho,rfl⟩ ⟨_,ho2,rfl⟩ noFill_tuple_add seq_tuple_add PySem.F.slot_tuple_add PySem.F.entry_tuple_add (PySem.F.args_tuple_add_2 _ _)
   (tuple_addW1 t b vs.toArray ws.toArray n n2 dd dd2 sl sl2 (by simpa using hv) (by simp[hw])) ⟨ho,ho2,h1 hw⟩
 .refine concat_meets ⟨_,ho,rfl⟩ ⟨_,ho2,rfl⟩ noFill_tuple_add seq_tuple_add PySem.F.slot_tuple_add PySem.F.entry_tuple_add (PySem.F.args_tuple_add_2 _ _)
   (tuple_addW2 t b vs.toArray ws.toArray n n2 dd dd2 sl sl2 (by simpa using hv) (by simpa using hw) (by rw[Ay,Ay];exact hsz)) ⟨ho,ho2,?_⟩
  rw[e];exact h2 hw
def sIx(n d:Nat):Option Int->Nat
 | none=>d
 | some v=>if v<0 then(v+(n:Int)).toNat else min v.toNat n
theorem sIx_none(n d:Nat):sIx n d none=d:=rfl
theorem sIx_nat(n d k:Nat):sIx n d (some (k:Int))=min k n:=by
 show(if (k:Int)<0 then((k:Int)+(n:Int)).toNat else min (k:Int).toNat n)=min k n;rw[if_neg (by lia),Ci]
theorem RP(n d:Nat)(hd:d<=n)(o:Option Int):sIx n d o<=n:=by
 cases o with
 | none=>exact hd
 | some v=>
  show(if v<0 then(v+(n:Int)).toNat else min v.toNat n)<=n
  by_cases a:v<0
  .rw[if_pos a];lia
  .rw[if_neg a];exact Ni _ _
theorem DU(v:Int)(n d:Nat):(if v<0 then max (v+(n:Int)) 0 else min v (n:Int))=((sIx n d (some v):Nat):Int):=by
 show(if v<0 then max (v+(n:Int)) 0 else min v (n:Int))=(((if v<0 then(v+(n:Int)).toNat else min v.toNat n):Nat):Int)
 by_cases a:v<0
 .simp only[if_pos a];lia
 .simp only[if_neg a];lia
theorem RQ(lo hi:Option Int)(n:Nat):Lg lo hi 1 (n:Int)=(((sIx n 0 lo:Nat):Int),((sIx n n hi:Nat):Int)):=by
 have a:¬((1:Int)<0):=by lia
 unfold Lg;simp only[a,if_false];refine Ka ?_ ?_
 .cases lo with
  | none=>rfl
  | some v=>exact DU v n 0
 .cases hi with
  | none=>rfl
  | some v=>exact DU v n n
theorem RS(i j:Nat):Ip (i:Int) (j:Int) 1=j-i:=by
 unfold Ip;have a:(1:Int) > 0:=by lia
 simp only[a,if_true,Int.ediv_one];split<;>lia
theorem DV{Q:Option Int->Ag->Prop}(p:Pg v o)(h:Q o s):Bc (Bo prog w) A (Builtin.Slice.slicePartIndex v) Q E s:=by
 cases p with
 | none=>exact slicePart_none h
 | int i t=>exact slicePart_int h
theorem DW{sl:Addr}{c d:Ae}{lo hi:Option Int}{n:Nat}{Q:Int×Int×Nat->Ag->Prop}(e:s.heap.IsSliceOf sl c d .none)(pl:Pg c lo)(g:Pg d hi)(h:Q (((sIx n 0 lo:Nat):Int),1,sIx n n hi-sIx n 0 lo) s):Bc (Bo prog w) A (Builtin.Slice.sliceApplied (.ref sl) (pure (n:Int))) Q E s:=by
 obtain⟨os,a,f,b⟩:=id e;unfold Builtin.Slice.sliceApplied Builtin.Slice.sliceFields;refine Aa (Aa (Lx a b (x:=c) rfl (Aa (Lx a b (x:=d) rfl (Aa (Lx a b (x:=.none) rfl (Af ?_)))))));refine Aa (slicePart_none ?_);show Bc _ _ (if ((1:Int)==0)=true then _ else _) _ _ s;rw[if_neg (by decide)];refine Aa (DV pl (Aa (DV g (Aa (Af ?_)))));show Bc _ _ (match Lg lo hi 1 (n:Int) with|(lo,hi)=>pure (lo,(1:Int),Ip lo hi 1)) _ _ s;rw[RQ lo hi n];show Bc _ _ (pure (((sIx n 0 lo:Nat):Int),(1:Int),Ip ((sIx n 0 lo:Nat):Int) ((sIx n n hi:Nat):Int) 1)) _ _ s;rw[RS];exact Af h
theorem RT(xs:Array Ae)(i k:Nat):((Dw k).filterMap λ(m:Nat)=>xs[((i:Int)+(m:Int)*1).toNat]?).toArray=((xs.toList.drop i).take k).toArray:=by
 have e:(λ(m:Nat)=>xs[((i:Int)+(m:Int)*1).toNat]?)=λm=>xs[i+m]?:=by
  funext m;have:((i:Int)+(m:Int)*1).toNat=i+m:=by lia
  rw[this]
 rw[e];have:=pick_run xs i k;rw[Ij]at this;have a:((λx=>xs[x]?) ∘ λx=>i+x)=λm=>xs[i+m]?:=rfl;rw[a]at this;rw[this]
theorem getItem_tuple_cut{t sl:Addr}{items:Array Ae}{vl vu:Ae}{lo hi:Option Int}{Q:Ae->Ag->Prop}(ht:IsTup s.heap t items)(hs:s.heap.IsSliceOf sl vl vu .none)(pl:Pg vl lo)(pu:Pg vu hi)(hw:¬(sIx items.size 0 lo=0/\sIx items.size items.size hi=items.size))(h:Q (.ref s.heap.objs.size) {s with heap:=s.heap.push {cls:=.type "tuple",data:=.seq ((items.toList.drop (sIx items.size 0 lo)).take (sIx items.size items.size hi-sIx items.size 0 lo)).toArray}})(hsz:items.size<=An):Bc (Bo prog w) A (Po (.ref t) (.ref sl)) Q E s:=by
 have htake:sizeOk (.seq ((items.toList.drop (sIx items.size 0 lo)).take (sIx items.size items.size hi-sIx items.size 0 lo)).toArray):=by
  show((items.toList.drop (sIx items.size 0 lo)).take (sIx items.size items.size hi-sIx items.size 0 lo)).toArray.size<=An;rw[Ay,Cb,Ft,Bx];omega
 have hj:sIx items.size items.size hi<=items.size:=RP _ _ (Ai _) hi;obtain⟨os,hos,hcs,hds⟩:=id hs;have hTs:s.TypeIs (.ref sl) "slice":=⟨os,hos,hcs⟩;unfold Po
 try with_reducible refine Ct ?_
 first|refine Aa (Af ?_)|skip
 refine Aa (wpAny_sequenceKey ht.typeIs (by decide) ?_);refine Aa (Fq (name:=Eo "__getitem__") ht.typeIs Fc
  (Dn Fc ht.typeIs entry_tuple_getitem ?_ (args_tuple_getitem _ _)))
 show Bc _ _ (Builtin.Tuple.tupleItemsOf (.ref t)>>=_) _ _ s;refine Aa (tupleItemsOf_ ht ?_);refine Aa (La hTs ?_);rw[if_pos (by decide)];refine Aa (DW hs pl pu ?_);have hno:¬((((sIx items.size 0 lo:Nat):Int)==0&&(1:Int)==1&&(sIx items.size items.size hi-sIx items.size 0 lo)==items.size)=true):=by
  intro q;rw[Cv,Cv]at q;have q1:((sIx items.size 0 lo:Nat):Int)=0:=eq_of_beq q.1.1;have q2:sIx items.size items.size hi-sIx items.size 0 lo=items.size:=eq_of_beq q.2;exact hw ⟨by omega,by omega⟩
 show Bc _ _ (if (((sIx items.size 0 lo:Nat):Int)==0&&(1:Int)==1&&(sIx items.size items.size hi-sIx items.size 0 lo)==items.size)=true then _ else _) _ _ s;rw[if_neg hno,RT]
 first
  | exact Aa (m:=Iy _) (Cz (Af ⟨_,rfl,Af h⟩) htake)
  | exact Aa (m:=Iy _) (Cz (Aa (Af (Af ⟨_,rfl,Af h⟩))) htake)
  | exact Aa (Aa (m:=Iy _) (Cz (Af (Af ⟨_,rfl,Af h⟩)) htake))
  | exact Aa (Aa (m:=Iy _) (Cz (Af ⟨_,rfl,Af h⟩) htake))
end
end HT
namespace L2
open PySem Spec PyProof.Rows
abbrev TO:=St->Hp->(Option Int->Hp->Prop)->Prop
def PO(X:Cx)(e:Option Expr)(t:TO):Prop:=
 ∀(a:List (Addr×Obj)) (s:Ag) (b:St) (H:Hp) (Q:Option Int->Hp->Prop),Inv X a b H s->t b H Q->
  Bc (Bo X.prog X.w) X.A (evalPart e X.env) (λu d=>∃o c,Inv X a b c d/\Pg u o/\Q o c) X.xe s
def RU:TO:=λ_ H Q=>Q none H
def RV(t:TE):TO:=λb H Q=>t b H λx a=>∃i,x=.int i/\Q (some i) a
theorem intsAre_of:∀{us:List Ae},aT (ns.map V.int) us->Hh us ns:=by
 induction ns with
 | nil=>intro us r;rw[Ii]at r;cases r;exact .nil
 | cons n ns b=>
  intro us r;rw[Aw]at r;cases r with
  | cons c a=>
   obtain⟨t,e⟩:=c;subst e;exact .cons n t (b a)
section
variable {X:Cx}{e:Expr}{te:TE}{lo hi:Option Expr}{tl th:TO}{pos p2:Pos}
theorem RW:PO X none RU:=by
 intro a s b H Q I h;rw[evalPart_none];exact Af ⟨none,H,I,.none,h⟩
theorem RX(h:PE X e te):PO X (some e) (RV te):=by
 intro a s d H Q I hw;rw[evalPart_some];refine a5 (h a s d H _ I hw) λu j ⟨x,b,f,g,c⟩=>?_;obtain⟨i,rfl,q⟩:=c;obtain⟨t,rfl⟩:=g;exact⟨some i,b,f,.int i t,q⟩
def oS(X:Cx)(r:V->Option Int->Option Int->Hp->VK->Prop):Prop:=
 ∀(a:List (Addr×Obj)) (s:Ag) (c:St) (H:Hp) (x:V) (v b d:Ae) (lo hi:Option Int) (sl:Addr) (Q:VK),Inv X a c H s->RelV x v->s.heap.IsSliceOf sl b d .none->Pg b lo->Pg d hi->r x lo hi H Q->
  ∃T id,typeLookup (.type T) "__getitem__" = pure (some (.builtin id))/\s.TypeIs v T/\Bc (Bo X.prog X.w) X.A (Po v (.ref sl)) (EP X a c Q) X.xe s
def RY(r:V->Option Int->Option Int->Hp->VK->Prop)(te:TE)(tl th:TO):TE:=λa H Q=>te a H λx b=>tl a b λl d=>th a d λu c=>r x l u c Q
theorem DX{r:V->Option Int->Option Int->Hp->VK->Prop}(hr:oS X r)(he:PE X e te)(hl:PO X lo tl)(hu:PO X hi th):PE X (.Subscript e (.Slice lo hi none p2) pos) (RY r te tl th):=by
 intro pins s Z H Q I h;refine Subscript_ (a5 (he pins s Z H _ I h) λv s1 ⟨x,H1,I1,r1,q1⟩=>?_);refine wpAny_Slice (a5 (hl pins s1 Z H1 _ I1 q1) λvl s2 ⟨l,H2,I2,pl,q2⟩=>a5 (hu pins s2 Z H2 _ I2 q2) λvu s3 ⟨u,H3,I3,pu,q3⟩=>?_);rw[evalPart_none];refine Af ?_;have I4:Inv X pins Z H3 {s3 with heap:=s3.heap.push {cls:=.type "slice",data:=.fields #[vl,vu,.none]}}:=I3.kept (t':=s3.toks) λb ob q=>Ah _ q;obtain⟨T,id,hT,ht,hg⟩:=hr pins {s3 with heap:=s3.heap.push {cls:=.type "slice",data:=.fields #[vl,vu,.none]}} Z H3 x v vl vu l u s3.heap.objs.size Q I4 r1 (Heap.IsSliceOf.new ..) pl pu q3;show Bc (Bo X.prog X.w) X.A (subscriptTail e (.Slice lo hi none p2) v (.ref s3.heap.objs.size)) (EP X pins Z Q) X.xe {s3 with heap:=s3.heap.push {cls:=.type "slice",data:=.fields #[vl,vu,.none]}};exact tail_any (ops:=[.ref s3.heap.objs.size,v]) ht hT hg (by with_unfolding_all rfl)
def mH(xs:List V)(lo hi:Option Int):List V:=(xs.drop (HT.sIx xs.length 0 lo)).take (HT.sIx xs.length xs.length hi-HT.sIx xs.length 0 lo)
theorem DY(xs:List V)(lo hi:Option Int):(mH xs lo hi).length<=xs.length:=by
 unfold mH;rw[Cb,Ft];lia
def RZ(K:Ac):V->Option Int->Option Int->Hp->VK->Prop:=λx lo hi H Q=>∃a xs,x=.ref a/\bV K H a xs/\
 ¬(HT.sIx xs.length 0 lo=0/\HT.sIx xs.length xs.length hi=xs.length)/\∀p,H p=none->Q (.ref p) (aR H p (.tup (mH xs lo hi)))
theorem DZ:oS X (RZ X.K):=by
 intro pins s Z H x v vl vu lo hi sl Q I rx hs pl pu h;obtain⟨a,xs,rfl,hx,hw,q⟩:=h;cases rx;obtain⟨its,r,ht,hz⟩:=I.tuple hx;have hlen:its.toArray.size=xs.length:=by rw[Ay];exact r.length.symm
 refine⟨"tuple",_,Fc.lookup,ht.typeIs,?_⟩;refine HT.getItem_tuple_cut ht hs pl pu (by rw[hlen];exact hw) ?_ (by rw[hlen];exact hz);rw[hlen];refine⟨.ref s.heap.objs.size,_,I.laid (t':=s.toks) (o:=.tup (mH xs lo hi)) (λb ob q=>Ah _ q) (Ai _) ?_,rfl,q _ (I.hok.fresh (Ai _))⟩;exact⟨Ar (DY xs lo hi) hz,_,(r.drop (HT.sIx xs.length 0 lo)).take (HT.sIx xs.length xs.length hi-HT.sIx xs.length 0 lo),IsTup.new _ _⟩
def R0(K:Ac):R2:=λx y H Q=>∃a b xs c,x=.ref a/\y=.ref b/\bV K H a xs/\bV K H b c/\xs≠[]/\xs.length+c.length<=An/\
 (c=[]->Q (.ref a) H)/\(c≠[]->∀p,H p=none->Q (.ref p) (aR H p (.tup (xs++c))))
theorem aT.nil_iff(r:aT xs us):us=[]↔xs=[]:=by
 cases r with
 | nil=>simp
 | cons _ _=>simp
theorem R1:bE X (Gk .Add) (R0 X.K):=by
 intro pins s Z H x y v u Q I rx ry h;obtain⟨a,b,xs,ys,rfl,rfl,ha,hb,hx,hz,q1,q2⟩:=h;cases rx;cases ry;obtain⟨its,r1,p1,_⟩:=I.tuple ha;obtain⟨its2,r2,p2,_⟩:=I.tuple hb;refine HT.cat_tup p1 p2 (λz=>hx (r1.nil_iff.mp z)) (λz=>⟨.ref a,H,I,rfl,q1 (r2.nil_iff.mp z)⟩) (λz=>?_) (by rw[<-r1.length,<-r2.length];exact hz);refine⟨.ref s.heap.objs.size,_,I.laid (t':=s.toks) (o:=.tup (xs++ys)) (λb ob q=>Ah _ q) (Ai _) ?_,rfl,q2 (λw=>z (r2.nil_iff.mpr w)) _ (I.hok.fresh (Ai _))⟩;exact⟨by rw[Aj];exact hz,_,r1.append r2,IsTup.new _ _⟩
end
def iT(n:Nat)(i:Int):Option Nat:=if 0<=i then(if i<n then some i.toNat else none) else if -(n:Int)<=i then some (i+n).toNat else none
def bW{a:Type}(xs:List a)(i:Int):Option a:=(iT xs.length i).bind λj=>xs[j]?
theorem D5{n:Nat}{i:Int}{j:Nat}(h:iT n i=some j):seqIndex? i n=some j/\j<n/\-(n:Int)<=i/\i<n:=by
 unfold iT at h
 by_cases b:0<=i
 .rw[if_pos b]at h
  by_cases a:i<n
  .rw[if_pos a]at h;have e:i.toNat=j:=Bz h;exact⟨by rw[seqIndex_of b a,e],by lia,by lia,a⟩
  .rw[if_neg a]at h;cases h
 .rw[if_neg b]at h
  by_cases a : -(n:Int)<=i
  .rw[if_pos a]at h;have e:(i+n).toNat=j:=Bz h;exact⟨by rw[seqIndex_neg (by lia) a,e],by lia,a,by lia⟩
  .rw[if_neg a]at h;cases h
theorem wR{a:Type}{xs:List a}{i:Int}{v:a}(h:bW xs i=some v):∃j,seqIndex? i xs.length=some j/\xs[j]? = some v/\j<xs.length/\-(xs.length:Int)<=i/\i<xs.length:=by
 unfold bW at h;cases e:iT xs.length i with
 | none=>rw[e]at h;cases h
 | some j=>
  rw[e]at h;obtain⟨b,c,f,d⟩:=D5 e;exact⟨j,b,h,c,f,d⟩
theorem fW{a:Type}{xs:List a}{j:Nat}{v:a}(h:xs[j]? = some v):bW xs (j:Int)=some v:=by
 have b:j<xs.length:=(Ak.mp h).1;have e:iT xs.length (j:Int)=some j:=by
  unfold iT;rw[if_pos (by lia),if_pos (by lia)];simp
 unfold bW;rw[e];exact h
theorem D6{a:Type}(xs:List a)(v:a):bW (xs++[v]) (-1)=some v:=by
 have hl:(xs++[v]).length=xs.length+1:=by simp
 have e:iT (xs++[v]).length (-1)=some xs.length:=by
  unfold iT;rw[hl,if_neg (by decide),if_pos (by lia)];congr 1;lia
 unfold bW;rw[e];show(xs++[v])[xs.length]? = some v;simp
def D7(b:Expr):Prop:=∀o i,subscripted b false o i=operate [o,i] (Po o i)
def jD(X:Cx)(r:R2):Prop:=
 ∀(c a:Expr) (b:List (Addr×Obj)) (s:Ag) (d:St) (H:Hp) (x y:V) (v u:Ae) (Q:VK),Inv X b d H s->RelV x v->RelV y u->r x y H Q->
  subscripted a false v u=operate [v,u] (Po v u)->Bc (Bo X.prog X.w) X.A (subscriptTail c a v u) (EP X b d Q) X.xe s
def jE(X:Cx)(id:String)(r:V->List V->Hp->VK->Prop):Prop:=
 ∀(a:List (Addr×Obj)) (s:Ag) (b:St) (H:Hp) (x:V) (xs:List V) (v:Ae) (us:List Ae) (Q:VK),Inv X a b H s->RelV x v->aT xs us->r x xs H Q->
  Bc (Bo X.prog X.w) X.A (call (.builtin id) (v::us)) (EP X a b Q) X.xe s
section
variable {X:Cx}{a b:Expr}{ta tb:TE}{pos:Pos}
theorem jD.or(h:jD X r)(h':jD X g):jD X (λx y H Q=>r x y H Q\/g x y H Q):=by
 intro b a c s e H x y v u Q I d f q i;rcases q with q|q
 .exact h b a c s e H x y v u Q I d f q i
 .exact h' b a c s e H x y v u Q I d f q i
theorem R4(d:jD X r)(ha:PE X a ta)(hb:PE X b tb)(l:D7 b):PE X (.Subscript a b pos) (qL r ta tb):=by
 intro c s f H Q I h;exact Subscript_ (wL ha hb I h λv u k x y g i e j q=>d a b c k f g x y v u Q i e j q (l _ _))
def R5(K:Ac):R2:=λx y H Q=>∃p xs i v,x=.ref p/\y=.int i/\bI K H p xs/\bW xs i=some v/\Q v H
def R6(K:Ac):R2:=λx y H Q=>∃p xs i v,x=.ref p/\y=.int i/\bV K H p xs/\bW xs i=some v/\Q v H
def R7:R2:=λx y H Q=>∃z i c,x=.str z/\y=.int i/\z.length<=An/\bW z.cps.toList i=some c/\Q (.str ⟨#[c]⟩) H
theorem R8:jD X (R5 X.K):=by
 intro e c a s m H x y v u Q I B o h g;obtain⟨p,xs,i,z,rfl,rfl,C,n,q⟩:=h;cases B;obtain⟨t,rfl⟩:=o;obtain⟨its,r,pl,hz⟩:=I.list C;obtain⟨j,b,F,J,A,D⟩:=wR n;obtain⟨w,k,f⟩:=r.get F;have hl:=r.length;have G:=nN;have fin:EP X a m Q w s:=⟨z,H,I,f,q⟩
 by_cases l:0<=i
 .have d:i.toNat=j:=by
   rw[seqIndex_of l D]at b;exact Bz b
  exact item_listR pl.isList l (by lia) (by rw[d];simpa using k) fin g
 .have d:(i+(its.toArray.size:Int)).toNat=j:=by
   rw[seqIndex_neg (by lia) A]at b;rw[Ay,<-hl];exact Bz b
  exact subscriptTail_builtinR (x:=w) pl.isList.typeIs slot_list_getitem.lookup
   (wpAny_getItem_list_neg (Q:=λr E=>r=w/\EP X a m Q r E) pl.isList (by lia) (by rw[Ay]<;>lia) (by lia) (by rw[d];simpa using k) ⟨rfl,fin⟩) g
theorem R9:jD X (R6 X.K):=by
 intro c b a s e H x y v u Q I k m h A;obtain⟨p,xs,i,z,rfl,rfl,l,f,q⟩:=h;cases k;obtain⟨t,rfl⟩:=m;obtain⟨its,r,pl,hz⟩:=I.tuple l;obtain⟨j,g,o,F,E,D⟩:=wR f;obtain⟨w,B,d⟩:=r.get o;have hl:=r.length;have C:=nN;have fin:EP X a e Q w s:=⟨z,H,I,d,q⟩;exact subscriptTail_builtinR (x:=w) pl.typeIs slot_tuple_getitem.lookup
  (getItem_tuple (j:=j) (Q:=λr n=>r=w/\EP X a e Q r n) pl (by lia) (by lia) (by rw[Ay,<-hl];exact g) (by simpa using B) ⟨rfl,fin⟩) A
theorem SA:jD X R7:=by
 intro b a e s A H x y v u Q I g m h o;obtain⟨z,i,c,rfl,rfl,hz,f,q⟩:=h;obtain⟨t,rfl⟩:=g;obtain⟨t',rfl⟩:=m;obtain⟨j,d,n,B,r,l⟩:=wR f;have hl:z.cps.toList.length=z.length:=by simp[Str.length]
 rw[hl]at d r l;have w:=nN;exact tail_any (typeIs_str s z t) slot_str_getitem.lookup (getItem_str (c:=c) (by
  have p:decide (i < -(2 ^ 63:Int))=false:=decide_eq_false (by lia);have k:decide (i ≥ 2 ^ 63)=false:=decide_eq_false (by lia);rw[p,k,Bool.or_false]) (by rw[d];simpa using n) ⟨.str ⟨#[c]⟩,H,I.tok _,⟨_,rfl⟩,q⟩) o
theorem SD(its:List Ae)(n j:Nat)(u:Ae):Hb (·.setIfInBounds j u) {cls:=.type "list",data:=.seq its.toArray n} = {cls:=.type "list",data:=.seq (its.set j u).toArray n}:=by
 simp[Hb]
theorem Inv.lst{a:List (Addr×Obj)}{b:St}{H:Hp}{s:Ag}{p:Addr}{xs:List V}(I:Inv X a b H s)(h:H p=some (.lst xs)):
  ∃(its:List Ae) (n:Nat),aT xs its/\s.heap.get? p=some {cls:=.type "list",data:=.seq its.toArray n}/\xs.length<=An:=by
 obtain⟨z,its,n,r,e⟩:=I.hok p _ h;exact⟨its,n,r,e,z⟩
theorem Inv.lstUpd{pins:List (Addr×Obj)}{Z:St}{H:Hp}{s:Ag}{p:Addr}{xs ys:List V}{its its':List Ae}{n n':Nat}{f:Obj->Obj}(I:Inv X pins Z H s)(h:H p=some (.lst xs))(ho:s.heap.get? p=some {cls:=.type "list",data:=.seq its.toArray n})(hf:f {cls:=.type "list",data:=.seq its.toArray n} = {cls:=.type "list",data:=.seq its'.toArray n'})(r:aT ys its')(hz:ys.length<=An)(t:Nat):
  Inv X pins Z (aR H p (.lst ys)) {s with heap:=s.heap.update p f,toks:=t}:=by
 have e:(s.heap.update p f).get? p=some {cls:=.type "list",data:=.seq its'.toArray n'}:=by
  rw[Ff f ho (by rw[hf]<;>rfl),hf]
 refine I.write (x:=p) (e:=p) (by rw[h];trivial) (.inl rfl) (λb u hb q=>(Eb _ _ (Bw hb)).trans q) ⟨_,e⟩ ?_;exact⟨hz,its',n',r,e⟩
def SE:V->V->V->Hp->(Hp->Prop)->Prop:=λo i v H Q=>∃p xs k j,o=.ref p/\i=.int k/\H p=some (.lst xs)/\iT xs.length k=some j/\Q (aR H p (.lst (xs.set j v)))
theorem SF:sY X SE:=by
 intro pins s Z H o i v ov iv u Q I ro ri rv h;obtain⟨p,xs,k,j,rfl,rfl,hp,hj,q⟩:=h;cases ro;obtain⟨t,rfl⟩:=ri;obtain⟨its,n,r,ho,hz⟩:=I.lst hp;obtain⟨h1,h2,h3,h4⟩:=D5 hj;have hl:=r.length;have hn:=nN;have I':Inv X pins Z (aR H p (.lst (xs.set j v))) {s with heap:=s.heap.update p (Hb (·.setIfInBounds j u))}:=
  I.lstUpd hp ho (SD its n j u) (r.set rv j) (by rw[List.length_set];exact hz) s.toks
 by_cases h0:0<=k
 .have hk:k.toNat=j:=by
   rw[seqIndex_of h0 h4]at h1;exact Bz h1
  exact PySem.W.ki_setAt ho h0 (by lia) (by rw[Ay,<-hl];exact h4) (by rw[hk];exact⟨_,I',q⟩)
 .have hk:(k+(its.toArray.size:Int)).toNat=j:=by
   rw[seqIndex_neg (by lia) h3]at h1;rw[Ay,<-hl];exact Bz h1
  exact PySem.W.ki_setBack ho (by lia) (by rw[Ay,<-hl];exact h3) (by lia) (by rw[hk];exact⟨_,I',q⟩)
theorem SG(lo hi:Option Int)(n:Nat):(Ly lo hi none n).1=((HT.sIx n 0 lo:Nat):Int)/\(Ly lo hi none n).2.1=((HT.sIx n n hi:Nat):Int)/\(Ly lo hi none n).2.2=1:=by
 refine⟨?_,?_,rfl⟩
 .cases lo with
  | none=>simp[Ly,HT.sIx]
  | some i=>
   simp only[Ly,HT.sIx,Ms,show(1:Int) > 0 by decide,if_true]
   by_cases h:i<0
   .simp only[h,if_true]<;>lia
   .simp only[h,if_false]<;>lia
 .cases hi with
  | none=>simp[Ly,HT.sIx]
  | some i=>
   simp only[Ly,HT.sIx,Ms,show(1:Int) > 0 by decide,if_true]
   by_cases h:i<0
   .simp only[h,if_true]<;>lia
   .simp only[h,if_false]<;>lia
theorem SH(its:List Ae)(lo hi:Option Int):slicePick its.toArray lo hi none=((its.drop (HT.sIx its.length 0 lo)).take (HT.sIx its.length its.length hi-HT.sIx its.length 0 lo)).toArray:=by
 obtain⟨c,a,b⟩:=SG lo hi its.toArray.size;unfold slicePick;rw[c,a,b];simp only[sliceRange_one,pick_run,Ay]<;>rfl
def SI(K:Ac):V->Option Int->Option Int->Hp->VK->Prop:=λx lo hi H Q=>∃a xs,x=.ref a/\bI K H a xs/\∀p,H p=none->Q (.ref p) (aR H p (.lst (mH xs lo hi)))
theorem wU:oS X (SI X.K):=by
 intro d s j H x v k l lo hi sl Q I e g pl i h;obtain⟨a,xs,rfl,f,q⟩:=h;cases e;obtain⟨its,r,ht,hz⟩:=I.list f;have c:=r.length;refine⟨"list",_,slot_list_getitem.lookup,ht.isList.typeIs,?_⟩;refine wpAny_getItem_list_slice ht.isList g pl i .none (by simp) ?_ (by rw[Ay]<;>lia);rw[SH,<-c];refine⟨.ref s.heap.objs.size,_,I.laid (t':=s.toks) (o:=.lst (mH xs lo hi)) (λb ob q=>Ah _ q) (Ai _) ?_,rfl,q _ (I.hok.fresh (Ai _))⟩;exact⟨Ar (DY xs lo hi) hz,_,0,(r.drop (HT.sIx xs.length 0 lo)).take (HT.sIx xs.length xs.length hi-HT.sIx xs.length 0 lo),Au _ rfl⟩
def kQ:V->Bool
 | .non=>true
 | .bl _=>true
 | .int _=>true
 | .str _=>true
 | _=>false
def kR:V->V->Bool
 | .non,.non=>true
 | .bl a,.bl b=>a==b
 | .bl a,.int b=>(if a then 1 else 0)==b
 | .int a,.bl b=>a==(if b then 1 else 0)
 | .int a,.int b=>a==b
 | .str a,.str b=>a==b
 | _,_=>false
theorem SJ(d:RelV y u)(c:RelV x v)(f:kQ y=true)(e:kQ x=true):SeqAt.EqAt A s u v (kR y x):=by
 cases y with
 | non=>
  cases d;cases x with
  | non=>cases c;exact SeqAt.EqAt.same _
  | bl b=>cases c;exact SeqAt.EqAt.none_bool b
  | int b=>obtain⟨t,rfl⟩:=c;exact SeqAt.EqAt.none_int b t
  | str b=>obtain⟨t,rfl⟩:=c;exact SeqAt.EqAt.none_str b t
  | _=>exact absurd (show false=true from e) Am
 | bl a=>
  cases d;cases x with
  | non=>cases c;exact SeqAt.EqAt.bool_none a
  | bl b=>cases c;exact SeqAt.EqAt.bool_bool a b
  | int b=>obtain⟨t,rfl⟩:=c;exact SeqAt.EqAt.bool_int a b t
  | str b=>obtain⟨t,rfl⟩:=c;exact SeqAt.EqAt.bool_str a b t
  | _=>exact absurd (show false=true from e) Am
 | int a=>
  obtain⟨t',rfl⟩:=d;cases x with
  | non=>cases c;exact SeqAt.EqAt.int_none a t'
  | bl b=>cases c;exact SeqAt.EqAt.int_bool a t' b
  | int b=>obtain⟨t,rfl⟩:=c;exact SeqAt.EqAt.int_int a t' b t
  | str b=>obtain⟨t,rfl⟩:=c;exact SeqAt.EqAt.int_str a t' b t
  | _=>exact absurd (show false=true from e) Am
 | str a=>
  obtain⟨t',rfl⟩:=d;cases x with
  | non=>cases c;exact SeqAt.EqAt.str_none a t'
  | bl b=>cases c;exact SeqAt.EqAt.str_bool a t' b
  | int b=>obtain⟨t,rfl⟩:=c;exact SeqAt.EqAt.str_int a t' b t
  | str b=>obtain⟨t,rfl⟩:=c;exact SeqAt.EqAt.str_str a t' b t
  | _=>exact absurd (show false=true from e) Am
 | _=>exact absurd (show false=true from f) Am
def iB(x:V)(u:Ae):Bool:=match u with
 | .none=>kR .non x
 | .bool b=>kR (.bl b) x
 | .int i _=>kR (.int i) x
 | .str z _=>kR (.str z) x
 | _=>false
theorem D8(r:RelV y u)(f:kQ y=true):iB x u=kR y x:=by
 cases y with
 | non=>cases r;rfl
 | bl b=>cases r;rfl
 | int i=>obtain⟨t,rfl⟩:=r;rfl
 | str z=>obtain⟨t,rfl⟩:=r;rfl
 | _=>exact absurd (show false=true from f) Am
theorem qN:∀{xs:List V} {us:List Ae},aT xs us->xs.all kQ=true->us.any (iB x)=xs.any λy=>kR y x
 | _,_,.nil,_=>rfl
 | y::xs,u::us,.cons r t,f=>by
  rw[Oz,Cv]at f;rw[Gg,Gg,D8 r f.1,qN t f.2]
theorem qO(b:RelV x v)(c:kQ x=true):∀{xs:List V} {us:List Ae},aT xs us->xs.all kQ=true->∀u∈us,SeqAt.EqAt A s u v (iB x u)
 | _,_,.nil,_=>λu a=>by cases a
 | y::xs,u::us,.cons r t,f=>λd a=>by
  rw[Oz,Cv]at f;rcases Bg.mp a with rfl|a
  .rw[D8 r f.1];exact SJ r b f.1 c
  .exact qO b c t f.2 d a
def inV(x:V)(xs:List V):Bool:=xs.any λy=>kR y x
def rIn(K:Ac)(neg:Bool):R2:=λx y H Q=>∃p xs,y=.ref p/\(bI K H p xs\/bV K H p xs)/\kQ x=true/\xs.all kQ=true/\Q (.bl (if neg then !inV x xs else inV x xs)) H
theorem SM:bE X (Cw .In) (rIn X.K false):=by
 intro d s f H x y v u Q I b e h;obtain⟨p,xs,rfl,a,c,fs,q⟩:=h;cases e;rcases a with a|a
 .obtain⟨its,r,pl,hz⟩:=I.list a;refine SeqAt.in_listAt (iB x) pl.isList (λw hw=>qO b c r fs w (by simpa using hw)) ⟨.bl _,H,I,rfl,?_⟩;rw[show its.toArray.any (iB x)=its.any (iB x) by simp,qN r fs];exact q
 .obtain⟨its,r,pl,hz⟩:=I.tuple a;refine SeqAt.in_tupleAt (iB x) pl (λw hw=>qO b c r fs w (by simpa using hw)) ⟨.bl _,H,I,rfl,?_⟩;rw[show its.toArray.any (iB x)=its.any (iB x) by simp,qN r fs];exact q
theorem SN:bE X (Cw .NotIn) (rIn X.K true):=by
 intro d s f H x y v u Q I b e h;obtain⟨p,xs,rfl,a,c,fs,q⟩:=h;cases e;rcases a with a|a
 .obtain⟨its,r,pl,hz⟩:=I.list a;refine SeqAt.notIn_listAt (iB x) pl.isList (λw hw=>qO b c r fs w (by simpa using hw)) ⟨.bl _,H,I,rfl,?_⟩;rw[show its.toArray.any (iB x)=its.any (iB x) by simp,qN r fs];exact q
 .obtain⟨its,r,pl,hz⟩:=I.tuple a;refine SeqAt.notIn_tupleAt (iB x) pl (λw hw=>qO b c r fs w (by simpa using hw)) ⟨.bl _,H,I,rfl,?_⟩;rw[show its.toArray.any (iB x)=its.any (iB x) by simp,qN r fs];exact q
theorem SO:cQ X (.builtin "len") (λxs H Q=>∃p b,xs=[.ref p]/\(bI X.K H p b\/bV X.K H p b)/\Q (.int b.length) H):=by
 intro e s g H xs us Q I r h;obtain⟨p,b,rfl,c,q⟩:=h;obtain⟨u,rfl,f⟩:=vals1 r;cases f;have i:=nN;rcases c with c|c
 .obtain⟨its,d,pl,hz⟩:=I.list c;have a:=d.length;exact Calls.call_len_list pl.isList (by simp only[Ay]<;>lia) ⟨.int b.length,H,I.tok _,⟨s.toks+1,by rw[Ay,a]⟩,q⟩
 .obtain⟨its,d,pl,hz⟩:=I.tuple c;have a:=d.length;exact len_tuple pl (by simp only[Ay]<;>lia) ⟨.int b.length,H,I.tok _,⟨s.toks+1,by rw[Ay,a]⟩,q⟩
theorem SQ:cQ X (.builtin "len") (λxs H Q=>∃z,xs=[.str z]/\z.length<=An/\Q (.int z.length) H):=by
 intro a s b H xs us Q I r h;obtain⟨z,rfl,hz,q⟩:=h;obtain⟨u,rfl,t,rfl⟩:=vals1 r;have c:=nN;exact len_str (by lia) ⟨.int z.length,H,I.tok _,⟨_,rfl⟩,q⟩
theorem cQ.or{r b:List V->Hp->VK->Prop}(h:cQ X f r)(h':cQ X f b):cQ X f (λxs H Q=>r xs H Q\/b xs H Q):=by
 intro a s c H xs us Q I rs q;rcases q with q|q
 .exact h a s c H xs us Q I rs q
 .exact h' a s c H xs us Q I rs q
theorem SU:cQ X (.type "list") (λxs H Q=>∃p ys,xs=[.ref p]/\(bI X.K H p ys\/bV X.K H p ys)/\∀l,H l=none->Q (.ref l) (aR H l (.lst ys))):=by
 intro pins s Z H xs us Q I r h;obtain⟨p,ys,rfl,hq,q⟩:=h;obtain⟨u,rfl,rx⟩:=vals1 r;cases rx;have fin:∀(its:List Ae),aT ys its->ys.length<=An->∀(h':Heap) (c':Nat),(∀b o',s.heap.get? b=some o'->h'.get? b=some o')->
   h'.get? s.heap.objs.size=some {cls:=.type "list",dict:=none,data:=.seq its.toArray c',slots:=#[]}->EP X pins Z Q (.ref s.heap.objs.size) {s with heap:=h'}:=λits r' hz h' c' kp e=>
  ⟨.ref s.heap.objs.size,_,I.laid (t':=s.toks) kp (Ai _) (show cL X.prog X.w _ h' _ (.lst ys) from⟨hz,its,c',r',e⟩),rfl,q _ (I.hok.fresh (Ai _))⟩
 rcases hq with hq|hq
 .obtain⟨its,r',pl,hz⟩:=I.list hq;have hlen:=r'.length;obtain⟨o,ho,hc,n,hd⟩:=pl.isList;exact call_list_seq p (.inl rfl) ho hc hd (λh' c' kp e=>fin its r' hz h' c' kp e) (by simp only[Ay]<;>lia)
 .obtain⟨its,r',pl,hz⟩:=I.tuple hq;have hlen:=r'.length;obtain⟨o,ho,hc,n,hd⟩:=pl;exact call_list_seq p (.inr rfl) ho hc hd (λh' c' kp e=>fin its r' hz h' c' kp e) (by simp only[Ay]<;>lia)
theorem SW:cQ X (.type "tuple") (λxs H Q=>∃p ys,xs=[.ref p]/\((bI X.K H p ys/\∀l,H l=none->Q (.ref l) (aR H l (.tup ys)))\/(bV X.K H p ys/\Q (.ref p) H))):=by
 intro pins s Z H xs us Q I r h;obtain⟨p,ys,rfl,h⟩:=h;obtain⟨u,rfl,rx⟩:=vals1 r;cases rx;rcases h with⟨hq,q⟩|⟨hq,q⟩
 .obtain⟨its,r',pl,hz⟩:=I.list hq;have hlen:=r'.length;refine call_tuple_list pl.isList (λh' kp=>?_) (by simp only[Ay]<;>lia);have I1:Inv X pins Z H {s with heap:=h'}:=I.kept (t':=s.toks) kp;have I2:Inv X pins Z (aR H h'.objs.size (.tup ys)) {s with heap:=h'.push {cls:=.type "tuple",data:=.seq its.toArray}}:=
   I1.laid (t':=s.toks) (λb o e=>Ah _ e) (Ai _) (show cL X.prog X.w _ _ _ (.tup ys) from⟨hz,its,r',IsTup.new _ _⟩)
  exact⟨.ref h'.objs.size,_,I2,rfl,q _ (I1.hok.fresh (Ai _))⟩
 .obtain⟨its,r',pl,hz⟩:=I.tuple hq;exact call_tuple_same pl ⟨.ref p,H,I,rfl,q⟩
def tI(K:Ac)(T:String)(x:V)(H:Hp):Prop:=match x with
 | .str _=>T = "str"
 | .int _=>T = "int"
 | .ref p=>(T = "list"/\∃xs,bI K H p xs)\/(T = "tuple"/\∃o,K.lookup p=some o/\o.cls=.type "tuple"/\o.dict=none)\/
   (T = "dict"/\((∃kvs,Rd H p (.dK kvs))\/∃kvs,Rd H p (.dT kvs)))\/(T = "set"/\∃S n,H p=some (.set S n))
 | _=>False
theorem D9{b:List (Addr×Obj)}{f:St}{H:Hp}{s:Ag}{T:String}{x:V}{v:Ae}(I:Inv X b f H s)(r:RelV x v)(ty:tI X.K T x H):
  s.TypeIs v T/\∀a,v=.ref a->∃ob,s.heap.get? a=some ob/\ob.dict=none:=by
 cases x with
 | str z=>
  obtain⟨t,rfl⟩:=r;cases (show T = "str" from ty);exact⟨typeIs_str s z t,λ_ e=>nomatch e⟩
 | int i=>
  obtain⟨t,rfl⟩:=r;cases (show T = "int" from ty);exact⟨typeIs_int s i t,λ_ e=>nomatch e⟩
 | ref p=>
  cases r;rcases ty with⟨rfl,xs,g⟩|⟨rfl,o,hk,hc,hd⟩|⟨rfl,hk⟩|⟨rfl,S,n,hk⟩
  .obtain⟨its,_,pl,_⟩:=I.list g;refine⟨pl.isList.typeIs,λa e=>?_⟩;cases e;obtain⟨o,n,e,c,hd,_⟩:=pl;exact⟨o,e,hd⟩
  .refine⟨⟨o,I.kIn p o hk,hc⟩,λa e=>?_⟩;cases e;exact⟨o,I.kIn _ o hk,hd⟩
  .have z:∃o,s.heap.get? p=some o/\o.ExactDict:=by
    rcases hk with⟨kvs,hk⟩|⟨kvs,hk⟩
    .obtain⟨_,_,_,_,o,_,_,e,ex,_⟩:=hk.ok I.hok;exact⟨o,e,ex⟩
    .obtain⟨_,_,_,_,o,_,_,e,ex,_⟩:=hk.ok I.hok;exact⟨o,e,ex⟩
   obtain⟨o,e,ex⟩:=z;refine⟨⟨o,e,ex.1⟩,λa d=>?_⟩;cases d;exact⟨o,e,ex.2.1⟩
  .obtain⟨o,_,_,_,e,ex,_⟩:=I.hok p _ hk;refine⟨⟨o,e,ex.1⟩,λa d=>?_⟩;cases d;exact⟨o,e,ex.2.1⟩
 | _=>exact Hk ty
def SX(K:Ac)(T:String)(r:V->List V->Hp->VK->Prop)(to:TE):TE:=λb H Q=>to b H λx a=>tI K T x a/\r x [] a Q
def SY(K:Ac)(T:String)(r:V->List V->Hp->VK->Prop)(to:TE)(t:TA):TE:=λb H Q=>to b H λx a=>tI K T x a/\t b a λxs c=>r x xs c Q
variable {o e:Expr}{es:List Expr}{to:TE}{t:TA}{name:Str}{apos cpos:Pos}{T id:String}{r:V->List V->Hp->VK->Prop}
theorem S4(pa:PlainAttrs T)(slot:Slot T name id)(d:typeOf (.builtin id)=pure (.type "method_descriptor"))(i:jE X id r)(n:PE X o to)(c:Km o name X.env (eval o X.env)=eval o X.env:=by rfl)(b:(apos.endLine==cpos.line)=true:=by rfl):PE X (.Call (.Attribute o name apos) [] [] cpos) (SX X.K T r to):=by
 intro a s e H Q I h;refine wpAny_Call_method0_late c b (a5 (n a s e H _ I h) λv k ⟨x,j,f,g,ty,l⟩=>?_);obtain⟨m,p⟩:=D9 f g ty;exact⟨T,id,pa,slot,d,m,p,Calls.callWith_builtin rfl (PySem.evalArgs_none (i a k e j x [] v [] Q f g .nil l))⟩
theorem S5(pa:PlainAttrs T)(slot:Slot T name id)(g:typeOf (.builtin id)=pure (.type "method_descriptor"))(A:jE X id r)(C:PE X o to)(ha:PA X (e::es) t)(d:Km o name X.env (eval o X.env)=eval o X.env:=by rfl)(f:((Ie cpos (Br (e::es) X.env)).all (λx=>!x.1)&&(backToKw cpos (Nl [] X.env)).all (λx=>x.1.isSome)
  &&decide ((e::es).length+([]:List Keyword).length+(if ([]:List Keyword).isEmpty then 0 else 1)<30))=true:=by rfl)(c:(apos.endLine==cpos.line)=true:=by rfl)(w:Br (e::es) X.env=(false,eval e X.env)::Br es X.env:=by rfl)(b:(Ie cpos (Br es X.env)).any (·.1)=false:=by rfl):
  PE X (.Call (.Attribute o name apos) (e::es) [] cpos) (SY X.K T r to t):=by
 intro a s i H Q I h;refine wpAny_Call_method_late d f c rfl (a5 (C a s i H _ I h) λv y ⟨x,z,j,l,ty,m⟩=>?_);obtain⟨B,E⟩:=D9 j l ty;refine⟨T,id,pa,slot,g,B,E,?_⟩;have k:=ha cpos a y i z _ j m;rw[w]at k⊢;refine Calls.callWith_builtin (by show(false||(Ie cpos (Br es X.env)).any (·.1))=false;rw[b]<;>rfl) (Calls.evalArgs_plain ?_);exact a5 k λus u ⟨vs,p,q,n,D⟩=>A a u i p x vs v us Q q l n D
end
def qP(X:Cx)(a:String)(r:V->List V->Hp->VK->Prop):Prop:=
 ∀(pins:List (Addr×Obj)) (s:Ag) (Z:St) (H:Hp) (x:V) (xs:List V) (v:Ae) (us:List Ae) (Q:VK),Inv X pins Z H s->RelV x v->aT xs us->r x xs H Q->
  Bc (Bo X.prog X.w) X.A (call (.builtin a) (v::us)) (EP X pins Z Q) X.xe s
theorem aT.one:∀{x:V} {us:List Ae},aT [x] us->∃u,us=[u]/\RelV x u
 | _,_,.cons r .nil=>⟨_,rfl,r⟩
theorem aT.zero:∀{us:List Ae},aT [] us->us=[]
 | _,.nil=>rfl
theorem aT.dropLast(h:aT xs us):aT xs.dropLast us.dropLast:=by
 induction h with
 | nil=>exact .nil
 | cons r t a=>
  cases t with
  | nil=>exact .nil
  | cons q t'=>exact .cons r a
theorem aT.reverse(h:aT xs us):aT xs.reverse us.reverse:=by
 induction h with
 | nil=>exact .nil
 | cons r t a=>rw[Gx,Gx];exact aT.append a (.cons r .nil)
theorem aT.rep(h:aT xs us):∀k:Nat,aT (Cf k xs).flatten (Cf k us).flatten
 | 0=>.nil
 | k+1=>by
  rw[Hd,Hd,Ht,Ht];exact aT.append h (aT.rep h k)
theorem S6{d:Type}(l:List d):l.eraseIdx (l.length-1)=l.dropLast:=by
 induction l with
 | nil=>rfl
 | cons a r c=>
  cases r with
  | nil=>rfl
  | cons b r=>
   have e:(a::b::r).length-1=((b::r).length-1)+1:=by
    have g:(a::b::r).length=r.length+2:=rfl;have f:(b::r).length=r.length+1:=rfl;lia
   rw[e,List.eraseIdx_cons_succ,c]
   all_goals rfl
theorem foldl_rep(its:List Ae):∀(k:Nat) (acc:List Ae),
  List.foldl (λx1 x2=>x1++x2) acc.toArray (Cf k its.toArray)=(acc++(Cf k its).flatten).toArray
 | 0,acc=>by simp
 | k+1,acc=>by
  have e:acc.toArray++its.toArray=(acc++its).toArray:=by simp
  have a:(acc++its)++(Cf k its).flatten=acc++(Cf (k+1) its).flatten:=by
   rw[Hd,Ht,Bs]
  rw[<-a,<-foldl_rep its k (acc++its),<-e,Hd,Eu]
section
variable {X:Cx}{pins:List (Addr×Obj)}{Z:St}{H:Hp}{s:Ag}{l b:Addr}{xs ys zs:List V}
theorem Inv.lset{its its':List Ae}{n:Nat}{f:Array Ae->Array Ae}{t':Nat}(I:Inv X pins Z H s)(hH:H l=some (.lst xs))(e:s.heap.get? l=some {cls:=.type "list",data:=.seq its.toArray n})(hf:f its.toArray=its'.toArray)(hv:aT ys its')(hz:ys.length<=An):
  Inv X pins Z (aR H l (.lst ys)) {s with heap:=s.heap.update l (Hb f),toks:=t'}:=by
 have q:=PySem.IsL.update e f;rw[hf]at q;refine I.write (x:=l) (e:=l) (by rw[hH];exact trivial) (.inl rfl) (λb' u hb hu=>(Eb s.heap (Hb f) (Bw hb)).trans hu) ⟨_,q⟩ ?_;exact⟨hz,its',_,hv,q⟩
theorem Inv.lnew{t':Nat}(I:Inv X pins Z H s)(hv:aT ys its)(hz:ys.length<=An):
  Inv X pins Z (aR H s.heap.objs.size (.lst ys)) {s with heap:=s.heap.push {cls:=.type "list",data:=.seq its.toArray},toks:=t'}:=
 I.laid (λ_ _ q=>Ah _ q) (Ai _) ⟨hz,its,0,hv,Au _ rfl⟩
theorem Inv.fresh(I:Inv X pins Z H s):H s.heap.objs.size=none:=I.hok.fresh (Ai _)
theorem Inv.lstM(I:Inv X pins Z H s)(a:H l=some (.lst xs)):xs.length<=An/\∃(its:List Ae) (n:Nat),aT xs its/\xs.length=its.length/\s.heap.get? l=some {cls:=.type "list",data:=.seq its.toArray n}:=by
 obtain⟨z,its,n,r,e⟩:=I.hok l _ a;exact⟨z,its,n,r,r.length,e⟩
theorem EA{n:Nat}(h:n<=An):Ja n=false:=by
 unfold Ja;exact decide_eq_false (by lia)
end
section
variable {X:Cx}
def rAppend:V->List V->Hp->VK->Prop:=λx vs H Q=>∃l xs y,x=.ref l/\vs=[y]/\H l=some (.lst xs)/\xs.length<An/\Q .non (aR H l (.lst (xs++[y])))
theorem EB:qP X "list.append" rAppend:=by
 intro pins s Z H x vs v us Q I rx rv h;obtain⟨l,xs,y,rfl,rfl,hH,hz,q⟩:=h;cases rx;obtain⟨u,rfl,ru⟩:=rv.one;obtain⟨z,its,n,r,hl,e⟩:=I.lstM hH;refine Ls Du ⟨_,e,rfl⟩ F.entry_list_append (F.args_list_append_2 _ _) (PySem.list_append l its.toArray n u (by rw[Ay];lia)) ⟨e,?_⟩;refine⟨.non,_,I.lset (its':=its++[u]) hH e (by simp) (r.append (.cons ru .nil)) ?_,rfl,q⟩;rw[Aj,Bq];lia
def rExtend:V->List V->Hp->VK->Prop:=λx vs H Q=>∃l b xs zs,x=.ref l/\vs=[.ref b]/\H l=some (.lst xs)/\H b=some (.lst zs)/\xs.length+zs.length<=An/\Q .non (aR H l (.lst (xs++zs)))
theorem EC:qP X "list.extend" rExtend:=by
 intro pins s Z H x vs v us Q I rx rv h;obtain⟨l,b,xs,zs,rfl,rfl,hH,hB,hz,q⟩:=h;cases rx;obtain⟨u,rfl,ru⟩:=rv.one;cases ru;obtain⟨z,its,n,r,hl,e⟩:=I.lstM hH;obtain⟨z2,its2,n2,r2,hl2,e2⟩:=I.lstM hB;have hsz:its.toArray.size+its2.toArray.size<=An:=by rw[Ay,Ay];lia
 have hlong:¬(!its.toArray.isEmpty&&Ja (its.toArray.size+its2.toArray.size))=true:=by
  rw[EA hsz,Bool.and_false];exact Am
 refine Ls F.slot_list_extend ⟨_,e,rfl⟩ F.entry_list_extend (F.args_list_extend_2 _ _)
  (AutoSeq1.list_extend_list_list_0 l its.toArray n b its2.toArray n2 hlong (by rw[Ay];lia) (by lia)) ⟨e,e2,?_⟩
 refine⟨.non,_,I.lset (its':=its++its2) hH e (by simp) (r.append r2) ?_,rfl,q⟩;rw[Aj];lia
def rPop:V->List V->Hp->VK->Prop:=λx vs H Q=>∃l xs y,x=.ref l/\vs=[]/\H l=some (.lst xs)/\xs[xs.length-1]? = some y/\Q y (aR H l (.lst xs.dropLast))
theorem S7:qP X "list.pop" rPop:=by
 intro pins s Z H x vs v us Q I rx rv h;obtain⟨l,xs,y,rfl,rfl,hH,hy,q⟩:=h;cases rx;have hus:=rv.zero;subst hus;obtain⟨z,its,n,r,hl,e⟩:=I.lstM hH;obtain⟨u,hu,ru⟩:=r.get hy;have hy':its.toArray[its.toArray.size-1]? = some u:=by
  show its.toArray[its.length-1]? = some u;rw[<-Dr,<-hl];exact hu
 refine Ls Kk ⟨_,e,rfl⟩ F.entry_list_pop (F.args_list_pop_1 _) (MeetsSeq.list_pop_last l its.toArray n u hy' (by rw[Ay];lia)) ⟨e,?_⟩;refine⟨y,_,I.lset (its':=its.dropLast) hH e ?_ r.dropLast ?_,ru,q⟩
 .show its.toArray.eraseIdxIfInBounds (its.toArray.size-1)=its.dropLast.toArray;rw[Ay,List.eraseIdxIfInBounds_toArray,S6]
 .rw[List.length_dropLast];lia
def rReverse:V->List V->Hp->VK->Prop:=λx vs H Q=>∃l xs,x=.ref l/\vs=[]/\H l=some (.lst xs)/\Q .non (aR H l (.lst xs.reverse))
theorem S8:qP X "list.reverse" rReverse:=by
 intro pins s Z H x vs v us Q I rx rv h;obtain⟨l,xs,rfl,rfl,hH,q⟩:=h;cases rx;have hus:=rv.zero;subst hus;obtain⟨z,its,n,r,hl,e⟩:=I.lstM hH;refine Ls F.slot_list_reverse ⟨_,e,rfl⟩ F.entry_list_reverse (F.args_list_reverse_1 _) (AutoSeq1.list_reverse_list_0 l its.toArray n (by rw[Ay];lia)) ⟨e,?_⟩;refine⟨.non,_,I.lset (its':=its.reverse) hH e (by simp) r.reverse ?_,rfl,q⟩;rw[Lv];lia
def S9:R2:=λx y H Q=>∃l b xs zs,x=.ref l/\y=.ref b/\H l=some (.lst xs)/\H b=some (.lst zs)/\xs.length+zs.length<=An/\∀p,H p=none->Q (.ref p) (aR H p (.lst (xs++zs)))
theorem TB:bE X (Gk .Add) S9:=by
 intro pins s Z H x y v u Q I rx ry h;obtain⟨l,b,xs,zs,rfl,rfl,hH,hB,hz,q⟩:=h;cases rx;cases ry;obtain⟨z,its,n,r,hl,e⟩:=I.lstM hH;obtain⟨z2,its2,n2,r2,hl2,e2⟩:=I.lstM hB;refine PySem.P.add_list e e2 ?_ (by rw[Ay,Ay];lia);have ea:its.toArray++its2.toArray=(its++its2).toArray:=by simp
 rw[ea];exact⟨.ref _,_,I.lnew (t':=s.toks) (r.append r2) (by rw[Aj];lia),rfl,q _ I.fresh⟩
def TC:R2:=λx y H Q=>∃l k xs,x=.ref l/\y=.int k/\H l=some (.lst xs)/\-(2 ^ 63)<=k/\k<2 ^ 63/\xs.length*k.toNat<=An/\
 ∀p,H p=none->Q (.ref p) (aR H p (.lst (Cf k.toNat xs).flatten))
theorem TF{b:Type}(xs:List b)(k:Nat):(Cf k xs).flatten.length=k*xs.length:=by
 induction k with
 | zero=>simp
 | succ k a=>rw[Hd,Ht,Aj,a,Nat.succ_mul,Nat.add_comm]
theorem TH:bE X (Gk .Mult) TC:=by
 intro pins s Z H x y v u Q I rx ry h;obtain⟨l,k,xs,rfl,rfl,hH,h1,h2,hz,q⟩:=h;cases rx;obtain⟨t,rfl⟩:=ry;obtain⟨z,its,n,r,hl,e⟩:=I.lstM hH;have hlen:its.toArray.size*k.toNat<=An:=by rw[Ay,<-hl];exact hz
 have hcap:¬its.toArray.size*k.toNat > (2 ^ 63-1)/8:=by
  have:(An:Nat)<=(2 ^ 63-1)/8:=by decide
  lia
 have hfit:¬(!Builtin.List.listFitsIndex k)=true:=by
  rw[fitsIndex_both h1 h2];exact Am
 have hlong:¬Ja (its.toArray.size*k.toNat)=true:=by
  rw[EA hlen];exact Am
 have hnew:List.foldl (λx1 x2=>x1++x2) #[] (Cf (if its.toArray.isEmpty=true then 0 else k.toNat) its.toArray)=(Cf k.toNat its).flatten.toArray:=by
  have f0:∀m:Nat,List.foldl (λx1 x2=>x1++x2) #[] (Cf m its.toArray)=(Cf m its).flatten.toArray:=λm=>by
   have:=foldl_rep its m [];rw[Gz]at this;exact this
  rw[f0];cases its with
  | nil=>simp
  | cons a r'=>rw[if_neg (by simp)]
 refine wpAny_binaryOp_repeat_ref (T:="list") (U:="int") (by decide) ⟨_,e,rfl⟩ (λs'=>typeIs_int s' k t) noFill_list_mul F.fills_int_mul F.slot_int_rmul repeat_list F.slot_int_index.lookup
  (Ls F.slot_int_rmul (typeIs_int s k t) F.entry_int_rmul (F.args_int_rmul_2 _ _) (int___rmul___int_list k t l its.toArray n)
   ⟨e,rfl,⟨_,e,rfl⟩,Ls F.slot_list_mul ⟨_,e,rfl⟩ F.entry_list_mul (F.args_list_mul_2 _ _) (AutoListH.list___mul___list_int_3 l its.toArray n k t hfit hcap hlong) ⟨e,?_⟩⟩)
 rw[hnew];exact⟨.ref _,_,I.lnew (t':=s.toks) (r.rep k.toNat) (by rw[TF,Nat.mul_comm];exact hz),rfl,q _ I.fresh⟩
end
section
variable {U:Type}[DecidableEq U]
def gA(kvs:List (U×V))(k:U):Option V:=(kvs.find? λa=>decide (a.1=k)).map (·.2)
def eQ(kvs:List (U×V))(k:U)(v:V):List (U×V):=
 if (kvs.any λa=>decide (a.1=k))=true then kvs.map (λa=>if a.1=k then(a.1,v) else a) else kvs++[(k,v)]
def nQ(kvs:List (U×V))(k:U):List (U×V):=kvs.filter λa=>decide (a.1≠k)
theorem tJ{p:U×V}{r:List (U×V)}{k:U}(e:p.1=k):gA (p::r) k=some p.2:=by simp[gA,Fp,e]
theorem tK{p:U×V}{r:List (U×V)}{k:U}(e:¬p.1=k):gA (p::r) k=gA r k:=by simp[gA,Fp,e]
theorem ED(k:U):∀kvs:List (U×V),(kvs.any λa=>decide (a.1=k))=(gA kvs k).isSome
 | []=>rfl
 | p::r=>by
  rw[Gg]
  by_cases e:p.1=k
  .simp only[tJ e,decide_eq_true e,Bool.true_or,Option.isSome_some]
  .rw[tK e,decide_eq_false e,Bool.false_or];exact ED k r
theorem qQ(kvs:List (U×V))(k:U)(v:V):(eQ kvs k v).length<=kvs.length+1:=by
 unfold eQ;split
 .rw[Ab];lia
 .rw[Aj,Bp,Lp];lia
theorem fV.isSome_eq(r:fV o u):o.isSome=u.isSome:=by
 cases o with
 | none=>cases u with
  | none=>rfl
  | some _=>exact(show False from r).elim
 | some _=>cases u with
  | none=>exact(show False from r).elim
  | some _=>rfl
theorem fV.getD(r:fV o u)(a:RelV d d'):RelV (o.getD d) (u.getD d'):=by
 cases o with
 | none=>cases u with
  | none=>exact a
  | some _=>exact(show False from r).elim
 | some _=>cases u with
  | none=>exact(show False from r).elim
  | some _=>exact r
theorem KV.val{kvs:List (U×V)}{vs:List (U×Ae)}(r:KV kvs vs)(k:U):fV (gA kvs k) (valueAt vs k):=by
 unfold KV at r
 induction r with
 | nil=>exact True.intro
 | @cons p q ps qs h t d=>
  obtain⟨c,f⟩:=h
  by_cases e:p.1=k
  .have a:q.1=k:=c.symm.trans e;have b:valueAt (q::qs) k=some q.2:=by simp[valueAt,Fp,a]
   rw[tJ e,b];exact f
  .have a:¬q.1=k:=λz=>e (c.trans z);have b:valueAt (q::qs) k=valueAt qs k:=by simp[valueAt,Fp,a]
   rw[tK e,b];exact d
theorem KV.any(r:KV kvs vs)(k:U):(kvs.any λa=>decide (a.1=k))=vs.any λa=>decide (a.1=k):=by
 unfold KV at r
 induction r with
 | nil=>rfl
 | cons h t b=>rw[Gg,Gg,b,h.1]
theorem KV.repl(r:KV kvs vs)(k:U)(c:RelV y u):
  KV (kvs.map λa=>if a.1=k then(a.1,y) else a) (vs.map λa=>if a.1=k then(a.1,u) else a):=by
 unfold KV at r⊢
 induction r with
 | nil=>exact .nil
 | @cons p q ps qs h t f=>
  rw[Aw,Aw];refine .cons ?_ f;obtain⟨b,d⟩:=h
  by_cases e:p.1=k
  .rw[if_pos e,if_pos (b.symm.trans e)];exact⟨b,c⟩
  .rw[if_neg e,if_neg (λz=>e (b.trans z))];exact⟨b,d⟩
theorem KV.put(r:KV kvs vs)(k:U)(a:RelV y u):KV (eQ kvs k y) (stored vs k u):=by
 unfold eQ stored;rw[r.any k]
 by_cases e:(vs.any λb=>decide (b.1=k))=true
 .rw[if_pos e,if_pos e];exact r.repl k a
 .rw[if_neg e,if_neg e];exact Paired.snoc r ⟨rfl,a⟩
theorem KV.length(r:KV kvs vs):kvs.length=vs.length:=Fn r
theorem TJ(kvs:List (U×V))(k:U):(nQ kvs k).length<=kvs.length:=Nv _ _
end
theorem mI(r:RelV (kV k) u):(dH P w).is k u=true:=by
 cases k with
 | inl i=>obtain⟨t,e⟩:=(show ∃t,u=Value.int i t from r);subst e;exact NY P w i t
 | inr x=>obtain⟨t,e⟩:=(show ∃t,u=Value.str x t from r);subst e;exact NZ P w x t
theorem EE:∀{ks:List aF} {us:List Ae},aT (ks.map kV) us->ItemsAre (dH P w) ks us
 | [],_,r=>by rw[Ii]at r;cases r;exact .nil
 | k::ks,_,r=>by
  rw[Aw]at r;cases r with
  | cons h t=>exact .cons (mI h) (EE t)
abbrev KT(H:Hp):List (List aF×V)->List (List aF×Addr×Ae)->Prop:=Hr λp q=>p.1=q.1/\H q.2.1=some (.tup (p.1.map kV))/\RelV p.2 q.2.2
theorem KT.val{H:Hp}{kvs:List (List aF×V)}{xs:List (List aF×Addr×Ae)}(r:KT H kvs xs)(k:List aF):fV (gA kvs k) ((Nx xs k).map (·.2)):=by
 induction r with
 | nil=>exact True.intro
 | @cons p q ps qs h t d=>
  obtain⟨c,_,f⟩:=h
  by_cases e:p.1=k
  .have a:q.1=k:=c.symm.trans e;have b:Nx (q::qs) k=some q.2:=by simp[Nx,Fp,a]
   rw[tJ e,b];exact f
  .have a:¬q.1=k:=λz=>e (c.trans z);have b:Nx (q::qs) k=Nx qs k:=by simp[Nx,Fp,a]
   rw[tK e,b];exact d
theorem KT.repl(r:KT H kvs xs)(k:List aF)(g:RelV y u):
  KT H (kvs.map λb=>if b.1=k then(b.1,y) else b) (xs.map (putAt k u)):=by
 induction r with
 | nil=>exact .nil
 | @cons p q ps qs h t f=>
  rw[Aw,Aw];refine .cons ?_ f;obtain⟨a,c,d⟩:=h;unfold putAt
  by_cases e:p.1=k
  .rw[if_pos e,if_pos (a.symm.trans e)];exact⟨a,c,g⟩
  .rw[if_neg e,if_neg (λz=>e (a.trans z))];exact⟨a,c,d⟩
theorem KT.put(r:KT H kvs xs)(k:List aF)(hb:H b=some (.tup (k.map kV)))(a:RelV y u):
  KT H (eQ kvs k y) (Ph xs k b u):=by
 have e:(kvs.any λc=>decide (c.1=k))=(Nx xs k).isSome:=by
  rw[ED,(r.val k).isSome_eq,Hn]
 unfold eQ Ph;rw[e]
 by_cases q:(Nx xs k).isSome=true
 .rw[if_pos q,if_pos q];exact r.repl k a
 .rw[if_neg q,if_neg q];exact Paired.snoc r ⟨rfl,hb,a⟩
theorem KT.keeps(r:KT H kvs xs)(ht:∀b ys,H b=some (.tup ys)->a b=some (.tup ys)):KT a kvs xs:=
 Paired.mapP r λ_ _ z=>⟨z.1,ht _ _ z.2.1,z.2.2⟩
section
variable {P:Bt}{w:Ck}{H:Hp}{h:Heap}{a:Addr}
theorem EF(ok:cV P w H h)(e:Rd H a u):cL P w H h a u:=e.ok ok
theorem mJ(ok:cV P w H h)(e:Rd H a (.dK kvs)):kvs.length<=An/\(a==Hi)=false/\∃vs,KV kvs vs/\h.DictOf (dH P w) a vs:=
 show cL P w H h a (.dK kvs) from EF ok e
theorem TL(ok:cV P w H h)(e:H a=some (.dK kvs)):kvs.length<=An/\(a==Hi)=false/\∃vs,KV kvs vs/\h.DictOf (dH P w) a vs:=mJ ok (.inl e)
theorem j5(ok:cV P w H h)(e:H a=some (.tup (ks.map kV))):(Hg (dH P w)).is h ks a:=by
 obtain⟨_,its,r,o,d,c,n,b⟩:=(show cL P w H h a (.tup (ks.map kV)) from ok a _ e);exact⟨o,its.toArray,n,d,c,b,by simpa using EE r⟩
theorem nR(ok:cV P w H h)(e:Rd H a (.dT kvs)):kvs.length<=An/\(a==Hi)=false/\
  ∃xs,KT H kvs xs/\h.DictOfH (Hg (dH P w)) a xs:=by
 obtain⟨z,y,xs,r,o,es,ep,k,d,g,j,f⟩:=(show cL P w H h a (.dT kvs) from EF ok e);refine⟨z,y,xs,r,o,es,ep,k,d,g,j,λx b=>?_,f⟩;have all:∀{l:List (List aF×V)} {m:List (List aF×Addr×Ae)},KT H l m->∀x∈m,(Hg (dH P w)).is h x.1 x.2.1:=by
  intro l m q
  induction q with
  | nil=>intro x b;exact nomatch b
  | @cons p q ps qs c t i=>
   intro x b;rcases Bg.mp b with e|b
   .subst e;exact j5 ok (by rw[<-c.1];exact c.2.1)
   .exact i x b
 exact all r x b
theorem tL(ok:cV P w H h)(e:H a=some (.dT kvs)):kvs.length<=An/\(a==Hi)=false/\
  ∃xs,KT H kvs xs/\h.DictOfH (Hg (dH P w)) a xs:=nR ok (.inl e)
end
def iC(H:Hp)(a:Addr)(y:V)(r:Option V):Prop:=
 (∃kvs k,Rd H a (.dK kvs)/\y=kV k/\r=gA kvs k)\/∃kvs k b,Rd H a (.dT kvs)/\y=.ref b/\H b=some (.tup (k.map kV))/\r=gA kvs k
def mK(H:Hp)(a:Addr)(y v:V)(c:Hp):Prop:=
 (∃kvs k,H a=some (.dK kvs)/\y=kV k/\kvs.length<An/\c=aR H a (.dK (eQ kvs k v)))\/
 ∃kvs k b,H a=some (.dT kvs)/\y=.ref b/\H b=some (.tup (k.map kV))/\kvs.length<An/\c=aR H a (.dT (eQ kvs k v))
theorem mK.k{H:Hp}{a:Addr}{kvs:List (aF×V)}{k:aF}{v:V}(e:H a=some (.dK kvs))(hl:kvs.length<An):mK H a (kV k) v (aR H a (.dK (eQ kvs k v))):=.inl ⟨kvs,k,e,rfl,hl,rfl⟩
theorem mK.t{H:Hp}{a b:Addr}{kvs:List (List aF×V)}{k:List aF}{v:V}(e:H a=some (.dT kvs))(eb:H b=some (.tup (k.map kV)))(hl:kvs.length<An):
  mK H a (.ref b) v (aR H a (.dT (eQ kvs k v))):=.inr ⟨kvs,k,b,e,rfl,eb,hl,rfl⟩
section
variable {X:Cx}{pins:List (Addr×Obj)}{Z:St}{H:Hp}{s:Ag}{a:Addr}{y v:V}{u r:Ae}{o:Option V}{A:Co}{E:Ae->Ag->Prop}
theorem Inv.big(I:Inv X pins Z H s):Hi<s.heap.objs.size:=by
 have h:Fi<s.heap.objs.size:=(I.mod.glob.keeps I.bk).lt;exact Nat.lt_trans (by decide) h
theorem TM{Q:Ae->Ag->Prop}(t:A.units+1<Gu)(I:Inv X pins Z H s)(g:iC H a y (some v))(q:RelV y u)(h:∀f n,Inv X pins Z H n->RelV v f->Q f n):
  Bc (Bo X.prog X.w) A (Po (.ref a) u) Q E s:=by
 rcases g with⟨kvs,k,e,m,l⟩|⟨kvs,k,b,e,m,eb,l⟩
 .subst m;obtain⟨z,hd,vs,c,i⟩:=mJ I.hok e;obtain⟨f,hw,d⟩:=fV.some_of (v:=v) (o:=valueAt vs k) (by rw[l];exact c.val k);exact wpAny_getItem_of (mI q) i.mapOf hw (h f _ (I.tok _) d)
 .subst m;cases (show u=Value.ref b from q);obtain⟨z,hd,xs,c,i⟩:=nR I.hok e;obtain⟨f,hw,d⟩:=fV.some_of (v:=v) (o:=(Nx xs k).map (·.2)) (by rw[l];exact c.val k);obtain⟨p,r,j⟩:=Bb.mp hw;refine wpAny_getItem_heap (Gb t) (j5 I.hok eb) i r ?_;rw[j];exact h f _ (I.tok _) d
theorem TN{Q:Ae->Ag->Prop}(m:A.units+1<Gu)(I:Inv X pins Z H s)(g:iC H a y o)(j:RelV y u)(h:∀i,Inv X pins Z H i->Q (.bool o.isSome) i):
  Bc (Bo X.prog X.w) A (Cw .In u (.ref a)) Q E s:=by
 rcases g with⟨kvs,k,e,f,l⟩|⟨kvs,k,b,e,f,eb,l⟩
 .subst f;obtain⟨z,hd,vs,c,d⟩:=mJ I.hok e;refine wpAny_in_of (mI j) hd d.mapOf ?_;rw[<-(c.val k).isSome_eq,<-l];exact h _ (I.tok _)
 .subst f;cases (show u=Value.ref b from j);obtain⟨z,hd,xs,c,d⟩:=nR I.hok e;refine wpAny_in_heap (Gb m) (j5 I.hok eb) hd d ?_;have q:=(c.val k).isSome_eq;rw[Hn]at q;rw[<-q,<-l];exact h _ (I.tok _)
theorem TQ{Q:Ae->Ag->Prop}(m:A.units+1<Gu)(I:Inv X pins Z H s)(g:iC H a y o)(j:RelV y u)(h:∀i,Inv X pins Z H i->Q (.bool (!o.isSome)) i):
  Bc (Bo X.prog X.w) A (Cw .NotIn u (.ref a)) Q E s:=by
 rcases g with⟨kvs,k,e,f,l⟩|⟨kvs,k,b,e,f,eb,l⟩
 .subst f;obtain⟨z,hd,vs,c,d⟩:=mJ I.hok e;refine wpAny_notIn_of (mI j) hd d.mapOf ?_;rw[<-(c.val k).isSome_eq,<-l];exact h _ (I.tok _)
 .subst f;cases (show u=Value.ref b from j);obtain⟨z,hd,xs,c,d⟩:=nR I.hok e;refine wpAny_notIn_heap (Gb m) (j5 I.hok eb) hd d ?_;have q:=(c.val k).isSome_eq;rw[Hn]at q;rw[<-q,<-l];exact h _ (I.tok _)
theorem qR{t':Nat}(I:Inv X pins Z H s)(mu:qI (H a))(hs:Dk a s.heap h')(he:∃q,h'.get? a=some q)(new:cL X.prog X.w (aR H a ob) h' a ob):
  Inv X pins Z (aR H a ob) {s with heap:=h',toks:=t'}:=
 I.write (x:=a) (e:=a) mu (.inl rfl) (λb q hb z=>(hs.2 b hb).trans z) he new
theorem TR(z:kvs.length<=An)(hd:(a==Hi)=false)(b:KV kvs vs)(c:h'.DictOf (dH P w) a vs):
  cL P w d h' a (.dK kvs):=⟨z,hd,vs,b,c⟩
theorem TU{Q:Unit->Ag->Prop}(hu:A.units+1<Gu)(I:Inv X pins Z H s)(g:mK H a y v H')(ry:RelV y u)(rv:RelV v r)(h:∀s',Inv X pins Z H' s'->Q () s'):
  Bc (Bo X.prog X.w) A (setItem (.ref a) u r) Q E s:=by
 rcases g with⟨kvs,k,e,ey,l,eH⟩|⟨kvs,k,b,e,ey,eb,l,eH⟩
 .subst ey eH;obtain⟨z,hd,vs,rel,dd⟩:=TL I.hok e;have hz:vs.length<=An:=by rw[<-rel.length];exact z
  have hl:(eQ kvs k v).length<=An:=by have:=qQ kvs k v;lia
  refine wpAny_setItem_pairs (hsz:=hz) (mI ry) dd λh' dd' hs=>h _ ?_;have he:∃q,h'.get? a=some q:=let ⟨q,_,_,hq,_⟩:=dd';⟨q,hq⟩;exact qR I (by rw[e];exact True.intro) hs he (TR hl hd (rel.put k rv) dd')
 .subst ey eH;cases (show u=Value.ref b from ry);obtain⟨z,hd,xs,rel,dd⟩:=tL I.hok e;have hz:xs.length<=An:=by rw[<-Fn rel];exact z
  have hl:(eQ kvs k v).length<=An:=by have:=qQ kvs k v;lia
  refine wpAny_setItem_heap (hsz:=hz) (Gb hu) (j5 I.hok eb) dd λh' dd' hs=>h _ ?_;obtain⟨q,es,ep,hq,h2,h3,h4,_,h5⟩:=dd';refine qR I (by rw[e];exact True.intro) hs ⟨q,hq⟩ ⟨hl,hd,_,(rel.put k eb rv).keeps λc ys ec=>?_,q,es,ep,hq,h2,h3,h4,h5⟩;rw[bF (sR ec e (λz=>nomatch z))];exact ec
end
section
variable {X:Cx}{pins:List (Addr×Obj)}{Z:St}{H:Hp}{s:Ag}{a:Addr}{kvs:List (aF×V)}{k:aF}{u:Ae}{A:Co}{E:Ae->Ag->Prop}
theorem TV{Q:Ae->Ag->Prop}(I:Inv X pins Z H s)(e:Rd H a (.dK kvs))(h:∀t c,Inv X pins Z H c->Q (.int kvs.length t) c):Bc (Bo X.prog X.w) A (call (.builtin "len") [.ref a]) Q E s:=by
 obtain⟨z,hd,vs,b,d⟩:=mJ I.hok e;refine call_len_dict hd d (by rw[<-b.length];rw[Ir]at z;lia) ?_;rw[<-b.length];exact h _ _ (I.tok _)
end
theorem TX(I:Inv X pins Z H s)(g:iC H a y o):s.TypeIs (.ref a) "dict":=by
 rcases g with⟨kvs,k,e,_,_⟩|⟨kvs,k,b,e,_,_,_⟩
 .obtain⟨_,_,vs,_,c⟩:=mJ I.hok e;exact c.typeIs
 .obtain⟨_,_,xs,_,c⟩:=nR I.hok e;exact c.typeIs
theorem TY(h:Heap)(hb:Hi<h.objs.size):cL P w H (h.push {cls:=.type "dict",data:=.dict #[]}) h.objs.size (.dK []):=
 ⟨Bk _,beq_eq_false_iff_ne.mpr (Bw (Bu hb)),[],.nil,Heap.DictOf.new h⟩
theorem EG(h:Heap)(hb:Hi<h.objs.size):cL P w H (h.push {cls:=.type "dict",data:=.dict #[]}) h.objs.size (.dT []):=
 ⟨Bk _,beq_eq_false_iff_ne.mpr (Bw (Bu hb)),[],.nil,_,#[],0,Au _ rfl,⟨rfl,rfl,rfl⟩,rfl,rfl,Ee⟩
def TZ:TE:=λ_ H Q=>∀p,H p=none->Q (.ref p) (aR H p (.dK []))
def T1:TE:=λ_ H Q=>∀p,H p=none->Q (.ref p) (aR H p (.dT []))
section
variable {X:Cx}{pos:Pos}
theorem T2:PE X (.Dict [] [] pos) TZ:=λpins s Z H Q I h=>
 wpAny_Dict_empty ⟨.ref s.heap.objs.size,_,I.laid (a:=s.heap.objs.size) (o:=.dK []) (t':=s.toks) (λ_ _ q=>Ah _ q) (Ai _) (TY s.heap I.big),rfl,h _ (I.hok.fresh (Ai _))⟩
theorem T4:PE X (.Dict [] [] pos) T1:=λpins s Z H Q I h=>
 wpAny_Dict_empty ⟨.ref s.heap.objs.size,_,I.laid (a:=s.heap.objs.size) (o:=.dT []) (t':=s.toks) (λ_ _ q=>Ah _ q) (Ai _) (EG s.heap I.big),rfl,h _ (I.hok.fresh (Ai _))⟩
end
def wV:List (TE×TE)->St->Hp->(List (V×V)->Hp->Prop)->Prop
 | [],_,H,Q=>Q [] H
 | (tk,c)::r,Z,H,Q=>tk Z H λx b=>c Z b λy a=>wV r Z a λps d=>Q ((x,y)::ps) d
abbrev VV:List (V×V)->List (Ae×Ae)->Prop:=Hr λp q=>RelV p.1 q.1/\RelV p.2 q.2
def wW(X:Cx)(pos:Pos)(keys:List (Option Expr))(a:List Expr)(b:List (TE×TE)):Prop:=
 ∀(pins:List (Addr×Obj)) (s:Ag) (Z:St) (H:Hp) (Q:List (V×V)->Hp->Prop),Inv X pins Z H s->wV b Z H Q->
  Bc (Bo X.prog X.w) X.A (evalPairs (pairTrees keys a X.env pos)) (λvs d=>∃ps c,Inv X pins Z c d/\VV ps vs/\Q ps c) X.xe s
theorem T5:wW X pos [] [] []:=λpins s Z H Q I h=>pairTrees_nil_walk ⟨[],H,I,.nil,h⟩
theorem T6(hk:PE X k tk)(t:PE X v c)(n:wW X pos ks vs a):
  wW X pos (some k::ks) (v::vs) ((tk,c)::a):=λpins s Z H Q I h=>
 pairTrees_cons_walk (a5 (hk pins s Z H _ I h) λu o ⟨x,j,q,d,f⟩=>a5 (t pins o Z j _ q f) λz w ⟨y,g,r,i,l⟩=>
  a5 (n pins w Z g _ r l) λws A ⟨ps,e,m,b,p⟩=>⟨(x,y)::ps,e,m,.cons ⟨d,i⟩ b,p⟩)
section
variable {X:Cx}{pins:List (Addr×Obj)}{Z:St}{H:Hp}{s:Ag}{a:Addr}{y d:V}{u r:Ae}{o:Option V}{A:Co}{E:Ae->Ag->Prop}
theorem EH{Q:Ae->Ag->Prop}(n:A.units+1<Gu)(I:Inv X pins Z H s)(g:iC H a y o)(m:RelV y u)(h:∀i j,Inv X pins Z H j->RelV (o.getD .non) i->Q i j):
  Bc (Bo X.prog X.w) A (call (.builtin "dict.get") [.ref a,u]) Q E s:=by
 rcases g with⟨kvs,k,e,f,l⟩|⟨kvs,k,b,e,f,eb,l⟩
 .subst f;obtain⟨z,hd,vs,c,d⟩:=mJ I.hok e;refine Mp Gq d.typeIs Ki (PySem.F.args_dict_get_2 _ _) (meets_dict_get (dH X.prog X.w) a (mI m) hd) ⟨_,d.mapOf,h _ _ (I.tok _) ?_⟩;rw[l];exact(c.val k).getD rfl
 .subst f;cases (show u=Value.ref b from m);obtain⟨z,hd,xs,c,d⟩:=nR I.hok e;refine Mp Gq d.typeIs Ki (PySem.F.args_dict_get_2 _ _) (meetsH_dict_get (Hg (dH X.prog X.w)) a b hd) ⟨Gb n,k,xs,j5 I.hok eb,d,h _ _ (I.tok _) ?_⟩;rw[l];exact(c.val k).getD rfl
theorem EI{Q:Ae->Ag->Prop}(q:A.units+1<Gu)(I:Inv X pins Z H s)(g:iC H a y o)(p:RelV y u)(n:RelV d r)(h:∀j m,Inv X pins Z H m->RelV (o.getD d) j->Q j m):
  Bc (Bo X.prog X.w) A (call (.builtin "dict.get") [.ref a,u,r]) Q E s:=by
 rcases g with⟨kvs,k,e,i,l⟩|⟨kvs,k,b,e,i,eb,l⟩
 .subst i;obtain⟨z,hd,vs,c,f⟩:=mJ I.hok e;refine Mp Gq f.typeIs Ki (PySem.F.args_dict_get_3 _ _ _) (meets_dict_get_default (dH X.prog X.w) a (mI p) hd r) ⟨_,f.mapOf,h _ _ (I.tok _) ?_⟩;rw[l];exact(c.val k).getD n
 .subst i;cases (show u=Value.ref b from p);obtain⟨z,hd,xs,c,f⟩:=nR I.hok e;refine Mp Gq f.typeIs Ki (PySem.F.args_dict_get_3 _ _ _) (meetsH_dict_get_default (Hg (dH X.prog X.w)) a b hd r) ⟨Gb q,k,xs,j5 I.hok eb,f,h _ _ (I.tok _) ?_⟩;rw[l];exact(c.val k).getD n
end
end L2
namespace Att
open PySem PySem.W PySem.Calls PyProof.Rows
theorem T7:∀(ns:List Int) (vs:List Ae),WellAll P h vs (ns.map WData.int)->Hh vs ns:=by
 intro ns
 induction ns with
 | nil=>
  intro vs w;rw[Ii]at w;cases w;exact .nil
 | cons n ns c=>
  intro vs w;rw[Aw]at w;cases w with
  | cons a b=>
   cases a;exact .cons _ _ (c _ b)
theorem T8{l:OpenLaw}{n:Nat}(s:l.most=some n){P:Params}{h:Heap}{args:List WData}{vals:List Ae}(b:l.row.toRowW.claim.pre args=true)(j:WellAll P h vals args):
  ∃a vs ns,vals=[Value.ref a]/\args=[WData.list (ns.map WData.int)]/\h.get? a=some {cls:=.type "list",data:=.seq vs.toArray}/\Hh vs ns/\ns.length<=n:=by
 have i:WShape.hasAll [] args [.list .int]=true:=(pre_splitW b).1;have hc:l.pre.holds [] {args:=args} = true:=(pre_splitW b).2;obtain⟨d,r,rfl,v,k⟩:=hasAllW_cons i;obtain rfl:=hasAllW_nil k;obtain⟨xs,rfl,o⟩:=hasW_list v;obtain⟨ns,rfl⟩:=items_int o;have c:ns.length<=n:=by
  unfold OpenLaw.pre at hc;have g:(WTm.not (.lt (.lit (.int (n:Int))) (.len (.arg 0)))).holds [] {args:=[.list (ns.map .int)]} = true:=by
   have g:=(holds_andW hc).1;rw[s]at g;exact g
  have f:=condW_of g (w_not (w_lt w_lit (w_len_list (w_arg rfl))));rw[Ab]at f;refine Nat.le_of_not_lt λq=>?_;have p:(n:Int)<((ns.length:Nat):Int):=by lia
  first
   | (rw[decide_eq_true p]at f;exact absurd f (by decide))
   | (simp at f;lia)
 cases j with
 | cons t u=>
  cases u;cases t with
  | list m e=>exact⟨_,_,ns,rfl,rfl,m,T7 ns _ e,c⟩
theorem T9(l:OpenLaw)(args:List WData):l.row.toRowW.claim.post args (.bool true) args=true:=
 postW_of (r:=l.row.toRowW) (X:=(true==true))
  (show WShape.has [] (.bool true) .bool=true by first|rfl|decide|simp[WShape.has,WShape.arms,WShape.armsAll])
  (show(WTm.eq .res (.lit (.bool true))).value [] {args:=args,res:=some (.bool true),after:=args} = some (.bool (true==true)) from w_eq_bool (w_res rfl) w_lit) rfl
theorem attach_call{l:OpenLaw}{n:Nat}{q:Bt}{loose:List Str}{XP:(Str->Option Ae)->Heap->Prop}{YP:Ck->Heap->Prop}{d:DefRec}(H:l.most=some n)(m:d.params.defaults=[])(call:∀(w:Ck) (s₀ b:Ag) (mg p:Str->Option Ae) (fa:Addr) (o:Obj) (v k e:Ae) (a:Addr) (vs:List Ae) (ns:List Int),
   Ground q loose [] XP w s₀ mg p b.heap->YP w b.heap->
   b.heap.get? fa=some o->o.data=.func (docDef d.name d.params d.body d.scope v k e)->b.heap.CodeRec k d.name->mg d.name=some (.ref fa)->
   b.heap.get? a=some {cls:=.type "list",data:=.seq vs.toArray}->Hh vs ns->ns.length<=n->b.gens = #[]->
   Jo (Bo l.prog w) callerA (.call (.ref fa) ⟨[.ref a],[]⟩) (λr j=>r=.ok (.ret (.bool true))/\OldK b.heap j.heap/\j.os=b.os/\Om j.gens) b):
  WalkO q loose XP YP l.row.toRowW d [] (λf vs=>PySem.call f vs):=by
 intro w s₀ b mg p G Y fa o v k e dV kV A hd u x t I args vals as g y C s wF;obtain rfl:dV=.none:=Dflts.none x m;obtain rfl:kV=.none:=Dflts.noKw x;obtain⟨a,vs,ns,rfl,rfl,i,c,h⟩:=T8 H g s;refine enter_call (Lf (call w s₀ b mg p fa o v k e a vs ns G Y A (fd_plain hd) u t i c h I) λr j z=>?_);obtain⟨rfl,E,F,B⟩:=z;exact⟨.inl ⟨.bool true,.bool true,[],rfl,λ_=>rfl,.bool true,T9 l _,λ_=>⟨List.Pairwise.nil,λ_ D=>(nomatch D)⟩⟩,E,F,B⟩
end Att
namespace L2
open PySem Spec PyProof.Rows
theorem EJ:∀{vs:List Ae} {ns:List Int},Hh vs ns->aT (ns.map V.int) vs
 | _,_,.nil=>.nil
 | _,_,.cons n t h=>.cons ⟨t,rfl⟩ (EJ h)
def tM(H:Hp):Prop:=∀b,H b=none\/∃o xs,H b=some (.frz o (.lst xs))
theorem UA{P:Bt}{w:Ck}{K:Ac}{mg mb:Str->Option Ae}{CX:kP}{k:Nat}{fa a:Addr}{fd:Bv}{x:Str}{sp:Sp}{s1:Ag}{vs:List Ae}{ns:List Int}(KX:K.In s1.heap)(hns:s1.heap.Ns Fi mg)(hb:s1.heap.Ns builtinsNs mb)(hbb:∀x:Str,x≠"__name__"->mb x=Dc x)(hlim:s1.heap.NoLimit)(hg:s1.gens = #[])(ha:s1.heap.get? a=some {cls:=.type "list",data:=.seq vs.toArray})(hi:Hh vs ns)(hl:ns.length<=An)(hr:cM k callerA)(F:∀base:Heap,K.In base->base.Ns Fi mg->e9 P w K mg base CX k fa fd [x] sp)(hbind:∀(s:Ag) (u:Ae),BindsTo s fd ⟨[u],[]⟩ [(x,u)])(hsp:∀H:Hp,tM H->bI K H a (ns.map V.int)->sp [.ref a] H (λv _=>v=.bl true) λ_ _ _=>False)(hCX:∀H e s',CX [] H s1 (λ_ _ _=>False) e s'->False):
  Jo (Bo P w) callerA (.call (.ref fa) ⟨[.ref a],[]⟩) (λr s'=>r=.ok (.ret (.bool true))/\OldK s1.heap s'.heap/\s'.os=s1.os/\Om s'.gens) s1:=by
 have rv:=EJ hi;have lenV:=hi.length;have core:∀H:Hp,tM H->bI K H a (ns.map V.int)->cV P w H s1.heap->(∀b,H b≠none->b=a)->(H a≠none->K.lookup a=none)->
   Jo (Bo P w) callerA (.call (.ref fa) ⟨[.ref a],[]⟩) (λr s'=>r=.ok (.ret (.bool true))/\OldK s1.heap s'.heap/\s'.os=s1.os/\Om s'.gens) s1:=by
  intro H hO hS hok hA hK;have base_of:∀{b:Addr} {o:Obj},s1.heap.get? b=some o->H b=none->(lK s1.heap H).get? b=some o:=λe n=>N2 e n;have noA:∀{b:Addr} {o:Obj} {es:Array Jj} {ep:Nat},s1.heap.get? b=some o->o.data=.dict es ep->H b=none:=λ{b o es ep} e d=>by
   cases q:H b with
   | none=>rfl
   | some u=>
    have e':b=a:=hA b (by rw[q];simp);subst e';rw[ha]at e;cases e;have d':Data.seq vs.toArray _=Data.dict es ep:=d;cases d'
  have nsK:∀{b:Addr} {m:Str->Option Ae},s1.heap.Ns b m->(lK s1.heap H).Ns b m:=λ{b m} ⟨o,es,ep,e,d,r⟩=>⟨o,es,ep,base_of e (noA e d),d,r⟩
  have hKb:K.In (lK s1.heap H):=λb o e=>base_of (KX b o e) (by
   cases q:H b with
   | none=>rfl
   | some u=>
    have e':b=a:=hA b (by rw[q];simp);subst e';rw[hK (by rw[q];simp)]at e;cases e)
  have hM:Mod K mg (lK s1.heap H):=⟨hKb,nsK hns,⟨mb,nsK hb,hbb⟩,let ⟨mc,h1,h2⟩:=hlim;⟨mc,nsK h1,h2⟩⟩;have e0:nP P w K mg (lK s1.heap H) callerA [] s1 H:=⟨rfl,hM,λb o e=>N3 e,Ep (N0 _ _),trivial,λb hb=>absurd (show b∈([]:List Addr) from hb) (by simp),hok,.of_eq hg⟩;refine Lf ((F _ hKb (nsK hns)).run callerA [] s1 H ⟨[.ref a],[]⟩ [.ref a] [.ref a] _ _ hr e0 (hbind s1 (.ref a)) (.cons rfl .nil) (hsp H hO hS)) λr s' h=>?_;cases r with
  | error e=>exact(hCX H e s' h).elim
  | ok fl=>
   cases fl with
   | next=>exact Hk h
   | brk=>exact Hk h
   | cont=>exact Hk h
   | ret u=>
    obtain⟨v,H',os,bare,un,hok',r',q⟩:=h;have q':v=.bl true:=q;subst q';obtain rfl:u=Value.bool true:=r';refine⟨rfl,OldK.of_keep λb o e=>?_,os,bare⟩;cases q:H b with
    | none=>exact un.keep b o e q (by intro z;exact absurd (show b∈([]:List Addr) from z) (by simp)) (by simp)
    | some u=>
     rcases hO b with z|⟨ob,xs,z⟩
     .rw[q]at z;cases z
     .have z2:=un.frzs b ob _ z;obtain⟨e1,_⟩:=hok b _ z;obtain⟨e2,_⟩:=hok' b _ z2;rw[e]at e1;cases e1;exact e2
 cases hk:K.lookup a with
 | some o=>
  have e:=KX a o hk;rw[ha]at e;cases e;refine core (λ_=>none) (λ_=>.inl rfl) (.inr ⟨_,vs.toArray,_,hk,rfl,rfl,rfl,by rw[Ay,lenV];exact hl,by simpa using rv⟩) (λb u z=>by have z':(none:Option HO)=some u:=z;cases z') (λb z=>absurd rfl z) λz=>absurd rfl z
 | none=>
  refine core (λb=>if b=a then some (.frz {cls:=.type "list",data:=.seq vs.toArray} (.lst (ns.map V.int))) else none) (λb=>?_) (.inl (.inr ⟨{cls:=.type "list",data:=.seq vs.toArray},if_pos rfl⟩)) (λb u z=>?_) (λb z=>?_) λ_=>hk
  .by_cases hb:b=a
   .exact .inr ⟨_,_,if_pos hb⟩
   .exact .inl (if_neg hb)
  .by_cases hb:b=a
   .have z':=(if_pos hb).symm.trans z;cases z';subst hb;exact⟨ha,by rw[Ab];exact hl,vs,_,rv,ha⟩
   .have z':=(if_neg hb).symm.trans z;cases z'
  .by_cases hb:b=a
   .exact hb
   .exact absurd (if_neg hb) z
theorem UB{l:PySem.W.OpenLaw}{n k:Nat}{q:Bt}{loose:List Str}{XP:(Str->Option Ae)->Heap->Prop}{YP:Ck->Heap->Prop}{d:DefRec}{K:Params->Ac}{CX:Ck->kP}{sp:Ck->Sp}{x:Str}(L:l.most=some n)(r:n<=An)(p:d.params.defaults=[])(J:cM k callerA)(I:∀(w:Ck) (h:Heap),YP w h->(K w.params).In h)(F:∀(w:Ck) (mg:Str->Option Ae) (fa:Addr) (h:Heap),(K w.params).In h->h.Ns Fi mg->mg d.name=some (.ref fa)->
   ∃fd:Bv,(∀(s:Ag) (u:Ae),BindsTo s fd ⟨[u],[]⟩ [(x,u)])/\
    ∀base:Heap,(K w.params).In base->base.Ns Fi mg->e9 l.prog w (K w.params) mg base (CX w) k fa fd [x] (sp w))(z:∀(w:Ck) (H:Hp) (a:Addr) (ns:List Int),ns.length<=n->tM H->bI (K w.params) H a (ns.map V.int)->sp w [.ref a] H (λv _=>v=.bl true) λ_ _ _=>False)(y:∀(w:Ck) (H:Hp) (s:Ag) (e:Ae) (t:Ag),CX w [] H s (λ_ _ _=>False) e t->False):
  PySem.W.WalkO q loose XP YP l.row.toRowW d [] (λf vs=>PySem.call f vs):=by
 refine Att.attach_call L p λw s₀ j mg Q fa o S R C a vs ns G Y P hd N A m i c O=>?_;have B:=I w _ Y;obtain⟨fd,hb,E⟩:=F w mg fa _ B G.T.g A;exact UA B G.T.g G.T.b G.T.builtins G.T.nolimit O m i (Ar c r) J E hb (λH D M=>z w H a ns c D M) λH e t=>y w H j e t
abbrev gL:kP:=λ_ _ _ _ _ _=>False
abbrev E0:XK:=λ_ _ _=>False
theorem oT:mF gL X E0:=λ_ _ _ _ _ _ _ h=>h.elim
structure kS(K:Ac)(x qual:Str)(st:Stmt)(f:Addr)(fd:Bv):Prop where
 ex:∃(oc:Ae) (od:Option Addr) (kV doc pm:Ae) (an:Option Addr) (cdv ct:Ae) (osl:Array (Option Ae)),
  fd=Fy x qual (jB st) (h9 st) (e8 st) .none kV doc pm an cdv ct/\K.lookup f=some ⟨oc,od,.func fd,osl⟩/\Kh K cdv qual=true
 kp:Gd K (.ref f)=true
section
variable {P:Bt}{w:Ck}{K:Ac}{mg:Str->Option Ae}{base:Heap}
theorem kS.ok{x a:Str}{st:Stmt}{f:Addr}{fd:Bv}{N ps:List Str}{k:Nat}{sp:Sp}(F:kS K x a st f fd)(S:oR N ps (e8 st))(len:∀vs H Q E,sp vs H Q E->vs.length=ps.length)(c:∀(b:Ae) (A:Co) (outer:List Env) (s:Ag) (H:Hp) (vs:List V) (Q:VK) (E:XK),cM k (A.deeper (Nq a (e8 st) s.heap.objs.size f b))->sp vs H Q E->
   ∃t,f7 (mG gL P w K mg base N a (e8 st) f b A outer s H E).nox (h9 st) t/\t {nx:=λ_ i=>Q .non i,rt:=Q} (start N vs) H):e9 P w K mg base gL (k+1) f fd ps sp:=by
 obtain⟨n,p,kV,m,r,o,b,ct,j,rfl,l,e⟩:=F.ex;refine RM l e S len λA outer s H vs Q E g d=>?_;obtain⟨t,h,q⟩:=c b A outer s H vs Q E g d;exact⟨t,h.nox,q⟩
theorem kS.binds{x a:Str}{st:Stmt}{f:Addr}{fd:Bv}{ps:List Str}(F:kS K x a st f fd)(h:∀(kV b e:Ae) (d:Option Addr) (c ct:Ae) (us:List Ae),us.length=ps.length->bindArgs (Fy x a (jB st) (h9 st) (e8 st) .none kV b e d c ct) ⟨us,[]⟩=pure (ps.zip us)):Binds K fd ps []:=by
 obtain⟨j,l,kV,b,e,d,c,ct,g,rfl,k,i⟩:=F.ex;exact .all (h kV b e d c ct)
theorem oU{x a:Str}{st:Stmt}{f:Addr}{i:Ae}{j g:Option Addr}{e:Array (Option Ae)}{kV d h b ct:Ae}(l:K.lookup f=some ⟨i,j,.func (Fy x a (jB st) (h9 st) (e8 st) .none kV d h g b ct),e⟩)(c:Kh K b a=true)(k:Gd K (.ref f)=true):kS K x a st f (Fy x a (jB st) (h9 st) (e8 st) .none kV d h g b ct):=⟨⟨i,j,kV,d,h,g,b,ct,e,rfl,l,c⟩,k⟩
end
theorem UC{k:Nat}(a:cM k A):A.units+1<Gu:=Kj (Hy (by decide:1<=64) _) a.units
section
variable {X:Cx}
theorem UD:cQ X (.builtin "len") (λxs H Q=>∃a kvs,xs=[V.ref a]/\H a=some (.dK kvs)/\Q (.int kvs.length) H):=by
 intro pins s Z H xs us Q I r h;obtain⟨a,kvs,rfl,ha,q⟩:=h;obtain⟨u,rfl,ru⟩:=vals1 r;cases ru;exact TV I (.inl ha) λt c b=>⟨.int kvs.length,H,b,⟨t,rfl⟩,q⟩
end
theorem UE{A B:Prop}(h:B):if false=true then A else B:=by
 rw[if_neg Am];exact h
theorem UG{A B:Prop}(h:A):if true=true then A else B:=by
 rw[if_pos rfl];exact h
end L2
set_option maxHeartbeats 4000000
namespace L2
open PySem Spec PyProof.Rows
structure kT where
 cl:List (Str×Addr)
 s:Ag
 H:Hp
 fp:List Addr
 C:Addr
def cR(X:Cx)(sc:Kn)(N':List Str)(B:kT):Cx where
 prog:=X.prog
 w:=X.w
 K:=X.K
 mg:=X.mg
 base:=X.base
 A:=X.A
 N:=N'
 s₀:=B.s
 H₀:=B.H
 env:=compEnvC sc B.cl B.C X.env
 outer:=X.stack
 stack:=X.stack
 ex:=B.fp
 fn:=λ_=>false
 calm:=X.calm
 pn:=[]
 xe:=λ_ _=>False
def gM(cells:List (Str×Addr)):List (Str×Jw)->List (Str×Addr)->List (Str×Addr)
 | [],acc=>acc
 | (n,k)::r,acc=>if k=.free then gM cells r ((n,(cells.lookup n).getD 0)::acc) else gM cells r acc
theorem EK(h:∀y∈scope.names,y.2=.free->∃c,env.cells.lookup y.1=some c):closureFor scope env=pure (gM env.cells scope.names []):=by
 have key:∀(names:List (Str×Jw)) (acc:List (Str×Addr)),(∀y∈names,y.2=.free->∃c,env.cells.lookup y.1=some c)->
   (forIn names acc λ(x:Str×Jw) (cs:List (Str×Addr))=>(if (x.2==NameKind.free)=true then(do let a <-cellOf env x.1;pure (ForInStep.yield ((x.1,a)::cs))) else pure (ForInStep.yield cs):Sem (ForInStep (List (Str×Addr)))))=(pure (gM env.cells names acc):Sem _):=by
  intro names
  induction names with
  | nil=>intro acc _;rfl
  | cons y r ih=>
   intro acc hy;obtain⟨n,k⟩:=y;rw[List.forIn_cons]
   by_cases hk:k=.free
   .subst hk;obtain⟨c,hc⟩:=hy (n,.free) Be rfl;have e1:cellOf env n=(pure c:Sem Addr):=by
     unfold cellOf;rw[show env.cells.lookup n=some c from hc]
    simp only[beq_self_eq_true,if_true,e1,pure_bind];rw[ih _ λz hz=>hy z (Ap _ hz)];simp only[gM,if_true];rw[show env.cells.lookup n=some c from hc];rfl
   .have hb:(k==NameKind.free)=false:=by simpa using hk
    simp only[hb,De,if_false,pure_bind];rw[ih _ λz hz=>hy z (Ap _ hz)];simp only[gM,if_neg hk]
 have e:closureFor scope env=((forIn scope.names [] λ(x:Str×Jw) (cs:List (Str×Addr))=>(if (x.2==NameKind.free)=true then(do let a <-cellOf env x.1;pure (ForInStep.yield ((x.1,a)::cs))) else pure (ForInStep.yield cs):Sem (ForInStep (List (Str×Addr)))))>>=λcs=>pure cs):=by
  unfold closureFor;rfl
 rw[e,key _ _ h,pure_bind]
theorem wX:∀{names:List (Str×Jw)} {acc:List (Str×Addr)},(∀y∈names,y.2=.free->∃c,cells.lookup y.1=some c)->
  (∀x c,acc.lookup x=some c->cells.lookup x=some c)->(gM cells names acc).lookup x=some c->cells.lookup x=some c
 | [],acc,_,ha,e=>ha x c e
 | (n,k)::r,acc,f,ha,e=>by
  have a:∀y∈r,y.2=.free->∃c,cells.lookup y.1=some c:=λz hz=>f z (Ap _ hz);unfold gM at e
  by_cases hk:k=.free
  .subst hk;rw[if_pos rfl]at e;obtain⟨d,hd⟩:=f (n,.free) Be rfl;have hd:cells.lookup n=some d:=hd;refine wX a (λz b q=>?_) e;rw[Ia]at q
   by_cases hz:z=n
   .subst hz;rw[beq_self_eq_true,hd]at q;rw[hd];exact q
   .have:(z==n)=false:=beq_eq_false_iff_ne.mpr hz;rw[this]at q;exact ha z b q
  .rw[if_neg hk]at e;exact wX a ha e
theorem tN:∀{names:List (Str×Jw)} {acc:List (Str×Addr)},((x,NameKind.free)∈names\/∃c,acc.lookup x=some c)->∃c,(gM cells names acc).lookup x=some c
 | [],acc,h=>by
  rcases h with h|h
  .cases h
  .exact h
 | (n,k)::r,acc,h=>by
  unfold gM
  by_cases hk:k=.free
  .subst hk;rw[if_pos rfl];refine tN ?_
   by_cases a:x=n
   .subst a;right;rw[Ia,beq_self_eq_true];exact⟨_,rfl⟩
   .have hb:(x==n)=false:=beq_eq_false_iff_ne.mpr a;rcases h with h|⟨c,h⟩
    .rcases Bg.mp h with e|h
     .cases e;exact absurd rfl a
     .exact .inl h
    .right;rw[Ia,hb];exact⟨c,h⟩
  .rw[if_neg hk];refine tN ?_;rcases h with h|h
   .rcases Bg.mp h with e|h
    .cases e;exact absurd rfl hk
    .exact .inl h
   .exact .inr h
structure nT(N':List Str)(sc osc:Kn):Prop where
 kind:sc.kind=.function
 nd:N'.Nodup
 nocell:∀y∈sc.names,y.2≠.cell
 loc:∀y∈sc.names,y.2=.local->sc.names.lookup y.1=some .local
 free:∀y∈sc.names,y.2=.free->osc.names.lookup y.1=some .cell\/osc.names.lookup y.1=some .free
def lO(N':List Str)(sc a:Kn):Bool:=
 decide (sc.kind=.function)&&decide N'.Nodup&&sc.names.all (λy=>decide (y.2≠.cell))&&sc.names.all (λy=>decide (y.2=.local->sc.names.lookup y.1=some .local)) &&
  sc.names.all (λy=>decide (y.2=.free->a.names.lookup y.1=some .cell\/a.names.lookup y.1=some .free))
theorem nT.of(h:lO N' sc a=true):nT N' sc a:=by
 unfold lO at h;simp only[Cv]at h;obtain⟨⟨⟨⟨e,d⟩,f⟩,c⟩,g⟩:=h;exact⟨of_decide_eq_true e,of_decide_eq_true d,λy b=>of_decide_eq_true (Kz.mp f y b),λy b=>of_decide_eq_true (Kz.mp c y b),λy b=>of_decide_eq_true (Kz.mp g y b)⟩
def cmap(js:List (Option Nat))(Z:St):St:=js.map λo=>o.bind λj=>(Z[j]?).join
def fA(N' N:List Str)(sc:Kn):List (Option Nat)->List Str->Bool
 | [],[]=>true
 | none::js,_::r=>fA N' N sc js r
 | some j::js,x::r=>decide (N[j]? = some x)&&decide (sc.names.lookup x=some .free)&&fA N' N sc js r
 | _,_=>false
theorem wY:∀{js:List (Option Nat)} {r:List Str},fA N' N sc js r=true->js.length=r.length
 | [],[],_=>rfl
 | none::js,_::r,h=>by
  have:=wY (js:=js) (r:=r) h;simp[this]
 | some j::js,x::r,h=>by
  unfold fA at h;rw[Cv]at h;have:=wY (js:=js) (r:=r) h.2;simp[this]
 | [],_::_,h=>by simp[fA]at h
 | none::_,[],h=>by simp[fA]at h
 | some _::_,[],h=>by simp[fA]at h
theorem wZ:∀{js:List (Option Nat)} {r:List Str} {i j:Nat} {x:Str},fA N' N sc js r=true->js[i]? = some (some j)->r[i]? = some x->N[j]? = some x/\sc.names.lookup x=some .free
 | [],[],i,j,x,_,e,_=>by simp at e
 | none::js,_::r,0,j,x,h,e,_=>by simp at e
 | none::js,_::r,i+1,j,x,h,e,a=>wZ (js:=js) (r:=r) (i:=i) h (by simpa using e) (by simpa using a)
 | some k::js,y::r,0,j,x,h,e,a=>by
  unfold fA at h;rw[Cv,Cv]at h;simp at e a;subst e;subst a;exact⟨of_decide_eq_true h.1.1,of_decide_eq_true h.1.2⟩
 | some k::js,y::r,i+1,j,x,h,e,a=>by
  unfold fA at h;rw[Cv,Cv]at h;exact wZ (js:=js) (r:=r) (i:=i) h.2 (by simpa using e) (by simpa using a)
 | [],_::_,_,_,_,h,_,_=>by simp[fA]at h
 | none::_,[],_,_,_,h,_,_=>by simp[fA]at h
 | some _::_,[],_,_,_,h,_,_=>by simp[fA]at h
theorem w4{env:Env}{x:Str}:∀{names:List (Str×Jw)},(∀y∈names,y.2≠.cell)->
  (((names.map λ(n,k)=>if (k==NameKind.free&&env.scope.kind==.function&&env.kindOf n==some .cell) then(n,NameKind.cell) else(n,k)).lookup x=some .cell\/
    (names.map λ(n,k)=>if (k==NameKind.free&&env.scope.kind==.function&&env.kindOf n==some .cell) then(n,NameKind.cell) else(n,k)).lookup x=some .free)↔names.lookup x=some .free)
 | [],_=>by simp
 | (n,k)::r,h=>by
  have b:=@w4 env x r λy c=>h y (Ap _ c);have hk:k≠.cell:=h (n,k) Be;rw[Aw];dsimp only
  by_cases a:(x==n)=true
  .by_cases hc:(k==NameKind.free&&env.scope.kind==.function&&env.kindOf n==some .cell)=true
   .rw[if_pos hc];simp only[Ia,a];have:k=.free:=by
     rw[Cv,Cv]at hc;exact beq_iff_eq.mp hc.1.1
    simp[this]
   .rw[if_neg hc];simp only[Ia,a];constructor
    .rintro(e|e)
     .cases e;exact absurd rfl hk
     .exact e
    .intro e;exact .inr e
  .have a:(x==n)=false:=by simpa using a
   by_cases hc:(k==NameKind.free&&env.scope.kind==.function&&env.kindOf n==some .cell)=true
   .rw[if_pos hc];simp only[Ia,a];exact b
   .rw[if_neg hc];simp only[Ia,a];exact b
theorem w5:∀{names:List (Str×Jw)},names.lookup x=some k->(x,k)∈names:=λh=>Hu h
section
variable {X:Cx}{sc:Kn}{N':List Str}{js:List (Option Nat)}{pins:List (Addr×Obj)}{Z:St}{H H1:Hp}{s:Ag}{fp:List Addr}{C:Addr}
theorem w6(S:nT N' sc X.env.scope)(I:Inv X pins Z H s):∀y∈sc.names,y.2=.free->∃c,X.env.cells.lookup y.1=some c:=λy a hk=>
 I.ok.has y.1 (S.free y a hk)
theorem UH(S:nT N' sc X.env.scope)(hj:fA N' X.N sc js N'=true)(I:Inv X pins Z H s)(hf:∀b∈fp,iA X pins H b)(ho:∀b∈fp,∃o,s.heap.get? b=some o){tk:Nat}{m:Str->Option Ae}(hC:s.heap.objs.size<=C)(keep:∀b o,s.heap.get? b=some o->h1.get? b=some o)(un:Un (iL X.stack) fp H H1 s.heap h1)(hok:cV X.prog X.w H1 h1)(hn:h1.Ns C m)(hfree:H1 C=none):
  Inv (cR X sc N' ⟨gM X.env.cells sc.names [],s,H,fp,C⟩) [] (cmap js Z) H1 {s with heap:=h1,toks:=tk}:=by
 have cs:=w6 S I;have sub:∀x c,(gM X.env.cells sc.names []).lookup x=some c->X.env.cells.lookup x=some c:=λx c e=>wX cs (λ_ _ z=>by simp at z) e;refine⟨⟨I.ok.mod,S.kind,I.ok.glob,I.ok.blt,hC,λx y c e1 e2=>I.ok.inj x y c (sub x c e1) (sub y c e2),λx hx=>?_,λ_ _ h _=>absurd (show false=true from h) Am,I.ok.hd,I.ok.frames,.inl rfl,λb hb=>?_,I.bs,Ar I.ok.bsz I.sz,λb o e hb=>?_,λb hb hb'=>?_,I.stack,I.stkFree⟩,
  rfl,I.bare,un,⟨m,hn,λi x v e1 e2 e3=>?_⟩,λx c e=>?_,hfree,λx c e=>?_,λp hp=>absurd (show p∈([]:List (Addr×Obj)) from hp) (by simp),hok,?_⟩
 .have q:sc.names.lookup x=some .free:=(w4 (env:=X.env) S.nocell).mp hx;exact tN (.inl (w5 q))
 .obtain⟨o,e⟩:=ho b hb;exact⟨Bu (Bn (Az e) hC),λx c q=>(hf b hb).2.2.2.2.1 x c (sub x c q)⟩
 .rcases(hf b hb).2.2.2.1 with z|z
  .exact I.ok.noex b o e z
  .exact absurd (Bn (Az e) (Ar I.ok.bsz z)) (Ke _)
 .rcases Bg.mp (I.stkSub b hb') with z|z
  .exact(hf b hb).2.1 z
  .exact(hf b hb).2.2.1 z
 .
  have e1:N'[i]? = some x:=e1;unfold cmap at e2;rw[Av]at e2;cases hji:js[i]? with
  | none=>rw[hji]at e2;cases e2
  | some o=>
   rw[hji]at e2;cases o with
   | none=>cases e2
   | some j=>
    obtain⟨a1,a2⟩:=wZ hj hji e1;have e2:(Z[j]?).join=some v:=by simpa using e2
    have e2':Z[j]? = some (some v):=by
     cases q:Z[j]? with
     | none=>rw[q]at e2;cases e2
     | some z=>rw[q]at e2;simpa using e2
    obtain⟨m0,hn0,hl0⟩:=I.loc;have kx:=S.free _ (w5 a2) rfl;obtain⟨u,r,l⟩:=hl0 j x v a1 e2' (kx.elim (λz=>.inr (.inl z)) λz=>.inr (.inr z));refine⟨u,r,.inr ⟨(w4 (env:=X.env) S.nocell).mpr a2,?_⟩⟩;rcases l with⟨k,_⟩|⟨_,c,ec,hc⟩
    .have k:X.env.scope.names.lookup x=some .local:=k;rcases kx with z|z
     .rw[k]at z;cases z
     .rw[k]at z;cases z
    .obtain⟨c',ec'⟩:=tN (cells:=X.env.cells) (acc:=[]) (.inl (w5 a2));have:c'=c:=Bz ((sub x c' ec').symm.trans ec);subst this;obtain⟨oc,hoc,hd⟩:=hc;exact⟨c',ec',oc,keep _ _ hoc,hd⟩
 .obtain⟨v,oc,hoc,hd⟩:=I.cell x c (sub x c e);exact⟨v,oc,keep _ _ hoc,hd⟩
 .obtain⟨v,oc,hoc,hd⟩:=I.cell x c (sub x c e);have nfp:c∉fp:=λz=>(hf c z).2.2.2.2.1 x c (sub x c e) rfl;exact un.free c oc hoc (I.freeC x c (sub x c e)) nfp
 .show(cmap js Z).length=N'.length;unfold cmap;rw[Ab];exact wY hj
end
section
variable {prog:Bt}{w:Ck}{A:Co}{R:Result->Ag->Prop}{s:Ag}
theorem UI(I:Nat->Ag->Prop)(p:∀n s,I n s->Bc (Bo prog w) A (Lc it) (λr b=>match r with
   | none=>R (.ok .next) b
   | some v=>Bc (Bo prog w) A (Ou a it v) (λ_ s₀=>Bc (Bo prog w) A (Nr a env v) (λ_ i=>
     Bc (Bo prog w) A (forIn ifs true λc r=>if r=true then do let ok <-isTrue c env (eval c env);pure (ForInStep.yield ok) else pure (ForInStep.yield r)) (λok d=>
      if ok=true then Bc (Bo prog w) A (eval elt env) (λx f=>
       Bc (Bo prog w) A (call (.builtin "list.append") [acc,x]) (λ_ j=>∃m,m<n/\I m j) (λ_ _=>False) f) (λ_ _=>False) d
      else ∃m,m<n/\I m d) (λ_ _=>False) i) (λ_ _=>False) s₀) (λ_ _=>False) b) (λ_ _=>False) s)(n:Nat)(h:I n s):
  Jo (Bo prog w) A (.compLoop (.ListComp elt [⟨a,iter,ifs,0⟩] e pos) 0 it acc env) R s:=by
 refine codeAny_loop rfl I (λn s t=>?_) n h;show Bc _ A ((compTurn (.ListComp elt [⟨a,iter,ifs,0⟩] e pos) 0 it acc env).onRaise (λx=>do noteFrame x env;theTreesLotGoes x)) _ _ s;refine wpAny_noted ?_;rw[compTurn_list];refine Aa (Pq (Aa (Ic (p n s t) (λr b k=>?_) λ_ _ h'=>h'.elim)));cases r with
 | none=>exact Af k
 | some v=>
  refine Aa (Ic k (λ_ s₀ h₀=>?_) λ_ _ h'=>h'.elim);refine Aa (Ic h₀ (λ_ i q=>Aa (Ic q (λok d g=>?_) λ_ _ h'=>h'.elim)) λ_ _ h'=>h'.elim);cases ok with
  | false=>exact Af ⟨rfl,g⟩
  | true=>
   exact Aa (Aa (Ic g (λx f l=>Aa (Ic l (λ_ j o=>Af (Af ⟨rfl,o⟩)) λ_ _ h'=>h'.elim)) λ_ _ h'=>h'.elim))
end
def iE(X:Cx)(ifs:List Expr)(t:TT):Prop:=
 ∀(pins:List (Addr×Obj)) (s:Ag) (Z:St) (H:Hp) (Q:Bool->Hp->Prop),Inv X pins Z H s->t Z H Q->
  Bc (Bo X.prog X.w) X.A (forIn ifs true λc r=>if r=true then do let ok <-isTrue c X.env (eval c X.env);pure (ForInStep.yield ok) else pure (ForInStep.yield r)) (TP X pins Z Q) X.xe s
def UJ:TT:=λ_ H Q=>Q true H
theorem UK:iE X [] UJ:=λ_ _ _ H _ I h=>wpAny_tests_nil ⟨H,I,h⟩
theorem UL(h:PT X c t):iE X [c] t:=λpins s Z H Q I hw=>wpAny_tests_one (h pins s Z H Q I hw)
def w9(J:It)(g:TG)(tt:TT)(te:TE)(p:Addr)(σ₀:St)(H1:Hp)(Q:VK):Prop:=
 ∃W:Nat->Nat->St->List V->Hp->Prop,(∃m,W 0 m σ₀ [] (aR H1 p (.lst [])))/\∀i m e acc H,W i m e acc H->
  (J.stop i H/\Q (.ref p) H)\/(J.go i H/\∃N:St->List V->Hp->Prop,(∀a c d,N a c d->∃h,h<m/\W (i+1) h a c d)/\∀x d,J.yld i H x d->g x e d λa k=>tt a k λb j=>
   if b=true then te a j λy f=>f p=some (.lst acc)/\acc.length<An/\N a (acc++[y]) (aR f p (.lst (acc++[y])))
   else N a acc j)
def xA(wi:TI)(g:kT->TG)(tt:kT->TT)(te:kT->TE)(js:List (Option Nat)):TE:=λZ H Q=>wi Z H λJ H1=>∀p,H1 p=none->∀B:kT,w9 J (g B) (tt B) (te B) p (cmap js Z) H1 Q
section
variable {X:Cx}{sc:Kn}{N':List Str}{js:List (Option Nat)}{tg iter elt:Expr}{ifs:List Expr}{pos:Pos}{wi:TI}{g:kT->TG}{tt:kT->TT}{te:kT->TE}
theorem EL(S:nT N' sc X.env.scope)(hj:fA N' X.N sc js N'=true)(hc:X.calm=true)(hg:∀B,PG (cR X sc N' B) tg (g B))(ht:∀B,iE (cR X sc N' B) ifs (tt B))(he:∀B,PE (cR X sc N' B) elt (te B)){tn:Nat->Heap->Prop}(I:Inv X pins Z H s)(T:lN X.prog X.w X.K tg J fp it tn)(st:tn 0 s.heap)(hf:∀b∈fp,iA X pins H b)(hw:∀p,H p=none->∀B:kT,w9 J (g B) (tt B) (te B) p (cmap js Z) H Q){E:Ae->Ag->Prop}{RR:Ae->Addr->Result->Ag->Prop}(hRR:∀p C H' s' m,Inv X pins Z H' s'->iA X pins H' C->s'.heap.Ns C m->Q (.ref p) H'->RR (.ref p) C (.ok .next) s'):
  Bc (Bo X.prog X.w) X.A (newList []) (λacc s₃=>Bc (Bo X.prog X.w) X.A (newFunctionEnv sc X.env.globals (gM X.env.cells sc.names []) [] X.env.qual none .none (some X.env)) (λcenv s₄=>
   Jo (Bo X.prog X.w) X.A (.compStart (.ListComp elt [⟨tg,iter,ifs,0⟩] sc pos) 0 (.ref it) acc {cenv with scope:=relabel sc X.env}) (RR acc cenv.locals) s₄) E s₃) E s:=by
 refine Cz (wpAny_newFunctionEnv S.nocell (by intro y hy;simp at hy) (λh1 hns1 hsb1=>?_) S.kind);dsimp only at hns1 hsb1⊢;generalize hH2:s.heap.push {cls:=.type "list",dict:=none,data:=.seq ([]:List Ae).toArray} = H2 at hns1 hsb1⊢;have hC:H2.objs.size=s.heap.objs.size+1:=by rw[<-hH2,Ea]
 have hDC:s.heap.objs.size≠H2.objs.size:=by rw[hC];exact Bu (Fv _)
 have hCle:s.heap.objs.size<=H2.objs.size:=by rw[hC];exact Ll _
 have below:∀b,b<s.heap.objs.size->b≠H2.objs.size:=λb hb=>by rw[hC];exact Bu (Fg hb)
 have old:∀b o,s.heap.get? b=some o->h1.get? b=some o:=λb o e=>hsb1.extBut b o (below b (Az e)) (Ah _ (hH2▸Ah _ e));have hacc:h1.get? s.heap.objs.size=some {cls:=.type "list",dict:=none,data:=.seq ([]:List Ae).toArray}:=hsb1.extBut _ _ hDC (Ah _ (hH2▸Au _ rfl));have hp0:H s.heap.objs.size=none:=I.hok.fresh (Ai _);have newO:cL X.prog X.w (aR H s.heap.objs.size (.lst [])) h1 s.heap.objs.size (.lst []):=⟨Bk _,[],_,.nil,hacc⟩;have hok1:cV X.prog X.w (aR H s.heap.objs.size (.lst [])) h1:=I.hok.laid old (Ai _) newO;have un1:Un (iL X.stack) fp H (aR H s.heap.objs.size (.lst [])) s.heap h1:=Un.laid old (Ai _) hp0;have fC:(aR H s.heap.objs.size (.lst [])) H2.objs.size=none:=by rw[bF (Bw hDC)];exact I.hok.fresh hCle
 have IB:=UH (tk:=s.toks+([]:List (Str×Ae)).length) S hj I hf (λb hb=>let ⟨o,e,_⟩:=T.obj 0 _ st b hb;⟨o,e⟩) hCle old un1 hok1 hns1 fC;obtain⟨W,⟨m0,w0⟩,turn⟩:=hw _ hp0 ⟨gM X.env.cells sc.names [],s,H,fp,H2.objs.size⟩;have st1:tn 0 h1:=T.keep _ _ _ st λb _ o e=>old b o e;have loop:∀s₃:Ag,s₃ = {s with heap:=h1,toks:=s.toks+([]:List (Str×Ae)).length}->
   Jo (Bo X.prog X.w) X.A (.compLoop (.ListComp elt [⟨tg,iter,ifs,0⟩] sc pos) 0 (.ref it) (.ref s.heap.objs.size) (compEnvC sc (gM X.env.cells sc.names []) H2.objs.size X.env))
    (RR (.ref s.heap.objs.size) H2.objs.size) s₃:=by
  rintro s₃ rfl;generalize hB:(⟨gM X.env.cells sc.names [],s,H,fp,H2.objs.size⟩:kT)=B at turn w0 IB;have eB:compEnvC sc (gM X.env.cells sc.names []) H2.objs.size X.env=(cR X sc N' B).env:=by subst hB;rfl
  have exB:(cR X sc N' B).ex=fp:=by subst hB;rfl
  rw[eB];have stat:∀{σ':St} {H':Hp} {s':Ag},Inv (cR X sc N' B) [] σ' H' s'->(∀b∈fp,H' b=none)->∀b∈fp,iA (cR X sc N' B) [] H' b:=λ{σ' H' s'} J' hn b hb=>by
   refine⟨hn b hb,(J'.ok.exf b (by rw[exB];exact hb)).1,J'.ok.exfs b (by rw[exB];exact hb),.inl (by rw[exB];exact hb),(J'.ok.exf b (by rw[exB];exact hb)).2,λp hp=>absurd (show p∈([]:List (Addr×Obj)) from hp) (by simp)⟩
  have fp0:∀b∈fp,(aR H s.heap.objs.size (.lst [])) b=none:=λb hb=>by
   obtain⟨o,e,_⟩:=T.obj 0 _ st b hb;rw[bF (Bu (Az e))];exact(hf b hb).1
  refine UI (λn s'=>∃i σ' acc H',Inv (cR X sc N' B) [] σ' H' s'/\tn i s'.heap/\(∀b∈fp,H' b=none)/\W i n σ' acc H') ?_ m0 ⟨0,_,[],_,IB,st1,fp0,w0⟩;rintro n s3 ⟨i,σ3,acc,H3,I3,st3,fr3,w3⟩;rcases turn i n σ3 acc H3 w3 with⟨stop,qn⟩|⟨go,N,hN,step⟩
  .refine a5 (T.done (cR X sc N' B) rfl rfl rfl hc i [] s3 σ3 H3 (λ_ _=>False) I3 (stat I3 fr3) st3 stop) λr s4 ⟨hr,I4⟩=>?_;subst hr;obtain⟨m4,hn4,_⟩:=I4.loc;have u4:Un (iL X.stack) fp H H3 s.heap s4.heap:=by have:=I4.base;subst hB;exact this
   have o4:s4.os=s.os:=by have:=I4.os;subst hB;exact this
   have c4:(cR X sc N' B).env.locals=H2.objs.size:=by subst hB;rfl
   have hIX:Inv X pins Z H3 s4:=I.call' (ch:=fp) o4 u4 I4.hok I4.bare λb hb=>⟨(hf b hb).2.2.2.1,(hf b hb).2.1,(hf b hb).2.2.2.2.1,(hf b hb).2.2.2.2.2⟩
   exact hRR _ _ H3 s4 m4 hIX (I.fpOk hCle (by rw[<-c4];exact I4.free)) (by rw[<-c4];exact hn4) qn
  .refine a5 (T.item (cR X sc N' B) rfl rfl rfl hc i [] s3 σ3 H3 (λ_ _=>False) I3 (stat I3 fr3) st3 go) λr s4 ⟨u,hr,h4⟩=>?_;subst hr;refine a5 h4 λ_ s5 ⟨x,H5,I5,r5,y5,st5,fr5⟩=>?_;have I5':=I5.pinned (stat I5 fr5) (T.obj _ _ st5);refine a5 (hg B _ s5 σ3 H5 x u _ I5' r5 (step x H5 y5)) λ_ s6 ⟨σ6,H6,I6,q6⟩=>?_;refine a5 (ht B _ s6 σ6 H6 _ I6 q6) λok s7 ⟨H7,I7,q7⟩=>?_;have again:∀{H8:Hp} {s8:Ag} {acc':List V},Inv (cR X sc N' B) ([]++qJ fp s5.heap) σ6 H8 s8->(∃m',m'<n/\W (i+1) m' σ6 acc' H8)->∃m,m<n/\∃i σ' acc H',Inv (cR X sc N' B) [] σ' H' s8/\tn i s8.heap/\(∀b∈fp,H' b=none)/\W i m σ' acc H':=
    λ{H8 s8 acc'} I8 ⟨m',hm,w8⟩=>by
     refine⟨m',hm,i+1,σ6,acc',H8,I8.unpinned,T.keep _ _ _ st5 λb hb o e=>(I8.pin (b,o) (Cg _ (Cg _ (tE hb e)))).1,λb hb=>?_,w8⟩;obtain⟨o,e,d⟩:=T.obj _ _ st5 b hb;exact(I8.pin (b,o) (Cg _ (Cg _ (tE hb e)))).2.1
   cases ok with
   | false=>
    rw[if_neg Am]at q7;rw[if_neg Am];exact again I7 (hN _ _ _ q7)
   | true=>
    rw[if_pos rfl]at q7;rw[if_pos rfl];refine a5 (he B _ s7 σ6 H7 _ I7 q7) λy s8 ⟨z,H8,I8,r8,hp8,hl8,q8⟩=>?_;exact a5 (EB _ s8 σ6 H8 (.ref s.heap.objs.size) [z] (.ref s.heap.objs.size) [y] (λ_ H9=>N σ6 (acc++[z]) H9) I8 rfl (.cons r8 .nil) ⟨_,acc,z,rfl,rfl,hp8,hl8,q8⟩) λ_ s9 ⟨_,H9,I9,_,q9⟩=>again I9 (hN _ _ _ q9)
 exact codeAny_compStart_list (loop _ rfl) (T.self _ 0 _ _ _ st1 (loop _ rfl))
theorem UM(N':List Str)(js:List (Option Nat))(hi:PI X tg iter wi)(G:∀B,PG (cR X sc N' B) tg (g B))(ht:∀B,iE (cR X sc N' B) ifs (tt B))(n:∀B,PE (cR X sc N' B) elt (te B))(E:lO N' sc X.env.scope=true:=by kernel_rfl)(z:fA N' X.N sc js N'=true:=by kernel_rfl)(hc:X.calm=true:=by rfl)(r:∀x,Gj iter X.env x=pure x:=by intro _;rfl):PE X (.ListComp elt [⟨tg,iter,ifs,0⟩] sc pos) (xA wi g tt te js):=by
 intro pins s Z H Q I h;have S:=nT.of E;rw[eval_ListComp];refine wpAny_comprehension_free (use:=none) rfl r (EK (w6 S I)) S.kind S.loc (a5 (hi pins s Z H _ I h) λL j d=>a5 d λu k a=>?_);obtain⟨it,fp,K,J,M,e,v,T,f,y,hw⟩:=a;subst e;refine EL (RR:=λacc C=>compPost (Bo X.prog X.w) X.A X.xe none (EP X pins Z Q) acc C) S z hc G ht n v T f y hw ?_;intro p C l D m F c t q;refine⟨m,t,λh' i=>⟨.ref p,l,?_,rfl,q⟩⟩;exact F.turned (t':=D.toks) (λb o hb e=>(i.2 b hb).trans e) c.1 c.2.1 c.2.2.2.1 c.2.2.2.2.1 c.2.2.2.2.2
theorem EM{i:Nat}(O:X.N.Nodup)(n:X.N[i]? = some x)(N:Loc X.env.scope x)(N':List Str)(js:List (Option Nat))(hi:PI X tg iter wi)(hg:∀B,PG (cR X sc N' B) tg (g B))(ht:∀B,iE (cR X sc N' B) ifs (tt B))(M:∀B,PE (cR X sc N' B) elt (te B))(S0:lO N' sc X.env.scope=true:=by kernel_rfl)(Y:fA N' X.N sc js N'=true:=by kernel_rfl)(hc:X.calm=true:=by rfl)(y:Jd (.ListComp elt [⟨tg,iter,ifs,0⟩] sc pos) (some (.Name x f)) c.line X.env=pure true:=by rfl)(hf:X.fn x=true\/X.env.scope.names.lookup x=some .local:=by first|exact .inl rfl|exact .inr rfl|assumption)(P:∀x,Gj iter X.env x=pure x:=by intro _;rfl):PS X (.Assign [.Name x f] (.ListComp elt [⟨tg,iter,ifs,0⟩] sc pos) c) (sZ (xA wi g tt te js) (wH i)):=by
 intro pins s Z H D I h;have S:=nT.of S0;rw[exec_Assign_Name_used _ _ _ _ y];refine Aa (Pq (Aa ?_));show Bc _ X.A (do let _ <-comprehension (.ListComp elt [⟨tg,iter,ifs,0⟩] sc pos) sc X.env _ (newList []) false (eval iter X.env) (some (Nr (.Name x f) X.env))) _ _ s;refine Aa (Ic (wpAny_comprehension_free (use:=some (Nr (.Name x f) X.env)) (Q:=λ_ k=>SP X pins D .next k) rfl P (EK (w6 S I)) S.kind S.loc
  (a5 (hi pins s Z H _ I h) λxv G l=>a5 l λU K j=>?_)) (λ_ k hq=>Af (Af hq)) λ_ _ e=>e)
 obtain⟨it,fp,tn,J,H2,e,V,T,r,W,hw⟩:=j;subst e;refine EL (RR:=λacc C=>compPost (Bo X.prog X.w) X.A X.xe (some (Nr (.Name x f) X.env)) (λ_ k=>SP X pins D .next k) acc C) S Y hc hg ht M V T r W hw ?_;intro p C L k m I' d R q;show Bc _ X.A (Nr (.Name x f) X.env (.ref p)) _ _ _;refine wpAny_assign_Name (C3 I' O n N (v:=.ref p) rfl (λE t ⟨a,sb,ha⟩=>?_) hf);have F:C≠a:=by
  rcases ha with e|e
  .rw[e];exact d.2.1
  .exact λz=>d.2.2.2.2.1 x a e z.symm
 refine⟨m,R.sameBut sb F,λh' u=>⟨_,L,?_,q⟩⟩;exact t.turned (t':=E.toks) (λb o hb e=>(u.2 b hb).trans e) d.1 d.2.1 d.2.2.2.1 d.2.2.2.2.1 d.2.2.2.2.2
end
section
variable {g:TG}{tt:TT}{te:TE}{p:Addr}{σ₀:St}{H1:Hp}{Q:VK}
theorem UN(n:Nat)(c:Nat->St->List V->Hp->Prop)(u:c 0 σ₀ [] (aR H1 p (.lst [])))(hd:∀Z acc H,c n Z acc H->J.stop n H/\Q (.ref p) H)(r:∀i Z acc H,i<n->c i Z acc H->J.go i H/\∀x f,J.yld i H x f->g x Z f λa s=>tt a s λb k=>
   if b=true then te a k λy h=>h p=some (.lst acc)/\acc.length<An/\c (i+1) a (acc++[y]) (aR h p (.lst (acc++[y]))) else c (i+1) a acc k):w9 J g tt te p σ₀ H1 Q:=by
 refine⟨λi m Z acc H=>m=n-i/\i<=n/\c i Z acc H,⟨n,by simp,Bk _,u⟩,?_⟩;rintro i m Z acc H ⟨rfl,hi,q⟩
 by_cases d:i<n
 .obtain⟨l,t⟩:=r i Z acc H d q;exact .inr ⟨l,c (i+1),λa j f o=>⟨n-(i+1),by lia,rfl,d,o⟩,t⟩
 .have e:i=n:=by lia
  subst e;exact .inl (hd Z acc H q)
end
section
variable {X:Cx}
theorem EN{i:Int}(h:i.natAbs<2 ^ 4096):Builtin.Int.intBits i<=2 ^ 20:=by
 unfold Builtin.Int.intBits;split
 .exact Bk _
 .rename_i a;have b:i.natAbs≠0:=by
   intro z;have:i=0:=Int.natAbs_eq_zero.mp z;rw[this]at a;exact a rfl
  have:i.natAbs.log2<4096:=(Nat.log2_lt b).mpr h;have e:(2:Nat) ^ 20=1048576:=by decide
  lia
def tO(i j:Int):Prop:=i.natAbs<2 ^ 4096/\j.natAbs<2 ^ 4096
theorem UO:bE X (Gk .Mult) (rI tO λi j=>.int (i*j)):=qM λ_ _ _ _ _ _ _ hc q=>mul_int q (IntMulOk.of_bits (EN hc.1) (EN hc.2))
def EO(i j:Int):Prop:=0<j/\j<2 ^ 4096
theorem UP:bE X (Gk .FloorDiv) (rI EO λi j=>.int (i/j)):=qM λi j _ _ _ _ _ hc q=>by
 refine floordiv_int (by have:=hc.1;lia) ?_ (.inl (PyProof.noPylong_of_log2 ?_))
 .rw[Int.fdiv_eq_ediv_of_nonneg _ (Int.le_of_lt hc.1)];exact q
 .have c:j.natAbs≠0:=by have:=hc.1;lia
  have d:j.natAbs<2 ^ 4096:=by
   have a:=hc.1;have b:=hc.2;lia
  have:=(Nat.log2_lt c).mpr d;lia
theorem UQ:cQ X (.builtin "isinstance") (λxs H Q=>∃x T t b,xs=[x,.ty T]/\iM X.K H x t/\Kg X.K t (.type T)=some b/\Q (.bl b) H):=by
 intro pins s Z H xs us Q I r h;obtain⟨x,T,t,b,rfl,ty,e,q⟩:=h;obtain⟨u,c,rfl,ru,a⟩:=vals2 r;cases (show c=Value.type T from a);exact Q7 I ru ty e λtk=>⟨.bl b,H,I.tok _,rfl,q⟩
def xB(z:Str):It:=⟨λi _=>i<z.cps.size,λi H x a=>a=H/\∃c,z.cps.toList[i]? = some c/\x=.str ⟨#[c]⟩,λi _=>z.cps.size<=i⟩
theorem ER{P:Bt}{w:Ck}{K:Ac}{x:Str}{px:Pos}(z:Str)(it:Addr)(ty:String)(tk0:Tok)(nx:∀(A:Co) (s:Ag) (i c:Nat) (Q:Option Ae->Ag->Prop) (E:Ae->Ag->Prop),s.heap.IsStrIter it ty z tk0 i->z.cps[i]? = some c->
   (∀h',h'.IsStrIter it ty z tk0 (i+1)->Dk it s.heap h'->Q (some (.str ⟨#[c]⟩ s.toks)) {s with heap:=h',toks:=s.toks+1})->Bc (Bo P w) A (Lc (.ref it)) Q E s)(en:∀(A:Co) (s:Ag) (i:Nat) (Q:Option Ae->Ag->Prop) (E:Ae->Ag->Prop),A.handled=none->s.heap.IsStrIter it ty z tk0 i->z.cps[i]? = none->
   (∀h',Heap.ExtBut it s.heap h'->Q none {s with heap:=h'})->Bc (Bo P w) A (Lc (.ref it)) Q E s)(slf:∀(A:Co) (i:Nat) (s:Ag) (Q:Ae->Ag->Prop) (E:Ae->Ag->Prop),s.heap.IsStrIter it ty z tk0 i->Q (.ref it) s->Bc (Bo P w) A (pyIter (.ref it)) Q E s):
  lN P w K (.Name x px) (xB z) [it] it (λi h=>h.IsStrIter it ty z tk0 i) where
 mem:=by simp
 obj:=λi h st b hb=>by
  have e:b=it:=by simpa using hb
  subst e;obtain⟨o,ho,_,hd⟩:=st;exact⟨o,ho,λv q=>by rw[hd]at q;cases q⟩
 keep:=λi h h' st k=>by
  obtain⟨o,ho,r⟩:=st;exact⟨o,k it (by simp) o ho,r⟩
 item:=by
  intro X hP hw hK hc i pins s Z H E I hf st hg;subst hP hw hK;obtain⟨f0,f1,f2,f3,f4,f5⟩:=hf it (by simp);have hi:z.cps[i]? = some z.cps[i]:=Array.getElem?_eq_getElem hg;refine nx X.A s i _ _ _ st hi λh' st' sb=>?_;have I1:Inv X pins Z H {s with heap:=h',toks:=s.toks+1}:=I.turned (λb o hb e=>(sb.2 b hb).trans e) f0 f1 f3 f4 f5;exact⟨_,rfl,Af ⟨.str ⟨#[z.cps[i]]⟩,H,I1,⟨_,rfl⟩,⟨rfl,z.cps[i],by rw[Dr];exact hi,rfl⟩,st',λb hb=>(hf b hb).1⟩⟩
 done:=by
  intro X hP hw hK hc i pins s Z H E I hf st hg;subst hP hw hK;obtain⟨f0,f1,f2,f3,f4,f5⟩:=hf it (by simp);have hg':z.cps.size<=i:=hg;exact en X.A s i _ _ (I.ok.hd hc) st (Array.getElem?_eq_none hg') λh' eb=>⟨rfl,I.turned (t':=s.toks) (λb o hb e=>eb b o hb e) f0 f1 f3 f4 f5⟩
 self:=slf
theorem ES{E:Ae->Ag->Prop}(hne:l≠it):∀(n i:Nat) (s:Ag) (Q:List Ae->Ag->Prop),s.heap.IsListIter it l i->s.heap.IsList l items->i+n<=items.size->
  (∀h',h'.IsListIter it l (i+n)->Dk it s.heap h'->Q ((items.toList.drop i).take n) {s with heap:=h'})->Bc (Bo prog w) A (draw (.ref it) n) Q E s
 | 0,i,s,Q,hit,_,_,hQ=>by
  show Bc _ _ (pure []) Q E s;exact Af (by simpa using hQ s.heap hit (Heap.SameBut.refl ..))
 | n+1,i,s,Q,hit,ht,hle,hQ=>by
  have hlt:i<items.size:=by lia
  show Bc _ _ (Lc (.ref it)>>=_) Q E s;refine Aa (wpAny_pyNext_list_item hit ht (x:=items[i]) (by simp[hlt]) λh1 hit1 hs1=>?_);refine Aa (Ct (ES hne n (i+1) _ _ hit1 (ht.extBut hs1.extBut hne) (by lia) λh2 hit2 hs2=>Af ?_));have hd:items.toList.drop i=items[i]::items.toList.drop (i+1):=by simp[Ju,hlt]
  have:=hQ h2 (by rw[show i+(n+1)=i+1+n by lia];exact hit2) (hs1.trans hs2);rw[hd,List.take_succ_cons]at this;exact this
theorem UR{E:Ae->Ag->Prop}{targets:List (Bool×(Ae->Sem Unit))}{Q:Unit->Ag->Prop}(hh:A.handled=none)(ht:s.heap.IsList t items)(hn:targets.length=items.size)(hstar:targets.findIdx? (·.1)=none)(h:∀h',Heap.ExtBut s.heap.objs.size s.heap h'->Bc (Bo prog w) A (assignInOrder (targets.map (·.2)) items.toList) Q E {s with heap:=h'}):
  Bc (Bo prog w) A (unpack (.ref t) targets) Q E s:=by
 have hlt:t≠s.heap.objs.size:=by obtain⟨o,ho,_⟩:=ht;exact Bu (Az ho)
 unfold unpack;rw[hn,hstar];refine Aa (Ct ?_);unfold unpackItems;refine Aa ?_;unfold notIterableAtAll;refine Aa (wpAny_specialOf ht.typeIs F.slot_list_iter.lookup ?_);refine Af ?_;simp only[De,if_false];refine Aa (Ct (Jl ht ?_));refine Aa (Ct (ES hlt items.size 0 _ _ ⟨_,Au _ rfl,rfl,rfl⟩ (ht.push _) (by lia) λh1 hit1 hs1=>?_));have hall:List.take items.size (List.drop 0 items.toList)=items.toList:=by
  rw[Kr];exact Gh (by simp)
 rw[hall];rw[if_neg (by simp)];have ht1:h1.IsList t items:=(ht.push _).extBut hs1.extBut hlt;refine Aa (Ct (wpAny_pyNext_list_end hh hit1 ht1 (by simp) λh2 he2=>?_));simp only[Option.isSome_none,De,if_false];refine Af (h h2 λb o hb e=>he2 b o hb (hs1.extBut b o hb (Ah _ e)))
def US(K:Ac)(n:Nat)(t:j0):TG:=λv Z H Q=>∃a xs,v=.ref a/\bI K H a xs/\xs.length=n/\t xs Z H Q
theorem ET{k:Nat}{n:Nat}(hc:X.calm=true)(h:jC X es t)(hn:(Hq es X.env).length=n:=by rfl)(hst:(Hq es X.env).findIdx? (·.1)=none:=by rfl):PG X (.Tuple es k pos) (US X.K n t):=by
 intro pins s Z H v u Q I r hw;obtain⟨a,xs,e1,hq,hl,hw⟩:=hw;subst e1;cases r;obtain⟨its,rv,ht,hz⟩:=I.list hq;rw[PyProof.Rows.assign_Tuple];refine Aa (Pq (UR (I.ok.hd hc) ht.isList (by simp[hn,<-hl,rv.length]) hst λh' hx=>?_));have I1:Inv X pins Z H {s with heap:=h'}:=I.kept (t':=s.toks) λb o e=>hx b o (Bu (Az e)) e;exact h pins _ Z H xs _ Q I1 (by simpa using rv) hw
end
section
variable {X:Cx}
def EU(d:Nc):Prop:=d.canLay0=true/\d.depth<=60
theorem xC:∀{xs:List V} {us:List Ae},xs.length=us.length->(∀(j:Nat) (u:Ae),us[j]? = some u->∃x,xs[j]? = some x/\RelV x u)->aT xs us
 | [],[],_,_=>.nil
 | [],_::_,h,_=>by simp at h
 | _::_,[],h,_=>by simp at h
 | x::xs,u::us,h,k=>by
  obtain⟨y,e,r⟩:=k 0 u rfl;simp at e;subst e;exact .cons r (xC (by simpa using h) λj v a=>by
   obtain⟨y,e,r⟩:=k (j+1) v (by simpa using a);exact⟨y,by simpa using e,r⟩)
theorem xD:∀{kvs:List (aF×V)} {vs:List (aF×Ae)} {j:Nat} {k:aF} {x:Ae},KV kvs vs->vs[j]? = some (k,x)->∃v,kvs[j]? = some (k,v)
 | _,_,_,_,_,.nil,e=>by simp at e
 | _,_,0,_,_,.cons (a:=p) r _,e=>by
  simp at e;subst e;exact⟨p.2,by obtain⟨a,b⟩:=p;cases r.1;rfl⟩
 | _,_,j+1,k,x,.cons _ t,e=>by
  obtain⟨v,q⟩:=xD (j:=j) (k:=k) (x:=x) t (by simpa using e);exact⟨v,by simpa using q⟩
theorem xE(h:nL k v=true):RelV (kV k) v:=by
 rcases kO h with⟨i,t,rfl,rfl⟩|⟨x,t,rfl,rfl⟩
 .exact⟨t,rfl⟩
 .exact⟨t,rfl⟩
theorem UT(hc:X.calm=true):cQ X (.type "list") (λxs H Q=>∃d kvs,xs=[.ref d]/\H d=some (.dK kvs)/\∀l,H l=none->Q (.ref l) (aR H l (.lst (kvs.map λc=>kV c.1)))):=by
 intro pins s Z H xs us Q I r h;obtain⟨d,kvs,rfl,hd,q⟩:=h;obtain⟨u,rfl,ru⟩:=vals1 r;cases ru;obtain⟨hz,i,vs,e,t⟩:=(show cL X.prog X.w H s.heap d (.dK kvs) from I.hok d _ hd);obtain⟨ep,f⟩:=t.dictAt;have hl:=e.length;refine PySem.W.kdl_call (PySem.W.kdl_dict (knd:=dH X.prog X.w) (kvs:=vs) (ep:=ep) i) (I.ok.hd hc) f (by rw[<-hl];exact hz) λh' tk a n hk p b=>?_;refine⟨.ref s.heap.objs.size,_,I.laid (o:=.lst (kvs.map λc=>kV c.1)) (t':=tk) hk (Ai _) ⟨by rw[Ab];exact hz,a.toList,n,?_,by rw[Jc];exact p⟩,rfl,q _ (I.hok.fresh (Ai _))⟩;refine xC (by have C:=b.1;have B:a.toList.length=a.size:=Bx;have D:(kvs.map λc=>kV c.1).length=kvs.length:=Ab ..;lia) λj v z=>?_;obtain⟨k,x,m,g⟩:=b.2 j v (by rw[<-Dr];exact z);obtain⟨y,A⟩:=xD e m;exact⟨kV k,by rw[Av,A];rfl,xE g⟩
theorem EV{n:Nat}(i:Nat)(h:i≠0):n+i≠n:=by lia
theorem EW{n:Nat}(i:Nat):n<=n+i:=by lia
end
section
variable {X:Cx}
def xF(K:Ac)(a:Addr)(xs:List V):It:=
 ⟨λi H=>bI K H a xs/\i<xs.length,
   λi H x b=>∃p u,xs[i]? = some u/\H p=none/\x=.ref p/\b=aR H p (.tup [.int (i:Nat),u]),
   λi H=>bI K H a xs/\xs.length<=i⟩
theorem Inv.laidT{pins:List (Addr×Obj)}{Z:St}{H:Hp}{s:Ag}{fp:List Addr}{h'':Heap}{tk:Nat}{xs:List V}{its:List Ae}(I:Inv X pins Z H s)(hf:∀b∈fp,iA X pins H b)(keep2:∀q o,q∉fp->s.heap.get? q=some o->h''.get? q=some o)(hz:xs.length<=An)(rv:aT xs its)(hp2:h''.get? s.heap.objs.size=some {cls:=.type "tuple",data:=.seq its.toArray}):
  Inv X pins Z (aR H s.heap.objs.size (.tup xs)) {s with heap:=h'',toks:=tk}:=by
 have hfr:H s.heap.objs.size=none:=I.hok.fresh (Ai _);have nfp:∀q∈fp,H q=none:=λq hq=>(hf q hq).1;refine I.step (g':=s.gens) (d':=s.drawn) (t':=tk) (ch:=fp) (λq hq=>⟨(hf q hq).2.2.2.1,(hf q hq).2.1,(hf q hq).2.2.2.2.1,(hf q hq).2.2.2.2.2⟩)
  (λq o _ _ hc e _=>keep2 q o hc e) (λq o _ _ hc e _=>⟨o.slots,keep2 q o hc e⟩) (λq o _ e n=>by rw[bF (Bu (Az e))];exact n)
  (λq o hc e=>⟨o,keep2 q o hc e⟩) (λq zs e=>by rw[bF (fH e hfr)];exact e) (λq o zs e=>by rw[bF (fH e hfr)];exact e) (λq ps e=>⟨#[],by rw[bF (fH e hfr),e];simp⟩) (λm hm=>?_) ?_ I.bare
 .obtain⟨o,es,ep,ho,r⟩:=hm;exact⟨o,es,ep,keep2 _ o (λz=>absurd rfl (hf _ z).2.1) ho,r⟩
 .intro q o e
  by_cases hq:q=s.heap.objs.size
  .subst hq;rw[dO]at e;cases e;exact⟨hz,its,rv,⟨_,hp2,rfl,_,rfl⟩⟩
  .rw[bF hq]at e;refine(I.hok q o e).stay (λt w' ht qq=>keep2 t w' (λz=>?_) qq) (λt qq=>by rw[bF (fH qq hfr)];exact qq) λt zs qq=>by rw[bF (fH qq hfr)];exact qq
   have n0:=nfp t z;rcases ht with rfl|ht
   .rw[n0]at e;cases e
   .rw[n0]at ht;cases ht
theorem Inv.turnedT{pins:List (Addr×Obj)}{Z:St}{H:Hp}{s:Ag}{fp:List Addr}{h'':Heap}{tk:Nat}(I:Inv X pins Z H s)(hf:∀b∈fp,iA X pins H b)(keep2:∀q o,q∉fp->s.heap.get? q=some o->h''.get? q=some o):Inv X pins Z H {s with heap:=h'',toks:=tk}:=by
 have nfp:∀q∈fp,H q=none:=λq hq=>(hf q hq).1;refine I.step (g':=s.gens) (d':=s.drawn) (t':=tk) (ch:=fp) (λq hq=>⟨(hf q hq).2.2.2.1,(hf q hq).2.1,(hf q hq).2.2.2.2.1,(hf q hq).2.2.2.2.2⟩)
   (λq o _ _ hc e _=>keep2 q o hc e) (λq o _ _ hc e _=>⟨o.slots,keep2 q o hc e⟩) (λq o _ e n=>n)
   (λq o hc e=>⟨o,keep2 q o hc e⟩) (λq zs e=>e) (λq o zs e=>e) (λq ps e=>⟨#[],by rw[e];simp⟩) (λm hm=>?_) ?_ I.bare
 .obtain⟨o,es,ep,ho,r⟩:=hm;exact⟨o,es,ep,keep2 _ o (λz=>absurd rfl (hf _ z).2.1) ho,r⟩
 .intro q o e;refine(I.hok q o e).stay (λt w' ht qq=>keep2 t w' (λz=>?_) qq) (λt qq=>qq) λt zs qq=>qq;have n0:=nfp t z;rcases ht with rfl|ht
  .rw[n0]at e;cases e
  .rw[n0]at ht;cases ht
theorem UU{P:Bt}{w:Ck}{K:Ac}{es:List Expr}{kx:Nat}{px:Pos}(a e it:Addr)(xs:List V)(hne:e≠it):
  lN P w K (.Tuple es kx px) (xF K a xs) [e,it] e (λi h=>(∃old,IsEnum h e it (i:Nat) old)/\h.IsListIter it a i) where
 mem:=by simp
 obj:=λi h st c hc=>by
  obtain⟨⟨old,h1⟩,⟨o4,h4,_,h4d⟩⟩:=st;simp only[Bg,Gs,or_false]at hc;rcases hc with rfl|rfl
  .exact⟨_,h1,λv q=>by cases q⟩
  .exact⟨_,h4,λv q=>by rw[h4d]at q;cases q⟩
 keep:=λi h h' st k=>by
  obtain⟨⟨old,h1⟩,⟨o4,h4,r4⟩⟩:=st;exact⟨⟨old,k e (by simp) _ h1⟩,⟨o4,k it (by simp) _ h4,r4⟩⟩
 item:=by
  intro X hP hw hK hc i pins s Z H E I hf st hg;subst hP hw hK;obtain⟨⟨old,h1⟩,h4⟩:=st;obtain⟨hqa,hi⟩:=hg;obtain⟨its,rv,pl,hz⟩:=I.list hqa;obtain⟨u,hu,ru⟩:=rv.get (Bf hi);refine wpAny_pyNext_enum_item h1 h4 pl.isList (x:=u) (by simpa using hu) hne λh' a1 a2 a3 a4 hk=>?_;refine⟨_,rfl,wpAny_letOwnedTupleGo_enum a1 λh'' e' sb=>?_⟩;have hfr:H s.heap.objs.size=none:=I.hok.fresh (Ai _);have lte:e<s.heap.objs.size:=Az h1;have lti:it<s.heap.objs.size:=by obtain⟨_,q,_⟩:=h4;exact Az q
  have keep2:∀q o,q∉[e,it]->s.heap.get? q=some o->h''.get? q=some o:=λq o hq eq=>by
   simp only[Bg,Gs,or_false,not_or]at hq;exact(sb.2 q hq.1).trans (hk q o hq.1 hq.2 eq)
  have hp2:h''.get? s.heap.objs.size=some {cls:=.type "tuple",data:=.seq [.int (i:Nat) s.toks,u].toArray}:=(sb.2 _ (Gv lte)).trans a3;have I1:Inv X pins Z (aR H s.heap.objs.size (.tup [.int (i:Nat),xs[i]])) {s with heap:=h'',toks:=s.toks+1}:=I.laidT (its:=[.int (i:Nat) s.toks,u]) hf keep2 (by show 2<=An;decide) (.cons ⟨_,rfl⟩ (.cons ru .nil)) hp2;refine⟨.ref s.heap.objs.size,_,I1,rfl,⟨s.heap.objs.size,xs[i],Bf hi,hfr,rfl,rfl⟩,⟨⟨u,by rw[Int.natCast_add];exact e'⟩,a2.extBut sb.extBut hne.symm⟩,λq hq=>?_⟩;rw[bF]
  .exact(hf q hq).1
  .intro eq;subst eq;simp only[Bg,Gs,or_false]at hq;rcases hq with q|q
   .exact Gv lte q
   .exact Gv lti q
 done:=by
  intro X hP hw hK hc i pins s Z H E I hf st hg;subst hP hw hK;obtain⟨⟨old,h1⟩,h4⟩:=st;obtain⟨hqa,hij⟩:=hg;obtain⟨its,rv,pl,hz⟩:=I.list hqa;have l1:=rv.length;refine wpAny_pyNext_enum_end (I.ok.hd hc) h1 h4 pl.isList (by simp;lia) λh' hk=>⟨rfl,?_⟩
  exact I.turnedT (tk:=s.toks) hf λq o hq eq=>hk q o (λz=>hq (by simp[z])) eq
 self:=λ_ _ _ _ _ st h=>by
  obtain⟨⟨old,h1⟩,_⟩:=st;exact Nk h1 h
def UW(K:Ac)(b:TA):TI:=λZ H R=>b Z H λvs H1=>∃a xs,vs=[.ref a]/\bI K H1 a xs/\R (xF K a xs) H1
theorem UX{a:Expr}{j:TA}{p pos:Pos}{es:List Expr}{v:Nat}{t:Pos}(n:Gl X "enumerate")(w:X.mg "enumerate" = none)(ha:PA X [a] j)(x:Br [a] X.env=[(false,eval a X.env)]:=by rfl):
  PI X (.Tuple es v t) (.Call (.Name "enumerate" p) [a] [] pos) (UW X.K j):=by
 intro pins s Z H R I h;refine Call_ (jZ I n w boot_enumerate (Er (a5 (ha pos pins s Z H _ I h) λus b ⟨vs,H1,d,r,m⟩=>?_) x rfl));obtain⟨a,xs,rfl,f,q⟩:=m;obtain⟨u,rfl,ru⟩:=vals1 r;cases ru;obtain⟨its,l,pl,hz⟩:=d.list f;refine call_enumerate_list pl.isList λh' g o y k=>?_;refine Nk g ?_;refine⟨b.heap.objs.size+1,[b.heap.objs.size+1,b.heap.objs.size],_,_,H1,rfl,d.kept (t':=b.toks) k,UU a _ _ xs (EV 1 (by decide)),⟨⟨_,g⟩,o⟩,λq i=>?_,q⟩;have c:b.heap.objs.size<=q:=by
  simp only[Bg,Gs,or_false]at i;rcases i with e|e
  .rw[e];exact EW 1
  .rw[e];exact Ai _
 exact d.fpOk c (d.hok.fresh c)
end
abbrev zgH:=aF×List aF
end L2
namespace L2
open PySem PySem.Spec PySem.W PyProof.Rows
section
variable {prog:Bt}{w:Ck}{A:Co}{E:Ae->Ag->Prop}{s:Ag}
theorem UY{i ep:Nat}{Q:Option Ae->Ag->Prop}(hit:s.heap.IsKeyIter it d i es.size ep)(hod:s.heap.get? d=some od)(hdd:od.data=.dict es ep)(hi:i<es.size)(hQ:∀h',h'.IsKeyIter it d (i+1) es.size ep->Dk it s.heap h'->Q (some es[i].key) {s with heap:=h'}):Bc (Bo prog w) A (Lc (.ref it)) Q E s:=by
 have hT:=hit.typeIs;obtain⟨o,ho,hc,hd⟩:=id hit;have own:Builtin.Dict_items.ownsTuple "dict_keyiterator" = false:=by decide
 have nn:¬((Value.ref d==Value.none)=true):=Am;have up:(s.heap.update it (Fs (·.setIfInBounds 1 (Ho ((i:Int)+1))))).IsKeyIter it d (i+1) es.size ep:=
  ⟨_,Ff _ ho (Oa (Il hd _)),(Obj.cls_mapFields ..).trans hc,by rw[Il hd];simp[Ho]⟩
 have uT:=up.typeIs (s:={s with heap:=s.heap.update it (Fs (·.setIfInBounds 1 (Ho ((i:Int)+1))))});unfold Lc;refine Aa (Np (Fq (name:=Eo "__next__") hT Fz (Dn Fz hT PySem.F.entry_dict_keyiterator_next ?_ (PySem.F.args_dict_keyiterator_next_1 _))));refine Aa (Af (Aa (Aa ?_)))
 first|refine Aa (Iq hT (Af ?_))|refine Aa (Kl hT (Af ?_))
 refine Aa (Pf ho hd ?_);rw[own,if_neg Am];show Bc _ _ (if (Value.ref d==Value.none)=true then _ else _) _ _ _;rw[if_neg nn];refine Aa (Af (Aa (Jm hod hdd ?_)));rw[if_neg (by simp)];refine Aa (Af (Aa (wpAny_dictEpoch hod hdd ?_)));rw[if_neg (by simp)];refine Af ?_;simp only[show ¬((i:Int)<0) by lia,if_false,Ci,Array.getElem?_eq_getElem hi];refine Aa ?_
 first|refine Aa (Iq hT (Af ?_))|refine Aa (Kl hT (Af ?_))
 refine Aa (wpAny_isOneOf_keyiter hT ?_);show Bc _ _ (setField (.ref it) 1 (Ho ((i:Int)+1))>>=_) _ _ _;refine Aa (Fu ho hd (by simp) (Aa (Ct (Aa (wpAny_isOneOf_keyiter uT ?_)))));show Bc _ _ (pure es[i].key) _ _ _;exact Af (Af ⟨_,rfl,Af (hQ _ up (Ce ..))⟩)
theorem UZ{i ep:Nat}{Q:Option Ae->Ag->Prop}(hh:A.handled=none)(hit:s.heap.IsKeyIter it d i es.size ep)(hod:s.heap.get? d=some od)(hdd:od.data=.dict es ep)(hi:es.size<=i)(hQ:∀h',Heap.ExtBut it s.heap h'->Q none {s with heap:=h'}):Bc (Bo prog w) A (Lc (.ref it)) Q E s:=by
 have hT:=hit.typeIs;obtain⟨o,ho,hc,hd⟩:=id hit;have own:Builtin.Dict_items.ownsTuple "dict_keyiterator" = false:=by decide
 have nn:¬((Value.ref d==Value.none)=true):=Am;unfold Lc;refine Aa (Np (Fq (name:=Eo "__next__") hT Fz (Dn Fz hT PySem.F.entry_dict_keyiterator_next ?_ (PySem.F.args_dict_keyiterator_next_1 _))));refine Aa (Af (Aa (Aa ?_)))
 first|refine Aa (Iq hT (Af ?_))|refine Aa (Kl hT (Af ?_))
 refine Aa (Pf ho hd ?_);rw[own,if_neg Am];show Bc _ _ (if (Value.ref d==Value.none)=true then _ else _) _ _ _;rw[if_neg nn];refine Aa (Af (Aa (Jm hod hdd ?_)));rw[if_neg (by simp)];refine Aa (Af (Aa (wpAny_dictEpoch hod hdd ?_)));rw[if_neg (by simp)];refine Af ?_;simp only[show ¬((i:Int)<0) by lia,if_false,Ci,Array.getElem?_eq_none hi];refine Aa ?_
 first|refine Aa (Iq hT (Af ?_))|refine Aa (Kl hT (Af ?_))
 show Bc _ _ (setField (.ref it) 0 .none>>=_) _ _ _;refine Aa (Fu ho hd (by simp) ?_);show Bc _ _ (newExc (.type "StopIteration") []>>=_) _ _ _;refine Aa ?_;simp only[newExc,newTuple];refine Aa (Cz (Aa (m:=Ld _ _) (Pd (a:=Value.none) (by first|rfl|(simp only[Ld];rfl)) (Cz ?_ (by size_fits)))) (by size_fits));simp only[raiseNew];refine Aa (wpAny_handled ?_);rw[show A.in1.handled=none from hh];refine Aa (Af (wpAny_throw ?_));refine Aa (Lq (T:="StopIteration") (b:=true) ⟨_,Au _ rfl,rfl⟩ isSubtype_stop ?_);exact Af (hQ _ (((Ce ..).extBut.push _).push _))
def qS(h:Heap)(a:Addr)(es:Array Jj)(ep:Nat):Prop:=∃o,h.get? a=some o/\o.ExactDict/\o.data=.dict es ep
theorem qS.typeIs{ep:Nat}(h:qS s.heap d es ep):s.TypeIs (.ref d) "dict":=let ⟨o,ho,hc,_⟩:=h;⟨o,ho,hc.1⟩
theorem EX{ep:Nat}{Q:Ae->Ag->Prop}(hd:(d==Hi)=false)(hm:qS s.heap d es ep)(hQ:Q (.ref s.heap.objs.size) {s with heap:=s.heap.push {cls:=.type "dict_keyiterator",data:=.fields #[.ref d,.int 0 0,.int es.size 0,.int ep 0]}}):Bc (Bo prog w) A (pyIter (.ref d)) Q E s:=by
 have hT:=hm.typeIs;obtain⟨o,ho,hc,hdat⟩:=hm;refine wpAny_pyIter_slot hT PySem.F.slot_dict_iter (Dn PySem.F.slot_dict_iter hT PySem.F.entry_dict_iter ?_ (PySem.F.args_dict_iter_1 _));unfold Iz.«dict.__iter__»;refine Aa ?_;unfold Builtin.Dict.dictSlotNone;refine Aa (Lm hT (Af ?_));show Bc _ _ (Builtin.Dict.showsAll d>>=_) _ _ _;unfold Builtin.Dict.showsAll;rw[if_neg (by rw[hd];exact Am)];refine Aa (Af (Aa (Jm ho hdat (Aa (wpAny_dictEpoch ho hdat ?_)))));refine Aa (Cz (Af ⟨_,rfl,"dict_keyiterator",_,⟨_,Au _ rfl,rfl⟩,Fz.lookup,?_⟩));simpa [Ho] using hQ
end
end L2
namespace PySem
namespace Zt
open PyProof.Rows L2 PySem.Spec
section
variable {prog:Bt}{w:Ck}{A:Co}{E:Ae->Ag->Prop}{s:Ag}
theorem U0{O:Type}{Q:O->Ag->Prop}(hh:A.handled=none)(hE:∀h' e,(∀c o,s.heap.get? c=some o->h'.get? c=some o)->(∃o,h'.get? e=some o/\o.cls=.type "StopIteration")->E (.ref e) {s with heap:=h'}):
  Bc (Bo prog w) A (Builtin.SmallTypes.stopIteration:Sem O) Q E s:=by
 unfold Builtin.SmallTypes.stopIteration;refine Aa (m:=newExc (.type "StopIteration") []) ?_;simp only[newExc,newTuple];refine Aa (Cz (Aa (m:=Ld _ _) (Pd (a:=Value.none) (by first|rfl|(simp only[Ld];rfl)) (Cz ?_ (by size_fits)))) (by size_fits));simp only[raiseNew];refine Aa (wpAny_handled ?_);rw[hh];refine Aa (Af (wpAny_throw (hE _ _ (λc o e=>Ah _ (Ah _ e)) ⟨_,Au _ rfl,rfl⟩)))
structure U1(prog:Bt)(w:Ck)(i l:Addr)(xs:Array Ae)(St:Nat->Heap->Prop):Prop where
 keep:∀k h h',St k h->(∀c,c=i\/c=l->∀o,h.get? c=some o->h'.get? c=some o)->St k h'
 there:∀k h,St k h->i<h.objs.size
 item:∀(A:Co) (E:Ae->Ag->Prop) (s:Ag) (k:Nat) (x:Ae) (Q:Ae->Ag->Prop),St k s.heap->xs[k]? = some x->(∀h',St (k+1) h'->Dk i s.heap h'->Q x {s with heap:=h'})->
  Bc (Bo prog w) A (Ih (.ref i)) Q E s
 stop:∀(A:Co) (E:Ae->Ag->Prop) (s:Ag) (k:Nat) (Q:Ae->Ag->Prop),A.handled=none->St k s.heap->xs[k]? = none->
  (∀h' e,Heap.ExtBut i s.heap h'->(∃o,h'.get? e=some o/\o.cls=.type "StopIteration")->E (.ref e) {s with heap:=h'})->Bc (Bo prog w) A (Ih (.ref i)) Q E s
theorem side_tuple(i l:Addr)(hne:l≠i)(xs:Array Ae):U1 prog w i l xs (λk h=>h.IsTupleIter i l k/\h.IsTuple l xs) where
 keep:=λk h h' x hk=>by
  obtain⟨⟨o,e,r⟩,⟨u,g,q⟩⟩:=x;exact⟨⟨o,hk i (.inl rfl) o e,r⟩,⟨u,hk l (.inr rfl) u g,q⟩⟩
 there:=λk h x=>by obtain⟨_,e,_⟩:=x.1;exact Az e
 item:=λA E s k x Q st hx hQ=>by
  obtain⟨⟨o,ho,hc,hd⟩,⟨u,hu,hcu,n,hdu⟩⟩:=st;have ty:s.TypeIs (.ref i) "tuple_iterator":=⟨o,ho,hc⟩;unfold Ih;refine Aa (Fq (name:=Eo "__next__") ty Jv (Dn Jv ty F.entry_tuple_iterator_next ?_ (F.args_tuple_iterator_next_1 _)));show Bc _ _ (field (.ref i) 0>>=λq=>_) _ _ _;refine Aa (Lx ho hd (x:=.ref l) rfl ?_);show Bc _ _ (if (Value.ref l==Value.none)=true then _ else _) _ _ s;rw[if_neg (show ¬(Value.ref l==Value.none)=true from λz=>nomatch z)];show Bc _ _ (field (.ref i) 1>>=λq=>_) _ _ _;refine Aa (Lx ho hd (x:=.int k 0) rfl ?_);show Bc _ _ (Pk (.ref l)>>=λq=>_) _ _ _;refine Aa (Mw hu hdu ?_);simp only[Ci,hx];refine Aa (Fu ho hd (by simp) (Af ⟨x,rfl,Af (hQ _ ⟨⟨_,Ff _ ho (Oa (Il hd _)),(Obj.cls_mapFields ..).trans hc,?_⟩,⟨u,?_,hcu,n,hdu⟩⟩ (Ce ..))⟩))
  .rw[Il hd];simp[Ho]
  .exact(Eb _ _ (Bw hne)).trans hu
 stop:=λA E s k Q hh st hx hE=>by
  obtain⟨⟨o,ho,hc,hd⟩,⟨u,hu,hcu,n,hdu⟩⟩:=st;have ty:s.TypeIs (.ref i) "tuple_iterator":=⟨o,ho,hc⟩;unfold Ih;refine Aa (Fq (name:=Eo "__next__") ty Jv (Dn Jv ty F.entry_tuple_iterator_next ?_ (F.args_tuple_iterator_next_1 _)));show Bc _ _ (field (.ref i) 0>>=λq=>_) _ _ _;refine Aa (Lx ho hd (x:=.ref l) rfl ?_);show Bc _ _ (if (Value.ref l==Value.none)=true then _ else _) _ _ s;rw[if_neg (show ¬(Value.ref l==Value.none)=true from λz=>nomatch z)];show Bc _ _ (field (.ref i) 1>>=λq=>_) _ _ _;refine Aa (Lx ho hd (x:=.int k 0) rfl ?_);show Bc _ _ (Pk (.ref l)>>=λq=>_) _ _ _;refine Aa (Mw hu hdu ?_);simp only[Ci,hx];refine Aa (Ey (Aa (Fu ho hd (by simp) (U0 hh λh' e hk he=>hE h' e (λc q hc' g=>hk c q ((Eb _ _ (Bw hc')).trans g)) he))))
variable {z TI TO i1 i2 l1 l2:Addr}{xs ys:Array Ae}{S1 S2:Nat->Heap->Prop}
end
end Zt
end PySem
namespace L2
open PySem Spec PyProof.Rows
section
variable {X:Cx}
theorem EY:∀{vs:List Ae} {ks:List Str},vs.length=ks.length->(∀(j:Nat) v,vs[j]? = some v->∃x t,ks[j]? = some x/\v=.str x t)->StrsAre vs ks
 | [],[],_,_=>.nil
 | [],_::_,e,_=>by simp at e
 | _::_,[],e,_=>by simp at e
 | v::vs,k::ks,e,h=>by
  obtain⟨x,t,b,rfl⟩:=h 0 v rfl;cases (show k=x by simpa using b);exact .cons k t (EY (by simpa using e) λj v a=>by simpa using h (j+1) v (by simpa using a))
theorem EZ:∀{vs:List Ae} {a:List Str},StrsAre vs a->aT (a.map V.str) vs
 | _,_,.nil=>.nil
 | _,_,.cons y t r=>.cons ⟨t,rfl⟩ (EZ r)
theorem U2(hc:X.calm=true):cQ X (.builtin "sorted") (λxs H Q=>∃(d:Addr) (kvs:List (aF×V)) (ks:List Str),xs=[.ref d]/\H d=some (.dK kvs)/\kvs.map Fo=ks.map Sum.inr/\ks.length<64/\
  ∀ss:List Str,ss.Perm ks->∀p,H p=none->Q (.ref p) (aR H p (.lst (ss.map V.str)))):=by
 intro pins s Z H xs us Q I r h;obtain⟨d,kvs,ks,rfl,hd,hks,h64,q⟩:=h;obtain⟨u,rfl,ru⟩:=vals1 r;cases ru;obtain⟨hz,hne,vs,rkv,hD⟩:=(show cL X.prog X.w H s.heap d (.dK kvs) from I.hok d _ hd);obtain⟨ep,hat⟩:=hD.dictAt;have hl:=rkv.length;have hkl:kvs.length=ks.length:=by have:=congrArg Ej hks;simpa using this
 refine Calls.call_function_entry kind_sorted plain_sorted entry_sorted (args_sorted1 _) ?_;unfold Iz.«sorted»;refine Aa (m:=checkCount "sorted" 1 1 _) (Af (Aa (PySem.W.kdu_collect (A:=X.A.in1) (PySem.W.kdl_dict (knd:=dH X.prog X.w) (kvs:=vs) (ep:=ep) hne) (I.ok.hd hc) hat (by rw[<-hl];exact hz) λh' tk acc hk hacc=>?_)));have hsz:acc.toList.length=ks.length:=by have h1:=hacc.1;have h2:acc.toList.length=acc.size:=Bx;lia
 have hS:StrsAre acc.toList ks:=EY hsz λj v hv=>by
  obtain⟨k,x,hx,hk'⟩:=hacc.2 j v (by rw[<-Dr];exact hv);obtain⟨y,hy⟩:=xD rkv hx;have e1:(kvs.map Fo)[j]? = some k:=by rw[Av,hy];rfl
  rw[hks,Av]at e1;obtain⟨z,hz',rfl⟩:=Bb.mp e1;obtain⟨t,e⟩:=(show RelV (kV (Sum.inr z)) v from xE hk');exact⟨z,t,hz',e⟩
 have I1:Inv X pins Z H {s with heap:=h',toks:=tk}:=I.kept (t':=tk) hk;refine Aa (wpAny_newList ?_ (by rw[hsz];lia));have ho:(h'.push (Mi "list" acc.toList.toArray 0)).get? h'.objs.size=some (Mi "list" acc.toList.toArray 0):=Au _ rfl;refine Aa (Ct (Dn slot_list_sort ⟨_,ho,rfl⟩ entry_list_sort (list_sort_treeK strKind_oneLt ho hS.keysOf (λv1 v2 rest e=>keyKind_strs (by rw[<-e];exact hS)) (by rw[hsz];exact h64) λst' a1 a2=>⟨_,rfl,?_⟩) (args_list_sort _)));obtain⟨ss,h1,h2,h3⟩:=sorted_out_str hS a1 a2;obtain⟨e,he⟩:=sortedHeap_at (out:=(Iu st').map (·.2)) ho;have hlen:ss.length=ks.length:=h2.length_eq;refine Af ⟨_,rfl,.ref h'.objs.size,_,I1.laid (o:=.lst (ss.map V.str)) (t':=tk) (λb o eb=>?_) (Ai _) ⟨by rw[Ab];exact Ar (Hj (by lia:ss.length<64)) (by decide),((Iu st').map (·.2)).toList,e,EZ h1,by rw[Jc];exact he⟩,rfl,q ss h2 _ I1.fresh⟩;have hlt:b<h'.objs.size:=Az eb;exact(sortedHeap_old (Bu hlt) (by rw[Ea];exact Fg hlt)).trans (Ah _ eb)
end
section
variable {X:Cx}
theorem ints_get{ns:List Int}{its:List Ae}(r:aT (ns.map V.int) its){i:Nat}{v:Ae}(h:its[i]? = some v):∃t,v=.int (ns.getD i 0) t:=by
 have hl:=r.length;rw[Ab]at hl;have hi:i<ns.length:=by have:=(Ak.mp h).1;lia
 obtain⟨u,a,ru⟩:=r.get (i:=i) (x:=.int ns[i]) (by rw[Av,Bf hi];rfl);rw[h]at a;cases a;obtain⟨t,e⟩:=ru;exact⟨t,by rw[e];congr 1;simp[List.getD,Bf hi]⟩
theorem U3(hc:X.calm=true):cQ X (.builtin "sum") (λxs H Q=>∃(p:Addr) (ns:List Int),xs=[.ref p]/\bI X.K H p (ns.map V.int)/\Q (.int ns.sum) H):=by
 intro c s k H xs us Q I r h;obtain⟨p,ns,rfl,j,q⟩:=h;obtain⟨u,rfl,ru⟩:=vals1 r;cases ru;obtain⟨its,d,pl,hz⟩:=I.list j;have a:p<s.heap.objs.size:=by obtain⟨_,e,_⟩:=pl.isList;exact Az e
 have hl:=d.length;rw[Ab]at hl;have f:X.A.in1.handled=none:=I.ok.hd hc;refine call_sum_walkG (Jl pl.isList ⟨s.heap.objs.size,[s.heap.objs.size,p],[s.heap.objs.size],its.toArray.size,(λi v=>its.toArray[i]? = some v),_,(λi=>ns.getD i 0),rfl,Walks.list (A:=X.A.in1) f s.heap.objs.size p (Bu a) its.toArray,
  ⟨⟨_,Au _ rfl,rfl,rfl⟩,pl.isList.push _⟩,?_,λi v g=>ints_get d (by simpa using g),λh' tk t' hk=>?_⟩)
 .intro b hb;rw[Ea];simp only[Bg,Gs,or_false]at hb;rcases hb with rfl|rfl
  .exact Fv _
  .exact Fg a
 .rw[preSum_getD,Ay,<-hl,Cm];refine⟨.int ns.sum,H,I.kept (t':=tk) λb o eb=>hk b o (λz=>?_) (Ah _ eb),⟨_,rfl⟩,q⟩;exact absurd (Az eb) (by rw[Ao.mp z];exact Ke _)
end
end L2
namespace L3
open PySem Spec PyProof.Rows L2
abbrev SV:=L2.St
inductive W where
 | non|bl (b:Bool)|int (i:Int)|str (x:Str)|ty (n:String)|tup (ws:List W)|rl (ws:List W)|sc (ws:List W)|ref (a:Addr)
 | dk (kvs:List (aF×W))|dt (kvs:List (List aF×W))|fk (kvs:List (aF×W))|ft (kvs:List (List aF×W))
inductive MO where
 | lst (ws:List W)|dK (kvs:List (aF×W))|dT (kvs:List (List aF×W))|fix (vs:List V)|ins (C dx:Addr) (fs:List (Str×W))
abbrev Mm:=Addr->Option MO
def put(M:Mm)(a:Addr)(o:MO):Mm:=λb=>if b=a then some o else M b
def del(M:Mm)(a:Addr):Mm:=λb=>if b=a then none else M b
theorem aP:put M a o a=some o:=by unfold put;rw[if_pos rfl]
theorem aN(h:b≠a):put M a o b=M b:=by unfold put;rw[if_neg h]
theorem gB:put (put M a o) a u=put M a u:=by
 funext b;unfold put;split<;>rfl
theorem mL(h:M a=none):del (put M a o) a=M:=by
 funext b;unfold del put;split
 .rename_i e;rw[e,h]
 .rfl
theorem oV:del M a a=none:=by unfold del;rw[if_pos rfl]
theorem nU(h:b≠a):del M a b=M b:=by unfold del;rw[if_neg h]
theorem U4(h:a≠b):put (put M a o) b u=put (put M b u) a o:=by
 funext c;unfold put
 by_cases e:c=b
 .by_cases d:c=a
  .exact absurd (d.symm.trans e) h
  .rw[if_pos e,if_neg d,if_pos e]
 .by_cases d:c=a
  .rw[if_neg e,if_pos d,if_pos d]
  .rw[if_neg e,if_neg d,if_neg d,if_neg e]
theorem U5(h:M a=some o):put M a o=M:=by
 funext b;unfold put;split
 .rename_i e;rw[e,h]
 .rfl
def Sub(M M':Mm):Prop:=∀a o,M a=some o->M' a=some o
theorem Sub.refl(M:Mm):Sub M M:=λ_ _ h=>h
theorem Sub.trans(a:Sub M M1)(b:Sub M1 M2):Sub M M2:=λc o h=>b c o (a c o h)
theorem Sub.new(h:M a=none):Sub M (put M a o):=λb u e=>by
 rw[aN (λz=>by rw[z,h]at e;cases e)];exact e
theorem Sub.put(h:Sub M M'):Sub (put M a o) (put M' a o):=λb u e=>by
 unfold L3.put at e⊢;split at e
 .rename_i z;rw[if_pos z];exact e
 .rename_i z;rw[if_neg z];exact h b u e
theorem Sub.del:Sub (del M a) M:=λb u e=>by
 unfold L3.del at e;split at e
 .cases e
 .exact e
theorem Sub.non(h:Sub M M')(e:M' a=none):M a=none:=by
 cases q:M a with
 | none=>rfl
 | some o=>rw[h a o q]at e;cases e
def lP(K:Ac)(H:Hp)(a:Addr)(xs:List V):Prop:=
 (∃o,H a=some (.frz o (.lst xs)))\/
  ∃(o:Obj) (its:Array Ae) (n:Nat),K.lookup a=some o/\o.cls=.type "list"/\o.dict=none/\o.data=.seq its n/\its.size<=An/\aT xs its.toList
theorem lP.sq{K:Ac}{H:Hp}{a:Addr}{xs:List V}(h:lP K H a xs):bI K H a xs:=by
 rcases h with⟨o,h⟩|h
 .exact .inl (.inr ⟨o,h⟩)
 .exact .inr h
mutual
inductive AV(K:Ac)(H:Hp)(M:Mm):V->W->Prop
 | non:AV K H M .non .non
 | bl (b:Bool):AV K H M (.bl b) (.bl b)
 | int (i:Int):AV K H M (.int i) (.int i)
 | str (x:Str):AV K H M (.str x) (.str x)
 | ty (n:String):AV K H M (.ty n) (.ty n)
 | tup {a:Addr} {xs:List V} {ws:List W}:H a=some (.tup xs)->aK K H M xs ws->AV K H M (.ref a) (.tup ws)
 | sc {a:Addr} {xs:List V} {ws:List W}:lP K H a xs->aK K H M xs ws->AV K H M (.ref a) (.sc ws)
 | rl {a:Addr} {xs:List V} {ws:List W}:H a=some (.lst xs)->M a=none->aK K H M xs ws->AV K H M (.ref a) (.rl ws)
 | ref (a:Addr):AV K H M (.ref a) (.ref a)
 | dk {a:Addr} {ks:List (aF×V)} {kvs:List (aF×W)}:H a=some (.dK ks)->M a=none->ks.map Fo=kvs.map Fo->aK K H M (ks.map Jz) (kvs.map Jz)->AV K H M (.ref a) (.dk kvs)
 | dt {a:Addr} {ks:List (List aF×V)} {kvs:List (List aF×W)}:H a=some (.dT ks)->M a=none->ks.map Fo=kvs.map Fo->aK K H M (ks.map Jz) (kvs.map Jz)->AV K H M (.ref a) (.dt kvs)
 | fk {a:Addr} {o:Obj} {ks:List (aF×V)} {kvs:List (aF×W)}:H a=some (.frz o (.dK ks))->ks.map Fo=kvs.map Fo->aK K H M (ks.map Jz) (kvs.map Jz)->AV K H M (.ref a) (.fk kvs)
 | ft {a:Addr} {o:Obj} {ks:List (List aF×V)} {kvs:List (List aF×W)}:H a=some (.frz o (.dT ks))->ks.map Fo=kvs.map Fo->aK K H M (ks.map Jz) (kvs.map Jz)->AV K H M (.ref a) (.ft kvs)
inductive aK(K:Ac)(H:Hp)(M:Mm):List V->List W->Prop
 | nil:aK K H M [] []
 | cons {v:V} {vs:List V} {w:W} {ws:List W}:AV K H M v w->aK K H M vs ws->aK K H M (v::vs) (w::ws)
end
abbrev bN(K:Ac)(H:Hp)(M:Mm)(U:Type):List (U×V)->List (U×W)->Prop:=Hr λp q=>p.1=q.1/\AV K H M p.2 q.2
theorem qT{K:Ac}{H:Hp}{M:Mm}{U:Type}:∀{ks:List (U×V)} {kvs:List (U×W)},ks.map Fo=kvs.map Fo->aK K H M (ks.map Jz) (kvs.map Jz)->bN K H M U ks kvs
 | [],[],_,_=>.nil
 | [],_::_,e,_=>by simp at e
 | _::_,[],e,_=>by simp at e
 | p::ps,q::qs,e,h=>by
  rw[Aw,Aw]at e h;rw[El]at e;cases h with
  | cons x r=>exact .cons ⟨e.1,x⟩ (qT e.2 r)
theorem bN.keys{K:Ac}{H:Hp}{M:Mm}{U:Type}{ks:List (U×V)}{kvs:List (U×W)}(h:bN K H M U ks kvs):ks.map Fo=kvs.map Fo:=by
 induction h with
 | nil=>rfl
 | cons r _ a=>rw[Aw,Aw,a,r.1]
theorem bN.vals{K:Ac}{H:Hp}{M:Mm}{U:Type}{ks:List (U×V)}{kvs:List (U×W)}(h:bN K H M U ks kvs):aK K H M (ks.map Jz) (kvs.map Jz):=by
 induction h with
 | nil=>exact .nil
 | cons r _ a=>exact .cons r.2 a
def AO(K:Ac)(H:Hp)(M:Mm)(a:Addr):MO->Prop
 | .lst ws=>∃vs,H a=some (.lst vs)/\aK K H M vs ws
 | .dK kvs=>∃ks,H a=some (.dK ks)/\bN K H M aF ks kvs
 | .dT kvs=>∃ks,H a=some (.dT ks)/\bN K H M (List aF) ks kvs
 | .fix vs=>H a=some (.lst vs)
 | .ins C c fs=>∃b,H a=some (.ins C c b)/\bN K H M Str b fs
def AM(K:Ac)(H:Hp)(M:Mm):Prop:=∀a o,M a=some o->AO K H M a o
structure Kp(H:Hp)(M:Mm)(H':Hp)(M':Mm):Prop where
 fr:∀a o,M a=none->H a=some o->H' a=some o/\M' a=none
 dom:∀a o,M a=some o->∃u,H' a=some u
structure Go(H:Hp)(M:Mm)(H':Hp)(M':Mm):Prop where
 ht:∀b xs,H b=some (.tup xs)->H' b=some (.tup xs)
 hf:∀b o u,H b=some (.frz o u)->H' b=some (.frz o u)
 hl:∀b o,M b=none->H b=some o->H' b=some o/\M' b=none
section
variable {K:Ac}{H H' H1 H2:Hp}{M M' M1 M2:Mm}{a:Addr}
theorem AO.has(h:AO K H M a o):∃u,H a=some u:=by
 cases o with
 | lst ws=>obtain⟨vs,e,_⟩:=h;exact⟨_,e⟩
 | dK kvs=>obtain⟨ks,e,_⟩:=h;exact⟨_,e⟩
 | dT kvs=>obtain⟨ks,e,_⟩:=h;exact⟨_,e⟩
 | fix vs=>exact⟨_,h⟩
 | ins C dx fs=>obtain⟨gs,e,_⟩:=h;exact⟨_,e⟩
theorem AM.nonM(b:AM K H M)(h:H a=none):M a=none:=by
 cases q:M a with
 | none=>rfl
 | some o=>obtain⟨u,e⟩:=(b a o q).has;rw[h]at e;cases e
theorem AM.noTup(am:AM K H M)(h:H a=some (.tup xs)):M a=none:=by
 cases q:M a with
 | none=>rfl
 | some o=>
  have:=am a o q;cases o with
  | lst ws=>obtain⟨vs,e,_⟩:=this;rw[h]at e;cases e
  | dK kvs=>obtain⟨ks,e,_⟩:=this;rw[h]at e;cases e
  | dT kvs=>obtain⟨ks,e,_⟩:=this;rw[h]at e;cases e
  | fix vs=>have e:H a=some (.lst vs):=this;rw[h]at e;cases e
  | ins C dx fs=>obtain⟨gs,e,_⟩:=this;rw[h]at e;cases e
theorem AM.noFrz(am:AM K H M)(h:H a=some (.frz ob u)):M a=none:=by
 cases q:M a with
 | none=>rfl
 | some o=>
  have:=am a o q;cases o with
  | lst ws=>obtain⟨vs,e,_⟩:=this;rw[h]at e;cases e
  | dK kvs=>obtain⟨ks,e,_⟩:=this;rw[h]at e;cases e
  | dT kvs=>obtain⟨ks,e,_⟩:=this;rw[h]at e;cases e
  | fix vs=>have e:H a=some (.lst vs):=this;rw[h]at e;cases e
  | ins C dx fs=>obtain⟨gs,e,_⟩:=this;rw[h]at e;cases e
theorem Kp.refl(b:AM K H M):Kp H M H M:=⟨λa o h e=>⟨e,h⟩,λa o h=>(b a o h).has⟩
theorem Kp.trans(x:Kp H M H1 M1)(y:Kp H1 M1 H2 M2):Kp H M H2 M2 where
 fr:=λa o h e=>by
  obtain⟨b,c⟩:=x.fr a o h e;exact y.fr a o c b
 dom:=λa o h=>by
  obtain⟨u,e⟩:=x.dom a o h;cases q:M1 a with
  | none=>exact⟨u,(y.fr a u q e).1⟩
  | some d=>exact y.dom a d q
theorem Kp.sub(x:Kp H M H1 M1)(h:Sub M2 M1):Kp H M H1 M2 where
 fr:=λa o n e=>⟨(x.fr a o n e).1,h.non (x.fr a o n e).2⟩
 dom:=x.dom
theorem Kp.go(a:AM K H M)(k:Kp H M H' M'):Go H M H' M':=⟨λb xs e=>(k.fr b _ (a.noTup e) e).1,λb o u e=>(k.fr b _ (a.noFrz e) e).1,k.fr⟩
theorem Go.sub(h:Sub M' M):Go H M H M':=⟨λ_ _ e=>e,λ_ _ _ e=>e,λb o n e=>⟨e,h.non n⟩⟩
theorem AV.go(g:Go H M H' M')(h:AV K H M v w):AV K H' M' v w:=AV.rec (motive_1:=λv w _=>AV K H' M' v w) (motive_2:=λvs ws _=>aK K H' M' vs ws) .non .bl .int .str .ty (λe _ q=>.tup (g.ht _ _ e) q) (λe _ q=>.sc (e.elim (λz=>.inl (z.elim λo q=>⟨o,g.hf _ _ _ q⟩)) .inr) q) (λe n _ q=>.rl (g.hl _ _ n e).1 (g.hl _ _ n e).2 q) .ref
  (λe n a _ q=>.dk (g.hl _ _ n e).1 (g.hl _ _ n e).2 a q) (λe n a _ q=>.dt (g.hl _ _ n e).1 (g.hl _ _ n e).2 a q) (λe a _ q=>.fk (g.hf _ _ _ e) a q) (λe a _ q=>.ft (g.hf _ _ _ e) a q) .nil (λ_ _ x r=>.cons x r) h
theorem aK.go(g:Go H M H' M')(h:aK K H M vs ws):aK K H' M' vs ws:=aK.rec (motive_1:=λv w _=>AV K H' M' v w) (motive_2:=λvs ws _=>aK K H' M' vs ws) .non .bl .int .str .ty (λe _ q=>.tup (g.ht _ _ e) q) (λe _ q=>.sc (e.elim (λz=>.inl (z.elim λo q=>⟨o,g.hf _ _ _ q⟩)) .inr) q) (λe n _ q=>.rl (g.hl _ _ n e).1 (g.hl _ _ n e).2 q) .ref
  (λe n a _ q=>.dk (g.hl _ _ n e).1 (g.hl _ _ n e).2 a q) (λe n a _ q=>.dt (g.hl _ _ n e).1 (g.hl _ _ n e).2 a q) (λe a _ q=>.fk (g.hf _ _ _ e) a q) (λe a _ q=>.ft (g.hf _ _ _ e) a q) .nil (λ_ _ x r=>.cons x r) h
theorem bN.go{U:Type}{ks:List (U×V)}{kvs:List (U×W)}(g:Go H M H' M')(h:bN K H M U ks kvs):bN K H' M' U ks kvs:=Paired.mapP h λp q z=>⟨z.1,z.2.go g⟩
theorem AO.go{o:MO}(g:Go H M H' M')(e:H' a=H a)(h:AO K H M a o):AO K H' M' a o:=by
 cases o with
 | lst ws=>obtain⟨vs,e1,r⟩:=h;exact⟨vs,by rw[e];exact e1,r.go g⟩
 | dK kvs=>obtain⟨vs,e1,r⟩:=h;exact⟨vs,by rw[e];exact e1,r.go g⟩
 | dT kvs=>obtain⟨vs,e1,r⟩:=h;exact⟨vs,by rw[e];exact e1,r.go g⟩
 | fix vs=>exact e.trans h
 | ins C dx fs=>obtain⟨gs,e1,r⟩:=h;exact⟨gs,by rw[e];exact e1,r.go g⟩
theorem AM.sub(b:AM K H M')(h:Sub M M'):AM K H M:=λa o e=>(b a o (h a o e)).go (Go.sub h) rfl
theorem AV.sub(h:Sub M' M)(x:AV K H M v w):AV K H M' v w:=x.go (Go.sub h)
theorem aK.sub(h:Sub M' M)(x:aK K H M v w):aK K H M' v w:=x.go (Go.sub h)
theorem AV.kp(a:AM K H M)(k:Kp H M H' M')(h:AV K H M v w):AV K H' M' v w:=h.go (k.go a)
theorem aK.kp(a:AM K H M)(k:Kp H M H' M')(h:aK K H M vs ws):aK K H' M' vs ws:=h.go (k.go a)
theorem aK.length:∀{vs:List V} {ws:List W},aK K H M vs ws->vs.length=ws.length
 | _,_,.nil=>rfl
 | _,_,.cons _ r=>by simp[aK.length r]
theorem aK.append:∀{vs us:List V} {ws a:List W},aK K H M vs ws->aK K H M us a->aK K H M (vs++us) (ws++a)
 | _,_,_,_,.nil,s=>s
 | _,_,_,_,.cons x r,s=>.cons x (aK.append r s)
theorem aK.getW:∀{vs:List V} {ws:List W} {i:Nat} {w:W},aK K H M vs ws->ws[i]? = some w->∃v,vs[i]? = some v/\AV K H M v w
 | _,_,_,_,.nil,e=>by simp at e
 | _,_,0,_,.cons x _,e=>by simp at e;subst e;exact⟨_,rfl,x⟩
 | _,_,i+1,w,.cons _ r,e=>by
  obtain⟨v,b,a⟩:=aK.getW (i:=i) (w:=w) r (by simpa using e);exact⟨v,by simpa using b,a⟩
theorem aK.getV:∀{vs:List V} {ws:List W} {i:Nat} {v:V},aK K H M vs ws->vs[i]? = some v->∃w,ws[i]? = some w/\AV K H M v w
 | _,_,_,_,.nil,e=>by simp at e
 | _,_,0,_,.cons x _,e=>by simp at e;subst e;exact⟨_,rfl,x⟩
 | _,_,i+1,v,.cons _ r,e=>by
  obtain⟨w,b,a⟩:=aK.getV (i:=i) (v:=v) r (by simpa using e);exact⟨w,by simpa using b,a⟩
theorem aK.set(x:AV K H M v w):∀{vs:List V} {ws:List W} (i:Nat),aK K H M vs ws->aK K H M (vs.set i v) (ws.set i w)
 | _,_,_,.nil=>.nil
 | _,_,0,.cons _ t=>.cons x t
 | _,_,i+1,.cons q t=>.cons q (aK.set x i t)
theorem aK.take:∀{vs:List V} {ws:List W} (n:Nat),aK K H M vs ws->aK K H M (vs.take n) (ws.take n)
 | _,_,0,_=>by simp;exact .nil
 | _,_,_+1,.nil=>.nil
 | _,_,n+1,.cons x t=>.cons x (aK.take n t)
theorem aK.drop:∀{vs:List V} {ws:List W} (n:Nat),aK K H M vs ws->aK K H M (vs.drop n) (ws.drop n)
 | _,_,0,h=>h
 | _,_,_+1,.nil=>.nil
 | _,_,n+1,.cons _ t=>aK.drop n t
theorem aK.reverse(h:aK K H M vs ws):aK K H M vs.reverse ws.reverse:=by
 induction vs generalizing ws with
 | nil=>cases h;exact .nil
 | cons v vs a=>
  cases h with
  | cons x r=>rw[Gx,Gx];exact(a r).append (.cons x .nil)
theorem aK.dropLast(h:aK K H M vs ws):aK K H M vs.dropLast ws.dropLast:=by
 rw[List.dropLast_eq_take,List.dropLast_eq_take,h.length];exact h.take _
theorem aK.flatRep(h:aK K H M vs ws):∀n:Nat,aK K H M (Cf n vs).flatten (Cf n ws).flatten
 | 0=>.nil
 | n+1=>by
  rw[Hd,Hd,Ht,Ht];exact h.append (aK.flatRep h n)
theorem aK.int(a:List Int):aK K H M (a.map V.int) (a.map W.int):=by
 induction a with
 | nil=>exact .nil
 | cons i r b=>exact .cons (.int i) b
theorem E1(a:H p=none)(c:∀b,b≠p->M b=none->M' b=none):Go H M (aR H p u) M':=
 ⟨λb xs e=>by rw[bF (fH e a)];exact e,λb o x e=>by rw[bF (fH e a)];exact e,λb o n e=>⟨by rw[bF (fH e a)];exact e,c b (fH e a) n⟩⟩
theorem E2(a:H p=none):Go H M (aR H p u) (put M p o):=E1 a λb ne n=>by rw[aN ne];exact n
theorem go_same(a:H p=none):Go H M (aR H p u) M:=E1 a λb ne n=>n
theorem AM.laid(c:AM K H M)(b:H p=none)(h:AO K (aR H p u) (put M p o) p o):AM K (aR H p u) (put M p o)/\Kp H M (aR H p u) (put M p o):=by
 refine⟨λa x e=>?_,λa x h e=>⟨?_,?_⟩,λa x h=>?_⟩
 .by_cases ha:a=p
  .subst ha;rw[aP]at e;cases e;exact h
  .rw[aN ha]at e;exact(c a x e).go (E2 b) (bF ha)
 .rw[bF (fH e b)];exact e
 .rw[aN (fH e b)];exact h
 .obtain⟨y,e⟩:=(c a x h).has;exact⟨y,by rw[bF (fH e b)];exact e⟩
theorem E4:Go H (put M p o) H (put M p u):=⟨λ_ _ e=>e,λ_ _ _ e=>e,λb x n e=>⟨e,by
 have ne:b≠p:=λz=>by rw[z,aP]at n;cases n
 rw[aN ne]at n⊢;exact n⟩⟩
theorem AM.tup{p:Addr}{u:HO}(c:AM K H M)(b:H p=none):AM K (aR H p u) M/\Kp H M (aR H p u) M:=by
 refine⟨λa x e=>?_,λa x h e=>⟨?_,h⟩,λa x h=>?_⟩
 .have ne:a≠p:=λz=>by rw[z,c.nonM b]at e;cases e
  exact(c a x e).go (go_same b) (bF ne)
 .rw[bF (fH e b)];exact e
 .obtain⟨y,e⟩:=(c a x h).has;exact⟨y,by rw[bF (fH e b)];exact e⟩
theorem oW(a:AM K H M)(hl:M l=some c):Go H M (aR H l u) (put M l o):=
 ⟨λb xs e=>by rw[bF (λz=>by rw[<-z,a.noTup e]at hl;cases hl)];exact e,λb ob x e=>by rw[bF (λz=>by rw[<-z,a.noFrz e]at hl;cases hl)];exact e,
   λb x n e=>by
  have ne:b≠l:=λz=>by rw[<-z,n]at hl;cases hl
  rw[bF ne,aN ne];exact⟨e,n⟩⟩
theorem AM.write(b:AM K H M)(hl:M l=some c)(h:AO K (aR H l u) (put M l o) l o):AM K (aR H l u) (put M l o)/\Kp H M (aR H l u) (put M l o):=by
 refine⟨λa x e=>?_,λa x h e=>?_,λa x h=>?_⟩
 .by_cases ha:a=l
  .subst ha;rw[aP]at e;cases e;exact h
  .rw[aN ha]at e;exact(b a x e).go (oW b hl) (bF ha)
 .have:a≠l:=λz=>by rw[z,hl]at h;cases h
  rw[bF this,aN this];exact⟨e,h⟩
 .by_cases ha:a=l
  .subst ha;exact⟨u,dO⟩
  .obtain⟨y,e⟩:=(b a x h).has;exact⟨y,by rw[bF ha];exact e⟩
theorem AM.lst(b:AM K H M){ws:List W}(h:M a=some (.lst ws)):∃vs,H a=some (.lst vs)/\aK K H M vs ws:=b a _ h
theorem aK.newT(a:H p=none)(h:aK K H M vs ws):aK K (aR H p u) M vs ws:=h.go (go_same a)
theorem aK.newL(a:H p=none)(h:aK K H M vs ws):aK K (aR H p u) (put M p o) vs ws:=h.go (E2 a)
theorem aK.wr{l:Addr}{a o:MO}{u:HO}{vs:List V}{ws:List W}(b:AM K H M)(hl:M l=some a)(h:aK K H M vs ws):aK K (aR H l u) (put M l o) vs ws:=h.go (oW b hl)
theorem AV.wr{l:Addr}{a o:MO}{u:HO}{v:V}{w:W}(b:AM K H M)(hl:M l=some a)(h:AV K H M v w):AV K (aR H l u) (put M l o) v w:=h.go (oW b hl)
end
abbrev S3:=List (Option W)
abbrev K3:=W->Mm->Prop
abbrev aX:=S3->Mm->K3->Prop
abbrev dP:=S3->Mm->(Bool->Mm->Prop)->Prop
abbrev d3:=S3->Mm->(List W->Mm->Prop)->Prop
abbrev R3:=W->W->Mm->K3->Prop
structure D3 where
 nx:S3->Mm->Prop
 rt:K3
 bk:S3->Mm->Prop:=λ_ _=>False
 ct:S3->Mm->Prop:=λ_ _=>False
abbrev aI:=D3->S3->Mm->Prop
def AS(K:Ac)(H:Hp)(M:Mm):SV->S3->Prop:=Hr λb a=>∀w,a=some w->∃v,b=some v/\AV K H M v w
section
variable {K:Ac}{H H':Hp}{M M':Mm}
theorem AS.kp(d:AM K H M)(k:Kp H M H' M')(h:AS K H M a b):AS K H' M' a b:=
 Paired.mapP h λf g z w e=>by obtain⟨v,c,r⟩:=z w e;exact⟨v,c,r.kp d k⟩
theorem AS.sub(g:Sub M' M)(h:AS K H M a b):AS K H M' a b:=
 Paired.mapP h λd f z w e=>by obtain⟨v,c,r⟩:=z w e;exact⟨v,c,r.sub g⟩
theorem AS.get:∀{d:SV} {c:S3} {i:Nat},AS K H M d c->c[i]? = some (some w)->∃v,d[i]? = some (some v)/\AV K H M v w
 | _,_,_,.nil,e=>by simp at e
 | _,_,0,.cons r _,e=>by
  simp at e;obtain⟨v,b,a⟩:=r w e;exact⟨v,by rw[b];rfl,a⟩
 | _,_,i+1,.cons _ t,e=>by
  obtain⟨v,b,a⟩:=AS.get (i:=i) t (by simpa using e);exact⟨v,by simpa using b,a⟩
theorem AS.set(r:AV K H M v w):∀{b:SV} {a:S3} (i:Nat),AS K H M b a->AS K H M (b.set i (some v)) (a.set i (some w))
 | _,_,_,.nil=>.nil
 | _,_,0,.cons _ t=>.cons (λx e=>⟨v,rfl,by cases e;exact r⟩) t
 | _,_,i+1,.cons q t=>.cons q (AS.set r i t)
theorem AS.nones:∀n:Nat,AS K H M (Cf n none) (Cf n none)
 | 0=>.nil
 | n+1=>.cons (λ_ e=>nomatch e) (AS.nones n)
theorem AS.start{vs:List V}{ws:List W}(h:aK K H M vs ws)(n:Nat):AS K H M (vs.map some++Cf n none) (ws.map some++Cf n none):=by
 induction vs generalizing ws with
 | nil=>cases h;exact AS.nones n
 | cons v vs a=>
  cases h with
  | cons x r=>exact .cons (λw e=>⟨v,rfl,by cases e;exact x⟩) (a r)
end
def Up(K:Ac)(H:Hp)(M:Mm)(R:K3)(Q:VK):Prop:=∀v H' w M',Kp H M H' M'->AM K H' M'->AV K H' M' v w->R w M'->Q v H'
def up(K:Ac)(t:aX):TE:=λb H Q=>∃a M R,AS K H M b a/\AM K H M/\t a M R/\Up K H M R Q
def jF(K:Ac)(t:dP):TT:=λc H Q=>∃(a:S3) (M:Mm) (R:Bool->Mm->Prop),AS K H M c a/\AM K H M/\t a M R/\∀b H' M',Kp H M H' M'->AM K H' M'->R b M'->Q b H'
def oX(K:Ac)(t:d3):TA:=λb H Q=>∃(a:S3) (M:Mm) (R:List W->Mm->Prop),AS K H M b a/\AM K H M/\t a M R/\∀vs H' ws M',Kp H M H' M'->AM K H' M'->aK K H' M' vs ws->R ws M'->Q vs H'
def iN(K:Ac)(H:Hp)(M:Mm)(R:S3->Mm->Prop)(Q:SV->Hp->Prop):Prop:=∀b H' a M',Kp H M H' M'->AM K H' M'->AS K H' M' b a->R a M'->Q b H'
structure qU(K:Ac)(H:Hp)(M:Mm)(D:D3)(E:lM):Prop where
 nx:iN K H M D.nx E.nx
 rt:Up K H M D.rt E.rt
 bk:iN K H M D.bk E.bk
 ct:iN K H M D.ct E.ct
def qV(K:Ac)(t:aI):TS:=λE b H=>∃a M D,AS K H M b a/\AM K H M/\t D a M/\qU K H M D E
section
variable {K:Ac}{H H1:Hp}{M M1:Mm}
theorem Up.kp(h:Up K H M R Q)(k:Kp H M H1 M1):Up K H1 M1 R Q:=λv H' w M' a c b r=>h v H' w M' (k.trans a) c b r
theorem iN.kp{R:S3->Mm->Prop}{Q:SV->Hp->Prop}(h:iN K H M R Q)(k:Kp H M H1 M1):iN K H1 M1 R Q:=λv H' w M' a c b r=>h v H' w M' (k.trans a) c b r
theorem qU.kp(h:qU K H M D E)(k:Kp H M H1 M1):qU K H1 M1 D E:=⟨h.nx.kp k,h.rt.kp k,h.bk.kp k,h.ct.kp k⟩
theorem Up.at(h:Up K H M R Q)(a:AM K H M)(b:AV K H M v w)(r:R w M):Q v H:=h v H w M (Kp.refl a) a b r
end
def frz:W->Mm->K3->Prop
 | .ref p,M,R=>(∃ws,M p=some (.lst ws)/\R (.rl ws) (del M p))\/(∃kvs,M p=some (.dK kvs)/\R (.dk kvs) (del M p))\/(∃kvs,M p=some (.dT kvs)/\R (.dt kvs) (del M p))\/R (.ref p) M
 | w,M,R=>R w M
theorem Up.frz{K:Ac}{H:Hp}{M:Mm}{R:K3}{Q:VK}(h:Up K H M R Q):Up K H M (λw M'=>frz w M' R) Q:=λv H' w M' k a c r=>by
 have b:=c;cases c<;>first|exact h _ _ _ _ k a b r|skip
 case ref p=>
  rcases r with⟨ws,e,r⟩|⟨kvs,e,r⟩|⟨kvs,e,r⟩|r
  .obtain⟨vs,f,q⟩:=a.lst e;exact h _ _ _ _ (k.sub Sub.del) (a.sub Sub.del) (.rl f oV (q.sub Sub.del)) r
  .obtain⟨ks,f,q⟩:=a _ _ e;exact h _ _ _ _ (k.sub Sub.del) (a.sub Sub.del) (.dk f oV q.keys (q.vals.sub Sub.del)) r
  .obtain⟨ks,f,q⟩:=a _ _ e;exact h _ _ _ _ (k.sub Sub.del) (a.sub Sub.del) (.dt f oV q.keys (q.vals.sub Sub.del)) r
  .exact h _ _ _ _ k a (.ref p) r
theorem U6(a:M p=none)(r:R (.rl ws) M):frz (.ref p) (put M p (.lst ws)) R:=.inl ⟨ws,aP,by rw[mL a];exact r⟩
theorem E5(a:M p=none)(r:R (.dk kvs) M):frz (.ref p) (put M p (.dK kvs)) R:=.inr (.inl ⟨kvs,aP,by rw[mL a];exact r⟩)
theorem U7(a:M p=none)(r:R (.dt kvs) M):frz (.ref p) (put M p (.dT kvs)) R:=.inr (.inr (.inl ⟨kvs,aP,by rw[mL a];exact r⟩))
def a9(ws:List W)(M:Mm)(R:K3):Prop:=∀p,M p=none->R (.ref p) (put M p (.lst ws))
def oY(kvs:List (aF×W))(M:Mm)(R:K3):Prop:=∀p,M p=none->R (.ref p) (put M p (.dK kvs))
def kU(kvs:List (List aF×W))(M:Mm)(R:K3):Prop:=∀p,M p=none->R (.ref p) (put M p (.dT kvs))
theorem a9.frz{M:Mm}{ws:List W}{R:K3}(r:R (.rl ws) M):a9 ws M λw M'=>L3.frz w M' R:=λp a=>U6 a r
theorem oY.frz{M:Mm}{kvs:List (aF×W)}{R:K3}(r:R (.dk kvs) M):oY kvs M λw M'=>L3.frz w M' R:=λp a=>E5 a r
theorem kU.frz{M:Mm}{kvs:List (List aF×W)}{R:K3}(r:R (.dt kvs) M):kU kvs M λw M'=>L3.frz w M' R:=λp a=>U7 a r
def cB(t:aX):aX:=λa M R=>t a M λw M'=>frz w M' R
def U8(K:Ac)(H:Hp)(M:Mm)(v:V):W->Prop
 | .non=>v=.non
 | .bl b=>v=.bl b
 | .int i=>v=.int i
 | .str x=>v=.str x
 | .ty n=>v=.ty n
 | .tup ws=>∃a xs,v=.ref a/\H a=some (.tup xs)/\aK K H M xs ws
 | .sc ws=>∃a xs,v=.ref a/\lP K H a xs/\aK K H M xs ws
 | .rl ws=>∃a xs,v=.ref a/\H a=some (.lst xs)/\M a=none/\aK K H M xs ws
 | .ref a=>v=.ref a
 | .dk kvs=>∃a ks,v=.ref a/\H a=some (.dK ks)/\M a=none/\bN K H M aF ks kvs
 | .dt kvs=>∃a ks,v=.ref a/\H a=some (.dT ks)/\M a=none/\bN K H M (List aF) ks kvs
 | .fk kvs=>∃a ks,v=.ref a/\(∃o,H a=some (.frz o (.dK ks)))/\bN K H M aF ks kvs
 | .ft kvs=>∃a ks,v=.ref a/\(∃o,H a=some (.frz o (.dT ks)))/\bN K H M (List aF) ks kvs
section
variable {K:Ac}{H:Hp}{M:Mm}{v:V}{vs:List V}{w:W}{ws:List W}{C:Prop}
theorem AV.inv(h:AV K H M v w):U8 K H M v w:=by
 cases h
 case non|bl|int|str|ty|ref=>rfl
 case tup|sc=>rename_i e q;exact⟨_,_,rfl,e,q⟩
 case rl=>rename_i e n q;exact⟨_,_,rfl,e,n,q⟩
 case dk|dt=>rename_i e n z q;exact⟨_,_,rfl,e,n,qT z q⟩
 case fk|ft=>rename_i e z q;exact⟨_,_,rfl,⟨_,e⟩,qT z q⟩
theorem AV.tupE(h:AV K H M v (.tup ws))(c:∀a xs,v=.ref a->H a=some (.tup xs)->aK K H M xs ws->C):C:=
 let ⟨a,xs,e,f,q⟩:=h.inv;c a xs e f q
theorem AV.scE(h:AV K H M v (.sc ws))(c:∀a xs,v=.ref a->lP K H a xs->aK K H M xs ws->C):C:=
 let ⟨a,xs,e,f,q⟩:=h.inv;c a xs e f q
theorem AV.rlE(h:AV K H M v (.rl ws))(c:∀a xs,v=.ref a->H a=some (.lst xs)->aK K H M xs ws->C):C:=
 let ⟨a,xs,e,f,_,q⟩:=h.inv;c a xs e f q
theorem aK.nil_(h:aK K H M vs []):vs=[]:=by cases h;rfl
theorem aK.one(h:aK K H M vs [w]):∃v,vs=[v]/\AV K H M v w:=by
 cases h with
 | cons x r=>rw[r.nil_];exact⟨_,rfl,x⟩
theorem aK.oneE(h:aK K H M vs [w])(c:∀v,vs=[v]->AV K H M v w->C):C:=h.one.elim λv h=>c v h.1 h.2
theorem aK.two(h:aK K H M vs [w,z]):∃v u,vs=[v,u]/\AV K H M v w/\AV K H M u z:=by
 cases h with
 | cons x r=>obtain⟨u,rfl,y⟩:=r.one;exact⟨_,_,rfl,x,y⟩
theorem AM.lstE(b:AM K H M)(e:M a=some (.lst ws))(c:∀xs,H a=some (.lst xs)->aK K H M xs ws->C):C:=(b.lst e).elim λv h=>c v h.1 h.2
theorem iO(e:vs=[x])(f:x=y):vs=[y]:=by rw[e,f]
end
theorem up.el{K:Ac}{H:Hp}{Z:SV}{C:Prop}{t:aX}{Q:VK}(h:up K t Z H Q)(c:∀d M R,AS K H M Z d->AM K H M->t d M R->Up K H M R Q->C):C:=by obtain⟨d,M,R,a,b,h,k⟩:=h;exact c d M R a b h k
theorem jF.el{K:Ac}{H:Hp}{Z:SV}{C:Prop}{t:dP}{Q:Bool->Hp->Prop}(h:jF K t Z H Q)(c:∀d M R,AS K H M Z d->AM K H M->t d M R->(∀b e f,Kp H M e f->AM K e f->R b f->Q b e)->C):C:=by obtain⟨d,M,R,a,b,h,k⟩:=h;exact c d M R a b h k
theorem oX.el{K:Ac}{H:Hp}{Z:SV}{C:Prop}{t:d3}{Q:List V->Hp->Prop}(h:oX K t Z H Q)(c:∀d M R,AS K H M Z d->AM K H M->t d M R->(∀vs e ws f,Kp H M e f->AM K e f->aK K e f vs ws->R ws f->Q vs e)->C):C:=by obtain⟨d,M,R,a,b,h,k⟩:=h;exact c d M R a b h k
theorem qV.el{K:Ac}{H:Hp}{Z:SV}{C:Prop}{t:aI}{E:lM}(h:qV K t E Z H)(c:∀d M D,AS K H M Z d->AM K H M->t D d M->qU K H M D E->C):C:=by obtain⟨d,M,D,a,b,h,k⟩:=h;exact c d M D a b h k
end L3
namespace L2
section
variable {X:Cx}
theorem PE.weak(h:PE X e t)(k:∀Z H Q,t' Z H Q->t Z H Q):PE X e t':=λpins s Z H Q I q=>h pins s Z H Q I (k Z H Q q)
theorem PT.weak(h:PT X e t)(k:∀Z H Q,t' Z H Q->t Z H Q):PT X e t':=λpins s Z H Q I q=>h pins s Z H Q I (k Z H Q q)
theorem PW.weak(h:PW X e t)(k:∀Z H Q,t' Z H Q->t Z H Q):PW X e t':=λa pins s Z H Q I q=>h a pins s Z H Q I (k Z H Q q)
theorem PA.weak(h:PA X es t)(k:∀Z H Q,t' Z H Q->t Z H Q):PA X es t':=λpos pins s Z H Q I q=>h pos pins s Z H Q I (k Z H Q q)
theorem PS.weak(h:PS X st t)(k:∀D Z H,t' D Z H->t D Z H):PS X st t':=λpins s Z H D I q=>h pins s Z H D I (k D Z H q)
theorem f7.weak(h:f7 X st t)(k:∀D Z H,t' D Z H->t D Z H):f7 X st t':=λpins s Z H D I q=>h pins s Z H D I (k D Z H q)
theorem PO.weak(h:PO X e t)(k:∀Z H Q,t' Z H Q->t Z H Q):PO X e t':=λpins s Z H Q I q=>h pins s Z H Q I (k Z H Q q)
theorem iE.weak(h:iE X es t)(k:∀Z H Q,t' Z H Q->t Z H Q):iE X es t':=λpins s Z H Q I q=>h pins s Z H Q I (k Z H Q q)
end
end L2
namespace L3
open PySem Spec PyProof.Rows L2
abbrev E3(X:Cx)(e:Expr)(t:aX):Prop:=PE X e (up X.K t)
abbrev T3(X:Cx)(e:Expr)(t:dP):Prop:=PT X e (jF X.K t)
abbrev W3(X:Cx)(e:Expr)(t:dP):Prop:=PW X e (jF X.K t)
abbrev A3(X:Cx)(es:List Expr)(t:d3):Prop:=PA X es (oX X.K t)
def dB(K:Ac)(r:R3):R2:=λx y H Q=>∃b a M R,AM K H M/\AV K H M x b/\AV K H M y a/\r b a M R/\Up K H M R Q
def E6(K:Ac)(r:W->Mm->K3->Prop):V->Hp->VK->Prop:=λx H Q=>∃a M R,AM K H M/\AV K H M x a/\r a M R/\Up K H M R Q
def gC(K:Ac)(r:List W->Mm->K3->Prop):List V->Hp->VK->Prop:=λxs H Q=>∃ws M R,AM K H M/\aK K H M xs ws/\r ws M R/\Up K H M R Q
def kW(K:Ac)(r:W->List W->Mm->K3->Prop):V->List V->Hp->VK->Prop:=λx xs H Q=>∃a ws M R,AM K H M/\AV K H M x a/\aK K H M xs ws/\r a ws M R/\Up K H M R Q
section
variable {X:Cx}{a b c:Expr}{ta tb tc:aX}{pos:Pos}
def aA(i:Nat):aX:=λa M R=>∃w,a[i]? = some (some w)/\R w M
def vC(w:W):aX:=λ_ M R=>R w M
theorem v(i:Nat)(d:X.N[i]? = some x:=by rfl)(f:sU X.env.scope x:=by first|exact Or.inl rfl|exact Or.inr (Or.inl rfl)|exact Or.inr (Or.inr rfl))(hd:(x==("__debug__" : Str))=false:=by decide)(a:(x==("__classdict__" : Str))=false:=by decide):E3 X (.Name x pos) (aA i):=(C5 d f hd a).weak λZ H Q ⟨h,M,R,as,c,⟨w,e,r⟩,k⟩=>by
 obtain⟨v,b,g⟩:=as.get e;exact⟨v,b,k.at c g r⟩
theorem aQ{i j pos}:E3 X (.Constant (.int i) j pos) (vC (.int i)):=N5.weak λZ H Q b=>b.el λc M R as a r k=>k.at a (.int i) r
theorem j8{b j pos}:E3 X (.Constant (.bool b) j pos) (vC (.bl b)):=N6.weak λZ H Q c=>c.el λd M R as a r k=>k.at a (.bl b) r
theorem nV{j pos}:E3 X (.Constant .none j pos) (vC .non):=N7.weak λZ H Q b=>b.el λc M R as a r k=>k.at a .non r
theorem iP{x j pos}:E3 X (.Constant (.str x) j pos) (vC (.str x)):=N8.weak λZ H Q b=>b.el λc M R as a r k=>k.at a (.str x) r
theorem U9{x:Str}{y:V}{w:W}{u:Ae}{pos:Pos}(b:Gl X x)(c:X.mg x=some u)(r:RelV y u)(hw:∀H M,AV X.K H M y w)(hd:(x==("__debug__" : Str))=false:=by decide):E3 X (.Name x pos) (vC w):=
 (N9 b c r hd).weak λZ H Q a=>a.el λe M R as d r k=>k.at d (hw H M) r
theorem E7{x:Str}{y:V}{w:W}{u:Ae}{pos:Pos}(b:Gl X x)(c:X.mg x=none)(e:Dc x=some u)(r:RelV y u)(hw:∀H M,AV X.K H M y w)(f:x≠"__name__":=by decide)(hd:(x==("__debug__" : Str))=false:=by decide):E3 X (.Name x pos) (vC w):=
 (OA b c e r f hd).weak λZ H Q a=>a.el λg M R as d r k=>k.at d (hw H M) r
theorem dX(ha:E3 X a ta):E3 X a (cB ta):=ha.weak λZ H Q c=>c.el λd M R as b h k=>⟨d,M,_,as,b,h,k.frz⟩
def aH(r:R3)(ta tb:aX):aX:=λa M R=>ta a M λx b=>tb a b λy c=>r x y c R
theorem tP{K:Ac}{r:R3}{Z:SV}{H:Hp}{Q:VK}(h:up K (aH r ta tb) Z H Q):qL (dB K r) (up K ta) (up K tb) Z H Q:=by
 obtain⟨f,M,R,as,d,h,k⟩:=h;refine⟨f,M,_,as,d,h,λx s m n c a j g=>⟨f,n,_,as.kp d c,a,g,λy q i o e b l p=>?_⟩⟩;exact⟨m,i,o,R,b,j.kp a e,l,p,(k.kp c).kp e⟩
theorem bL(c:bE X (Gk op) (dB X.K r))(ha:E3 X a ta)(hb:E3 X b tb):E3 X (.BinOp a op b pos) (aH r ta tb):=(P1 c ha hb).weak λ_ _ _ h=>tP h
theorem VA(d:bE X (Cw op) (dB X.K r))(ha:E3 X a ta)(hb:E3 X b tb)(c:Je op b=false):E3 X (.Compare a [op] [b] pos) (aH r ta tb):=(QK d ha hb c).weak λ_ _ _ h=>tP h
def bO(t:aX):dP:=λa M Q=>t a M λw b=>∃k,w=.bl k/\Q k b
theorem AV.bl_inv{K:Ac}{H:Hp}{M:Mm}{v:V}{k:Bool}(h:AV K H M v (.bl k)):v=.bl k:=by cases h;rfl
theorem VB{op:CmpOp}{r:R3}(m:bE X (Cw op) (dB X.K r))(ha:E3 X a ta)(hb:E3 X b tb)(i:Je op b=false):T3 X (.Compare a [op] [b] pos) (bO (aH r ta tb)):=
 (QM m ha hb i).weak λZ H Q f=>f.el λo M R as j h k=>tP ⟨o,M,_,as,j,h,λv l w g n d p ⟨c,e,r⟩=>by
  subst e;exact⟨c,p.bl_inv,k c l g n d r⟩⟩
def kX(r:W->Mm->K3->Prop)(ta:aX):aX:=λb M R=>ta b M λx a=>r x a R
theorem lQ{op:UnaryOp}{r:W->Mm->K3->Prop}(j:qK X (unaryOp op) (E6 X.K r))(ha:E3 X a ta):E3 X (.UnaryOp op a pos) (kX r ta):=
 (P2 j ha).weak λZ H Q e=>e.el λm M R as g h k=>⟨m,M,_,as,g,h,λx n i l c b f d=>⟨i,l,R,b,f,d,k.kp c⟩⟩
def VC:W->Mm->(Bool->Mm->Prop)->Prop
 | .non,M,Q=>Q false M
 | .bl b,M,Q=>Q b M
 | .int i,M,Q=>Q (i !=0) M
 | .str y,M,Q=>y.length<=An/\Q ((y.length:Int) !=0) M
 | .tup ws,M,Q=>Q (!ws.isEmpty) M
 | .rl ws,M,Q=>Q (!ws.isEmpty) M
 | .sc ws,M,Q=>Q (!ws.isEmpty) M
 | .dk kvs,M,Q=>Q (!kvs.isEmpty) M
 | .ref p,M,Q=>(∃ws,M p=some (.lst ws)/\Q (!ws.isEmpty) M)\/∃kvs,M p=some (.dK kvs)/\Q (!kvs.isEmpty) M
 | _,_,_=>False
def qW(t:aX):dP:=λa M Q=>t a M λw b=>VC w b Q
theorem aK.empty{K:Ac}{H:Hp}{M:Mm}{vs:List V}{ws:List W}(h:aK K H M vs ws):(!ws.isEmpty) = !vs.isEmpty:=by cases h<;>rfl
theorem tQ(ha:E3 X a ta)(l:∀d,isTrue a X.env d=(do let v <-d;Pj a.pos;Jn [v] (truthy v)):=by intro _;rfl):T3 X a (qW ta):=
 (QQ ha l).weak λZ H Q m=>m.el λs M R as o h k=>⟨s,M,_,as,o,h,λv x w u f c t r=>by
  cases t with
  | non=>exact⟨false,rfl,k _ _ _ f c r⟩
  | bl b=>exact⟨b,rfl,k _ _ _ f c r⟩
  | int i=>exact⟨_,rfl,k _ _ _ f c r⟩
  | str y=>exact⟨_,⟨r.1,rfl⟩,k _ _ _ f c r.2⟩
  | ty n=>exact(show False from r).elim
  | tup e q=>exact⟨_,.inr (.inl ⟨_,bV.of e,q.empty⟩),k _ _ _ f c r⟩
  | rl e n q=>exact⟨_,.inl ⟨_,bI.of e,q.empty⟩,k _ _ _ f c r⟩
  | sc e q=>exact⟨_,.inl ⟨_,e.sq,q.empty⟩,k _ _ _ f c r⟩
  | @dk a ks kvs e n g q=>exact⟨!kvs.isEmpty,.inr (.inr ⟨_,e,by have:=qT g q;cases this<;>rfl⟩),k _ _ _ f c r⟩
  | dt e n g q=>exact(show False from r).elim
  | fk e g q=>exact(show False from r).elim
  | ft e g q=>exact(show False from r).elim
  | ref p=>
   rcases r with⟨ws,e,r⟩|⟨kvs,e,r⟩
   .obtain⟨vs,j,q⟩:=c.lst e;exact⟨_,.inl ⟨_,bI.of j,q.empty⟩,k _ _ _ f c r⟩
   .obtain⟨ks,j,q⟩:=c _ _ e;exact⟨!kvs.isEmpty,.inr (.inr ⟨_,j,by cases q<;>rfl⟩),k _ _ _ f c r⟩⟩
def mM(t u:dP):dP:=λb M Q=>t b M λc a=>if c=true then u b a Q else Q false a
def tR(t u:dP):dP:=λb M Q=>t b M λc a=>if c=true then Q true a else u b a Q
def xG(t:dP):dP:=λb M Q=>t b M λc a=>Q (!c) a
variable {tA tB':dP}{rest:List Expr}
theorem oZ(ha:T3 X a tA):W3 X (.BoolOp .And [a] pos) tA:=OE ha
theorem E8(ha:T3 X a tA):W3 X (.BoolOp .Or [a] pos) tA:=OF ha
theorem pA(ha:T3 X a tA)(hb:W3 X (.BoolOp .And (b::rest) pos) tB'):W3 X (.BoolOp .And (a::b::rest) pos) (mM tA tB'):=
 (OG ha hb).weak λZ H Q m=>m.el λl M R as i h k=>⟨l,M,_,as,i,h,λc p j e d g=>by
  cases c with
  | true=>exact⟨l,j,R,as.kp i e,d,g,λb o n q f r=>k b o n (e.trans q) f r⟩
  | false=>exact k false p j e d g⟩
theorem xH(ha:T3 X a tA)(hb:W3 X (.BoolOp .Or (b::rest) pos) tB'):W3 X (.BoolOp .Or (a::b::rest) pos) (tR tA tB'):=
 (OH ha hb).weak λZ H Q m=>m.el λl M R as i h k=>⟨l,M,_,as,i,h,λc p j e d g=>by
  cases c with
  | true=>exact k true p j e d g
  | false=>exact⟨l,j,R,as.kp i e,d,g,λb o n q f r=>k b o n (e.trans q) f r⟩⟩
theorem E9(ha:T3 X a tA):T3 X (.UnaryOp .Not a pos) (xG tA):=
 (OI ha).weak λZ H Q f=>f.el λj M R as g h k=>⟨j,M,_,as,g,h,λc l i d b e=>k (!c) l i d b e⟩
def FA(ta tb:aX):aX:=λb M R=>ta b M λx a=>∃c,x=.bl c/\if c=true then tb b a R else R (.bl false) a
def tS(ta tb:aX):aX:=λb M R=>ta b M λx a=>∃c,x=.bl c/\if c=true then R (.bl true) a else tb b a R
theorem FC{op}(h:E3 X a ta):E3 X (.BoolOp op [a] pos) ta:=OL h
theorem v_and(ha:E3 X a ta)(hb:E3 X (.BoolOp .And (b::rest) pos) tb):E3 X (.BoolOp .And (a::b::rest) pos) (FA ta tb):=
 (OM ha hb).weak λZ H Q l=>l.el λj M R as i h k=>⟨j,M,_,as,i,h,λx p o n f d m ⟨c,e,g⟩=>by
  subst e;refine⟨c,m.bl_inv,?_⟩;cases c with
  | true=>exact⟨j,n,R,as.kp i f,d,g,k.kp f⟩
  | false=>exact(k.kp f).at d (.bl false) g⟩
theorem v_or(ha:E3 X a ta)(hb:E3 X (.BoolOp .Or (b::rest) pos) tb):E3 X (.BoolOp .Or (a::b::rest) pos) (tS ta tb):=
 (ON ha hb).weak λZ H Q l=>l.el λj M R as i h k=>⟨j,M,_,as,i,h,λx p o n f d m ⟨c,e,g⟩=>by
  subst e;refine⟨c,m.bl_inv,?_⟩;cases c with
  | true=>exact(k.kp f).at d (.bl true) g
  | false=>exact⟨j,n,R,as.kp i f,d,g,k.kp f⟩⟩
def FD(t:dP)(ta tb:aX):aX:=λa M R=>t a M λc b=>if c=true then ta a b R else tb a b R
theorem VD{c:Expr}(hc:T3 X c tA)(ha:E3 X a ta)(hb:E3 X b tb):E3 X (.IfExp c a b pos) (FD tA ta tb):=
 (OP hc ha hb).weak λZ H Q l=>l.el λg M R as f h k=>⟨g,M,_,as,f,h,λc m j e d i=>by
  cases c with
  | true=>exact⟨g,j,R,as.kp f e,d,i,k.kp e⟩
  | false=>exact⟨g,j,R,as.kp f e,d,i,k.kp e⟩⟩
def aE:d3:=λ_ M R=>R [] M
def aB(ta:aX)(b:d3):d3:=λa M R=>ta a M λx c=>b a c λxs d=>R (x::xs) d
variable {e:Expr}{es:List Expr}{te:aX}{t:d3}
theorem aG:A3 X [] aE:=RB.weak λZ H Q b=>b.el λc M R as a h k=>k [] H [] M (Kp.refl a) a .nil h
theorem aC(ha:E3 X e te)(q:A3 X es t)(p:Br (e::es) X.env=(false,eval e X.env)::Br es X.env:=by rfl):A3 X (e::es) (aB te t):=
 (RC ha q p).weak λZ H Q l=>l.el λi M R as f h k=>⟨i,M,_,as,f,h,λx v o r d a m j=>⟨i,r,_,as.kp f d,a,j,λxs n ws s g c b u=>
  k (x::xs) n (o::ws) s (d.trans g) c (.cons (m.kp a g) b) u⟩⟩
def b5(t:d3):aX:=λb M R=>t b M λws a=>ws.length<=An/\R (.tup ws) a
def fX(t:d3):aX:=λb M R=>t b M λws a=>ws.length<=An/\a9 ws a R
theorem laidT{K:Ac}{H:Hp}{M:Mm}{R:K3}{Q:VK}{p:Addr}{xs:List V}{ws:List W}(d:AM K H M)(k:Up K H M R Q)(b:H p=none)(c:aK K H M xs ws)(r:R (.tup ws) M):Q (.ref p) (aR H p (.tup xs)):=by
 obtain⟨a,e⟩:=d.tup (u:=.tup xs) b;exact k _ _ _ _ e a (.tup dO (c.newT b)) r
theorem iU{K:Ac}{H:Hp}{M:Mm}{R:K3}{Q:VK}{p:Addr}{xs:List V}{ws:List W}(c:AM K H M)(k:Up K H M R Q)(a:H p=none)(d:aK K H M xs ws)(r:∀p,M p=none->R (.ref p) (put M p (.lst ws))):Q (.ref p) (aR H p (.lst xs)):=by
 obtain⟨b,e⟩:=c.laid (o:=.lst ws) (u:=.lst xs) a ⟨xs,dO,d.newL a⟩;exact k _ _ _ _ e b (.ref p) (r p (c.nonM a))
theorem pB{K:Ac}{H:Hp}{M:Mm}{R:K3}{Q:VK}{l:Addr}{xs:List V}{ws b:List W}{y:V}{w:W}(a:AM K H M)(k:Up K H M R Q)(hl:M l=some (.lst b))(d:aK K H M xs ws)(f:AV K H M y w)(r:R w (put M l (.lst ws))):Q y (aR H l (.lst xs)):=by
 obtain⟨c,e⟩:=a.write (o:=.lst ws) (u:=.lst xs) hl ⟨xs,dO,d.wr a hl⟩;exact k _ _ _ _ e c (f.wr a hl) r
theorem cG{x1}(h:A3 X es t):E3 X (.Tuple es x1 pos) (b5 t):=
 (RF h).weak λZ H Q d=>d.el λg M R as e h k=>⟨g,M,_,as,e,h,λxs j ws i c b a ⟨hl,r⟩=>⟨by rw[a.length];exact hl,λp f=>laidT b (k.kp c) f a r⟩⟩
theorem gY(h:A3 X es t):E3 X (.List es pos) (fX t):=
 (DK h).weak λZ H Q d=>d.el λg M R as e h k=>⟨g,M,_,as,e,h,λxs j ws i c b a ⟨hl,r⟩=>⟨by rw[a.length];exact hl,λp f=>iU b (k.kp c) f a r⟩⟩
def bJ(r:List W->Mm->K3->Prop)(t:d3):aX:=λb M R=>t b M λws a=>r ws a R
variable {x:Str}{p:Pos}{id T:String}{r:List W->Mm->K3->Prop}
theorem FE{K:Ac}{Z:SV}{H:Hp}{Q:VK}(h:up K (bJ r t) Z H Q):wQ (gC K r) (oX K t) Z H Q:=by
 obtain⟨g,M,R,as,e,h,k⟩:=h;exact⟨g,M,_,as,e,h,λxs i ws f c b a d=>⟨ws,f,R,b,a,d,k.kp c⟩⟩
theorem bY(hc:cQ X (.builtin id) (gC X.K r))(c:Gl X x)(d:X.mg x=none)(f:Dc x=some (.builtin id))(ha:A3 X (e::es) t)(g:x≠"__name__":=by decide)(a:(x==("__debug__" : Str))=false:=by decide)(i:Br (e::es) X.env=(false,eval e X.env)::Br es X.env:=by rfl)(b:(Ie pos (Br es X.env)).any (·.1)=false:=by rfl):E3 X (.Call (.Name x p) (e::es) [] pos) (bJ r t):=(RN hc c d f ha g a i b).weak λ_ _ _ h=>FE h
theorem mN(hc:cQ X (.type T) (gC X.K r))(c:Gl X x)(d:X.mg x=none)(f:Dc x=some (.type T))(ha:A3 X (e::es) t)(g:x≠"__name__":=by decide)(a:(x==("__debug__" : Str))=false:=by decide)(i:Br (e::es) X.env=(false,eval e X.env)::Br es X.env:=by rfl)(b:(Ie pos (Br es X.env)).any (·.1)=false:=by rfl):E3 X (.Call (.Name x p) (e::es) [] pos) (bJ r t):=(RO hc c d f ha g a i b).weak λ_ _ _ h=>FE h
abbrev bP:=List W->Mm->K3->Prop
def gZ(K:Ac)(sp:bP):Sp:=λvs H Q _=>∃ws M R,AM K H M/\aK K H M vs ws/\sp ws M R/\Up K H M R Q
variable {k:Nat}{f:Addr}{fd:Bv}{ps:List Str}{sp:bP}
def bK(sp:bP)(t:d3):aX:=λb M R=>t b M λws a=>sp ws a R
theorem FF{K:Ac}{Z:SV}{H:Hp}{Q:VK}(h:up K (bK sp t) Z H Q):DL (gZ K sp) [] E0 (oX K t) Z H Q:=by
 obtain⟨g,M,R,as,e,h,k⟩:=h;exact⟨g,M,_,as,e,h,λxs i ws f c b a d=>⟨ws,f,R,b,by rw[Ew];exact a,d,k.kp c⟩⟩
theorem VE(F:e9 X.prog X.w X.K X.mg X.base gL k f fd ps (gZ X.K sp))(i:cM k X.A)(g:Gl X x)(d:X.mg x=some (.ref f))(hk:Gd X.K (.ref f)=true)(hb:Binds X.K fd ps [])(ha:A3 X (e::es) t)(a:(x==("__debug__" : Str))=false:=by decide)(c:Br (e::es) X.env=(false,eval e X.env)::Br es X.env:=by rfl)(b:(Ie pos (Br es X.env)).any (·.1)=false:=by rfl):
  E3 X (.Call (.Name x p) (e::es) [] pos) (bK sp t):=(RG F i g d hk hb .nil oT ha a c b).weak λ_ _ _ h=>FF h
def lR(T:String):W->Mm->Prop
 | .str _,_=>T = "str"
 | .int _,_=>T = "int"
 | .rl _,_=>T = "list"
 | .sc _,_=>T = "list"
 | .dk _,_=>T = "dict"
 | .dt _,_=>T = "dict"
 | .fk _,_=>T = "dict"
 | .ft _,_=>T = "dict"
 | .ref p,M=>(T = "list"/\∃ws,M p=some (.lst ws))\/(T = "dict"/\((∃kvs,M p=some (.dK kvs))\/∃kvs,M p=some (.dT kvs)))
 | _,_=>False
theorem FG{K:Ac}{H:Hp}{M:Mm}{v:V}{w:W}(c:AM K H M)(f:AV K H M v w)(h:lR T w M):tI K T v H:=by
 cases f with
 | str y=>exact h
 | int i=>exact h
 | rl e n q=>exact .inl ⟨h,_,bI.of e⟩
 | sc e q=>exact .inl ⟨h,_,e.sq⟩
 | dk e n d q=>exact .inr (.inr (.inl ⟨h,.inl ⟨_,.inl e⟩⟩))
 | dt e n d q=>exact .inr (.inr (.inl ⟨h,.inr ⟨_,.inl e⟩⟩))
 | ref p=>
  rcases h with⟨e,ws,h⟩|⟨e,h⟩
  .obtain⟨vs,a,_⟩:=c.lst h;exact .inl ⟨e,vs,bI.of a⟩
  .refine .inr (.inr (.inl ⟨e,?_⟩));rcases h with⟨kvs,h⟩|⟨kvs,h⟩
   .obtain⟨ks,a,_⟩:=c _ _ h;exact .inl ⟨ks,.inl a⟩
   .obtain⟨ks,a,_⟩:=c _ _ h;exact .inr ⟨ks,.inl a⟩
 | non=>exact h.elim
 | bl b=>exact h.elim
 | ty n=>exact h.elim
 | tup e q=>exact h.elim
 | fk e d q=>exact .inr (.inr (.inl ⟨h,.inl ⟨_,.inr ⟨_,e⟩⟩⟩))
 | ft e d q=>exact .inr (.inr (.inl ⟨h,.inr ⟨_,.inr ⟨_,e⟩⟩⟩))
variable {o:Expr}{to:aX}{name:Str}{apos cpos:Pos}{rm:W->List W->Mm->K3->Prop}
def nW(T:String)(r:W->List W->Mm->K3->Prop)(to:aX):aX:=λb M R=>to b M λx a=>lR T x a/\r x [] a R
def cN(T:String)(r:W->List W->Mm->K3->Prop)(to:aX)(t:d3):aX:=λb M R=>to b M λx a=>lR T x a/\t b a λxs c=>r x xs c R
theorem pC(pa:PlainAttrs T)(slot:Slot T name id)(d:typeOf (.builtin id)=pure (.type "method_descriptor"))(j:jE X id (kW X.K rm))(p:E3 X o to)(b:Km o name X.env (eval o X.env)=eval o X.env:=by rfl)(a:(apos.endLine==cpos.line)=true:=by rfl):E3 X (.Call (.Attribute o name apos) [] [] cpos) (nW T rm to):=
 (S4 pa slot d j p b a).weak λZ H Q i=>i.el λm M R as l h k=>⟨m,M,_,as,l,h,λx r n q f c e ⟨ty,g⟩=>⟨FG c e ty,n,[],q,R,c,e,.nil,g,k.kp f⟩⟩
theorem d4(pa:PlainAttrs T)(slot:Slot T name id)(g:typeOf (.builtin id)=pure (.type "method_descriptor"))(r:jE X id (kW X.K rm))(y:E3 X o to)(ha:A3 X (e::es) t)(d:Km o name X.env (eval o X.env)=eval o X.env:=by rfl)(f:((Ie cpos (Br (e::es) X.env)).all (λx=>!x.1)&&(backToKw cpos (Nl [] X.env)).all (λx=>x.1.isSome)
  &&decide ((e::es).length+([]:List Keyword).length+(if ([]:List Keyword).isEmpty then 0 else 1)<30))=true:=by rfl)(c:(apos.endLine==cpos.line)=true:=by rfl)(u:Br (e::es) X.env=(false,eval e X.env)::Br es X.env:=by rfl)(a:(Ie cpos (Br es X.env)).any (·.1)=false:=by rfl):
  E3 X (.Call (.Attribute o name apos) (e::es) [] cpos) (cN T rm to t):=
 (S5 pa slot g r y ha d f c u a).weak λZ H Q z=>z.el λq M R as m h k=>⟨q,M,_,as,m,h,λx D s A l b n ⟨ty,w⟩=>⟨FG b n ty,q,A,_,as.kp m l,b,w,λxs C ws B p i j v=>
  ⟨s,ws,B,R,i,n.kp b p,j,v,(k.kp l).kp p⟩⟩⟩
end
section
variable {X:Cx}
theorem kY{f:Ae->Ae->Sem Ae}(j:bE X f r)(h:∀x y H Q M R,AM X.K H M->Up X.K H M R Q->∀b a,c b a M R->AV X.K H M x b->AV X.K H M y a->r x y H Q):bE X f (dB X.K c):=
 λpins s Z H x y v u Q I m d ⟨b,a,M,R,i,g,l,e,k⟩=>j pins s Z H x y v u Q I m d (h x y H Q M R i k b a e g l)
theorem VF(l:jD X r)(h:∀x y H Q M R,AM X.K H M->Up X.K H M R Q->∀d c,e d c M R->AV X.K H M x d->AV X.K H M y c->r x y H Q):jD X (dB X.K e):=
 λa b pins s Z H x y v u Q I n f ⟨d,c,M,R,j,i,m,g,k⟩=>l a b pins s Z H x y v u Q I n f (h x y H Q M R j k d c g i m)
theorem xJ{r:List V->Hp->VK->Prop}{a:List W->Mm->K3->Prop}(e:cQ X f r)(h:∀xs H Q M R,AM X.K H M->Up X.K H M R Q->∀ws,a ws M R->aK X.K H M xs ws->r xs H Q):cQ X f (gC X.K a):=
 λpins s Z H xs us Q I rs ⟨ws,M,R,d,c,b,k⟩=>e pins s Z H xs us Q I rs (h xs H Q M R d k ws b c)
def qX:R3
 | .int i,.int j,M,R=>R (.int (i+j)) M
 | .tup xs,.tup c,M,R=>xs≠[]/\xs.length+c.length<=An/\R (.tup (xs++c)) M
 | .ref a,.ref b,M,R=>∃xs c,M a=some (.lst xs)/\M b=some (.lst c)/\xs.length+c.length<=An/\a9 (xs++c) M R
 | .rl xs,.ref b,M,R=>∃c,M b=some (.lst c)/\xs.length+c.length<=An/\a9 (xs++c) M R
 | .ref a,.rl c,M,R=>∃xs,M a=some (.lst xs)/\xs.length+c.length<=An/\a9 (xs++c) M R
 | .rl xs,.rl c,M,R=>xs.length+c.length<=An/\a9 (xs++c) M R
 | _,_,_,_=>False
def lS(M:Mm):W->List W->Prop
 | .ref a,ws=>M a=some (.lst ws)
 | .rl ws,b=>ws=b
 | _,_=>False
theorem mO{K:Ac}{H:Hp}{M:Mm}{v:V}{w:W}{ws:List W}(c:AM K H M)(h:AV K H M v w)(e:lS M w ws):∃a xs,v=.ref a/\H a=some (.lst xs)/\aK K H M xs ws:=by
 cases w<;>first|exact(show False from e).elim|skip
 case ref a=>exact c.lstE e λxs f q=>⟨_,_,h.inv,f,q⟩
 case rl zs=>exact h.rlE λa xs b f q=>⟨_,_,b,f,by rw[<-show zs=ws from e];exact q⟩
theorem VG{P:W->W->Prop}(c:∀i j,R (.int (i+j)) M->P (.int i) (.int j))(d:∀xs a,xs≠[]/\xs.length+a.length<=An/\R (.tup (xs++a)) M->P (.tup xs) (.tup a))(b:∀x y xs a,lS M x xs->lS M y a->xs.length+a.length<=An->a9 (xs++a) M R->P x y):∀x y,qX x y M R->P x y:=by
 intro x y h;cases x<;>first|exact(show False from h).elim|(cases y<;>first|exact(show False from h).elim|skip)
 case int.int=>exact c _ _ h
 case tup.tup=>exact d _ _ h
 case ref.ref=>obtain⟨xs,a,e,f,l,r⟩:=h;exact b _ _ _ _ e f l r
 case rl.ref=>obtain⟨a,f,l,r⟩:=h;exact b _ _ _ _ rfl f l r
 case ref.rl=>obtain⟨xs,e,l,r⟩:=h;exact b _ _ _ _ e rfl l r
 case rl.rl=>exact b _ _ _ _ rfl rfl h.1 h.2
theorem xK:bE X (Gk .Add) (dB X.K qX):=kY (P4.or (R1.or TB)) λx y H Q M R d k=>VG
 (λi j h c g=>.inl ⟨i,j,c.inv,g.inv,k.at d (.int _) h⟩)
 (λxs t h c g=>c.tupE λa us m n e=>g.tupE λb vs q s f=>.inr (.inl ⟨a,b,us,vs,m,q,bV.of n,bV.of s,
  λz=>h.1 (Ib.mp (by rw[<-e.length,z];rfl)),by rw[e.length,f.length];exact h.2.1,
  λz=>k.at d (by rw[<-m];exact c) (by rw[<-Ew xs,<-Ib.mp (show t.length=0 by rw[<-f.length,z];rfl)];exact h.2.2),
  λ_ p o=>laidT d k o (e.append f) h.2.2⟩))
 (λA w xs t u v l r c g=>.inr (.inr (by
  obtain⟨a,us,m,n,e⟩:=mO d c u;obtain⟨b,vs,q,s,f⟩:=mO d g v;exact⟨a,b,us,vs,m,q,n,s,by rw[e.length,f.length];exact l,λp o=>iU d k o (e.append f) r⟩)))
def qY(C:Int->Int->Prop)(g:Int->Int->W):R3
 | .int i,.int j,M,R=>C i j/\R (g i j) M
 | _,_,_,_=>False
theorem VH{C:Int->Int->Prop}{g:Int->Int->W}{P:W->W->Prop}(c:∀i j,C i j/\R (g i j) M->P (.int i) (.int j))(x y:W)(h:qY C g x y M R):P x y:=by
 cases x<;>first|exact(show False from h).elim|(cases y<;>first|exact(show False from h).elim|exact c _ _ h)
theorem xM{f:Ae->Ae->Sem Ae}{C:Int->Int->Prop}{g:Int->Int->V}{g':Int->Int->W}(c:bE X f (rI C g))(d:∀H M i j,AV X.K H M (g i j) (g' i j)):bE X f (dB X.K (qY C g')):=
 kY c λx y H Q M R b k=>VH λi j h a e=>⟨i,j,a.inv,e.inv,h.1,k.at b (d H M i j) h.2⟩
def qZ(g:Int->Int->W):R3
 | .int i,.int j,M,R=>R (g i j) M
 | _,_,_,_=>False
theorem VI{g:Int->Int->W}{P:W->W->Prop}(c:∀i j,R (g i j) M->P (.int i) (.int j))(x y:W)(h:qZ g x y M R):P x y:=by
 cases x<;>first|exact(show False from h).elim|(cases y<;>first|exact(show False from h).elim|exact c _ _ h)
theorem xN{f:Ae->Ae->Sem Ae}{g:Int->Int->V}{g':Int->Int->W}(c:bE X f (nM g))(d:∀H M i j,AV X.K H M (g i j) (g' i j)):bE X f (dB X.K (qZ g')):=
 kY c λx y H Q M R b k=>VI λi j h a e=>⟨i,j,a.inv,e.inv,k.at b (d H M i j) h⟩
abbrev rA:R3:=qZ λi j=>.int (i-j)
theorem tT:bE X (Gk .Sub) (dB X.K rA):=xN P5 λ_ _ _ _=>.int _
abbrev xO:R3:=qY EO λi j=>.int (i/j)
theorem FH:bE X (Gk .FloorDiv) (dB X.K xO):=xM UP λ_ _ _ _=>.int _
abbrev rB:R3:=qY (λ_ j=>0<j) λi j=>.int (i % j)
theorem tU:bE X (Gk .Mod) (dB X.K rB):=xM P7 λ_ _ _ _=>.int _
abbrev FI:R3:=qY C8 λi j=>.int (i ^ j.toNat)
theorem VJ:bE X (Gk .Pow) (dB X.K FI):=xM P8 λ_ _ _ _=>.int _
def FJ:R3
 | .int i,.int j,M,R=>(oP i j\/tO i j)/\R (.int (i*j)) M
 | .ref a,.int n,M,R=>∃xs,M a=some (.lst xs)/\-(2 ^ 63)<=n/\n<2 ^ 63/\xs.length*n.toNat<=An/\a9 (Cf n.toNat xs).flatten M R
 | .rl xs,.int n,M,R=>-(2 ^ 63)<=n/\n<2 ^ 63/\xs.length*n.toNat<=An/\a9 (Cf n.toNat xs).flatten M R
 | _,_,_,_=>False
theorem VL{P:W->W->Prop}(b:∀i j,(oP i j\/tO i j)/\R (.int (i*j)) M->P (.int i) (.int j))(a:∀x n xs,lS M x xs->-(2 ^ 63)<=n/\n<2 ^ 63/\xs.length*n.toNat<=An/\a9 (Cf n.toNat xs).flatten M R->P x (.int n)):∀x y,FJ x y M R->P x y:=by
 intro x y h;cases x<;>first|exact(show False from h).elim|(cases y<;>first|exact(show False from h).elim|skip)
 case int.int=>exact b _ _ h
 case ref.int=>obtain⟨xs,e,h⟩:=h;exact a _ _ _ e h
 case rl.int=>exact a _ _ _ rfl h
theorem VM:bE X (Gk .Mult) (dB X.K FJ):=kY (P6.or (UO.or TH)) λx y H Q M R c k=>VL
 (λi j h b d=>h.1.elim (λz=>.inl ⟨i,j,b.inv,d.inv,z,k.at c (.int _) h.2⟩) λz=>.inr (.inl ⟨i,j,b.inv,d.inv,z,k.at c (.int _) h.2⟩))
 (λo n xs g h b d=>.inr (.inr (by
  obtain⟨a,us,f,l,e⟩:=mO c b g;exact⟨a,n,us,f,d.inv,l,h.1,h.2.1,by rw[e.length];exact h.2.2.1,λp m=>iU c k m (e.flatRep _) h.2.2.2⟩)))
def kZ:W->Mm->K3->Prop
 | .int i,M,R=>R (.int (-i)) M
 | _,_,_=>False
theorem lU:qK X (unaryOp .USub) (E6 X.K kZ):=by
 rintro pins s Z H x v Q I b ⟨c,M,R,a,d,h,k⟩;cases c<;>first|exact(show False from h).elim|skip
 case int i=>exact QA pins s Z H _ v Q I b ⟨i,d.inv,k.at a (.int _) h⟩
def nX:R3:=qZ λi j=>.bl (decide (i<j))
theorem rC:bE X (Cw .Lt) (dB X.K nX):=xN QE λ_ _ _ _=>.bl _
abbrev FK:R3:=qZ λi j=>.bl (decide (j<i))
theorem VN:bE X (Cw .Gt) (dB X.K FK):=xN QF λ_ _ _ _=>.bl _
def isNon:W->Bool
 | .non=>true
 | _=>false
def lV(neg:Bool):R3
 | x,.non,M,R=>R (.bl (if neg then !isNon x else isNon x)) M
 | _,_,_,_=>False
theorem AV.isNon{K:Ac}{H:Hp}{M:Mm}{v:V}{w:W}(h:AV K H M v w):decide (v=.non)=L3.isNon w:=by cases h<;>rfl
theorem FL{n:Bool}{P:W->W->Prop}(c:∀x,R (.bl (if n then !isNon x else isNon x)) M->P x .non)(x y:W)(h:lV n x y M R):P x y:=by
 cases y<;>first|exact(show False from h).elim|exact c _ h
theorem FN:bE X (Cw .Is) (dB X.K (lV false)):=kY QH λx y H Q M R a k=>FL λw h c b=>⟨b.inv,by rw[c.isNon];exact k.at a (.bl _) h⟩
theorem xP:bE X (Cw .IsNot) (dB X.K (lV true)):=kY QI λx y H Q M R a k=>FL λw h c b=>⟨b.inv,by rw[c.isNon];exact k.at a (.bl _) h⟩
mutual
inductive Snap(M:Mm):W->Nc->Prop
 | non:Snap M .non .none
 | bl (b:Bool):Snap M (.bl b) (.bool b)
 | int (i:Int):Snap M (.int i) (.int i)
 | str (x:Str):Snap M (.str x) (.str x)
 | tup {ws:List W} {ds:List Nc}:iV M ws ds->Snap M (.tup ws) (.tuple ds)
 | rl {ws:List W} {ds:List Nc}:iV M ws ds->Snap M (.rl ws) (.list ds)
 | ref {a:Addr} {ws:List W} {ds:List Nc}:M a=some (.lst ws)->iV M ws ds->Snap M (.ref a) (.list ds)
inductive iV(M:Mm):List W->List Nc->Prop
 | nil:iV M [] []
 | cons {w:W} {ws:List W} {d:Nc} {ds:List Nc}:Snap M w d->iV M ws ds->iV M (w::ws) (d::ds)
end
section
variable {pins:List (Addr×Obj)}{Z:SV}{H:Hp}{s:Ag}{M:Mm}
theorem iV.reads(I:Inv X pins Z H s)(C:AM X.K H M)(h:iV M ws p):∀{vs:List V} {us:List Ae},aK X.K H M vs ws->aT vs us->∃as,ReadsAll s.heap us p as:=
 iV.rec (motive_1:=λw d _=>∀{v:V} {u:Ae},AV X.K H M v w->RelV v u->∃as,Reads s.heap u d as) (motive_2:=λws p _=>∀{vs:List V} {us:List Ae},aK X.K H M vs ws->aT vs us->∃as,ReadsAll s.heap us p as)
  (λc r=>by rw[show _=_ from c.inv]at r;rw[show _=_ from r];exact⟨_,.none⟩)
  (λb _ _ c r=>by rw[show _=_ from c.inv]at r;rw[show _=_ from r];exact⟨_,.bool b⟩)
  (λi _ _ c r=>by rw[show _=_ from c.inv]at r;exact r.elim λt r=>by rw[r];exact⟨_,.int i t⟩)
  (λx _ _ c r=>by rw[show _=_ from c.inv]at r;exact r.elim λt r=>by rw[r];exact⟨_,.str x t⟩)
  (λ_ j _ _ c r=>c.tupE λa xs e f q=>by
   rw[e]at r;rw[show _=_ from r];obtain⟨its,m,⟨o,g,l,n,k⟩,_⟩:=I.tuple (bV.of f);exact(j q m).elim λas z=>⟨_,.tuple g l k (by simpa using z)⟩)
  (λ_ j _ _ c r=>c.rlE λa xs e f q=>by
   rw[e]at r;rw[show _=_ from r];obtain⟨its,m,pl,_⟩:=I.list (bI.of f);obtain⟨o,g,l,n,k⟩:=pl.isList;exact(j q m).elim λas z=>⟨_,.list g l k (by simpa using z)⟩)
  (λG _ j _ _ c r=>C.lstE G λvs f q=>by
   rw[show _=_ from c.inv]at r;rw[show _=_ from r];obtain⟨its,m,pl,_⟩:=I.list (bI.of f);obtain⟨o,g,l,n,k⟩:=pl.isList;exact(j q m).elim λas z=>⟨_,.list g l k (by simpa using z)⟩)
  (λc r=>by cases c;cases r;exact⟨_,.nil⟩)
  (λ_ _ B A _ _ c r=>by
   cases c with
   | cons a b=>
    cases r with
    | cons J D=>exact(B a J).elim λx E=>(A b D).elim λy F=>⟨_,.cons E F⟩) h
theorem Snap.reads(I:Inv X pins Z H s)(a:AM X.K H M){w:W}{d:Nc}{v:V}{u:Ae}(h:Snap M w d)(b:AV X.K H M v w)(r:RelV v u):∃as,Reads s.heap u d as:=
 (iV.reads I a (.cons h .nil) (.cons b .nil) (.cons r .nil)).elim λ_ z=>by
  cases z with
  | cons q _=>exact⟨_,q⟩
end
def rD(neg:Bool):R3:=λx y M R=>∃a b,Snap M x a/\Snap M y b/\EU a/\EU b/\R (.bl (if neg then !PyData.eqv a b else Lw a b)) M
def rEq(neg:Bool):R3
 | .int i,.int j,M,R=>R (.bl (if neg then !decide (i=j) else decide (i=j))) M
 | .str i,.str j,M,R=>R (.bl (if neg then !decide (i=j) else decide (i=j))) M
 | .bl i,.bl j,M,R=>R (.bl (if neg then !decide (i=j) else decide (i=j))) M
 | x,y,M,R=>rD neg x y M R
theorem FO{i j:Int}:decide (V.int i=V.int j)=decide (i=j):=by rw[Ex];simp
theorem FP:decide (V.str i=V.str j)=decide (i=j):=by rw[Ex];simp
theorem FQ{i j:Bool}:decide (V.bl i=V.bl j)=decide (i=j):=by rw[Ex];simp
theorem FR{n:Bool}{P:W->W->Prop}(b:∀i j,R (.bl (if n then !decide (i=j) else decide (i=j))) M->P (.int i) (.int j))(c:∀i j,R (.bl (if n then !decide (i=j) else decide (i=j))) M->P (.str i) (.str j))(d:∀i j,R (.bl (if n then !decide (i=j) else decide (i=j))) M->P (.bl i) (.bl j))(a:∀x y,rD n x y M R->P x y)(x y:W)(h:rEq n x y M R):P x y:=by
 cases x<;>first|exact a _ _ h|(cases y<;>first|exact b _ _ h|exact c _ _ h|exact d _ _ h|exact a _ _ h)
theorem sV(e:x=i)(f:y=j)(h:tF i j=true):tF x y=true:=by rw[e,f];exact h
theorem dV{i j:V}{x y:V}{b:Bool}{Q:Bool->Prop}(e:x=i)(f:y=j)(h:decide (i=j)=b)(q:Q b):Q (decide (x=y)):=by rw[e,f,h];exact q
theorem VO(g:X.A.units+64<Gu):bE X (Cw .Eq) (dB X.K (rD false)):=by
 rintro pins s Z H x y v u Q I f b ⟨l,h,M,R,a,c,e,⟨j,i,ha,hb,fa,fb,q⟩,k⟩;obtain⟨as,d⟩:=ha.reads I a c f;obtain⟨bs,rb⟩:=hb.reads I a e b;exact SeqAt.compareEq_reads d rb fa.1 fb.1 (Kj (Hy (Ar (Nat.min_le_left _ _) (Ar fa.2 (by decide))) _) g) ⟨.bl _,H,I,rfl,k.at a (.bl _) q⟩
theorem VP(g:X.A.units+64<Gu):bE X (Cw .NotEq) (dB X.K (rD true)):=by
 rintro pins s Z H x y v u Q I f b ⟨l,h,M,R,a,c,e,⟨j,i,ha,hb,fa,fb,q⟩,k⟩;obtain⟨as,d⟩:=ha.reads I a c f;obtain⟨bs,rb⟩:=hb.reads I a e b;exact SeqAt.compareNe_reads d rb fa.1 fb.1 (Kj (Hy (Ar (Nat.min_le_left _ _) (Ar fa.2 (by decide))) _) g) ⟨.bl _,H,I,rfl,k.at a (.bl _) q⟩
theorem lW(g:X.A.units+64<Gu):bE X (Cw .Eq) (dB X.K (rEq false)):=kY (QC.or (VO g)) λx y H Q M R d k=>FR
 (λi j h a c=>.inl ⟨sV a.inv c.inv rfl,dV (Q:=λb=>Q (.bl b) H) a.inv c.inv FO (k.at d (.bl _) h)⟩)
 (λi j h a c=>.inl ⟨sV a.inv c.inv rfl,dV (Q:=λb=>Q (.bl b) H) a.inv c.inv FP (k.at d (.bl _) h)⟩)
 (λi j h a c=>.inl ⟨sV a.inv c.inv rfl,dV (Q:=λb=>Q (.bl b) H) a.inv c.inv FQ (k.at d (.bl _) h)⟩)
 (λf e h a c=>.inr ⟨f,e,M,R,d,a,c,h,k⟩)
theorem pD(g:X.A.units+64<Gu):bE X (Cw .NotEq) (dB X.K (rEq true)):=kY (QD.or (VP g)) λx y H Q M R d k=>FR
 (λi j h a c=>.inl ⟨sV a.inv c.inv rfl,dV (Q:=λb=>Q (.bl !b) H) a.inv c.inv FO (k.at d (.bl _) h)⟩)
 (λi j h a c=>.inl ⟨sV a.inv c.inv rfl,dV (Q:=λb=>Q (.bl !b) H) a.inv c.inv FP (k.at d (.bl _) h)⟩)
 (λi j h a c=>.inl ⟨sV a.inv c.inv rfl,dV (Q:=λb=>Q (.bl !b) H) a.inv c.inv FQ (k.at d (.bl _) h)⟩)
 (λf e h a c=>.inr ⟨f,e,M,R,d,a,c,h,k⟩)
def wK:aF->W
 | .inl i=>.int i
 | .inr x=>.str x
def a0{U:Type}[DecidableEq U](kvs:List (U×W))(k:U):Option W:=(kvs.find? λa=>decide (a.1=k)).map (·.2)
def bQ{U:Type}[DecidableEq U](kvs:List (U×W))(k:U)(v:W):List (U×W):=
 if (kvs.any λa=>decide (a.1=k))=true then kvs.map (λa=>if a.1=k then(a.1,v) else a) else kvs++[(k,v)]
theorem AV.key{K:Ac}{H:Hp}{M:Mm}{v:V}{k:aF}(h:AV K H M v (wK k)):v=kV k:=by
 cases k<;>exact h.inv
theorem aK.keys{K:Ac}{H:Hp}{M:Mm}:∀{vs:List V} {k:List aF},aK K H M vs (k.map wK)->vs=k.map kV
 | _,[],h=>by cases h;rfl
 | _,a::r,h=>by
  cases h with
  | cons x y=>rw[x.key,aK.keys y];rfl
section
variable {U:Type}[DecidableEq U]{K:Ac}{H:Hp}{M:Mm}
theorem tV(h:bN K H M U ks kvs)(k:U):(a0 kvs k=none/\gA ks k=none)\/∃v w,a0 kvs k=some w/\gA ks k=some v/\AV K H M v w:=by
 induction h with
 | nil=>exact .inl ⟨rfl,rfl⟩
 | @cons p q ps qs r t a=>
  by_cases e:p.1=k
  .refine .inr ⟨p.2,q.2,?_,?_,r.2⟩
   .unfold a0;rw[Fp,decide_eq_true (by rw[<-r.1];exact e)];rfl
   .exact tJ e
  .have b:¬q.1=k:=by rw[<-r.1];exact e
   have l:a0 (q::qs) k=a0 qs k:=by unfold a0;rw[Fp,decide_eq_false b]
   rw[l,tK e];exact a
theorem VQ(h:bN K H M U ks kvs)(k:U):(ks.any λa=>decide (a.1=k))=(kvs.any λa=>decide (a.1=k)):=by
 induction h with
 | nil=>rfl
 | cons r t b=>rw[Gg,Gg,b,r.1]
theorem VR{ks:List (U×V)}{kvs:List (U×W)}{v:V}{w:W}{k:U}(c:AV K H M v w)(h:bN K H M U ks kvs):bN K H M U (ks.map (λa=>if a.1=k then(a.1,v) else a)) (kvs.map (λa=>if a.1=k then(a.1,w) else a)):=by
 induction h with
 | nil=>exact .nil
 | @cons p q ps qs r t b=>
  rw[Aw,Aw];refine .cons ?_ b
  by_cases e:p.1=k
  .rw[if_pos e,if_pos (by rw[<-r.1];exact e)];exact⟨r.1,c⟩
  .rw[if_neg e,if_neg (by rw[<-r.1];exact e)];exact r
theorem VS{ks:List (U×V)}{kvs:List (U×W)}{v:V}{w:W}{k:U}(b:AV K H M v w)(h:bN K H M U ks kvs):bN K H M U (ks++[(k,v)]) (kvs++[(k,w)]):=by
 induction h with
 | nil=>exact .cons ⟨rfl,b⟩ .nil
 | cons r t a=>exact .cons r a
theorem tW{ks:List (U×V)}{kvs:List (U×W)}{v:V}{w:W}(h:bN K H M U ks kvs)(k:U)(a:AV K H M v w):bN K H M U (eQ ks k v) (bQ kvs k w):=by
 unfold eQ bQ;rw[VQ h k];split
 .exact VR a h
 .exact VS a h
end
def fB(M:Mm):W->W->Option W->Prop
 | .ref a,y,o=>(∃kvs k,M a=some (.dK kvs)/\y=wK k/\o=a0 kvs k)\/∃kvs k,M a=some (.dT kvs)/\y=.tup (k.map wK)/\o=a0 kvs k
 | .dk kvs,y,o=>∃k,y=wK k/\o=a0 kvs k
 | .dt kvs,y,o=>∃k,y=.tup (k.map wK)/\o=a0 kvs k
 | .fk kvs,y,o=>∃k,y=wK k/\o=a0 kvs k
 | .ft kvs,y,o=>∃k,y=.tup (k.map wK)/\o=a0 kvs k
 | _,_,_=>False
theorem xQ{K:Ac}{H:Hp}{M:Mm}{a:Addr}{y:V}{k:aF}{ks:List (aF×V)}{kvs:List (aF×W)}(d:Rd H a (.dK ks))(q:bN K H M aF ks kvs)(e:AV K H M y (wK k)):(a0 kvs k=none/\iC H a y none)\/∃v w,a0 kvs k=some w/\iC H a y (some v)/\AV K H M v w:=by
 rw[e.key];rcases tV q k with⟨b,c⟩|⟨v,w,b,c,f⟩
 .exact .inl ⟨b,by rw[<-c];exact .inl ⟨_,_,d,rfl,rfl⟩⟩
 .exact .inr ⟨v,w,b,by rw[<-c];exact .inl ⟨_,_,d,rfl,rfl⟩,f⟩
theorem xR{K:Ac}{H:Hp}{M:Mm}{a:Addr}{y:V}{k:List aF}{ks:List (List aF×V)}{kvs:List (List aF×W)}(f:Rd H a (.dT ks))(q:bN K H M (List aF) ks kvs)(g:AV K H M y (.tup (k.map wK))):(a0 kvs k=none/\iC H a y none)\/∃v w,a0 kvs k=some w/\iC H a y (some v)/\AV K H M v w:=
 g.tupE λb xs e eb h=>by
  rw[h.keys]at eb;rcases tV q k with⟨c,d⟩|⟨v,w,c,d,i⟩
  .exact .inl ⟨c,by rw[<-d];exact .inr ⟨_,_,_,f,e,eb,rfl⟩⟩
  .exact .inr ⟨v,w,c,by rw[<-d];exact .inr ⟨_,_,_,f,e,eb,rfl⟩,i⟩
theorem tX{K:Ac}{H:Hp}{M:Mm}{x y:V}{g i:W}{o:Option W}(j:AM K H M)(b:AV K H M x g)(c:AV K H M y i)(h:fB M g i o):∃a,x=.ref a/\((o=none/\iC H a y none)\/∃v w,o=some w/\iC H a y (some v)/\AV K H M v w):=by
 cases g<;>first|exact(show False from h).elim|skip
 case ref a=>
  rcases h with⟨kvs,k,e,rfl,rfl⟩|⟨kvs,k,e,rfl,rfl⟩
  .obtain⟨ks,d,q⟩:=j _ _ e;exact⟨a,b.inv,xQ (.inl d) q c⟩
  .obtain⟨ks,d,q⟩:=j _ _ e;exact⟨a,b.inv,xR (.inl d) q c⟩
 all_goals
  obtain⟨k,rfl,rfl⟩:=h;have b:=b.inv
 case dk=>obtain⟨a,ks,e,f,_,q⟩:=b;exact⟨a,e,xQ (.inl f) q c⟩
 case dt=>obtain⟨a,ks,e,f,_,q⟩:=b;exact⟨a,e,xR (.inl f) q c⟩
 case fk=>obtain⟨a,ks,e,f,q⟩:=b;exact⟨a,e,xQ (.inr f) q c⟩
 case ft=>obtain⟨a,ks,e,f,q⟩:=b;exact⟨a,e,xR (.inr f) q c⟩
def aW:R3
 | .tup ws,.int i,M,R=>∃w,bW ws i=some w/\R w M
 | .rl ws,.int i,M,R=>∃w,bW ws i=some w/\R w M
 | .sc ws,.int i,M,R=>∃w,bW ws i=some w/\R w M
 | .dk kvs,y,M,R=>∃w,fB M (.dk kvs) y (some w)/\R w M
 | .dt kvs,y,M,R=>∃w,fB M (.dt kvs) y (some w)/\R w M
 | .fk kvs,y,M,R=>∃w,fB M (.fk kvs) y (some w)/\R w M
 | .ft kvs,y,M,R=>∃w,fB M (.ft kvs) y (some w)/\R w M
 | .str z,.int i,M,R=>z.length<=An/\∃c,bW z.cps.toList i=some c/\R (.str ⟨#[c]⟩) M
 | .ref a,.int i,M,R=>(∃ws w,M a=some (.lst ws)/\bW ws i=some w/\R w M)\/∃w,fB M (.ref a) (.int i) (some w)/\R w M
 | .ref a,y,M,R=>∃w,fB M (.ref a) y (some w)/\R w M
 | _,_,_,_=>False
theorem xS{K:Ac}{H:Hp}{M:Mm}{vs:List V}{ws:List W}{i:Int}{w:W}(q:aK K H M vs ws)(h:bW ws i=some w):∃v,bW vs i=some v/\AV K H M v w:=by
 unfold bW at h⊢;rw[q.length];cases e:iT ws.length i with
 | none=>rw[e]at h;cases h
 | some j=>
  rw[e]at h;exact q.getW (i:=j) h
theorem VT(k:X.A.units+1<Gu):jD X (λx y H Q=>∃a v,x=.ref a/\iC H a y (some v)/\Q v H):=by
 intro b d pins s Z H x y v u Q I i e h f;obtain⟨a,z,rfl,g,q⟩:=h;cases i;exact tail_any (TX I g) PySem.F.slot_dict_getitem.lookup (TM k I g e λm l j c=>⟨z,H,j,c,q⟩) f
theorem VU{P:W->W->Prop}(d:∀ws i w,bW ws i=some w->R w M->P (.tup ws) (.int i))(g:∀ws i w,bW ws i=some w->R w M->P (.sc ws) (.int i))(b:∀x ws i w,lS M x ws->bW ws i=some w->R w M->P x (.int i))(f:∀z i,z.length<=An/\(∃c,bW z.cps.toList i=some c/\R (.str ⟨#[c]⟩) M)->P (.str z) (.int i))(a:∀x y w,fB M x y (some w)->R w M->P x y)(x y:W)(h:aW x y M R):P x y:=by
 cases x
 case non|bl|int|ty=>exact(show False from h).elim
 case dk|dt|fk|ft=>exact h.elim λw h=>a _ _ _ h.1 h.2
 all_goals cases y<;>first|exact(show False from h).elim|skip
 case tup.int=>obtain⟨w,e,r⟩:=h;exact d _ _ _ e r
 case sc.int=>obtain⟨w,e,r⟩:=h;exact g _ _ _ e r
 case rl.int=>obtain⟨w,e,r⟩:=h;exact b _ _ _ _ rfl e r
 case str.int=>exact f _ _ h
 case ref.int=>exact h.elim (λ⟨ws,w,e,j,r⟩=>b _ _ _ _ e j r) λ⟨w,e,r⟩=>a _ _ _ e r
 all_goals obtain⟨w,e,r⟩:=h;exact a _ _ _ e r
theorem VW(p:X.A.units+1<Gu):jD X (dB X.K aW):=VF (R8.or (R9.or (SA.or (VT p)))) λx y H Q M R j k=>VU
 (λws i w h r b d=>b.tupE λa xs e f q=>let ⟨z,e3,l⟩:=xS q h;.inr (.inl ⟨a,xs,i,z,e,d.inv,bV.of f,e3,k.at j l r⟩))
 (λws i w h r b d=>b.scE λa xs e f q=>let ⟨z,e3,l⟩:=xS q h;.inl ⟨a,xs,i,z,e,d.inv,f.sq,e3,k.at j l r⟩)
 (λn ws i w m h r b d=>let ⟨a,xs,e,f,q⟩:=mO j b m;let ⟨z,e3,l⟩:=xS q h;.inl ⟨a,xs,i,z,e,d.inv,bI.of f,e3,k.at j l r⟩)
 (λz i h b d=>let ⟨c,e,r⟩:=h.2;.inr (.inr (.inl ⟨z,i,c,b.inv,d.inv,h.1,e,k.at j (.str _) r⟩)))
 (λn s w g r b d=>.inr (.inr (.inr (by
  obtain⟨a,e,g⟩:=tX j b d g;rcases g with⟨z,_⟩|⟨z,t,o,g',l⟩
  .cases z
  .exact⟨a,z,e,g',k.at j l (by rw[<-Bz o];exact r)⟩))))
variable {a b:Expr}{ta tb:aX}{pos:Pos}
theorem aZ(d:X.A.units+1<Gu)(ha:E3 X a ta)(hb:E3 X b tb)(c:D7 b:=by exact λ_ _=>rfl):E3 X (.Subscript a b pos) (aH aW ta tb):=(R4 (VW d) ha hb c).weak λ_ _ _ h=>tP h
def d5(ws:List W)(lo hi:Option Int):List W:=(ws.drop (HT.sIx ws.length 0 lo)).take (HT.sIx ws.length ws.length hi-HT.sIx ws.length 0 lo)
def FT:W->Option Int->Option Int->Mm->K3->Prop
 | .rl ws,lo,hi,M,R=>a9 (d5 ws lo hi) M R
 | .sc ws,lo,hi,M,R=>a9 (d5 ws lo hi) M R
 | .ref a,lo,hi,M,R=>∃ws,M a=some (.lst ws)/\a9 (d5 ws lo hi) M R
 | .tup ws,lo,hi,M,R=>¬(HT.sIx ws.length 0 lo=0/\HT.sIx ws.length ws.length hi=ws.length)/\R (.tup (d5 ws lo hi)) M
 | _,_,_,_,_=>False
theorem rE{K:Ac}{H:Hp}{M:Mm}{vs:List V}{ws:List W}{lo hi:Option Int}(q:aK K H M vs ws):aK K H M (mH vs lo hi) (d5 ws lo hi):=by
 unfold mH d5;rw[q.length];exact(q.drop _).take _
def FU(K:Ac)(r:W->Option Int->Option Int->Mm->K3->Prop):V->Option Int->Option Int->Hp->VK->Prop:=λx lo hi H Q=>∃a M R,AM K H M/\AV K H M x a/\r a lo hi M R/\Up K H M R Q
theorem VX:oS X (FU X.K FT):=by
 rintro pins s Z H x v i d lo hi sl Q I l j pl m ⟨n,M,R,c,g,h,k⟩;cases n<;>first|exact(show False from h).elim|skip
 case tup ws=>exact g.tupE λa xs e f q=>DZ pins s Z H _ v i d lo hi sl Q I l j pl m ⟨a,xs,e,bV.of f,by rw[q.length];exact h.1,λp b=>laidT c k b (rE q) h.2⟩
 case sc ws=>exact g.scE λa xs e f q=>wU pins s Z H _ v i d lo hi sl Q I l j pl m ⟨a,xs,e,f.sq,λp b=>iU c k b (rE q) h⟩
 case rl ws=>exact g.rlE λa xs e f q=>wU pins s Z H _ v i d lo hi sl Q I l j pl m ⟨a,xs,e,bI.of f,λp b=>iU c k b (rE q) h⟩
 case ref a=>
  obtain⟨ws,e,r⟩:=h;exact c.lstE e λvs f q=>wU pins s Z H _ v i d lo hi sl Q I l j pl m ⟨a,vs,g.inv,bI.of f,λp b=>iU c k b (rE q) r⟩
abbrev mP:=S3->Mm->(Option Int->Mm->Prop)->Prop
def mQ(K:Ac)(t:mP):TO:=λZ H Q=>∃(c:S3) (M:Mm) (R:Option Int->Mm->Prop),AS K H M Z c/\AM K H M/\t c M R/\∀o a b,Kp H M a b->AM K a b->R o b->Q o a
theorem mQ.el{K:Ac}{H:Hp}{Z:SV}{C:Prop}{t:mP}{Q:Option Int->Hp->Prop}(h:mQ K t Z H Q)(c:∀d M R,AS K H M Z d->AM K H M->t d M R->(∀o e f,Kp H M e f->AM K e f->R o f->Q o e)->C):C:=by obtain⟨d,M,R,a,b,h,k⟩:=h;exact c d M R a b h k
def nY:mP:=λ_ M Q=>Q none M
def nZ(t:aX):mP:=λb M Q=>t b M λx a=>∃i,x=.int i/\Q (some i) a
theorem rF:PO X none (mQ X.K nY):=RW.weak λZ H Q b=>b.el λc M R as a h k=>k none H M (Kp.refl a) a h
theorem rG(h:E3 X a ta):PO X (some a) (mQ X.K (nZ ta)):=(RX h).weak λZ H Q f=>f.el λl M R as j h k=>⟨l,M,_,as,j,h,λx o m n c b g ⟨i,e,d⟩=>by
 subst e;exact⟨i,g.inv,k _ _ _ c b d⟩⟩
def fD:W->Bool
 | .non=>true
 | .bl _=>true
 | .int _=>true
 | .str _=>true
 | _=>false
def xT:W->W->Bool
 | .non,.non=>true
 | .bl a,.bl b=>a==b
 | .bl a,.int b=>(if a then 1 else 0)==b
 | .int a,.bl b=>a==(if b then 1 else 0)
 | .int a,.int b=>a==b
 | .str a,.str b=>a==b
 | _,_=>false
def inW(x:W)(ws:List W):Bool:=ws.any λy=>xT y x
theorem AV.flat{K:Ac}{H:Hp}{M:Mm}{v:V}{w:W}(h:AV K H M v w)(f:fD w=true):kQ v=true:=by cases h<;>first|rfl|exact f
def xU:W->V
 | .non=>.non
 | .bl b=>.bl b
 | .int i=>.int i
 | .str x=>.str x
 | _=>.non
theorem AV.flv{K:Ac}{H:Hp}{M:Mm}{v:V}{w:W}(h:AV K H M v w)(f:fD w=true):v=xU w:=by
 cases w<;>first|exact h.inv|exact absurd f Am
theorem VY:∀{w z:W},fD w=true->fD z=true->kR (xU w) (xU z)=xT w z:=by
 intro w z f g;cases w<;>first|exact absurd f Am|(cases z<;>first|rfl|exact absurd g Am)
theorem AV.eq{K:Ac}{H:Hp}{M:Mm}{v u:V}{w z:W}(h:AV K H M v w)(b:AV K H M u z)(f:fD w=true)(a:fD z=true):kR v u=xT w z:=by
 rw[h.flv f,b.flv a];exact VY f a
theorem aK.inn{K:Ac}{H:Hp}{M:Mm}{u:V}{z:W}(hz:AV K H M u z)(b:fD z=true):∀{vs:List V} {ws:List W},aK K H M vs ws->ws.all fD=true->vs.all kQ=true/\inV u vs=inW z ws
 | _,_,.nil,_=>⟨rfl,rfl⟩
 | _,_,.cons x r,f=>by
  rw[Oz,Cv]at f;obtain⟨c,a⟩:=aK.inn hz b r f.2;refine⟨by rw[Oz,x.flat f.1,c];rfl,?_⟩;unfold inV inW at a⊢;rw[Gg,Gg,a,x.eq hz f.1 b]
def occ(i j:Str):Bool:=!(Ma j i 0 j.length 1).isEmpty
def rIn(neg:Bool):R3
 | .str i,.str j,M,R=>R (.bl (if neg then !occ i j else occ i j)) M
 | x,.tup ws,M,R=>fD x=true/\ws.all fD=true/\R (.bl (if neg then !inW x ws else inW x ws)) M
 | x,.rl ws,M,R=>fD x=true/\ws.all fD=true/\R (.bl (if neg then !inW x ws else inW x ws)) M
 | x,.ref a,M,R=>(∃ws,M a=some (.lst ws)/\fD x=true/\ws.all fD=true/\R (.bl (if neg then !inW x ws else inW x ws)) M)\/∃o,fB M (.ref a) x o/\R (.bl (if neg then !o.isSome else o.isSome)) M
 | x,.dk kvs,M,R=>∃o,fB M (.dk kvs) x o/\R (.bl (if neg then !o.isSome else o.isSome)) M
 | x,.dt kvs,M,R=>∃o,fB M (.dt kvs) x o/\R (.bl (if neg then !o.isSome else o.isSome)) M
 | x,.fk kvs,M,R=>∃o,fB M (.fk kvs) x o/\R (.bl (if neg then !o.isSome else o.isSome)) M
 | x,.ft kvs,M,R=>∃o,fB M (.ft kvs) x o/\R (.bl (if neg then !o.isSome else o.isSome)) M
 | _,_,_,_=>False
def FV(M:Mm):W->List W->Prop
 | .tup ws,a=>ws=a
 | x,ws=>lS M x ws
theorem FX{K:Ac}{H:Hp}{M:Mm}{v:V}{w:W}{ws:List W}(c:AM K H M)(h:AV K H M v w)(e:FV M w ws):∃a xs,v=.ref a/\(bI K H a xs\/bV K H a xs)/\aK K H M xs ws:=by
 cases w
 case tup zs=>exact h.tupE λa xs b f q=>⟨_,_,b,.inr (bV.of f),by rw[<-show zs=ws from e];exact q⟩
 case ref|rl=>obtain⟨a,xs,b,f,q⟩:=mO c h e;exact⟨a,xs,b,.inl (bI.of f),q⟩
 all_goals exact(show False from e).elim
theorem FY{n:Bool}{P:W->W->Prop}(d:∀i j,R (.bl (if n then !occ i j else occ i j)) M->P (.str i) (.str j))(c:∀x y ws,FV M y ws->fD x=true/\ws.all fD=true/\R (.bl (if n then !inW x ws else inW x ws)) M->P x y)(b:∀x y o,fB M y x o->R (.bl (if n then !o.isSome else o.isSome)) M->P x y)(x y:W)(h:rIn n x y M R):P x y:=by
 cases y
 case non|bl|int|ty|sc=>exfalso;cases x<;>exact h
 case str=>cases x<;>first|exact(show False from h).elim|exact d _ _ h
 case tup=>exact c _ _ _ rfl (by cases x<;>exact h)
 case rl=>exact c _ _ _ rfl (by cases x<;>exact h)
 case ref a=>
  have h:(∃ws,M a=some (.lst ws)/\fD x=true/\ws.all fD=true/\R (.bl (if n then !inW x ws else inW x ws)) M)\/∃o,fB M (.ref a) x o/\R (.bl (if n then !o.isSome else o.isSome)) M:=by cases x<;>exact h
  exact h.elim (λ⟨ws,e,h⟩=>c _ _ _ e h) λ⟨o,g,r⟩=>b _ _ _ g r
 case dk kvs=>have h:∃o,fB M (.dk kvs) x o/\R (.bl (if n then !o.isSome else o.isSome)) M:=(by cases x<;>exact h);exact h.elim λo h=>b _ _ _ h.1 h.2
 case dt kvs=>have h:∃o,fB M (.dt kvs) x o/\R (.bl (if n then !o.isSome else o.isSome)) M:=(by cases x<;>exact h);exact h.elim λo h=>b _ _ _ h.1 h.2
 case fk kvs=>have h:∃o,fB M (.fk kvs) x o/\R (.bl (if n then !o.isSome else o.isSome)) M:=(by cases x<;>exact h);exact h.elim λo h=>b _ _ _ h.1 h.2
 case ft kvs=>have h:∃o,fB M (.ft kvs) x o/\R (.bl (if n then !o.isSome else o.isSome)) M:=(by cases x<;>exact h);exact h.elim λo h=>b _ _ _ h.1 h.2
def FZ(n:Bool):R2:=λx y H Q=>∃a o,y=.ref a/\iC H a x o/\Q (.bl (if n then !o.isSome else o.isSome)) H
theorem VZ(e:X.A.units+1<Gu):bE X (Cw .In) (FZ false):=by
 rintro pins s Z H x y v u Q I c b ⟨a,o,rfl,g,q⟩;cases b;exact TN e I g c λf d=>⟨.bl _,H,d,rfl,q⟩
theorem V0(e:X.A.units+1<Gu):bE X (Cw .NotIn) (FZ true):=by
 rintro pins s Z H x y v u Q I c b ⟨a,o,rfl,g,q⟩;cases b;exact TQ e I g c λf d=>⟨.bl _,H,d,rfl,q⟩
theorem F0{K:Ac}{H:Hp}{M:Mm}{x y:V}{c b:W}{o:Option W}(i:AM K H M)(f:AV K H M x c)(j:AV K H M y b)(h:fB M c b o):∃a d,x=.ref a/\iC H a y d/\d.isSome=o.isSome:=by
 obtain⟨a,e,⟨rfl,g⟩|⟨v,w,rfl,g,_⟩⟩:=tX i f j h
 .exact⟨a,_,e,g,rfl⟩
 .exact⟨a,_,e,g,rfl⟩
theorem j9(n:X.A.units+1<Gu):bE X (Cw .In) (dB X.K (rIn false)):=kY (QG.or (SM.or (VZ n))) λx y H Q M R c k=>FY
 (λi j h b d=>.inl ⟨i,j,b.inv,d.inv,k.at c (.bl _) h⟩)
 (λm l ws e h b d=>let ⟨a,xs,e1,f,q⟩:=FX c d e;.inr (.inl ⟨a,xs,e1,f,b.flat h.1,(aK.inn b h.1 q h.2.1).1,by rw[(aK.inn b h.1 q h.2.1).2];exact k.at c (.bl _) h.2.2⟩))
 (λm l o g r b d=>let ⟨a,o',e,g,z⟩:=F0 c d b g;.inr (.inr ⟨a,o',e,g,by rw[z];exact k.at c (.bl _) r⟩))
theorem mR(n:X.A.units+1<Gu):bE X (Cw .NotIn) (dB X.K (rIn true)):=kY (QJ.or (SN.or (V0 n))) λx y H Q M R c k=>FY
 (λi j h b d=>.inl ⟨i,j,b.inv,d.inv,k.at c (.bl _) h⟩)
 (λm l ws e h b d=>let ⟨a,xs,e1,f,q⟩:=FX c d e;.inr (.inl ⟨a,xs,e1,f,b.flat h.1,(aK.inn b h.1 q h.2.1).1,by rw[(aK.inn b h.1 q h.2.1).2];exact k.at c (.bl _) h.2.2⟩))
 (λm l o g r b d=>let ⟨a,o',e,g,z⟩:=F0 c d b g;.inr (.inr ⟨a,o',e,g,by rw[z];exact k.at c (.bl _) r⟩))
def cC:List W->Mm->K3->Prop
 | [.tup ws],M,R=>R (.int ws.length) M
 | [.rl ws],M,R=>R (.int ws.length) M
 | [.sc ws],M,R=>R (.int ws.length) M
 | [.dk kvs],M,R=>R (.int kvs.length) M
 | [.str z],M,R=>z.length<=An/\R (.int z.length) M
 | [.ref a],M,R=>(∃ws,M a=some (.lst ws)/\R (.int ws.length) M)\/∃kvs,M a=some (.dK kvs)/\R (.int kvs.length) M
 | _,_,_=>False
theorem V1{P:List W->Prop}(c:∀ws,R (.int ws.length) M->P [.tup ws])(f:∀ws,R (.int ws.length) M->P [.sc ws])(b:∀x ws,lS M x ws->R (.int ws.length) M->P [x])(d:∀z,z.length<=An/\R (.int z.length) M->P [.str z])(i:∀kvs,R (.int kvs.length) M->P [.dk kvs])(g:∀a kvs,M a=some (.dK kvs)->R (.int kvs.length) M->P [.ref a])(l:List W)(h:cC l M R):P l:=by
 match l,h with
 | [.tup _],h=>exact c _ h
 | [.rl _],h=>exact b _ _ rfl h
 | [.sc _],h=>exact f _ h
 | [.dk _],h=>exact i _ h
 | [.str _],h=>exact d _ h
 | [.ref _],h=>exact h.elim (λ⟨ws,e,r⟩=>b _ _ e r) λ⟨ws,e,r⟩=>g _ _ e r
theorem cS:cQ X (.builtin "len") (gC X.K cC):=xJ (SO.or (SQ.or UD)) λxs H Q M R g k=>V1
 (λws h c=>c.oneE λv b d=>d.tupE λa us e f q=>.inl ⟨_,_,iO b e,.inr (bV.of f),by rw[q.length];exact k.at g (.int _) h⟩)
 (λws h c=>c.oneE λv b d=>d.scE λa us e f q=>.inl ⟨_,_,iO b e,.inl f.sq,by rw[q.length];exact k.at g (.int _) h⟩)
 (λx ws i h c=>c.oneE λv b d=>let ⟨a,us,e,f,q⟩:=mO g d i;.inl ⟨_,_,iO b e,.inl (bI.of f),by rw[q.length];exact k.at g (.int _) h⟩)
 (λz h c=>c.oneE λv b d=>.inr (.inl ⟨z,iO b d.inv,h.1,k.at g (.int _) h.2⟩))
 (λkvs h c=>c.oneE λv b d=>let ⟨a,ks,e,f,_,q⟩:=d.inv;.inr (.inr ⟨a,ks,iO b e,f,by rw[Fn q];exact k.at g (.int _) h⟩))
 (λa kvs i h c=>c.oneE λv b d=>let ⟨ks,f,q⟩:=g _ _ i;.inr (.inr ⟨a,ks,iO b d.inv,f,by rw[Fn q];exact k.at g (.int _) h⟩))
def tY:List W->Mm->K3->Prop
 | [.tup ws],M,R=>a9 ws M R
 | [.rl ws],M,R=>a9 ws M R
 | [.sc ws],M,R=>a9 ws M R
 | [.dk kvs],M,R=>a9 (kvs.map λb=>wK b.1) M R
 | [.ref a],M,R=>(∃ws,M a=some (.lst ws)/\a9 ws M R)\/∃kvs,M a=some (.dK kvs)/\a9 (kvs.map λb=>wK b.1) M R
 | _,_,_=>False
theorem F1{K:Ac}{H:Hp}{M:Mm}{ks:List (aF×V)}{kvs:List (aF×W)}(h:bN K H M aF ks kvs):aK K H M (ks.map λa=>kV a.1) (kvs.map λa=>wK a.1):=by
 induction h with
 | nil=>exact .nil
 | @cons p q ps qs r t b=>
  refine .cons ?_ b;show AV K H M (kV p.1) (wK q.1);rw[r.1];cases q.1 with
  | inl i=>exact .int i
  | inr x=>exact .str x
theorem V2{P:List W->Prop}(d:∀ws,a9 ws M R->P [.tup ws])(f:∀ws,a9 ws M R->P [.sc ws])(c:∀x ws,lS M x ws->a9 ws M R->P [x])(i:∀kvs:List (aF×W),a9 (kvs.map λb=>wK b.1) M R->P [.dk kvs])(g:∀a kvs,M a=some (.dK kvs)->a9 (kvs.map λb=>wK b.1) M R->P [.ref a])(l:List W)(h:tY l M R):P l:=by
 match l,h with
 | [.tup _],h=>exact d _ h
 | [.rl _],h=>exact c _ _ rfl h
 | [.sc _],h=>exact f _ h
 | [.dk _],h=>exact i _ h
 | [.ref _],h=>exact h.elim (λ⟨ws,e,r⟩=>c _ _ e r) λ⟨ws,e,r⟩=>g _ _ e r
theorem xV(hc:X.calm=true):cQ X (.type "list") (gC X.K tY):=xJ (SU.or (UT hc)) λxs H Q M R i k=>V2
 (λws h c=>c.oneE λv b g=>g.tupE λa us e f q=>.inl ⟨_,_,iO b e,.inr (bV.of f),λp d=>iU i k d q h⟩)
 (λws h c=>c.oneE λv b g=>g.scE λa us e f q=>.inl ⟨_,_,iO b e,.inl f.sq,λp d=>iU i k d q h⟩)
 (λx ws j h c=>c.oneE λv b g=>let ⟨a,us,e,f,q⟩:=mO i g j;.inl ⟨_,_,iO b e,.inl (bI.of f),λp d=>iU i k d q h⟩)
 (λkvs h c=>c.oneE λv b g=>let ⟨a,ks,e,f,_,q⟩:=g.inv;.inr ⟨a,ks,iO b e,f,λp d=>iU i k d (F1 q) h⟩)
 (λa kvs j h c=>c.oneE λv b g=>let ⟨ks,f,q⟩:=i _ _ j;.inr ⟨a,ks,iO b g.inv,f,λp d=>iU i k d (F1 q) h⟩)
def xW:List W->Mm->K3->Prop
 | [.tup ws],M,R=>R (.tup ws) M
 | [.rl ws],M,R=>R (.tup ws) M
 | [.ref a],M,R=>∃ws,M a=some (.lst ws)/\R (.tup ws) M
 | _,_,_=>False
theorem V3{P:List W->Prop}(b:∀ws,R (.tup ws) M->P [.tup ws])(a:∀x ws,lS M x ws->R (.tup ws) M->P [x])(l:List W)(h:xW l M R):P l:=by
 match l,h with
 | [.tup _],h=>exact b _ h
 | [.rl _],h=>exact a _ _ rfl h
 | [.ref _],h=>exact h.elim λws h=>a _ _ h.1 h.2
theorem V4:cQ X (.type "tuple") (gC X.K xW):=xJ SW λxs H Q M R g k=>V3
 (λws h d=>d.oneE λv c b=>b.tupE λa us e f q=>⟨_,_,iO c e,.inr ⟨bV.of f,k.at g (by rw[<-e];exact b) h⟩⟩)
 (λx ws j h d=>d.oneE λv c b=>let ⟨a,us,e,f,q⟩:=mO g b j;⟨_,_,iO c e,.inl ⟨bI.of f,λp i=>laidT g k i q h⟩⟩)
def rH:List W->Mm->K3->Prop
 | [.int i,.int j],M,R=>R (.int (if j<i then j else i)) M
 | _,_,_=>False
theorem F5(hc:X.calm=true):cQ X (.builtin "min") (gC X.K rH):=by
 rintro pins s Z H xs us Q I rs ⟨ws,M,R,b,a,h,k⟩
 match ws,h with
 | [.int i,.int j],h=>
  obtain⟨v,u,rfl,c,d⟩:=a.two;cases c;cases d;exact QT hc pins s Z H _ us Q I rs ⟨i,j,rfl,k.at b (.int _) h⟩
theorem aK.ints{K:Ac}{H:Hp}{M:Mm}:∀{bs:List Int} {vs:List V},aK K H M vs (bs.map W.int)->vs=bs.map V.int
 | [],_,h=>by cases h;rfl
 | b::r,_,h=>by
  cases h with
  | cons x y=>cases x;rw[aK.ints y];rfl
def fN:W->List W->Mm->K3->Prop
 | .ref l,[y],M,R=>∃ws,M l=some (.lst ws)/\ws.length<An/\R .non (put M l (.lst (ws++[y])))
 | _,_,_,_=>False
theorem jG:jE X "list.append" (kW X.K fN):=by
 rintro pins s Z H x xs v us Q I i rs ⟨g,ws,M,R,b,c,a,h,k⟩
 match g,ws,h with
 | .ref l,[y],h=>
  obtain⟨z,rfl,d⟩:=a.one;cases c;obtain⟨ws,e,hl,r⟩:=h;obtain⟨vs,f,q⟩:=b.lst e;exact EB pins s Z H _ _ v us Q I i rs ⟨l,vs,z,rfl,rfl,f,by rw[q.length];exact hl,pB b k e (q.append (.cons d .nil)) .non r⟩
def F6:W->List W->Mm->K3->Prop
 | .ref l,[.ref b],M,R=>∃ws a,M l=some (.lst ws)/\M b=some (.lst a)/\ws.length+a.length<=An/\R .non (put M l (.lst (ws++a)))
 | .ref l,[.rl a],M,R=>∃ws,M l=some (.lst ws)/\ws.length+a.length<=An/\R .non (put M l (.lst (ws++a)))
 | _,_,_,_=>False
theorem V5:jE X "list.extend" (kW X.K F6):=by
 rintro pins s Z H x xs v us Q I m rs ⟨p,ws,M,R,a,j,c,h,k⟩
 match p,ws,h with
 | .ref l,[.ref b],h=>
  obtain⟨z,rfl,g⟩:=c.one;cases j;cases g;obtain⟨ws,o,e,t,hl,r⟩:=h;obtain⟨vs,f,q⟩:=a.lst e;obtain⟨n,i,d⟩:=a.lst t;exact EC pins s Z H _ _ v us Q I m rs ⟨l,b,vs,n,rfl,rfl,f,i,by rw[q.length,d.length];exact hl,pB a k e (q.append d) .non r⟩
 | .ref l,[.rl o],h=>
  obtain⟨z,rfl,g⟩:=c.one;cases j;cases g with
  | rl i _ d=>
   obtain⟨ws,e,hl,r⟩:=h;obtain⟨vs,f,q⟩:=a.lst e;exact EC pins s Z H _ _ v us Q I m rs ⟨l,_,vs,_,rfl,rfl,f,i,by rw[q.length,d.length];exact hl,pB a k e (q.append d) .non r⟩
def rPop:W->List W->Mm->K3->Prop
 | .ref l,[],M,R=>∃ws w,M l=some (.lst (ws++[w]))/\R w (put M l (.lst ws))
 | _,_,_,_=>False
theorem rJ:jE X "list.pop" (kW X.K rPop):=by
 rintro pins s Z H x xs v us Q I j rs ⟨g,ws,M,R,b,c,a,h,k⟩
 match g,ws,h with
 | .ref l,[],h=>
  cases a;cases c;obtain⟨ws,w,e,r⟩:=h;obtain⟨vs,f,q⟩:=b.lst e;have hl:=q.length;rw[Aj,Bq]at hl;obtain⟨z,hz,d⟩:=q.getW (i:=ws.length) (w:=w) (by simp);refine S7 pins s Z H _ _ v us Q I j rs ⟨l,vs,z,rfl,rfl,f,by rw[hl];exact hz,pB b k e ?_ d r⟩;have:=q.dropLast;rw[List.dropLast_concat]at this;exact this
def n6:aX:=λ_ M R=>oY [] M R
def lX:aX:=λ_ M R=>kU [] M R
theorem pE:E3 X (.Dict [] [] pos) n6:=T2.weak λZ H Q ⟨e,M,R,as,b,h,k⟩ p c=>by
 obtain⟨a,d⟩:=b.laid (o:=.dK []) (u:=.dK []) c ⟨[],dO,.nil⟩;exact k _ _ _ _ d a (.ref p) (h p (b.nonM c))
theorem mS:E3 X (.Dict [] [] pos) lX:=T4.weak λZ H Q ⟨e,M,R,as,b,h,k⟩ p c=>by
 obtain⟨a,d⟩:=b.laid (o:=.dT []) (u:=.dT []) c ⟨[],dO,.nil⟩;exact k _ _ _ _ d a (.ref p) (h p (b.nonM c))
end
abbrev P3(X:Cx)(st:Stmt)(t:aI):Prop:=PS X st (qV X.K t)
abbrev k7(X:Cx)(st:List Stmt)(t:aI):Prop:=f7 X st (qV X.K t)
abbrev eR:=W->S3->Mm->(S3->Mm->Prop)->Prop
abbrev mT:=List W->S3->Mm->(S3->Mm->Prop)->Prop
def gN(K:Ac)(g:eR):TG:=λv b H Q=>∃w a M R,AV K H M v w/\AS K H M b a/\AM K H M/\g w a M R/\iN K H M R Q
def pF(K:Ac)(g:mT):j0:=λvs b H Q=>∃ws a M R,aK K H M vs ws/\AS K H M b a/\AM K H M/\g ws a M R/\iN K H M R Q
theorem gN.el{K:Ac}{H:Hp}{f:SV}{C:Prop}{t:eR}{v:V}{Q:SV->Hp->Prop}(h:gN K t v f H Q)(c:∀w e M R,AV K H M v w->AS K H M f e->AM K H M->t w e M R->iN K H M R Q->C):C:=by obtain⟨w,e,M,R,a,b,d,h,k⟩:=h;exact c w e M R a b d h k
theorem pF.el{K:Ac}{H:Hp}{f:SV}{C:Prop}{t:mT}{v:List V}{Q:SV->Hp->Prop}(h:pF K t v f H Q)(c:∀w e M R,aK K H M v w->AS K H M f e->AM K H M->t w e M R->iN K H M R Q->C):C:=by obtain⟨w,e,M,R,a,b,d,h,k⟩:=h;exact c w e M R a b d h k
section
variable {X:Cx}{pos:Pos}
theorem _root_.L2.PG.weak(h:PG X e t)(k:∀v b H Q,t' v b H Q->t v b H Q):PG X e t':=λa s b H v u Q I r q=>h a s b H v u Q I r (k v b H Q q)
theorem _root_.L2.jC.weak(h:jC X e t)(k:∀v b H Q,t' v b H Q->t v b H Q):jC X e t':=λa s b H v u Q I r q=>h a s b H v u Q I r (k v b H Q q)
theorem iN.at{K:Ac}{H:Hp}{M:Mm}{R:S3->Mm->Prop}{Q:SV->Hp->Prop}(h:iN K H M R Q)(c:AM K H M){a:SV}{b:S3}(as:AS K H M a b)(r:R b M):Q a H:=h a H b M (Kp.refl c) c as r
def bA(i:Nat):eR:=λw a M R=>R (a.set i (some w)) M
theorem F7{i:Nat}(b:X.N.Nodup)(hi:X.N[i]? = some x)(e:Loc X.env.scope x)(hf:X.fn x=true\/X.env.scope.names.lookup x=some .local:=by first|exact .inl rfl|exact .inr rfl|assumption):PG X (.Name x pos) (gN X.K (bA i)):=
 (O4 b hi e hf).weak λv f H Q a=>a.el λw g M R d as c h k=>k.at c (as.set d i) h
def jH:mT:=λws a M R=>ws=[]/\R a M
def d9(t:eR)(u:mT):mT:=λws c M R=>match ws with
 | w::r=>t w c M λa b=>u r a b R
 | []=>False
theorem k9:jC X [] (pF X.K jH):=O7.weak λvs c H Q z=>z.el λws d M R a as b h k=>⟨aK.nil_ (by rw[<-h.1];exact a),k.at b as h.2⟩
theorem eM{e:Expr}{es:List Expr}{t:eR}{u:mT}(o:PG X e (gN X.K t))(m:jC X es (pF X.K u))(j:(Hq (e::es) X.env).map (·.2)=Nr e X.env::(Hq es X.env).map (·.2):=by rfl):jC X (e::es) (pF X.K (d9 t u)):=
 (O8 o m j).weak λvs s H Q g=>g.el λws p M R l as f h k=>by
  cases l with
  | nil=>exact(show False from h).elim
  | cons x r=>exact⟨_,_,rfl,_,p,M,_,x,as,f,h,λn q c i d a b h'=>⟨_,c,i,R,r.kp f d,b,a,h',k.kp d⟩⟩
def jI(n:Nat)(g:mT):eR:=λw b M R=>match w with
 | .tup ws=>ws.length=n/\g ws b M R
 | .rl ws=>ws.length=n/\g ws b M R
 | .ref a=>∃ws,M a=some (.lst ws)/\ws.length=n/\g ws b M R
 | _=>False
theorem lA{k:Nat}{n:Nat}(hc:X.calm=true)(h:jC X es (pF X.K t))(i:(Hq es X.env).length=n:=by rfl)(c:(Hq es X.env).findIdx? (·.1)=none:=by rfl):PG X (.Tuple es k pos) (gN X.K (jI n t)):=by
 rintro b s l H v u Q I r ⟨w,m,M,R,j,as,d,hw,g⟩;cases w<;>first|exact(show False from hw).elim|skip
 case tup ws=>exact j.tupE λa xs e f q=>PB hc h i c b s l H _ u Q I r ⟨a,xs,e,bV.of f,by rw[q.length];exact hw.1,_,m,M,R,q,as,d,hw.2,g⟩
 case rl ws=>exact j.rlE λa xs e f q=>ET hc h i c b s l H _ u Q I r ⟨a,xs,e,bI.of f,by rw[q.length];exact hw.1,_,m,M,R,q,as,d,hw.2,g⟩
 case ref a=>exact hw.elim λws hw=>d.lstE hw.1 λxs f q=>ET hc h i c b s l H _ u Q I r ⟨a,xs,j.inv,bI.of f,by rw[q.length];exact hw.2.1,_,m,M,R,q,as,d,hw.2.2,g⟩
def fY(te:aX)(g:eR):aI:=λD a M=>te a M λx b=>g x a b D.nx
theorem V6{K:Ac}{te:aX}{g:eR}{D:lM}{c:SV}{H:Hp}(h:qV K (fY te g) D c H):sZ (up K te) (gN K g) D c H:=by
 obtain⟨d,M,i,as,b,h,k⟩:=h;exact⟨d,M,_,as,b,h,λx n l j e a f m=>⟨l,d,j,i.nx,f,as.kp b e,a,m,k.nx.kp e⟩⟩
theorem iW(c:E3 X e te)(b:PG X tg (gN X.K g))(a:swapsWithSole [tg] e pos.line X.env=pure false:=by rfl)(hw:swappedStores [tg] e X.env=pure none:=by rfl)(d:(Hq [tg] X.env).map (·.2)=[Nr tg X.env]:=by rfl):P3 X (.Assign [tg] e pos) (fY te g):=(PF c b a hw d).weak λ_ _ _ h=>V6 h
def aY(i:Nat)(te:aX):aI:=λD a M=>te a M λx b=>D.nx (a.set i (some x)) b
theorem V7{i:Nat}(m:X.N.Nodup)(hi:X.N[i]? = some x)(o:Loc X.env.scope x)(n:E3 X e te)(l:Jd e (some (.Name x a)) pos.line X.env=pure false:=by rfl)(hf:X.fn x=true\/X.env.scope.names.lookup x=some .local:=by first|exact .inl rfl|exact .inr rfl|assumption):
  P3 X (.Assign [.Name x a] e pos) (aY i te):=(PH m hi o n l hf).weak λD u H j=>j.el λp M q as c h k=>⟨p,M,_,as,c,h,λy s r t d b f g=>k.nx _ _ _ _ d b ((as.kp c d).set f i) g⟩
def pG(o i v:W)(M:Mm)(Q:Mm->Prop):Prop:=match o with
 | .ref a=>(∃ws k j,i=.int k/\M a=some (.lst ws)/\iT ws.length k=some j/\Q (put M a (.lst (ws.set j v))))\/
   (∃kvs k,i=wK k/\M a=some (.dK kvs)/\kvs.length<An/\Q (put M a (.dK (bQ kvs k v))))\/
   ∃kvs k,i=.tup (k.map wK)/\M a=some (.dT kvs)/\kvs.length<An/\Q (put M a (.dT (bQ kvs k v)))
 | _=>False
def V8(K:Ac):sX:=λo i v H Q=>∃d wi c M R,AV K H M o d/\AV K H M i wi/\AV K H M v c/\AM K H M/\pG d wi c M R/\∀b a,Kp H M b a->AM K b a->R a->Q b
theorem set_dict(j:X.A.units+1<Gu):sY X (λo i v H Q=>∃a b,o=.ref a/\mK H a i v b/\Q b):=by
 intro c s n H o i v l p u Q I g k f h;obtain⟨a,b,rfl,d,q⟩:=h;cases g;exact TU j I d k f λm e=>⟨b,e,q⟩
theorem F8{U:Type}[DecidableEq U]{K:Ac}{H:Hp}{M:Mm}{ks:List (U×V)}{kvs:List (U×W)}{n:U}{v:V}{b:W}{a:Addr}{o:MO}{u:HO}(c:AM K H M)(e:M a=some o)(q:bN K H M U ks kvs)(f:AV K H M v b){d:MO}:bN K (aR H a u) (put M a d) U (eQ ks n v) (bQ kvs n b):=Paired.mapP (tW q n f) λp q z=>⟨z.1,z.2.wr c e⟩
theorem V9(G:X.A.units+1<Gu):sY X (V8 X.K):=by
 rintro d s x H o i v D E u Q I B F z ⟨L,wi,y,M,R,w,l,C,g,h,k⟩;cases L<;>first|exact(show False from h).elim|skip
 rename_i a;rcases h with⟨ws,n,j,m,e,J,r⟩|⟨kvs,n,m,e,hl,r⟩|⟨kvs,n,m,e,hl,r⟩
 .rw[m]at l;obtain⟨vs,f,q⟩:=g.lst e;obtain⟨c,p⟩:=g.write (o:=.lst (ws.set j y)) (u:=.lst (vs.set j v)) e ⟨_,dO,(aK.set C j q).wr g e⟩;exact SF d s x H _ _ v D E u Q I B F z ⟨a,vs,n,j,w.inv,l.inv,f,by rw[q.length];exact J,k _ _ p c r⟩
 .rw[m]at l;obtain⟨ks,f,q⟩:=g _ _ e;obtain⟨c,p⟩:=g.write (o:=.dK (bQ kvs n y)) (u:=.dK (eQ ks n v)) e ⟨_,dO,F8 g e q C⟩;exact set_dict G d s x H _ _ v D E u Q I B F z ⟨a,_,w.inv,by rw[l.key];exact mK.k f (by rw[Fn q];exact hl),k _ _ p c r⟩
 .rw[m]at l;obtain⟨ks,f,q⟩:=g _ _ e;obtain⟨c,p⟩:=g.write (o:=.dT (bQ kvs n y)) (u:=.dT (eQ ks n v)) e ⟨_,dO,F8 g e q C⟩;exact l.tupE λb xs eb fb N=>set_dict G d s x H _ _ v D E u Q I B F z ⟨a,_,w.inv,by rw[eb];exact mK.t f (by rw[<-N.keys];exact fb) (by rw[Fn q];exact hl),k _ _ p c r⟩
def gD(e c:aX):eR:=λw a M R=>e a M λo d=>c a d λi b=>pG o i w b λf=>R a f
theorem w_sub{o i:Expr}{l n:aX}(D:X.A.units+1<Gu)(s:E3 X o l)(hi:E3 X i n)(ha:∀v,Nr (.Subscript o i pos) X.env v=(do
   let e <-Jn [v] (eval o X.env)
   let g <-Jn [v,e] (eval i X.env)
   Pj pos
   Jn [v,e,g] (setItem e g v)
   release [v,e,g] []):=by intro _;rfl):PG X (.Subscript o i pos) (gN X.K (gD l n)):=
 (PD s hi (V9 D) ha).weak λv G H Q C=>C.el λw p M R y as d h k=>⟨p,M,_,as,d,h,λo J u E f a q B=>⟨p,E,_,as.kp d f,a,B,λi F wi t c b x z=>
  ⟨u,wi,w,t,_,q.kp a c,x,(y.kp d f).kp a c,b,z,λL I m j r=>k _ _ _ _ ((f.trans c).trans m) j (((as.kp d f).kp a c).kp b m) r⟩⟩⟩
def eA:aI:=λD a M=>D.nx a M
def aL(t u:aI):aI:=λD a M=>t {D with nx:=u D} a M
variable {st:Stmt}{rest:List Stmt}{t u:aI}{e:Expr}{te:aX}
theorem eS:k7 X [] eA:=OT.weak λD d H a=>a.el λe M c as b h k=>k.nx.at b as h
theorem aO(m:P3 X st t)(l:k7 X rest u):k7 X (st::rest) (aL t u):=(OU m l).weak λD p H e=>e.el λn M d as i h k=>
 ⟨n,M,_,as,i,h,⟨λj o c f g a b h'=>⟨c,f,d,b,a,h',k.kp g⟩,k.rt,k.bk,k.ct⟩⟩
theorem aS(a:P3 X st t):k7 X [st] t:=OV a
def d6(te:aX):aI:=λD a M=>te a M λ_ b=>D.nx a b
theorem eJ(g:E3 X e te)(f:Jd e none pos.line X.env=pure false:=by rfl):P3 X (.Expr e pos) (d6 te):=(OX g f).weak λD o H d=>d.el λi M j as c h k=>
 ⟨i,M,_,as,c,h,λv m w l b a n r=>k.nx _ _ _ _ b a (as.kp c b) r⟩
def cA(te:aX):aI:=λD a M=>te a M D.rt
theorem cD(c:E3 X e te):P3 X (.Return (some e) pos) (cA te):=(OZ c).weak λD g H a=>a.el λd M f as b h k=>⟨d,M,_,as,b,h,k.rt⟩
def xX:aI:=λD _ M=>D.rt .non M
theorem F9:P3 X (.Return none pos) xX:=O1.weak λD d H a=>a.el λe M c as b h k=>k.rt.at b .non h
def dJ(c:dP)(t u:aI):aI:=λD a M=>c a M λb d=>if b=true then t D a d else u D a d
theorem d7(hc:T3 X c tc)(ha:k7 X a t)(hb:k7 X b u):P3 X (.If c a b pos) (dJ tc t u):=(O3 hc ha hb).weak λD o H m=>m.el λg M i as f h k=>
 ⟨g,M,_,as,f,h,λb n j e d l=>by
  cases b with
  | true=>exact⟨g,j,i,as.kp f e,d,l,k.kp e⟩
  | false=>exact⟨g,j,i,as.kp f e,d,l,k.kp e⟩⟩
def pH(c:dP)(tb:aI):aI:=λD e M=>∃g:Nat->S3->Mm->Prop,(∃m,g m e M)/\∀m e M,g m e M->
 c e M λb i=>if b=true then tb {D with nx:=λd h=>∃f a,f<m/\Sub a h/\g f d a,ct:=λd h=>∃f a,f<m/\Sub a h/\g f d a,bk:=D.nx} e i else D.nx e i
theorem tZ(I:PassesOwn (Bo X.prog X.w) X.A X.env X.xe)(hc:T3 X c tc)(hb:k7 X n tb):P3 X (.While c n [] pos) (pH tc tb):=
 (PK I hc hb).weak λD T H ⟨R,M,E,as,F,⟨r,⟨m,P⟩,h⟩,k⟩=>by
  refine⟨λm g i=>∃a d,Kp H M i d/\AM X.K i d/\AS X.K i d g a/\r m a d,⟨m,R,M,Kp.refl F,F,as,P⟩,?_⟩;rintro m S U ⟨l,G,v,p,o,J⟩;refine⟨l,G,_,o,p,h m l G J,λb L z q t u=>?_⟩;cases b with
  | false=>exact k.nx _ _ _ _ (v.trans q) t (o.kp p q) u
  | true=>
   have u:tb {E with nx:=λa d=>∃f e,f<m/\Sub e d/\r f a e,ct:=λa d=>∃f e,f<m/\Sub e d/\r f a e,bk:=E.nx} l z:=u;refine⟨λg i=>∃f a d,f<m/\Kp H M i d/\AM X.K i d/\AS X.K i d g a/\r f a d,λg i ⟨f,a,d,y,s,x,N,O⟩=>⟨f,y,a,d,s,x,N,O⟩,l,z,_,o.kp p q,t,u,?_⟩;have j:iN X.K L z (λa d=>∃f e,f<m/\Sub e d/\r f a e) (λg i=>∃f a d,f<m/\Kp H M i d/\AM X.K i d/\AS X.K i d g a/\r f a d):=
    λg i a d Q C B ⟨f,e,y,s,x⟩=>⟨f,a,e,y,((v.trans q).trans Q).sub s,C.sub s,B.sub s,x⟩
   exact⟨j,(k.rt.kp v).kp q,(k.nx.kp v).kp q,j⟩
abbrev iX:=S3->Mm->(List W->(Mm->Prop)->Mm->Prop)->Prop
structure jJ(K:Ac)(H0:Hp)(M0:Mm)(J:It)(ws:List W)(keep:Mm->Prop):Prop where
 go:∀i H M,Kp H0 M0 H M->AM K H M->keep M->i<ws.length->J.go i H
 stop:∀H M,Kp H0 M0 H M->AM K H M->keep M->J.stop ws.length H
 yld:∀i H M x H',Kp H0 M0 H M->AM K H M->keep M->i<ws.length->J.yld i H x H'->∃w,ws[i]? = some w/\Kp H M H' M/\AM K H' M/\AV K H' M x w
def g7(K:Ac)(wi:iX):TI:=λe H d=>∃(c:S3) (M:Mm) (R:List W->(Mm->Prop)->Mm->Prop),AS K H M e c/\AM K H M/\wi c M R/\∀J b ws keep a,Kp H M b a->AM K b a->jJ K b a J ws keep->R ws keep a->d J b
theorem g7.el{K:Ac}{H:Hp}{g:SV}{C:Prop}{t:iX}{Q:It->Hp->Prop}(h:g7 K t g H Q)(c:∀f M R,AS K H M g f->AM K H M->t f M R->(∀J e ws keep d,Kp H M e d->AM K e d->jJ K e d J ws keep->R ws keep d->Q J e)->C):C:=by obtain⟨f,M,R,a,b,h,k⟩:=h;exact c f M R a b h k
theorem _root_.L2.PI.weak{tg iter:Expr}{t t':TI}(h:PI X tg iter t)(k:∀b H R,t' b H R->t b H R):PI X tg iter t':=λa s b H R I q=>h a s b H R I (k b H R q)
def rK(ws:List W)(keep:Mm->Prop)(g:eR)(tb:aI)(D:D3)(b:S3)(M:Mm):Prop:=
 ∃d:Nat->S3->Mm->Prop,d 0 b M/\(∀i b M,i<=ws.length->d i b M->keep M)/\
  (∀i w b M,ws[i]? = some w->d i b M->g w b M λe h=>tb {D with nx:=λc f=>∃a,Sub a f/\d (i+1) c a,ct:=λc f=>∃a,Sub a f/\d (i+1) c a,bk:=D.nx} e h)/\
  ∀b M,d ws.length b M->D.nx b M
def cY(wi:iX)(g:eR)(tb:aI):aI:=λD a M=>wi a M λws keep b=>rK ws keep g tb D a b
theorem dQ(hp:PassesOwn (Bo X.prog X.w) X.A X.env X.xe)(hc:X.calm=true)(hi:PI X tg iter (g7 X.K wi))(hg:PG X tg (gN X.K g))(hb:k7 X p tb)(I:∀x,Gj iter X.env x=pure x:=by intro _;rfl):P3 X (.For tg iter p [] pos) (cY wi g tb):=
 (PY hp hc hi hg hb I).weak λD Z H z0=>z0.el λW M D' as V h k=>by
  refine⟨W,M,_,as,V,h,λJ Q ws keep B C u it ⟨z,h0,hk,I,hd⟩=>?_⟩;refine⟨λi m c f=>m=ws.length-i/\i<=ws.length/\∃a b,Kp Q B f b/\AM X.K f b/\AS X.K f b c a/\z i a b,⟨_,rfl,Bk _,W,B,Kp.refl u,u,as.kp V C,h0⟩,?_⟩;rintro i m σ2 E ⟨rfl,hi,d,n,s,l,v,t⟩
  by_cases r:i<ws.length
  .refine .inr ⟨it.go i E n s l (hk i d n hi t) r,λc f=>∃a b,Kp Q B f b/\AM X.K f b/\AS X.K f b c a/\z (i+1) a b,λc f q=>⟨ws.length-(i+1),by lia,rfl,r,q⟩,λx H3 y=>?_⟩;obtain⟨w,hw,U,L,Y⟩:=it.yld i E n x H3 s l (hk i d n hi t) r y;refine⟨w,d,n,_,Y,v.kp l U,L,I i w d n hw t,λσ4 K R T k4 G P h4=>⟨R,T,_,P,G,h4,?_⟩⟩;have F:=((s.trans U).trans k4);have j:iN X.K K T (λa b=>∃o,Sub o b/\z (i+1) a o) (λc f=>∃a b,Kp Q B f b/\AM X.K f b/\AS X.K f b c a/\z (i+1) a b):=
    λc f a b k' S N ⟨o,O,q3⟩=>⟨a,o,(F.trans k').sub O,S.sub O,N.sub O,q3⟩
   exact⟨j,k.rt.kp (C.trans F),k.nx.kp (C.trans F),j⟩
  .have e:i=ws.length:=by lia
   subst e;exact .inl ⟨it.stop E n s l (hk _ d n hi t),k.nx _ _ _ _ (C.trans s) l v (hd d n t)⟩
theorem pI{keep:Mm->Prop}(c:Nat->S3->Mm->Prop)(h:c 0 b M)(hk:∀i b M,i<=ws.length->c i b M->keep M)(k:∀i w b M,ws[i]? = some w->c i b M->g w b M λe j=>tb {D with nx:=λd f=>∃a,Sub a f/\c (i+1) d a,ct:=λd f=>∃a,Sub a f/\c (i+1) d a,bk:=D.nx} e j)(hd:∀b M,c ws.length b M->D.nx b M):rK ws keep g tb D b M:=⟨c,h,hk,k,hd⟩
variable {tg l a b:Expr}{tl ta tb':aX}
theorem WA{K:Ac}{b:Hp}{d:Mm}{p:Addr}{ws:List W}:jJ K b d (oO K p) ws λM=>M p=some (.lst ws) where
 go:=λi H M _ a e hi=>by
  obtain⟨vs,f,q⟩:=a.lst e;exact⟨vs,vs[i]'(by rw[q.length];exact hi),bI.of f,by simp⟩
 stop:=λH M _ a e=>by
  obtain⟨vs,f,q⟩:=a.lst e;exact⟨vs,bI.of f,by rw[q.length];exact Ai _⟩
 yld:=λi H M x g _ a e hi y=>by
  obtain⟨rfl,y⟩:=y;obtain⟨vs,f,q⟩:=a.lst e;obtain⟨w,hw,c⟩:=q.getV (y vs (bI.of f));exact⟨w,hw,Kp.refl a,a,c⟩
theorem GA{K:Ac}{b:Hp}{c:Mm}{p:Addr}{vs:List V}{ws:List W}(d:AM K b c)(st:∀H M,Kp b c H M->bI K H p vs)(e:aK K b c vs ws):jJ K b c (oO K p) ws λ_=>True:=by
 refine⟨λi H M k a _ hi=>⟨vs,vs[i]'(by rw[e.length];exact hi),st H M k,by simp⟩,λH M k a _=>⟨vs,st H M k,by rw[e.length];exact Ai _⟩,λi H M x g k a _ hi y=>?_⟩;obtain⟨rfl,y⟩:=y;obtain⟨w,hw,f⟩:=(e.kp d k).getV (y vs (st _ M k));exact⟨w,hw,Kp.refl a,a,f⟩
theorem WB{K:Ac}{b:Hp}{c:Mm}{p:Addr}{vs:List V}{ws:List W}(a:AM K b c)(e:lP K b p vs)(d:aK K b c vs ws):jJ K b c (oO K p) ws λ_=>True:=
 GA a (λH M k=>by
  refine lP.sq ?_;rcases e with⟨o,e⟩|e
  .exact .inl ⟨o,(k.fr _ _ (a.noFrz e) e).1⟩
  .exact .inr e) d
theorem WC{K:Ac}{b:Hp}{a:Mm}{p:Addr}{vs:List V}{ws:List W}(c:AM K b a)(e:b p=some (.lst vs))(n:a p=none)(d:aK K b a vs ws):jJ K b a (oO K p) ws λ_=>True:=
 GA c (λH M k=>bI.of (k.fr _ _ n e).1) d
theorem WD{K:Ac}{b:Hp}{d:Mm}{p:Addr}{vs:List V}{ws:List W}(a:AM K b d)(e:b p=some (.tup vs))(f:aK K b d vs ws):jJ K b d (wJ K p) ws λ_=>True:=by
 have st:∀H M,Kp b d H M->bV K H p vs:=λH M k=>bV.of (k.fr _ _ (a.noTup e) e).1;refine⟨λi H M k c _ hi=>⟨vs,vs[i]'(by rw[f.length];exact hi),st H M k,by simp⟩,λH M k c _=>⟨vs,st H M k,by rw[f.length];exact Ai _⟩,λi H M x h k c _ hi y=>?_⟩;obtain⟨rfl,y⟩:=y;obtain⟨w,hw,g⟩:=(f.kp a k).getV (y vs (st _ M k));exact⟨w,hw,Kp.refl c,c,g⟩
theorem WE{K:Ac}{c:Hp}{b:Mm}{lo:Int}{n:Nat}:jJ K c b (tD lo n) ((Dw n).map λi=>W.int (lo+(i:Nat))) λ_=>True where
 go:=λi H M _ a _ hi=>by show i<n;simpa using hi
 stop:=λH M _ a _=>by show n<=_;simp
 yld:=λi H M x d _ a _ hi y=>by
  obtain⟨rfl,rfl⟩:=y;have hi:i<n:=by simpa using hi
  exact⟨.int (lo+i),by simp[hi],Kp.refl a,a,.int _⟩
theorem WG{K:Ac}{d:Hp}{b:Mm}{z:Str}:jJ K d b (xB z) (z.cps.toList.map λc=>W.str ⟨#[c]⟩) λ_=>True where
 go:=λi H M _ a _ hi=>by show i<z.cps.size;simpa using hi
 stop:=λH M _ a _=>by show z.cps.size<=_;simp
 yld:=λi H M x e _ a _ hi y=>by
  obtain⟨rfl,c,hc,rfl⟩:=y;exact⟨.str ⟨#[c]⟩,by rw[Av,hc];rfl,Kp.refl a,a,.str _⟩
def mU(X:Cx)(tg:Expr)(r:V->Hp->(It->Hp->Prop)->Prop):Prop:=
 ∀(a:List (Addr×Obj)) (s:Ag) (b:SV) (H:Hp) (x:V) (u:Ae) (R:It->Hp->Prop),Inv X a b H s->RelV x u->r x H R->Bc (Bo X.prog X.w) X.A (pyIter u) (wI X a b tg R) X.xe s
theorem xY:mU X tg (λx H R=>∃a,x=.ref a/\(∃xs,bI X.K H a xs)/\R (oO X.K a) H):=by
 rintro f d k g x u R c h ⟨a,rfl,⟨xs,i⟩,q⟩;cases h;obtain⟨its,j,p,hz⟩:=c.list i;refine Jl p.isList ?_;refine⟨d.heap.objs.size,[d.heap.objs.size],_,_,g,rfl,c.kept (t':=d.toks) λb o e=>Ah _ e,PL a _,⟨_,Au _ rfl,rfl,rfl⟩,λb hb=>?_,q⟩;have e:b=d.heap.objs.size:=by simpa using hb
 subst e;exact c.fpOk (Ai _) (c.hok.fresh (Ai _))
theorem WH:mU X tg (λx H R=>∃a,x=.ref a/\(∃xs,bV X.K H a xs)/\R (wJ X.K a) H):=by
 rintro f c k g x u R d h ⟨a,rfl,⟨xs,i⟩,q⟩;cases h;obtain⟨its,j,p,hz⟩:=d.tuple i;refine Mx (show c.heap.IsTuple a its.toArray from p) ?_;refine⟨c.heap.objs.size,[c.heap.objs.size],_,_,g,rfl,d.kept (t':=c.toks) λb o e=>Ah _ e,PM a _,⟨_,Au _ rfl,rfl,rfl⟩,λb hb=>?_,q⟩;have e:b=c.heap.objs.size:=by simpa using hb
 subst e;exact d.fpOk (Ai _) (d.hok.fresh (Ai _))
theorem WI:mU X (.Name x k) (λx H R=>∃z,x=.str z/\R (xB z) H):=by
 rintro g f m j x u R h l ⟨z,rfl,q⟩;obtain⟨t,rfl⟩:=l;have fp:∀b∈[f.heap.objs.size],iA X g j b:=λb hb=>by
  have e:b=f.heap.objs.size:=by simpa using hb
  subst e;exact h.fpOk (Ai _) (h.hok.fresh (Ai _))
 cases ha:z.cps.all (· < 128)
 .refine wpAny_pyIter_wide ha ?_;exact⟨f.heap.objs.size,[f.heap.objs.size],_,_,j,rfl,h.kept (t':=f.toks) λb o e=>Ah _ e,
   ER z _ "str_iterator" t (λA s i c Q E a b d=>wpAny_pyNext_wide_item a b d) (λA s i Q E a b c d=>wpAny_pyNext_wide_end a b c d) (λA i s Q E a b=>wpAny_pyIter_striter_wide a b),⟨_,Au _ rfl,rfl,rfl⟩,fp,q⟩
 .refine wpAny_pyIter_ascii ha ?_;exact⟨f.heap.objs.size,[f.heap.objs.size],_,_,j,rfl,h.kept (t':=f.toks) λb o e=>Ah _ e,
   ER z _ "str_ascii_iterator" t (λA s i c Q E a b d=>wpAny_pyNext_ascii_item a b d) (λA s i Q E a b c d=>wpAny_pyNext_ascii_end a b c d) (λA i s Q E a b=>wpAny_pyIter_striter_ascii a b),⟨_,Au _ rfl,rfl,rfl⟩,fp,q⟩
theorem _root_.L2.PI.of{r:V->Hp->(It->Hp->Prop)->Prop}{tl:TE}(hl:PE X l tl)(g:mU X tg r):PI X tg l (λb H R=>tl b H λx c=>r x c R):=λa s b H R I h=>
 a5 (hl a s b H _ I h) λu i ⟨x,c,e,d,f⟩=>g a i b c x u R e d f
def t5(K:Ac)(r:W->Mm->(List W->(Mm->Prop)->Mm->Prop)->Prop):V->Hp->(It->Hp->Prop)->Prop:=λx H d=>∃(c:W) (M:Mm) (R:List W->(Mm->Prop)->Mm->Prop),AV K H M x c/\AM K H M/\r c M R/\
 ∀J b ws keep a,Kp H M b a->AM K b a->jJ K b a J ws keep->R ws keep a->d J b
def lY:W->Mm->(List W->(Mm->Prop)->Mm->Prop)->Prop
 | .tup ws,b,R=>R ws (λ_=>True) b
 | .rl ws,b,R=>R ws (λ_=>True) b
 | .sc ws,b,R=>R ws (λ_=>True) b
 | .ref a,b,R=>∃ws,b a=some (.lst ws)/\R ws (λM=>M a=some (.lst ws)) b
 | _,_,_=>False
def cT:W->Mm->(List W->(Mm->Prop)->Mm->Prop)->Prop
 | .tup ws,b,R=>R ws (λ_=>True) b
 | .rl ws,b,R=>R ws (λ_=>True) b
 | .sc ws,b,R=>R ws (λ_=>True) b
 | .str z,b,R=>R (z.cps.toList.map λc=>W.str ⟨#[c]⟩) (λ_=>True) b
 | .ref a,b,R=>∃ws,b a=some (.lst ws)/\R ws (λM=>M a=some (.lst ws)) b
 | _,_,_=>False
theorem GB:mU X tg (t5 X.K lY):=by
 rintro b s j H x u g I i ⟨l,M,R,d,c,h,k⟩;have k:=λJ ws keep=>k J H ws keep M (Kp.refl c) c;cases l<;>first|exact(show False from h).elim|skip
 case tup ws=>exact d.tupE λa xs e f q=>WH b s j H _ u g I i ⟨a,e,⟨xs,bV.of f⟩,k _ _ _ (WD c f q) h⟩
 case rl ws=>obtain⟨a,xs,e,f,n,q⟩:=d.inv;exact xY b s j H _ u g I i ⟨a,e,⟨xs,bI.of f⟩,k _ _ _ (WC c f n q) h⟩
 case sc ws=>exact d.scE λa xs e f q=>xY b s j H _ u g I i ⟨a,e,⟨xs,f.sq⟩,k _ _ _ (WB c f q) h⟩
 case ref a=>exact h.elim λws h=>c.lstE h.1 λvs f q=>xY b s j H _ u g I i ⟨a,d.inv,⟨vs,bI.of f⟩,k _ _ _ WA h.2⟩
theorem WJ:mU X (.Name y g) (t5 X.K cT):=by
 rintro a s f H x u d I e ⟨i,M,R,c,b,h,k⟩;cases i<;>first|exact(show False from h).elim|skip
 case str z=>exact WI a s f H _ u d I e ⟨z,c.inv,k _ _ _ _ _ (Kp.refl b) b WG h⟩
 all_goals exact GB a s f H x u d I e ⟨_,M,R,c,b,h,k⟩
def b6(r:W->Mm->(List W->(Mm->Prop)->Mm->Prop)->Prop)(tl:aX):iX:=λa M R=>tl a M λw b=>r w b R
theorem xZ{r:W->Mm->(List W->(Mm->Prop)->Mm->Prop)->Prop}(hl:E3 X l tl)(n:mU X tg (t5 X.K r)):PI X tg l (g7 X.K (b6 r tl)):=(PI.of hl n).weak λu H s d=>d.el λq M R as g h k=>
 ⟨q,M,_,as,g,h,λx t o j m b c p=>⟨o,j,R,c,b,p,λJ i ws keep e f a it r=>k J i ws keep e (m.trans f) a it r⟩⟩
theorem pJ(hl:E3 X l tl):PI X tg l (g7 X.K (b6 lY tl)):=xZ hl GB
theorem eD{y:Str}{a:Pos}(hl:E3 X l tl):PI X (.Name y a) l (g7 X.K (b6 cT tl)):=xZ hl WJ
def kA(lo:Int)(n:Nat):List W:=(Dw n).map λi=>W.int (lo+(i:Nat))
def jK(ta:d3):iX:=λa M R=>ta a M λws b=>∃j:Int,ws=[.int j]/\-(2 ^ 62)<=j/\j<2 ^ 62/\R (kA 0 j.toNat) (λ_=>True) b
theorem kB(m:Gl X "range")(n:X.mg "range" = none)(ha:A3 X [a] d)(g:Br [a] X.env=[(false,eval a X.env)]:=by rfl):PI X tg (.Call (.Name "range" p) [a] [] pos) (g7 X.K (jK d)):=
 (PU m n ha g).weak λy H u f=>f.el λt M R as i h k=>⟨t,M,_,as,i,h,λvs w ws x l b c ⟨j,e,s,q,r⟩=>by
  rw[e]at c;obtain⟨v,e,o⟩:=c.one;exact⟨j,iO e o.inv,s,q,k _ _ _ _ _ l b WE r⟩⟩
def kC(ws:List W)(keep:Mm->Prop)(g:eR)(tt:dP)(te:aX)(c:S3)(j:Mm)(R:K3):Prop:=
 ∀p,j p=none->∃d:Nat->S3->List W->Mm->Prop,d 0 c [] j/\(∀vs i e acc M,i<=ws.length->M p=none->d i e acc M->keep (put M p (.fix vs)))/\
  (∀vs i w e acc M,ws[i]? = some w->M p=none->d i e acc M->g w e (put M p (.fix vs)) λa l=>tt a l λb h=>
   if b=true then te a h λy k=>k p=some (.fix vs)/\acc.length<An/\∃f,Sub f (del k p)/\d (i+1) a (acc++[y]) f
   else h p=some (.fix vs)/\∃f,Sub f (del h p)/\d (i+1) a acc f)/\
  ∀e acc M,M p=none->d ws.length e acc M->R (.ref p) (put M p (.lst acc))
def yA(js:List (Option Nat))(a:S3):S3:=js.map λo=>o.bind λj=>(a[j]?).join
theorem AS.cmap{K:Ac}{H:Hp}{M:Mm}{b:SV}{a:S3}(h:AS K H M b a):∀js:List (Option Nat),AS K H M (cmap js b) (yA js a)
 | []=>.nil
 | none::r=>.cons (λ_ e=>nomatch e) (AS.cmap h r)
 | some j::r=>.cons (λw e=>by
   have e:(a[j]?).join=some w:=e;cases q:a[j]? with
   | none=>rw[q]at e;cases e
   | some z=>
    rw[q]at e;have e:z=some w:=e;subst e;obtain⟨v,c,d⟩:=h.get q;exact⟨v,by show(b[j]?).join=some v;rw[c];rfl,d⟩) (AS.cmap h r)
def eE(wi:iX)(g:eR)(tt:dP)(te:aX)(js:List (Option Nat)):aX:=λa M R=>wi a M λws keep b=>kC ws keep g tt te (yA js a) b R
theorem yB(h:up X.K (eE wi g tt te js) Z H Q):xA (g7 X.K wi) (λ_=>gN X.K g) (λ_=>jF X.K tt) (λ_=>up X.K te) js Z H Q:=by
 obtain⟨τ,M,R,as,am,h,k⟩:=h;refine⟨τ,M,_,as,am,h,λJ H1 ws keep M1 k1 s it O p S B=>?_⟩;obtain⟨Pv,h0,hk,hs,hd⟩:=O p (s.nonM S);obtain⟨amp,kp⟩:=s.laid (o:=.fix []) (u:=.lst []) S dO;have Y:=s.nonM S;refine UN ws.length (λi E c q=>∃j acc m,m p=none/\Kp H1 M1 q (put m p (.fix c))/\AM X.K q (put m p (.fix c))/\AS X.K q (put m p (.fix c)) E j/\aK X.K q (put m p (.fix c)) c acc/\Pv i j acc m) ?_ ?_ ?_
 .exact⟨yA js τ,[],M1,Y,kp,amp,((as.kp am k1).kp s kp).cmap js,.nil,h0⟩
 .rintro E c q ⟨j,acc,m,F,A,f,N,L,G⟩;refine⟨it.stop q _ A f (hk _ _ _ _ _ (Ai _) F G),?_⟩;have hp':q p=some (.lst c):=f p _ aP;refine k _ q _ (put m p (.lst acc)) (k1.trans ⟨λa o n e=>?_,A.dom⟩) (λa o e=>?_) (.ref p) (hd j acc m F G)
  .obtain⟨x,y⟩:=A.fr a o n e;exact⟨x,by rw[aN (fH e S)]at y⊢;exact y⟩
  .by_cases ha:a=p
   .subst ha;rw[aP]at e;cases e;exact⟨c,hp',L.go E4⟩
   .rw[aN ha]at e;exact(f a o (by rw[aN ha];exact e)).go E4 rfl
 .rintro i E c q hi ⟨j,acc,m,F,A,f,N,L,G⟩;have I:=hk c i j acc m (Hj hi) F G;refine⟨it.go i q _ A f I hi,λx H3 y=>?_⟩;obtain⟨w,hw,k3,am3,ax⟩:=it.yld i q _ x H3 A f I hi y;refine⟨w,j,_,_,ax,N.kp f k3,am3,hs c i w j acc m hw F G,λσ4 H4 l T k4 r t h4=>⟨l,T,_,t,r,h4,λb H5 v U C V=>?_⟩⟩;have K:Kp q (put m p (.fix c)) H5 v:=(k3.trans k4).trans U;cases b with
  | false=>
   obtain⟨m5,D,sb,pv6⟩:v p=some (.fix c)/\∃D,Sub D (del v p)/\Pv (i+1) l acc D:=V;have d:Sub (put D p (.fix c)) v:=by
    have:=(sb.trans Sub.del).put (a:=p) (o:=.fix c);rwa [U5 m5]at this
   exact UE ⟨l,acc,D,sb.non oV,(A.trans K).sub d,C.sub d,(t.kp r U).sub d,(L.kp f K).sub d,pv6⟩
  | true=>
   have V:te l v λy T=>T p=some (.fix c)/\acc.length<An/\∃v,Sub v (del T p)/\Pv (i+1) l (acc++[y]) v:=V;refine UG ⟨l,v,_,t.kp r U,C,V,λy H6 wy D k6 z ay ⟨m6,hl,M7,sb,pv7⟩=>?_⟩;have P:=K.trans k6;have hp6:H6 p=some (.lst c):=z p _ m6;obtain⟨am8,W⟩:=z.write (o:=.fix (c++[y])) (u:=.lst (c++[y])) m6 dO;have d:Sub (put M7 p (.fix (c++[y]))) (put D p (.fix (c++[y]))):=(sb.trans Sub.del).put;refine⟨hp6,by rw[L.length];exact hl,l,acc++[wy],M7,sb.non oV,((A.trans P).trans W).sub d,am8.sub d,(((t.kp r U).kp C k6).kp z W).sub d,?_,pv7⟩;exact(((L.kp f P).append (.cons ay .nil)).kp z W).sub d
variable {sc:Kn}{N':List Str}{js:List (Option Nat)}{iter elt:Expr}{ifs:List Expr}{wi:iX}{g:eR}{tt:dP}
def fP:dP:=λ_ M Q=>Q true M
theorem jL:iE X [] (jF X.K fP):=UK.weak λc H Q b=>b.el λd M R as a h k=>k true H M (Kp.refl a) a h
theorem pK{c:Expr}{t:dP}(h:T3 X c t):iE X [c] (jF X.K t):=UL h
theorem iY(N':List Str)(js:List (Option Nat))(hi:PI X tg iter (g7 X.K wi))(e:∀B,PG (cR X sc N' B) tg (gN X.K g))(ht:∀B,iE (cR X sc N' B) ifs (jF X.K tt))(c:∀B,PE (cR X sc N' B) elt (up X.K te))(b:lO N' sc X.env.scope=true:=by kernel_rfl)(d:fA N' X.N sc js N'=true:=by kernel_rfl)(hc:X.calm=true:=by rfl)(a:∀x,Gj iter X.env x=pure x:=by intro _;rfl):
  E3 X (.ListComp elt [⟨tg,iter,ifs,0⟩] sc pos) (eE wi g tt te js):=(UM N' js hi e ht c b d hc a).weak λ_ _ _ h=>yB h
theorem WK{i:Nat}{x:Str}{e a:Pos}(o:X.N.Nodup)(d:X.N[i]? = some x)(n:Loc X.env.scope x)(N':List Str)(js:List (Option Nat))(hi:PI X tg iter (g7 X.K wi))(s:∀B,PG (cR X sc N' B) tg (gN X.K g))(ht:∀B,iE (cR X sc N' B) ifs (jF X.K tt))(r:∀B,PE (cR X sc N' B) elt (up X.K te))(q:lO N' sc X.env.scope=true:=by kernel_rfl)(m:fA N' X.N sc js N'=true:=by kernel_rfl)(hc:X.calm=true:=by rfl)(b:Jd (.ListComp elt [⟨tg,iter,ifs,0⟩] sc pos) (some (.Name x e)) a.line X.env=pure true:=by rfl)(hf:X.fn x=true\/X.env.scope.names.lookup x=some .local:=by first|exact .inl rfl|exact .inr rfl|assumption)(p:∀x,Gj iter X.env x=pure x:=by intro _;rfl):P3 X (.Assign [.Name x e] (.ListComp elt [⟨tg,iter,ifs,0⟩] sc pos) a) (aY i (eE wi g tt te js)):=
 (EM o d n N' js hi s ht r q m hc b hf p).weak λD w H v=>v.el λu M A as f h k=>yB ⟨u,M,_,as,f,h,λy C z E j c l t=>k.nx _ _ _ _ j c ((as.kp f j).set l i) t⟩
end
def bZ(N:List Str)(ws:List W):S3:=ws.map some++Cf (N.length-ws.length) none
def bS(R:K3):D3:={nx:=λ_ b=>∃a,Sub a b/\R .non a,rt:=λw b=>∃a,Sub a b/\R w a}
section
variable {P:Bt}{w:Ck}{K:Ac}{mg:Str->Option Ae}{base:Heap}
theorem t6{x a:Str}{st:Stmt}{f:Addr}{fd:Bv}{N ps:List Str}{k:Nat}{sp:bP}(F:kS K x a st f fd)(S:oR N ps (e8 st))(len:∀ws M R,sp ws M R->ws.length=ps.length)(e:∀(b:Ae) (A:Co) (outer:List Env) (s:Ag) (H:Hp) (E:XK) (ws:List W) (M:Mm) (R:K3),cM k (A.deeper (Nq a (e8 st) s.heap.objs.size f b))->sp ws M R->
   ∃t,k7 (mG gL P w K mg base N a (e8 st) f b A outer s H E).nox (h9 st) t/\t (bS R) (bZ N ws) M):e9 P w K mg base gL (k+1) f fd ps (gZ K sp):=by
 refine F.ok S (λvs H Q E ⟨ws,M,R,n,g,h,_⟩=>by rw[g.length];exact len ws M R h) λb A outer s H vs Q E p ⟨ws,M,R,n,g,h,m⟩=>?_;obtain⟨t,ht,h'⟩:=e b A outer s H E ws M R p h;refine⟨_,ht,bZ N ws,M,bS R,?_,n,h',⟨λu j y o i c q ⟨d,sb,r⟩=>m _ j _ d (i.sub sb) (c.sub sb) .non r,λv j w o i c l ⟨d,sb,r⟩=>m v j w d (i.sub sb) (c.sub sb) (l.sub sb) r,λ_ _ _ _ _ _ _ z=>z.elim,λ_ _ _ _ _ _ _ z=>z.elim⟩⟩;unfold L2.start bZ;rw[g.length];exact AS.start g _
def rL:bP:=λws M R=>∃ns:List Int,ws=[.sc (ns.map W.int)]/\ns.length<=63/\(M=λ_=>none)/\∀a,R (.bl true) a
theorem WL{H:Hp}{a:Addr}{ns:List Int}(hl:ns.length<=63)(c:tM H)(b:bI K H a (ns.map V.int)):gZ K rL [.ref a] H (λv _=>v=.bl true) λ_ _ _=>False:=by
 have f:lP K H a (ns.map V.int):=by
  rcases b with(e|⟨o,e⟩)|e
  .rcases c a with z|⟨o,xs,z⟩
   .rw[z]at e;cases e
   .rw[z]at e;cases e
  .exact .inl ⟨o,e⟩
  .exact .inr e
 exact⟨[.sc (ns.map W.int)],λ_=>none,λw _=>w=.bl true,λa o e=>(nomatch e),.cons (.sc f (aK.int ns)) .nil,⟨ns,rfl,hl,rfl,λ_=>rfl⟩,λv h w g _ _ d r=>by subst r;exact d.bl_inv⟩
end
section
variable {X:Cx}{a b c:Expr}{ta tb tc:aX}{pos:Pos}
def WM(M:Mm):W->String->Prop
 | .non,T=>T = "NoneType"
 | .bl _,T=>T = "bool"
 | .int _,T=>T = "int"
 | .str _,T=>T = "str"
 | .tup _,T=>T = "tuple"
 | .rl _,T=>T = "list"
 | .dk _,T=>T = "dict"
 | .ref a,T=>(T = "list"/\∃ws,M a=some (.lst ws))\/(T = "dict"/\((∃kvs,M a=some (.dK kvs))\/∃kvs,M a=some (.dT kvs)))
 | _,_=>False
def GC:List (String×String×Bool):=[("int","int",true),("int","bool",false),("int","str",false),("int","tuple",false),("int","list",false),("bool","bool",true),("bool","int",true),("bool","str",false),("bool","list",false),("bool","tuple",false),("str","str",true),("str","int",false),("str","tuple",false),("str","list",false),("str","bool",false),("tuple","tuple",true),("tuple","list",false),("tuple","str",false),("tuple","int",false),("tuple","bool",false),("list","list",true),("list","tuple",false),("list","str",false),("list","int",false),("list","bool",false),("NoneType","list",false),("NoneType","tuple",false),("NoneType","int",false),("NoneType","str",false),("NoneType","bool",false),("dict","dict",true),("dict","list",false)]
def GD(n T:String):Option Bool:=(GC.find? λp=>p.1==n&&p.2.1==T).map λp=>p.2.2
def GF(K:Ac):List (String×String×Bool)->Prop
 | []=>True
 | p::l=>Kg K (.type p.1) (.type p.2.1)=some p.2.2/\GF K l
theorem GG{K:Ac}:∀{l:List (String×String×Bool)},GF K l->∀p∈l,Kg K (.type p.1) (.type p.2.1)=some p.2.2
 | _::_,h,_,m=>by
  cases m with
  | head=>exact h.1
  | tail _ m=>exact GG h.2 _ m
theorem WN(K:Ac):∀p∈GC,Kg K (.type p.1) (.type p.2.1)=some p.2.2:=by
 refine GG ?_
 repeat refine⟨by kernel_rfl,?_⟩
 trivial
theorem WO(K:Ac){b:Bool}(h:GD n T=some b):Kg K (.type n) (.type T)=some b:=by
 obtain⟨p,c,e⟩:=Bb.mp h;have a:=List.find?_some c;have d:=WN K p (List.mem_of_find?_eq_some c);rw[Cv,beq_iff_eq,beq_iff_eq]at a;rw[<-a.1,<-a.2,d,e]
def pL:List W->Mm->K3->Prop
 | [w,.ty T],M,R=>∃n b,WM M w n/\GD n T=some b/\R (.bl b) M
 | _,_,_=>False
theorem GH:cQ X (.builtin "isinstance") (gC X.K pL):=by
 rintro g s t H xs us Q I rs ⟨ws,M,R,l,m,h,k⟩
 match ws,h with
 | [w,.ty T],h=>
  obtain⟨v,u,rfl,d,p⟩:=m.two;cases p;obtain⟨n,b,c,o,r⟩:=h;have ty:iM X.K H v (.type n):=by
   cases w<;>first|exact(show False from c).elim|skip
   case non=>rw[show n=_ from c,show v=_ from d.inv];exact .non
   case bl b=>rw[show n=_ from c,show v=_ from d.inv];exact .bl b
   case int i=>rw[show n=_ from c,show v=_ from d.inv];exact .int i
   case str x=>rw[show n=_ from c,show v=_ from d.inv];exact .str x
   case tup=>obtain⟨a,xs,j,e,q⟩:=d.inv;rw[show n=_ from c,j];exact .tup e
   case rl=>obtain⟨a,xs,j,e,_,q⟩:=d.inv;rw[show n=_ from c,j];exact .lst e
   case dk=>obtain⟨a,xs,j,e,_,q⟩:=d.inv;rw[show n=_ from c,j];exact .dK e
   case ref a=>
    rw[show v=_ from d.inv];rcases c with⟨e,ws,h⟩|⟨e,h⟩
    .subst e;obtain⟨vs,f,_⟩:=l.lst h;exact .lst f
    .subst e;rcases h with⟨kvs,h⟩|⟨kvs,h⟩
     .obtain⟨ks,f,_⟩:=l _ _ h;exact .dK f
     .obtain⟨ks,f,_⟩:=l _ _ h;exact .dT f
  exact UQ g s t H _ us Q I rs ⟨v,T,_,b,rfl,ty,WO X.K o,k.at l (.bl b) r⟩
end
section
variable {X:Cx}{a b:Expr}{ta tb:aX}{pos:Pos}{es:List Expr}{t:d3}
theorem yC{K:Ac}{H:Hp}{M:Mm}{R:K3}{Q:VK}{p:Addr}{xs:List V}{ws:List W}(c:AM K H M)(k:Up K H M R Q)(a:H p=none)(d:aK K H M xs ws)(r:R (.rl ws) M):Q (.ref p) (aR H p (.lst xs)):=by
 obtain⟨b,e⟩:=c.tup (u:=.lst xs) a;exact k _ _ _ _ e b (.rl dO (c.nonM a) (d.newT a)) r
def eT(t:d3):aX:=λa M R=>t a M λws b=>ws.length<=An/\R (.rl ws) b
theorem fI(h:A3 X es t):E3 X (.List es pos) (eT t):=
 (DK h).weak λl H Q d=>d.el λg M R as e h k=>⟨g,M,_,as,e,h,λxs i ws j f b a ⟨hl,r⟩=>⟨by rw[a.length];exact hl,λp c=>yC b (k.kp f) c a r⟩⟩
theorem GJ{f:Ae->Ae->Sem Ae}{r b:R3}(h:bE X f (dB X.K r))(k:∀x y M R,b x y M R->r x y M λw j=>frz w j R):bE X f (dB X.K b):=λa s o H x y v u Q I m e ⟨n,i,M,R,l,c,g,h',d⟩=>
 h a s o H x y v u Q I m e ⟨n,i,M,_,l,c,g,k _ _ _ _ h',d.frz⟩
theorem GK{r b:List W->Mm->K3->Prop}(h:cQ X f (gC X.K r))(k:∀x M R,b x M R->r x M λw e=>frz w e R):cQ X f (gC X.K b):=λa s i H xs us Q I rs ⟨ws,M,R,g,c,h',d⟩=>
 h a s i H xs us Q I rs ⟨ws,M,_,g,c,k _ _ _ h',d.frz⟩
def cJ:R3
 | .int i,.int j,M,R=>R (.int (i+j)) M
 | .tup xs,.tup c,M,R=>xs≠[]/\xs.length+c.length<=An/\R (.tup (xs++c)) M
 | .ref a,.ref b,M,R=>∃xs c,M a=some (.lst xs)/\M b=some (.lst c)/\xs.length+c.length<=An/\R (.rl (xs++c)) M
 | .rl xs,.ref b,M,R=>∃c,M b=some (.lst c)/\xs.length+c.length<=An/\R (.rl (xs++c)) M
 | .ref a,.rl c,M,R=>∃xs,M a=some (.lst xs)/\xs.length+c.length<=An/\R (.rl (xs++c)) M
 | .rl xs,.rl c,M,R=>xs.length+c.length<=An/\R (.rl (xs++c)) M
 | _,_,_,_=>False
theorem dC:bE X (Gk .Add) (dB X.K cJ):=GJ xK λx y M R h=>by
 cases x<;>first|exact(show False from h).elim|(cases y<;>first|exact(show False from h).elim|skip)
 case int.int i j=>exact h
 case tup.tup i j=>exact h
 case ref.ref i j=>obtain⟨xs,a,d,b,c,r⟩:=h;exact⟨xs,a,d,b,c,a9.frz r⟩
 case rl.ref i j=>obtain⟨a,b,c,r⟩:=h;exact⟨a,b,c,a9.frz r⟩
 case ref.rl i j=>obtain⟨a,b,c,r⟩:=h;exact⟨a,b,c,a9.frz r⟩
 case rl.rl i j=>exact⟨h.1,a9.frz h.2⟩
def n8:R3
 | .int i,.int j,M,R=>(oP i j\/tO i j)/\R (.int (i*j)) M
 | .ref a,.int n,M,R=>∃xs,M a=some (.lst xs)/\-(2 ^ 63)<=n/\n<2 ^ 63/\xs.length*n.toNat<=An/\R (.rl (Cf n.toNat xs).flatten) M
 | .rl xs,.int n,M,R=>-(2 ^ 63)<=n/\n<2 ^ 63/\xs.length*n.toNat<=An/\R (.rl (Cf n.toNat xs).flatten) M
 | _,_,_,_=>False
theorem pM:bE X (Gk .Mult) (dB X.K n8):=GJ VM λx y M R h=>by
 cases x<;>first|exact(show False from h).elim|(cases y<;>first|exact(show False from h).elim|skip)
 case int.int i j=>exact h
 case ref.int i j=>obtain⟨xs,d,b,c,a,r⟩:=h;exact⟨xs,d,b,c,a,a9.frz r⟩
 case rl.int i j=>obtain⟨b,c,a,r⟩:=h;exact⟨b,c,a,a9.frz r⟩
def t7:List W->Mm->K3->Prop
 | [.tup ws],M,R=>R (.rl ws) M
 | [.rl ws],M,R=>R (.rl ws) M
 | [.sc ws],M,R=>R (.rl ws) M
 | [.dk kvs],M,R=>R (.rl (kvs.map λb=>wK b.1)) M
 | [.ref a],M,R=>(∃ws,M a=some (.lst ws)/\R (.rl ws) M)\/∃kvs,M a=some (.dK kvs)/\R (.rl (kvs.map λb=>wK b.1)) M
 | _,_,_=>False
theorem yD(hc:X.calm=true):cQ X (.type "list") (gC X.K t7):=GK (xV hc) λx M R h=>by
 match x,h with
 | [.tup ws],h=>exact a9.frz h
 | [.rl ws],h=>exact a9.frz h
 | [.sc ws],h=>exact a9.frz h
 | [.dk kvs],h=>exact a9.frz h
 | [.ref a],h=>
  rcases h with⟨ws,e,r⟩|⟨kvs,e,r⟩
  .exact .inl ⟨ws,e,a9.frz r⟩
  .exact .inr ⟨kvs,e,a9.frz r⟩
def GL:W->Option Int->Option Int->Mm->K3->Prop
 | .rl ws,lo,hi,M,R=>R (.rl (d5 ws lo hi)) M
 | .sc ws,lo,hi,M,R=>R (.rl (d5 ws lo hi)) M
 | .ref a,lo,hi,M,R=>∃ws,M a=some (.lst ws)/\R (.rl (d5 ws lo hi)) M
 | .tup ws,lo,hi,M,R=>¬(HT.sIx ws.length 0 lo=0/\HT.sIx ws.length ws.length hi=ws.length)/\R (.tup (d5 ws lo hi)) M
 | _,_,_,_,_=>False
theorem WQ(h:GL x l u M R):FT x l u M λw b=>frz w b R:=by
 cases x<;>first|exact(show False from h).elim|skip
 case tup ws=>exact h
 case rl ws=>exact a9.frz h
 case sc ws=>exact a9.frz h
 case ref a=>obtain⟨ws,e,r⟩:=h;exact⟨ws,e,a9.frz r⟩
def t8(ta:aX)(tl e:mP):aX:=λa M R=>ta a M λx d=>tl a d λl b=>e a b λu c=>GL x l u c R
theorem yE{lo hi:Option Expr}{tl j:mP}{o:Pos}(q:E3 X a ta)(hl:PO X lo (mQ X.K tl))(z:PO X hi (mQ X.K j)):E3 X (.Subscript a (.Slice lo hi none o) pos) (t8 ta tl j):=
 (DX VX q hl z).weak λC H Q w=>w.el λg M R as e h k=>⟨g,M,_,as,e,h,λx E s A i b n t=>⟨g,A,_,as.kp e i,b,t,λl B p d c r=>⟨g,p,_,(as.kp e i).kp b d,c,r,λu D v m f y=>
  ⟨s,v,_,f,(n.kp b d).kp c m,WQ y,(((k.kp i).kp d).kp m).frz⟩⟩⟩⟩
variable {sc:Kn}{N':List Str}{js:List (Option Nat)}{tg iter elt:Expr}{ifs:List Expr}{wi:iX}{g:eR}{tt:dP}{te:aX}
theorem WR{i:Nat}{x:Str}{e a:Pos}(o:X.N.Nodup)(d:X.N[i]? = some x)(n:Loc X.env.scope x)(N':List Str)(js:List (Option Nat))(hi:PI X tg iter (g7 X.K wi))(s:∀B,PG (cR X sc N' B) tg (gN X.K g))(ht:∀B,iE (cR X sc N' B) ifs (jF X.K tt))(r:∀B,PE (cR X sc N' B) elt (up X.K te))(q:lO N' sc X.env.scope=true:=by kernel_rfl)(m:fA N' X.N sc js N'=true:=by kernel_rfl)(hc:X.calm=true:=by rfl)(b:Jd (.ListComp elt [⟨tg,iter,ifs,0⟩] sc pos) (some (.Name x e)) a.line X.env=pure true:=by rfl)(hf:X.fn x=true\/X.env.scope.names.lookup x=some .local:=by first|exact .inl rfl|exact .inr rfl|assumption)(p:∀x,Gj iter X.env x=pure x:=by intro _;rfl):P3 X (.Assign [.Name x e] (.ListComp elt [⟨tg,iter,ifs,0⟩] sc pos) a) (aY i (cB (eE wi g tt te js))):=
 (EM o d n N' js hi s ht r q m hc b hf p).weak λD w H v=>v.el λu M A as f h k=>yB ⟨u,M,_,as,f,h,Up.frz λy C z E j c l t=>k.nx _ _ _ _ j c ((as.kp f j).set l i) t⟩
end
def Pl:Nat->W->Prop
 | _,.non=>True
 | _,.int _=>True
 | _,.str x=>PyData.strOk x=true
 | n+1,.tup ws=>∀w∈ws,Pl n w
 | n+1,.rl ws=>∀w∈ws,Pl n w
 | _,_=>False
def dR(M:Mm):W->W
 | .ref a=>match M a with
  | some (.lst ws)=>.rl ws
  | _=>.ref a
 | w=>w
section
variable {M:Mm}
theorem yF{n:Nat}(b:∀{w:W},Pl n w->∃d,Snap M w d/\d.canLay0=true/\d.depth<=n):∀{ws:List W},(∀w∈ws,Pl n w)->∃a,iV M ws a/\PyData.canLayAll0 a=true/\PyData.depthAll a<=n
 | [],_=>⟨[],.nil,rfl,by simp[PyData.depthAll]⟩
 | w::ws,h=>by
  obtain⟨d,s,c,e⟩:=b (h w Be);obtain⟨a,f,g,i⟩:=yF b λz hz=>h z (Ap _ hz);exact⟨d::a,.cons s f,by simp[PyData.canLayAll0,c,g],by simp only[PyData.depthAll];lia⟩
theorem WS:∀{n:Nat} {w:W},Pl n w->∃d,Snap M w d/\d.canLay0=true/\d.depth<=n:=by
 intro n
 induction n with
 | zero=>
  intro w h;cases w<;>first|exact(show False from h).elim|skip
  case non=>exact⟨_,.non,rfl,by simp[Jf]⟩
  case int i=>exact⟨_,.int i,rfl,by simp[Jf]⟩
  case str x=>exact⟨_,.str x,h,by simp[Jf]⟩
 | succ n a=>
  intro w h;cases w<;>first|exact(show False from h).elim|skip
  case non=>exact⟨_,.non,rfl,by simp[Jf]⟩
  case int i=>exact⟨_,.int i,rfl,by simp[Jf]⟩
  case str x=>exact⟨_,.str x,h,by simp[Jf]⟩
  case tup ws=>
   obtain⟨b,s,c,e⟩:=yF a h;exact⟨_,.tup s,by simpa [PyData.canLay0] using c,by simp only[Jf];lia⟩
  case rl ws=>
   obtain⟨b,s,c,e⟩:=yF a h;exact⟨_,.rl s,by simpa [PyData.canLay0] using c,by simp only[Jf];lia⟩
theorem GN{n:Nat}(h:Pl n (dR M w)):∃d,Snap M w d/\Snap M (dR M w) d/\d.canLay0=true/\d.depth<=n:=by
 obtain⟨d,s,c,e⟩:=WS (M:=M) h;refine⟨d,?_,s,c,e⟩;cases w<;>first|exact s|skip
 case ref a=>
  cases q:M a with
  | none=>
   have e:dR M (.ref a)=.ref a:=by simp[dR,q]
   rw[e]at s;exact s
  | some o=>
   cases o with
   | lst ws=>
    have e:dR M (.ref a)=.rl ws:=by simp[dR,q]
    rw[e]at s;cases s with
    | rl r=>exact .ref q r
   | dK _=>
    have e:dR M (.ref a)=.ref a:=by simp[dR,q]
    rw[e]at s;exact s
   | dT _=>
    have e:dR M (.ref a)=.ref a:=by simp[dR,q]
    rw[e]at s;exact s
   | fix _=>
    have e:dR M (.ref a)=.ref a:=by simp[dR,q]
    rw[e]at s;exact s
   | ins _ _ _=>
    have e:dR M (.ref a)=.ref a:=by simp[dR,q]
    rw[e]at s;exact s
theorem GO{n:Nat}(j:∀{x y:W} {b a:Nc},Pl n x->Pl n y->Snap M x b->Snap M y a->(Lw b a=true↔x=y)):∀{xs d:List W} {b a:List Nc},(∀w∈xs,Pl n w)->(∀w∈d,Pl n w)->iV M xs b->iV M d a->(Ol b a=true↔xs=d):=by
 intro xs
 induction xs with
 | nil=>
  intro d b a f g e c;cases e;cases c<;>simp[Ol]
 | cons x xs h=>
  intro d b a f g e c;cases e with
  | cons e i=>
   cases c with
   | nil=>simp[Ol]
   | cons c k=>
    rw[Ol,Cv,j (f x Be) (g _ Be) e c,h (λz hz=>f z (Ap _ hz)) (λz hz=>g z (Ap _ hz)) i k];simp
theorem WT:∀{n:Nat} {x y:W} {d c:Nc},Pl n x->Pl n y->Snap M x d->Snap M y c->(Lw d c=true↔x=y):=by
 intro n
 induction n with
 | zero=>
  intro x y d c a b e f;cases e<;>first|exact(show False from a).elim|skip
  all_goals cases f<;>first|exact(show False from b).elim|simp[Lw]
 | succ n g=>
  intro x y d c a b e f;cases e<;>first|exact(show False from a).elim|skip
  all_goals cases f<;>first|exact(show False from b).elim|skip
  all_goals first|(simp[Lw];done)|skip
  case tup.tup r1 _ _ r2=>rw[Lw,GO g a b r1 r2];simp
  case rl.rl r1 _ _ r2=>rw[Lw,GO g a b r1 r2];simp
theorem WU{neg:Bool}(n:Nat)(p:n<=60)(d:Pl n (dR M x))(e:Pl n (dR M y))(h:∀b:Bool,(b=true↔dR M x=dR M y)->R (.bl (if neg then !b else b)) M):rD neg x y M R:=by
 obtain⟨k,l,c,f,m⟩:=GN d;obtain⟨j,g,a,i,o⟩:=GN e;exact⟨k,j,l,g,⟨f,by lia⟩,⟨i,by lia⟩,h _ (WT d e c a)⟩
theorem GP{neg:Bool}(n:Nat)(e:n<=60)(a:Pl n (dR M x))(c:Pl n (dR M y))(h:∀b:Bool,(b=true↔dR M x=dR M y)->R (.bl (if neg then !b else b)) M):rEq neg x y M R:=by
 have d:=WU n e a c h;cases x<;>first|exact d|skip
 case int i=>
  cases y<;>first|exact d|skip
  case int j=>exact h (decide (i=j)) (by simp[dR])
 case str i=>
  cases y<;>first|exact d|skip
  case str j=>exact h (decide (i=j)) (by simp[dR])
 case bl i=>
  cases y<;>first|exact d|skip
  case bl j=>exact(show False by cases n<;>exact a).elim
end
theorem GQ{neg:Bool}(n:Nat)(c:n<=60)(a:Pl n (dR M x))(e:dR M y=dR M x)(h:R (.bl (!neg)) M):rEq neg x y M R:=by
 refine GP n c a (by rw[e];exact a) λb hb=>?_;have:b=true:=hb.mpr e.symm;subst this;cases neg<;>exact h
theorem Pl.up:∀{n:Nat} {w:W},Pl n w->Pl (n+1) w
 | 0,w,h=>by cases w<;>first|exact h|exact(show False from h).elim
 | n+1,w,h=>by
  cases w<;>first|exact h|skip
  case tup ws=>exact λw hw=>Pl.up (h w hw)
  case rl ws=>exact λw hw=>Pl.up (h w hw)
theorem Pl.mono{m:Nat}:∀{n:Nat},Pl m w->m<=n->Pl n w
 | 0,h,e=>by cases Nat.le_zero.mp e;exact h
 | n+1,h,e=>by
  rcases Nat.eq_or_lt_of_le e with rfl|e
  .exact h
  .exact(Pl.mono h (Nat.le_of_lt_succ e)).up
theorem yG{keep:Mm->Prop}(St:S3->Prop)(e:W->S3)(c:W->Option W->Prop)(hl:ws.length<=An)(hk:∀M,Sub h M->keep M)(A:St d)(ht:∀w∈ws,St (e w))(x:∀w∈ws,∀τ M (C:S3->Mm->Prop),St τ->C (e w) M->g w τ M C)(u:∀w∈ws,∀M (C:K3) (D:Mm->Prop),Sub h M->(∀y,c w (some y)->C y M)->(c w none->D M)->t (e w) M λb q=>if b=true then s (e w) q C else D q)(r:∀os,Hr c ws os->a9 (os.filterMap id) h R):kC ws keep g t s d h R:=by
 intro p j;refine⟨λi τ acc M=>St τ/\(∃os,Hr c (ws.take i) os/\acc=os.filterMap id)/\M=h,⟨A,⟨[],by simp;exact .nil,rfl⟩,rfl⟩,?_,?_,?_⟩
 .rintro vs i τ acc M _ n ⟨_,_,rfl⟩;exact hk _ (Sub.new j)
 .rintro vs i w τ acc M hw n ⟨st,⟨os,po,rfl⟩,rfl⟩;have m:w∈ws:=Bh hw;have hi:i<ws.length:=(Ak.mp hw).1;have k:ws.take (i+1)=ws.take i++[w]:=by rw[Eh,hw];rfl
  have snoc:∀o,c w o->Hr c (ws.take (i+1)) (os++[o]):=λo B=>by
   rw[k];clear hw n st k
   revert os
   generalize ws.take i=l;intro os po
   induction po with
   | nil=>exact .cons B .nil
   | cons a b z=>exact .cons a z
  have f:(os.filterMap id).length<An:=by
   have G:=Mu id os;have E:=Fn po;rw[Cb]at E;lia
  refine x w m τ _ _ st (u w m _ _ _ (Sub.new j) (λy v=>⟨aP,f,M,?_,ht w m,⟨_,snoc _ v,?_⟩,rfl⟩) λF=>⟨aP,M,?_,ht w m,⟨_,snoc _ F,?_⟩,rfl⟩)
  .rw[mL j];exact Sub.refl _
  .simp
  .rw[mL j];exact Sub.refl _
  .simp
 .rintro τ acc M n ⟨_,⟨os,po,rfl⟩,rfl⟩;rw[Cm]at po;exact r os po p j
def GR(rest:S3):S3->Prop:=λτ=>∃o,τ=o::rest
theorem rM{keep:Mm->Prop}(f:W->W)(hl:ws.length<=An)(hk:∀M,Sub c M->keep M)(e:∀w∈ws,∀M (C:K3),Sub c M->C (f w) M->d (some w::rest) M C)(r:a9 (ws.map f) c R):kC ws keep (bA 0) fP d (o::rest) c R:=by
 refine yG (GR rest) (λw=>some w::rest) (λw o=>o=some (f w)) hl hk ⟨_,rfl⟩ (λw _=>⟨_,rfl⟩) ?_ ?_ ?_
 .rintro w _ τ M C ⟨o,rfl⟩ h;exact h
 .intro w hw M C D sb g _;show(if true=true then d (some w::rest) M C else D M);rw[if_pos rfl];exact e w hw M C sb (g _ rfl)
 .intro os po;have:os.filterMap id=ws.map f:=by
   clear r e hl hk
   induction po with
   | nil=>rfl
   | cons a b i=>subst a;simp[i]
  rw[this];exact r
theorem t9{keep:Mm->Prop}(f:W->Option W)(hl:ws.length<=An)(hk:∀M,Sub g M->keep M)(i:∀w∈ws,∀M (C:K3) (D:Mm->Prop),Sub g M->(∀y,f w=some y->C y M)->(f w=none->D M)->j (some w::rest) M λb k=>if b=true then l (some w::rest) k C else D k)(r:a9 (ws.filterMap f) g R):kC ws keep (bA 0) j l (o::rest) g R:=by
 refine yG (GR rest) (λw=>some w::rest) (λw o=>o=f w) hl hk ⟨_,rfl⟩ (λw _=>⟨_,rfl⟩) ?_ ?_ ?_
 .rintro w _ τ M C ⟨o,rfl⟩ h;exact h
 .intro w hw M C D sb n m;exact i w hw M C D sb (λy e=>n y e.symm) λe=>m e.symm
 .intro os po;have:os.filterMap id=ws.filterMap f:=by
   clear r i hl hk
   induction po with
   | nil=>rfl
   | @cons a b c d e _ p=>
    subst e;cases q:f a<;>simp[q,p]
  rw[this];exact r
def WV(rest:S3):S3->Prop:=λτ=>∃a b,τ=a::b::rest
def WW(rest:S3):W->S3
 | .tup [a,b]=>some a::some b::rest
 | _=>none::none::rest
abbrev GS:eR:=jI 2 (d9 (bA 0) (d9 (bA 1) jH))
theorem GU{keep:Mm->Prop}(P:W->Option W->Prop)(hw:∀w∈ws,∃a b,w=.tup [a,b])(hl:ws.length<=An)(hk:∀M,Sub d M->keep M)(k:∀a b,.tup [a,b]∈ws->∀M (C:K3) (D:Mm->Prop),Sub d M->(∀y,P (.tup [a,b]) (some y)->C y M)->(P (.tup [a,b]) none->D M)->e (some a::some b::rest) M λi f=>if i=true then g (some a::some b::rest) f C else D f)(r:∀os,Hr P ws os->a9 (os.filterMap id) d R):kC ws keep GS e g (n::j::rest) d R:=by
 refine yG (WV rest) (WW rest) P hl hk ⟨_,_,rfl⟩ (λw c=>?_) ?_ ?_ r
 .obtain⟨a,b,rfl⟩:=hw w c;exact⟨_,_,rfl⟩
 .rintro w c τ M C ⟨o,p,rfl⟩ h;obtain⟨a,b,rfl⟩:=hw w c;exact⟨rfl,rfl,h⟩
 .intro w c M C D sb m l;obtain⟨a,b,rfl⟩:=hw w c;exact k a b c M C D sb m l
theorem WX{keep:Mm->Prop}(P:W->W->Prop)(hw:∀w∈ws,∃a b,w=.tup [a,b])(hl:ws.length<=An)(hk:∀M,Sub e M->keep M)(g:∀a b,.tup [a,b]∈ws->∀M (C:K3),Sub e M->(∀y,P (.tup [a,b]) y->C y M)->f (some a::some b::rest) M C)(r:∀c,Hr P ws c->a9 c e R):kC ws keep GS fP f (l::i::rest) e R:=by
 refine GU (λw o=>∃y,o=some y/\P w y) hw hl hk (λa b j M C D sb k _=>?_) λos po=>?_
 .show(if true=true then f (some a::some b::rest) M C else D M);rw[if_pos rfl];exact g a b j M C sb λy d=>k y ⟨y,rfl,d⟩
 .have:∃c,os=c.map some/\Hr P ws c:=by
   clear r g hl hk hw
   induction po with
   | nil=>exact⟨[],rfl,.nil⟩
   | cons a b m=>
    obtain⟨y,rfl,d⟩:=a;obtain⟨c,rfl,h⟩:=m;exact⟨y::c,rfl,.cons d h⟩
  obtain⟨c,rfl,d⟩:=this;rw[Ij];have:(c.filterMap (id ∘ some))=c:=by simp
  rw[this];exact r c d
structure Df(K:Ac)(mg:Str->Option Ae)(x:Str)(st:Stmt)(ps:List Str)(f:Addr)(fd:Bv):Prop where
 fn:kS K x x st f fd
 at_:mg x=some (.ref f)
 bi:Binds K fd ps []
theorem cU:Dc "len" = some (.builtin "len"):=PySem.boot_len
theorem n9:Dc "list" = some (.type "list"):=by decide +kernel
theorem WY:Dc "tuple" = some (.type "tuple"):=by decide +kernel
theorem GV:Dc "dict" = some (.type "dict"):=by decide +kernel
theorem GW:Dc "isinstance" = some (.builtin "isinstance"):=by decide +kernel
theorem GX:Dc "sum" = some (.builtin "sum"):=by decide +kernel
theorem GY:Dc "min" = some (.builtin "min"):=by decide +kernel
theorem WZ:Dc "abs" = some (.builtin "abs"):=by decide +kernel
theorem W0:Dc "sorted" = some (.builtin "sorted"):=by decide +kernel
theorem yH{O:Type}(x:O)(xs:List O):bW (x::xs) 0=some x:=by simp[bW,iT]
theorem yI{O:Type}(x y:O)(xs:List O):bW (x::y::xs) 1=some y:=fW (j:=1) rfl
theorem W2{ws:List W}{lo hi:Option Int}{w:W}(h:w∈d5 ws lo hi):w∈ws:=Ji (Jh h)
theorem W4{ws:List W}{lo hi:Option Int}:(d5 ws lo hi).length<=ws.length:=by
 unfold d5;rw[Cb,Ft];exact Ar (Ni _ _) (Nat.sub_le _ _)
def oA(x:Str):Prop:=PyData.strOk x=true
def W5(ws:List W):Prop:=∀w∈ws,∃i,w=W.int i
theorem ints_map(ns:List Int):W5 (ns.map W.int):=λw h=>by
 obtain⟨i,_,e⟩:=Ax.mp h;exact⟨i,e.symm⟩
theorem gE{n:Nat}(h:n<=10000000):n<=An:=Ar h (by decide)
theorem dN{n:Nat}(h:n<10000000):n<An:=Bn h (by decide)
theorem GZ{i:Int}(a:0<=i)(b:i<=S.length):d5 S none (some i)=S.take i.toNat:=by
 unfold d5 HT.sIx;simp only[Kr,Nat.sub_zero];rw[if_neg (by lia),Nat.min_eq_left (by lia)]
theorem W6{i:Int}(a:0<=i):d5 S (some i) none=S.drop i.toNat:=by
 unfold d5 HT.sIx;simp only[];rw[if_neg (by lia)]
 by_cases h:i.toNat<=S.length
 .rw[Nat.min_eq_left h,Gh (by rw[Ft];exact Ai _)]
 .rw[Nat.min_eq_right (by lia)];rw[List.drop_of_length_le (Ai _),List.drop_of_length_le (by lia)];simp
theorem yJ{M:Mm}{a:Addr}{k:Str}{v:W}{kvs:List (aF×W)}{Q:Mm->Prop}(h:M a=some (.dK kvs))(hl:kvs.length<An)(q:Q (put M a (.dK (bQ kvs (Sum.inr k) v)))):pG (.ref a) (.str k) v M Q:=.inr (.inl ⟨kvs,.inr k,rfl,h,hl,q⟩)
theorem W7{M:Mm}{a:Addr}{k:Int}{v:W}{kvs:List (aF×W)}{Q:Mm->Prop}(h:M a=some (.dK kvs))(hl:kvs.length<An)(q:Q (put M a (.dK (bQ kvs (Sum.inl k) v)))):pG (.ref a) (.int k) v M Q:=.inr (.inl ⟨kvs,.inl k,rfl,h,hl,q⟩)
theorem oB{M:Mm}{a:Addr}{k:List aF}{v:W}{kvs:List (List aF×W)}{Q:Mm->Prop}(h:M a=some (.dT kvs))(hl:kvs.length<An)(q:Q (put M a (.dT (bQ kvs k v)))):pG (.ref a) (.tup (k.map wK)) v M Q:=.inr (.inr ⟨kvs,k,rfl,h,hl,q⟩)
theorem G0{M:Mm}{a:Addr}{k:Int}{v:W}{ws:List W}{Q:Mm->Prop}(h:M a=some (.lst ws))(b:0<=k)(c:k<ws.length)(q:Q (put M a (.lst (ws.set k.toNat v)))):pG (.ref a) (.int k) v M Q:=
 .inl ⟨ws,k,k.toNat,rfl,h,by unfold iT;rw[if_pos b,if_pos c],q⟩
section
variable {X:Cx}{a b c:Expr}{ta tb tc:aX}{pos:Pos}
def G1:List W->Mm->K3->Prop
 | [.int i],M,R=>R (.int (if i<0 then -i else i)) M
 | _,_,_=>False
theorem W8:cQ X (.builtin "abs") (gC X.K G1):=by
 rintro a s c H xs us Q I rs ⟨ws,M,R,e,b,h,k⟩
 match ws,h with
 | [.int i],h=>
  obtain⟨v,rfl,d⟩:=b.one;obtain rfl:=d.inv;exact QS a s c H _ us Q I rs ⟨i,rfl,k.at e (.int _) h⟩
def G2:W->List W->Mm->K3->Prop
 | .ref l,[],M,R=>∃ws,M l=some (.lst ws)/\R .non (put M l (.lst ws.reverse))
 | _,_,_,_=>False
theorem W9:jE X "list.reverse" (kW X.K G2):=by
 rintro a s d H x xs v us Q I g rs ⟨j,ws,M,R,c,i,b,h,k⟩
 match j,ws,h with
 | .ref l,[],h=>
  cases b;cases i;obtain⟨ws,e,r⟩:=h;obtain⟨vs,f,q⟩:=c.lst e;exact S8 a s d H _ _ v us Q I g rs ⟨l,vs,rfl,rfl,f,pB c k e q.reverse .non r⟩
end
def gO:Nat->List W->List W
 | _,[]=>[]
 | n,w::r=>.tup [.int n,w]::gO (n+1) r
theorem mV:∀{ws:List W} {n:Nat},(gO n ws).length=ws.length
 | [],_=>rfl
 | _::r,n=>by simp[gO,mV (ws:=r)]
theorem rN:∀{ws:List W} {n i:Nat},(gO n ws)[i]? = (ws[i]?).map λw=>W.tup [.int ((n+i:Nat):Int),w]
 | [],_,_=>by simp[gO]
 | w::r,n,0=>by simp[gO]
 | w::r,n,i+1=>by
  rw[gO,Fj,Fj,rN];congr 2;funext w;congr 4;lia
section
variable {X:Cx}{a b c:Expr}{ta tb tc:aX}{pos:Pos}
theorem G3{K:Ac}{b:Hp}{c:Mm}{p:Addr}{vs:List V}{ws:List W}{keep:Mm->Prop}(d:aK K b c vs ws)(e:AM K b c)(st:∀H M,Kp b c H M->AM K H M->keep M->bI K H p vs):jJ K b c (xF K p vs) (gO 0 ws) keep:=by
 refine⟨λi H M k a kp hi=>⟨st H M k a kp,by rw[mV]at hi;rw[d.length];exact hi⟩,λH M k a kp=>⟨st H M k a kp,by rw[mV,d.length];exact Ai _⟩,λi H M x m k a kp hi y=>?_⟩;obtain⟨n,u,h,g,rfl,rfl⟩:=y;obtain⟨w,hw,l⟩:=(d.kp e k).getV h;obtain⟨f,j⟩:=a.tup (u:=.tup [.int (i:Nat),u]) g;refine⟨.tup [.int ((i:Nat):Int),w],by rw[rN,hw];simp,j,f,.tup dO (.cons (.int _) (.cons (l.go (go_same g)) .nil))⟩
def yK(ta:d3):iX:=λτ M R=>ta τ M λws b=>match ws with
 | [.rl a]=>R (gO 0 a) (λ_=>True) b
 | [.sc a]=>R (gO 0 a) (λ_=>True) b
 | [.ref p]=>∃a,b p=some (.lst a)/\False
 | _=>False
theorem G4{d:d3}{p pos:Pos}{es:List Expr}{j:Nat}{u:Pos}(t:Gl X "enumerate")(m:X.mg "enumerate" = none)(ha:A3 X [a] d)(l:Br [a] X.env=[(false,eval a X.env)]:=by rfl):PI X (.Tuple es j u) (.Call (.Name "enumerate" p) [a] [] pos) (g7 X.K (yK d)):=
 (UX t m ha l).weak λy H z w=>w.el λτ M R as x h k=>⟨τ,M,_,as,x,h,λvs A ws B i b g r=>by
  match ws,r with
  | [.rl s],r=>
   obtain⟨v,rfl,c⟩:=g.one;cases c with
   | rl e n q=>exact⟨_,_,rfl,bI.of e,k _ _ _ _ _ i b (G3 q b λH M k _ _=>bI.of (k.fr _ _ n e).1) r⟩
  | [.sc s],r=>
   obtain⟨v,rfl,c⟩:=g.one;cases c with
   | sc e q=>exact⟨_,_,rfl,e.sq,k _ _ _ _ _ i b (G3 q b λH M k _ _=>by
     refine lP.sq ?_;rcases e with⟨o,e⟩|e
     .exact .inl ⟨o,(k.fr _ _ (b.noFrz e) e).1⟩
     .exact .inr e) r⟩
  | [.ref p],r=>obtain⟨_,_,f⟩:=r;exact f.elim⟩
end
section
variable {X:Cx}
theorem aK.intsL{K:Ac}{H:Hp}{M:Mm}{ns:List Int}{vs:List V}(h:aK K H M vs (ns.map W.int)):vs=ns.map V.int:=h.ints
def yL:List W->Mm->K3->Prop
 | [.rl ws],M,R=>∃ns:List Int,ws=ns.map W.int/\R (.int ns.sum) M
 | _,_,_=>False
theorem G5(hc:X.calm=true):cQ X (.builtin "sum") (gC X.K yL):=by
 rintro a s c H xs us Q I rs ⟨ws,M,R,e,b,h,k⟩
 match ws,h with
 | [.rl ws],h=>
  obtain⟨v,rfl,d⟩:=b.one;obtain⟨ns,rfl,r⟩:=h;cases d with
  | rl f _ q=>
   rw[q.intsL]at f;exact U3 hc a s c H _ us Q I rs ⟨_,ns,rfl,bI.of f,k.at e (.int _) r⟩
def XA:List W->Mm->K3->Prop
 | [.dk kvs],M,R=>∃ks:List Str,kvs.map Fo=ks.map Sum.inr/\ks.length<64/\∀a:List Str,a.Perm ks->a9 (a.map W.str) M R
 | _,_,_=>False
def G6:List W->Mm->K3->Prop
 | [.dk kvs],M,R=>∃ks:List Str,kvs.map Fo=ks.map Sum.inr/\ks.length<64/\∀a:List Str,a.Perm ks->R (.rl (a.map W.str)) M
 | _,_,_=>False
theorem XB{K:Ac}{H:Hp}{M:Mm}(a:List Str):aK K H M (a.map V.str) (a.map W.str):=by
 induction a with
 | nil=>exact .nil
 | cons s r b=>exact .cons (.str s) b
theorem XC(hc:X.calm=true):cQ X (.builtin "sorted") (gC X.K XA):=by
 rintro a s g H xs us Q I rs ⟨ws,M,R,l,b,h,k⟩
 match ws,h with
 | [.dk kvs],h=>
  obtain⟨v,rfl,j⟩:=b.one;obtain⟨ks,hk,d,r⟩:=h;cases j with
  | dk e n m q=>exact U2 hc a s g H _ us Q I rs ⟨_,_,ks,rfl,e,m.trans hk,d,λf i p c=>iU l k c (XB f) (r f i)⟩
theorem XD(hc:X.calm=true):cQ X (.builtin "sorted") (gC X.K G6):=GK (XC hc) λx M R h=>by
 match x,h with
 | [.dk kvs],⟨ks,d,b,r⟩=>exact⟨ks,d,b,λa c=>a9.frz (r a c)⟩
end
section
variable {ws:List W}{g:eR}{tb:aI}{D:D3}{τ:S3}{M:Mm}
theorem xI{O:Sort _}{p K:O->Prop}{w:O}(h:p w)(k:K w):∃w,p w/\K w:=⟨w,h,k⟩
theorem mW(c:Nat->S3->Mm->Prop)(j:c 0 τ M)(f:∀i w τ M,ws[i]? = some w->c i τ M->g w τ M λd h=>tb {D with nx:=λb e=>∃a,Sub a e/\c (i+1) b a,ct:=λb e=>∃a,Sub a e/\c (i+1) b a,bk:=D.nx} d h)(hd:∀τ M,c ws.length τ M->D.nx τ M):rK ws (λ_=>True) g tb D τ M:=pI c j (λ_ _ _ _ _=>trivial) f hd
theorem fQ(a:Nat->S3->Mm->Prop)(h:a 0 τ M)(d:∀i w τ M,ws[i]? = some w->a i τ M->∀c:D3,(∀τ M,a (i+1) τ M->c.nx τ M)->g w τ M λb f=>tb c b f)(hd:∀τ M,a ws.length τ M->D.nx τ M):rK ws (λ_=>True) g tb D τ M:=mW a h (λi w τ M e p=>d i w τ M e p _ λ_ M z=>⟨M,Sub.refl _,z⟩) hd
theorem G7(d:Nat->S3->Mm->Prop)(h:∃m,d m τ M)(g:∀m τ M,d m τ M->∀e:D3,(∀a τ M,a<m->d a τ M->e.nx τ M)->c τ M λb f=>if b=true then tb e τ f else D.nx τ f):pH c tb D τ M:=⟨d,h,λm τ M p=>g m τ M p _ λa _ M l z=>⟨a,M,l,Sub.refl _,z⟩⟩
end
end L3
namespace Rg
open PySem Spec PyProof.Rows L2 L3
structure aM where
 name:Str
 parts:List Str
 cost:Int
def eU(acc:List Str)(t:Str):List Str:=if t∈acc then acc else acc++[t]
def oC(acc:List Str)(rs:List aM):List Str:=(rs.map aM.name).foldl eU acc
def namesOf(rs:List aM):List Str:=oC [] rs
theorem rO:u∈eU acc t↔u∈acc\/u=t:=by
 unfold eU;split
 .rename_i h;constructor
  .exact .inl
  .rintro(q|q)
   .exact q
   .rw[q];exact h
 .rw[Bi,Ao]
theorem XE:(eU acc t).length<=acc.length+1:=by
 unfold eU;split
 .lia
 .rw[Aj];exact Ai _
theorem yM:∀{ts acc:List Str} {u:Str},u∈ts.foldl eU acc↔u∈acc\/u∈ts
 | [],acc,u=>by simp
 | t::r,acc,u=>by
  rw[Eu,yM,rO,Bg];constructor
  .rintro((h|h)|h)
   .exact .inl h
   .exact .inr (.inl h)
   .exact .inr (.inr h)
  .rintro(h|h|h)
   .exact .inl (.inl h)
   .exact .inl (.inr h)
   .exact .inr h
theorem uA:u∈namesOf rs↔∃r∈rs,r.name=u:=by
 unfold namesOf oC;rw[yM];simp
theorem uB:∀(ts acc:List Str),(ts.foldl eU acc).length<=acc.length+ts.length
 | [],acc=>by simp
 | t::r,acc=>by
  rw[Eu,Bp];have:=uB r (eU acc t);have:=XE (acc:=acc) (t:=t);lia
def eV(r:aM):W:=.tup [.str r.name,.tup (r.parts.map W.str),.int r.cost]
def b9(rs:List aM):W:=.rl (rs.map eV)
def bM(rs:List aM)(t:Str):Bool:=decide (t∈namesOf rs)
theorem G8(h:r∈rs):bM rs r.name=true:=decide_eq_true (uA.mpr ⟨r,h,rfl⟩)
abbrev aJ:=Int×Int
def cH(a b:aJ):Bool:=decide (a.1<b.1)||(decide (a.1=b.1)&&decide (a.2<b.2))
theorem pN:cH a b=true↔a.1<b.1\/a.1=b.1/\a.2<b.2:=by simp[cH]
def Le(a b:aJ):Prop:=a.1<b.1\/a.1=b.1/\a.2<=b.2
theorem yN:Le a b↔¬cH b a=true:=by
 rw[pN];unfold Le;lia
theorem Le.refl(a:aJ):Le a a:=.inr ⟨rfl,Em _⟩
theorem Le.trans(h:Le a b)(h':Le b c):Le a c:=by unfold Le at *;lia
theorem Le.of_lt(h:cH a b=true):Le a b:=by rw[pN]at h;unfold Le;lia
theorem Le.antisymm(h:Le a b)(h':Le b a):a=b:=by
 unfold Le at *;exact Ka (by lia) (by lia)
theorem rP:¬cH a a=true:=by rw[pN];lia
theorem rQ(h:cH a b=true)(h':Le b c):cH a c=true:=by rw[pN]at *;unfold Le at h';lia
def d8(a b:aJ):aJ:=(a.1+b.1,a.2+b.2)
theorem XF(h:Le a b)(h':Le c d):Le (d8 a c) (d8 b d):=by unfold Le d8 at *;simp only;lia
section
variable {U J:Type}[DecidableEq U]
def aD(t:List (U×J))(k:U):Option J:=(t.find? λe=>decide (e.1=k)).map (·.2)
def bB(t:List (U×J))(k:U)(v:J):List (U×J):=if (t.any λe=>decide (e.1=k))=true then t.map (λe=>if e.1=k then(e.1,v) else e) else t++[(k,v)]
theorem dE(e:U×J)(t:List (U×J))(k:U):aD (e::t) k=if e.1=k then some e.2 else aD t k:=by
 unfold aD;rw[Fp]
 by_cases h:e.1=k
 .rw[decide_eq_true h,if_pos h];rfl
 .rw[decide_eq_false h,if_neg h]
theorem gF(t:List (U×J))(k:U):(t.any λe=>decide (e.1=k))=(aD t k).isSome:=by
 induction t with
 | nil=>rfl
 | cons e t a=>
  rw[Gg,dE,a]
  by_cases h:e.1=k
  .rw[decide_eq_true h,if_pos h];rfl
  .rw[decide_eq_false h,if_neg h];rfl
theorem yO(t:List (U×J))(k j:U)(v:J):aD (t++[(k,v)]) j=(aD t j).or (if k=j then some v else none):=by
 induction t with
 | nil=>rw[Gz,dE];rfl
 | cons e t a=>
  rw[List.cons_append,dE,dE,a];split<;>rfl
theorem XG(t:List (U×J))(k j:U)(v:J)(h:(aD t k).isSome=true):aD (t.map (λe=>if e.1=k then(e.1,v) else e)) j=if k=j then some v else aD t j:=by
 induction t with
 | nil=>cases h
 | cons e t c=>
  rw[Aw,dE,dE];rw[dE]at h
  by_cases hk:e.1=k
  .rw[if_pos hk]
   by_cases b:k=j
   .rw[if_pos (by rw[hk,b]:(e.1,v).1=j),if_pos b]
   .rw[if_neg (by rw[hk];exact b),if_neg b,if_neg (by rw[hk];exact b)]
    by_cases ht:(aD t k).isSome=true
    .rw[c ht,if_neg b]
    .have:∀{t:List (U×J)},¬(aD t k).isSome=true->t.map (λe=>if e.1=k then(e.1,v) else e)=t:=by
      intro t
      induction t with
      | nil=>intro _;rfl
      | cons a t c=>
       intro h;rw[dE]at h
       by_cases ha:a.1=k
       .rw[if_pos ha]at h;exact absurd rfl h
       .rw[if_neg ha]at h;rw[Aw,if_neg ha,c h]
     rw[this ht]
  .rw[if_neg hk]at h⊢
   by_cases b:e.1=j
   .rw[if_pos b,if_pos b,if_neg (λz=>hk (by rw[b,z]))]
   .rw[if_neg b,if_neg b];exact c h
theorem fJ(t:List (U×J))(k j:U)(v:J):aD (bB t k v) j=if k=j then some v else aD t j:=by
 unfold bB;rw[gF];split
 .rename_i h;exact XG t k j v h
 .rename_i h;rw[yO]
  by_cases a:k=j
  .subst a;rw[if_pos rfl,if_pos rfl];cases e:aD t k with
   | none=>rfl
   | some z=>rw[e]at h;exact absurd rfl h
  .rw[if_neg a,if_neg a,Option.or_none]
theorem rR(t:List (U×J))(k:U)(v:J):(bB t k v).length<=t.length+1:=by
 unfold bB;split
 .rw[Ab];lia
 .simp
def eW{a:Type}(t:List (U×List a))(k:U)(v:a):List (U×List a):=bB t k ((aD t k).getD []++[v])
theorem rS{a:Type}(t:List (U×List a))(k j:U)(v:a):(aD (eW t k v) j).getD []=if k=j then(aD t j).getD []++[v] else(aD t j).getD []:=by
 unfold eW;rw[fJ]
 by_cases h:k=j
 .subst h;rw[if_pos rfl,if_pos rfl];rfl
 .rw[if_neg h,if_neg h]
end
section
variable {O:Type}
def dS(c:aJ)(x:O):List (aJ×List O)->List (aJ×List O)
 | []=>[(c,[x])]
 | (d,xs)::r=>if cH c d=true then(d,xs)::dS c x r else if d=c then(d,xs++[x])::r else(c,[x])::(d,xs)::r
def a6:List (aJ×List O)->List (aJ×O)
 | []=>[]
 | (d,xs)::r=>xs.map (λx=>(d,x))++a6 r
theorem uC(c:aJ)(x:O):∀q:List (aJ×List O),(a6 (dS c x q)).length=(a6 q).length+1
 | []=>rfl
 | (d,xs)::r=>by
  rw[dS];split
  .rw[a6,a6,Aj,Aj,uC c x r];lia
  .split
   .rw[a6,a6,Aj,Aj,Bd,Aj];simp;lia
   .simp[a6]
def g8:List (aJ×List O)->Prop
 | []=>True
 | (d,xs)::r=>xs≠[]/\(∀e∈r,cH e.1 d=true)/\g8 r
theorem G9(c:aJ)(x:O):∀q:List (aJ×List O),∀e∈dS c x q,e.1=c\/∃a∈q,a.1=e.1
 | [],e,h=>by simp[dS]at h;exact .inl (by rw[h])
 | (d,xs)::r,e,h=>by
  rw[dS]at h;split at h
  .rcases Bg.mp h with z|z
   .exact .inr ⟨(d,xs),by simp,by rw[z]⟩
   .rcases G9 c x r e z with q|⟨a,b,f⟩
    .exact .inl q
    .exact .inr ⟨a,Ap _ b,f⟩
  .split at h
   .rcases Bg.mp h with z|z
    .exact .inr ⟨(d,xs),by simp,by rw[z]⟩
    .exact .inr ⟨e,Ap _ z,rfl⟩
   .rcases Bg.mp h with z|z
    .exact .inl (by rw[z])
    .exact .inr ⟨e,z,rfl⟩
theorem yP(c:aJ)(x:O):∀{q:List (aJ×List O)},g8 q->g8 (dS c x q)
 | [],_=>⟨by simp,by simp,trivial⟩
 | (d,xs)::r,h=>by
  obtain⟨g,b,i⟩:=h;rw[dS];split
  .rename_i a;refine⟨g,λe j=>?_,yP c x i⟩;rcases G9 c x r e j with z|⟨l,z1,z2⟩
   .rw[z];exact a
   .rw[<-z2];exact b l z1
  .rename_i a;split
   .rename_i hd;subst hd;exact⟨by simp,b,i⟩
   .rename_i hd;have f:cH d c=true:=by
     have k:¬(c.1<d.1\/c.1=d.1/\c.2<d.2):=by rw[<-pN];exact a
     rw[pN]
     by_cases g:d.1=c.1
     .refine .inr ⟨g,?_⟩;have:d.2≠c.2:=λb=>hd (Ka g b);lia
     .left;lia
    refine⟨by simp,λe j=>?_,g,b,i⟩;rcases Bg.mp j with z|z
    .rw[z];exact f
    .exact rQ (b e z) (Le.of_lt f)
def iF:List (aJ×List O)->Option (aJ×O×List (aJ×List O))
 | []=>none
 | [(d,xs)]=>match xs.getLast? with
  | none=>none
  | some x=>some (d,x,if xs.dropLast.isEmpty then [] else [(d,xs.dropLast)])
 | e::a::r=>match iF (a::r) with
  | none=>none
  | some (d,x,q)=>some (d,x,e::q)
theorem oE:∀{q:List (aJ×List O)},g8 q->q≠[]->∃d x f,iF q=some (d,x,f)/\g8 f/\(∀e,e∈a6 q↔e=(d,x)\/e∈a6 f)/\(a6 q).length=(a6 f).length+1/\(∀e∈q,Le d e.1)/\∀e∈f,∃t∈q,t.1=e.1
 | [],_,h=>absurd rfl h
 | [(d,xs)],h,_=>by
  obtain⟨l,_,_⟩:=h;rcases Fd xs with z|⟨g,y,z⟩
  .exact absurd z l
  .rw[Fe]at z;subst z;refine⟨d,y,if g.isEmpty then [] else [(d,g)],by simp[iF],?_,λe=>?_,?_,λe i=>?_,λe i=>?_⟩
   .cases g with
    | nil=>trivial
    | cons a b=>exact⟨by simp,by simp,trivial⟩
   .cases g with
    | nil=>simp[a6]
    | cons a b=>simp[a6];constructor<;>(intro h;rcases h with h|h|h<;>simp[h])
   .cases g with
    | nil=>simp[a6]
    | cons a b=>simp[a6]
   .rw[Ao.mp i];exact Le.refl _
   .cases g with
    | nil=>cases i
    | cons a b=>simp at i;exact⟨(d,a::b++[y]),by simp,by rw[i]⟩
 | e::o::r,h,_=>by
  obtain⟨l,n,v⟩:=h;obtain⟨d,x,f,u,A,s,w,m,p⟩:=oE v (by simp);refine⟨d,x,e::f,by rw[iF,u],⟨l,λz hz=>?_,A⟩,λz=>?_,?_,λz hz=>?_,λz hz=>?_⟩
  .obtain⟨k,c,j⟩:=p z hz;rw[<-j];exact n k c
  .rw[a6,Bi,s,a6,Bi];constructor
   .rintro(h|h|h)
    .exact .inr (.inl h)
    .exact .inl h
    .exact .inr (.inr h)
   .rintro(h|h|h)
    .exact .inr (.inl h)
    .exact .inl h
    .exact .inr (.inr h)
  .rw[a6,Aj,w,a6,Aj];lia
  .rcases Bg.mp hz with q|q
   .rw[q];have:=m o Be;exact this.trans (Le.of_lt (n o Be))
   .exact m z q
  .rcases Bg.mp hz with q|q
   .exact⟨e,Be,by rw[q]⟩
   .obtain⟨k,c,j⟩:=p z q;exact⟨k,Ap _ c,j⟩
theorem HA(h:e∈a6 q):∃b∈q,b.1=e.1:=by
 induction q with
 | nil=>cases h
 | cons b r c=>
  obtain⟨d,xs⟩:=b;rw[a6]at h;rcases Bi.mp h with z|z
  .obtain⟨x,_,rfl⟩:=Ax.mp z;exact⟨(d,xs),Be,rfl⟩
  .obtain⟨b,hb,a⟩:=c z;exact⟨b,Ap _ hb,a⟩
end
section
variable {O:Type}
theorem HB(c:aJ)(x:O):∀q:List (aJ×List O),(a6 (dS c x q)).Perm ((c,x)::a6 q)
 | []=>.refl _
 | (d,xs)::r=>by
  rw[dS];split
  .rw[a6,a6];exact(Cp _ (HB c x r)).trans Kx
  .split
   .rename_i hd;subst hd;rw[a6,a6,Bd,Bs];exact Kx
   .exact .refl _
theorem yQ:∀{q c:List (aJ×List O)} {d:aJ} {x:O},g8 q->iF q=some (d,x,c)->(a6 q).Perm ((d,x)::a6 c)
 | [],c,d,x,_,h=>by cases h
 | [(l,xs)],c,d,x,hf,h=>by
  obtain⟨i,_,_⟩:=hf;rcases Fd xs with z|⟨f,y,z⟩
  .exact absurd z i
  .rw[Fe]at z;subst z;simp[iF]at h;obtain⟨rfl,rfl,rfl⟩:=h;cases f with
   | nil=>exact .refl _
   | cons a b=>
    rw[if_neg (by simp)];simp only[a6,Ew,Bd,Aw,Ii];exact List.perm_append_singleton _ _
 | e::o::r,c,d,x,hf,h=>by
  obtain⟨_,_,k⟩:=hf;rw[iF]at h;split at h
  .cases h
  .rename_i n x1 m g;simp only[Es,Ds]at h;obtain⟨rfl,rfl,rfl⟩:=h;have j:=yQ k g;obtain⟨l,xs⟩:=e;rw[a6,a6];exact(Cp _ j).trans Kx
end
structure Sr where
 rs:List aM
 own:Str->Bool
 places:List Int
 steps:Str->Int->List (Int×Int)
 wt:Nat->Int
structure pO(G:Sr):Prop where
 wt:∀n,0<=G.wt n
 pr:∀t p e c,(e,c)∈G.steps t p->0<=c
abbrev K4:=Nat×Nat×Int×Int
abbrev a7:=Str×Int×Int
abbrev bR:=Nat×List Int×aJ
def bG(n:Nat)(cut:List Int):K4:=(n,cut.length,cut.headD 0,cut.getLastD 0)
def lZ(y:bR):K4:=bG y.1 y.2.1
abbrev bC:=List (a7×aJ×Nat×List Int)
structure SS where
 q:List (aJ×List (Nat×List Int))
 reached:List (K4×aJ)
 best:bC
 ends:List ((Str×Int)×List (Int×aJ))
 begun:List ((Str×Int)×List bR)
def reach(st:SS)(n:Nat)(cut:List Int)(c:aJ):SS:=match aD st.reached (bG n cut) with
 | some d=>if cH c d=true then {st with reached:=bB st.reached (bG n cut) c,q:=dS c (n,cut) st.q} else st
 | none=>{st with reached:=bB st.reached (bG n cut) c,q:=dS c (n,cut) st.q}
inductive GI(G:Sr)(B:bC):Nat->List Int->aJ->Prop
 | start {n:Nat} {r:aM} {p:Int}:G.rs[n]? = some r->p∈G.places->GI G B n [p] (G.wt n,1)
 | word {n:Nat} {r:aM} {cut:List Int} {c:aJ} {part:Str} {e pr:Int}:GI G B n cut c->G.rs[n]? = some r->r.parts[cut.length-1]? = some part->G.own part=false->(e,pr)∈G.steps part (cut.getLastD 0)->GI G B n (cut++[e]) (c.1+pr,c.2)
 | name {n:Nat} {r:aM} {cut:List Int} {c m:aJ} {part:Str} {e:Int} {k:Nat×List Int}:GI G B n cut c->G.rs[n]? = some r->r.parts[cut.length-1]? = some part->G.own part=true->aD B (part,cut.getLastD 0,e)=some (m,k)->GI G B n (cut++[e]) (d8 c m)
theorem GI.mono(h:∀f v,aD B f=some v->aD i f=some v){n:Nat}(g:GI G B n cut c):GI G i n cut c:=by
 induction g with
 | start a b=>exact .start a b
 | word _ a b c d e=>exact .word e a b c d
 | name _ a b c d e=>exact .name e a b c (h _ _ d)
theorem GI.ne{n:Nat}(g:GI G B n cut c):cut≠[]:=by cases g<;>simp
def qk(e:aJ×(Nat×List Int)):aJ×K4:=(e.1,bG e.2.1 e.2.2)
def fE(st:SS)(k:K4)(c:aJ):Prop:=∃d,aD st.reached k=some d/\Le d c
structure fF(G:Sr)(st:SS)(P:List bR)(cur:aJ):Prop where
 fall:g8 st.q
 item:∀e∈a6 st.q,GI G st.best e.2.1 e.2.2 e.1
 ge:∀e∈a6 st.q,∃d,aD st.reached (bG e.2.1 e.2.2)=some d/\Le d e.1
 nd:((a6 st.q).map qk).Nodup
 once:(P.map lZ).Nodup
 pr:∀y∈P,aD st.reached (lZ y)=some y.2.2/\Le y.2.2 cur/\GI G st.best y.1 y.2.1 y.2.2
 fresh:∀e∈a6 st.q,∀y∈P,lZ y=bG e.2.1 e.2.2->cH y.2.2 e.1=true
 curq:∀e∈a6 st.q,Le cur e.1
 hit:∀k d,aD st.reached k=some d->(∃e∈a6 st.q,e.1=d/\bG e.2.1 e.2.2=k)\/∃y∈P,lZ y=k/\y.2.2=d
structure kD(st st':SS):Prop where
 best:st'.best=st.best
 ends:st'.ends=st.ends
 begun:st'.begun=st.begun
 le:∀k c,fE st k c->fE st' k c
theorem kD.refl(st:SS):kD st st:=⟨rfl,rfl,rfl,λ_ _ h=>h⟩
theorem kD.trans(x:kD a b)(y:kD b c):kD a c:=⟨y.best.trans x.best,y.ends.trans x.ends,y.begun.trans x.begun,λk c h=>y.le k c (x.le k c h)⟩
theorem XH{G:Sr}{st:SS}{P:List bR}{cur:aJ}{n:Nat}{cut:List Int}{c:aJ}(I:fF G st P cur)(g:GI G st.best n cut c)(hc:Le cur c):
  fF G (reach st n cut c) P cur/\kD st (reach st n cut c)/\fE (reach st n cut c) (bG n cut) c:=by
 have push:(∀d,aD st.reached (bG n cut)=some d->cH c d=true)->fF G {st with reached:=bB st.reached (bG n cut) c,q:=dS c (n,cut) st.q} P cur/\kD st {st with reached:=bB st.reached (bG n cut) c,q:=dS c (n,cut) st.q}/\fE {st with reached:=bB st.reached (bG n cut) c,q:=dS c (n,cut) st.q} (bG n cut) c:=by
  intro f;have r:=HB c (n,cut) st.q;have m:∀e,e∈a6 (dS c (n,cut) st.q)↔e=(c,(n,cut))\/e∈a6 st.q:=λe=>by rw[r.mem_iff,Bg]
  have o:∀y∈P,lZ y≠bG n cut:=λy j e=>by
   obtain⟨a,b,_⟩:=I.pr y j;rw[e]at a;have:=rQ (f _ a) (b.trans hc);exact rP this
  have le:∀k d,fE st k d->fE {st with reached:=bB st.reached (bG n cut) c,q:=dS c (n,cut) st.q} k d:=λk d h=>by
   obtain⟨z,a,b⟩:=h
   by_cases e:bG n cut=k
   .subst e;exact⟨c,by show aD (bB _ _ _) _=_;rw[fJ,if_pos rfl],(Le.of_lt (f z a)).trans b⟩
   .exact⟨z,by show aD (bB _ _ _) _=_;rw[fJ,if_neg e];exact a,b⟩
  refine⟨⟨yP _ _ I.fall,λe i=>?_,λe i=>?_,?_,I.once,λy j=>?_,λe i y j l=>?_,λe i=>?_,λk d hd=>?_⟩,⟨rfl,rfl,rfl,le⟩,c,by show aD (bB _ _ _) _=_;rw[fJ,if_pos rfl],Le.refl c⟩
  .rcases(m e).mp i with z|z
   .rw[z];exact g
   .exact I.item e z
  .show ∃d,aD (bB _ _ _) _=_/\_;rw[fJ];rcases(m e).mp i with z|z
   .rw[z,if_pos rfl];exact⟨c,rfl,Le.refl _⟩
   .obtain⟨d,a,b⟩:=I.ge e z
    by_cases l:bG n cut=bG e.2.1 e.2.2
    .rw[if_pos l];rw[<-l]at a;exact⟨c,rfl,(Le.of_lt (f d a)).trans b⟩
    .rw[if_neg l];exact⟨d,a,b⟩
  .rw[(r.map qk).nodup_iff,Aw,Dx];refine⟨λz=>?_,I.nd⟩;obtain⟨e,i,eq⟩:=Ax.mp z;obtain⟨d,a,b⟩:=I.ge e i;unfold qk at eq;rw[Ds]at eq;rw[eq.2]at a;rw[eq.1]at b;exact rP (rQ (f d a) b)
  .obtain⟨a,b,p⟩:=I.pr y j;refine⟨?_,b,p⟩;show aD (bB _ _ _) _=_;rw[fJ,if_neg (Bw (o y j))];exact a
  .rcases(m e).mp i with z|z
   .rw[z]at l;exact absurd l (o y j)
   .exact I.fresh e z y j l
  .rcases(m e).mp i with z|z
   .rw[z];exact hc
   .exact I.curq e z
  .have hd:aD (bB st.reached (bG n cut) c) k=some d:=hd;rw[fJ]at hd
   by_cases e:bG n cut=k
   .rw[if_pos e]at hd;cases hd;exact .inl ⟨(c,(n,cut)),(m _).mpr (.inl rfl),rfl,e⟩
   .rw[if_neg e]at hd;rcases I.hit k d hd with⟨x,a,b,p⟩|h
    .exact .inl ⟨x,(m _).mpr (.inr a),b,p⟩
    .exact .inr h
 unfold reach;cases h:aD st.reached (bG n cut) with
 | none=>exact push λd e=>by rw[h]at e;cases e
 | some d=>
  simp only;split
  .rename_i hl;exact push λd' e=>by rw[h]at e;cases e;exact hl
  .rename_i hl;exact⟨I,kD.refl st,d,h,yN.mpr hl⟩
theorem rT{G:Sr}{P:List bR}{cur:aJ}{O:Type}(f:O->Nat×List Int×aJ):∀(xs:List O) {st:SS},fF G st P cur->(∀x∈xs,GI G st.best (f x).1 (f x).2.1 (f x).2.2/\Le cur (f x).2.2)->
  fF G (xs.foldl (λst x=>reach st (f x).1 (f x).2.1 (f x).2.2) st) P cur/\kD st (xs.foldl (λst x=>reach st (f x).1 (f x).2.1 (f x).2.2) st)/\∀x∈xs,fE (xs.foldl (λst x=>reach st (f x).1 (f x).2.1 (f x).2.2) st) (bG (f x).1 (f x).2.1) (f x).2.2
 | [],st,I,_=>⟨I,kD.refl st,λx e=>nomatch e⟩
 | x::xs,st,I,h=>by
  obtain⟨k,j⟩:=h x Be;obtain⟨d,c,i⟩:=XH I k j;obtain⟨g,b,l⟩:=rT f xs d λy a=>by
   have:=h y (Ap _ a);rw[c.best];exact this
  refine⟨g,c.trans b,λy a=>?_⟩;rcases Bg.mp a with z|z
  .rw[z];exact b.le _ _ i
  .exact l y z
def dG(G:Sr)(n:Nat):Str:=match G.rs[n]? with
 | some r=>r.name
 | none=>""
def dU(G:Sr)(n:Nat)(cut:List Int):Option Str:=match G.rs[n]? with
 | some r=>r.parts[cut.length-1]?
 | none=>none
def cP(G:Sr)(n:Nat)(cut:List Int):a7:=(dG G n,cut.headD 0,cut.getLastD 0)
def settle(G:Sr)(st:SS)(n:Nat)(cut:List Int)(c:aJ):SS:=match aD st.best (cP G n cut) with
 | some _=>st
 | none=>((aD st.begun (dG G n,cut.headD 0)).getD []).foldl (λst y=>reach st y.1 (y.2.1++[cut.getLastD 0]) (d8 y.2.2 c)) {st with best:=st.best++[(cP G n cut,c,n,cut)],ends:=eW st.ends (dG G n,cut.headD 0) (cut.getLastD 0,c)}
def fR(st:SS)(n:Nat)(cut:List Int)(c:aJ)(a:Str):SS:=((aD st.ends (a,cut.getLastD 0)).getD []).foldl (λst z=>reach st n (cut++[z.1]) (d8 c z.2)) {st with begun:=eW st.begun (a,cut.getLastD 0) (n,cut,c)}
def fZ(G:Sr)(st:SS)(n:Nat)(cut:List Int)(c:aJ)(a:Str):SS:=(G.steps a (cut.getLastD 0)).foldl (λst z=>reach st n (cut++[z.1]) (c.1+z.2,c.2)) st
def process(G:Sr)(st:SS)(n:Nat)(cut:List Int)(c:aJ):SS:=match dU G n cut with
 | none=>settle G st n cut c
 | some a=>if G.own a=true then fR st n cut c a else fZ G st n cut c a
structure Ob(G:Sr)(st:SS)(P:List bR)(cur:aJ):Prop where
 zero:Le (0,0) cur
 fin:∀y∈P,dU G y.1 y.2.1=none->∃m k,aD st.best (cP G y.1 y.2.1)=some (m,k)/\Le m y.2.2
 wrd:∀y∈P,∀part,dU G y.1 y.2.1=some part->G.own part=false->∀z∈G.steps part (y.2.1.getLastD 0),fE st (bG y.1 (y.2.1++[z.1])) (y.2.2.1+z.2,y.2.2.2)
 nam:∀y∈P,∀part,dU G y.1 y.2.1=some part->G.own part=true->y∈(aD st.begun (part,y.2.1.getLastD 0)).getD []
 pair:∀key,∀y∈(aD st.begun key).getD [],∀z∈(aD st.ends key).getD [],fE st (bG y.1 (y.2.1++[z.1])) (d8 y.2.2 z.2)
 bgn:∀key,∀y∈(aD st.begun key).getD [],y∈P/\dU G y.1 y.2.1=some key.1/\G.own key.1=true/\y.2.1.getLastD 0=key.2/\Le (0,0) y.2.2
 ends:∀nm b e m,(e,m)∈(aD st.ends (nm,b)).getD []↔∃k,aD st.best (nm,b,e)=some (m,k)
 bst:∀f m n cut,aD st.best f=some (m,n,cut)->dU G n cut=none/\f=cP G n cut/\Le (0,0) m/\Le m cur
 ord:∀pre e post,st.best=pre++e::post->GI G pre e.2.2.1 e.2.2.2 e.2.1/\aD pre e.1=none
theorem XI{a b:aJ}(h:Le (0,0) b):Le a (d8 a b):=by unfold Le d8 at *;simp only at *;lia
theorem XJ{a b:aJ}(h:Le (0,0) b):Le a (d8 b a):=by unfold Le d8 at *;simp only at *;lia
theorem XM{G:Sr}{st:SS}{P:List bR}{cur c:aJ}{n:Nat}{cut:List Int}{t:List (aJ×List (Nat×List Int))}(I:fF G st P cur)(ht:iF st.q=some (c,(n,cut),t))(C:aD st.reached (bG n cut)=some c):fF G {st with q:=t} (P++[(n,cut,c)]) c/\Le cur c/\GI G st.best n cut c:=by
 have p:st.q≠[]:=λe=>by rw[e]at ht;cases ht
 obtain⟨d,x,K,r,F,v,J,E,_⟩:=oE I.fall p;rw[ht]at r;simp only[Es,Ds]at r;obtain⟨rfl,rfl,rfl⟩:=r;have D:=yQ I.fall ht;have i:(c,(n,cut))∈a6 st.q:=(v _).mpr (.inl rfl);have sub:∀e∈a6 t,e∈a6 st.q:=λe f=>(v e).mpr (.inr f);have j:=I.curq _ i;have o:=I.nd;rw[(D.map qk).nodup_iff,Aw,Dx]at o;have l:∀e∈a6 t,Le c e.1:=λe f=>by
  obtain⟨b,hb,eb⟩:=HA (sub e f);rw[<-eb];exact E b hb
 have u:∀y∈P,lZ y≠bG n cut:=λy m e=>by
  have h:=I.fresh _ i y m e;obtain⟨g,_,_⟩:=I.pr y m;rw[e,C]at g;cases g;exact rP h
 refine⟨⟨F,λe f=>I.item e (sub e f),λe f=>I.ge e (sub e f),o.2,?_,λy m=>?_,λe f y m B=>?_,l,λk d hd=>?_⟩,j,I.item _ i⟩
 .rw[Bd,Ei];refine⟨I.once,by simp,λa ha b hb e=>?_⟩;obtain⟨y,m,rfl⟩:=Ax.mp ha;rw[List.map_singleton,Ao]at hb;exact u y m (by rw[e,hb];rfl)
 .rcases Bi.mp m with z|z
  .obtain⟨h,g,s⟩:=I.pr y z;exact⟨h,g.trans j,s⟩
  .rw[Ao.mp z];exact⟨C,Le.refl _,I.item _ i⟩
 .rcases Bi.mp m with z|z
  .exact I.fresh e (sub e f) y z B
  .have w:=Ao.mp z;subst w;have h:=l e f;have p:e.1≠c:=λr=>o.1 (Ax.mpr ⟨e,f,by
    have A:bG n cut=bG e.2.1 e.2.2:=B;show(e.1,bG e.2.1 e.2.2)=(c,bG n cut);rw[r,A]⟩)
   show cH c e.1=true;cases H:cH c e.1 with
   | true=>rfl
   | false=>exact absurd (Le.antisymm (yN.mpr (by rw[H];decide)) h) p
 .rcases I.hit k d hd with⟨e,h,g,s⟩|⟨y,h,g⟩
  .rcases(v e).mp h with z|z
   .subst z;exact .inr ⟨(n,cut,c),Cg _ (Ao.mpr rfl),s,g⟩
   .exact .inl ⟨e,z,g,s⟩
  .exact .inr ⟨y,Cd _ h,g⟩
theorem XN{G:Sr}{st:SS}{P:List bR}{cur c d:aJ}{n:Nat}{cut:List Int}{u:List (aJ×List (Nat×List Int))}(I:fF G st P cur)(ht:iF st.q=some (c,(n,cut),u))(D:aD st.reached (bG n cut)=some d)(hd:cH d c=true):fF G {st with q:=u} P c/\Le cur c:=by
 have s:st.q≠[]:=λe=>by rw[e]at ht;cases ht
 obtain⟨J,x,H,r,E,o,F,C,_⟩:=oE I.fall s;rw[ht]at r;simp only[Es,Ds]at r;obtain⟨rfl,rfl,rfl⟩:=r;have A:=yQ I.fall ht;have t:(c,(n,cut))∈a6 st.q:=(o _).mpr (.inl rfl);have sub:∀e∈a6 u,e∈a6 st.q:=λe a=>(o e).mpr (.inr a);have f:=I.curq _ t;have l:=I.nd;rw[(A.map qk).nodup_iff,Aw,Dx]at l;refine⟨⟨E,λe a=>I.item e (sub e a),λe a=>I.ge e (sub e a),l.2,I.once,λy w=>?_,λe a y w B=>I.fresh e (sub e a) y w B,λe a=>?_,λk v m=>?_⟩,f⟩
 .obtain⟨p,i,j⟩:=I.pr y w;exact⟨p,i.trans f,j⟩
 .obtain⟨b,hb,eb⟩:=HA (sub e a);rw[<-eb];exact C b hb
 .rcases I.hit k v m with⟨e,p,i,j⟩|h
  .rcases(o e).mp p with z|z
   .subst z;have j:bG n cut=k:=j;have i:c=v:=i;have g:aD st.reached k=some v:=m;rw[<-j,D]at g;cases g;rw[<-i]at hd;exact absurd hd rP
   .exact .inl ⟨e,z,i,j⟩
  .exact .inr h
theorem Ob.later{G:Sr}{st:SS}{P:List bR}{cur c:aJ}(o:Ob G st P cur)(h:Le cur c)(a:List (aJ×List (Nat×List Int))):Ob G {st with q:=a} P c:=
 ⟨o.zero.trans h,o.fin,o.wrd,o.nam,o.pair,o.bgn,o.ends,λf m n cut e=>let ⟨h1,h2,h3,h4⟩:=o.bst f m n cut e;⟨h1,h2,h3,h4.trans h⟩,o.ord⟩
theorem GI.rule{G:Sr}{B:bC}{n:Nat}{cut:List Int}{c:aJ}(g:GI G B n cut c):∃r,G.rs[n]? = some r:=by
 cases g with
 | start a _=>exact⟨_,a⟩
 | word _ a _ _ _=>exact⟨_,a⟩
 | name _ a _ _ _=>exact⟨_,a⟩
theorem part_of{G:Sr}{n:Nat}{cut:List Int}{r:aM}(h:G.rs[n]? = some r):dU G n cut=r.parts[cut.length-1]?:=by unfold dU;rw[h]
theorem jM{a:Type}{P:List a}{x y:a}(h:y∈P++[x]):y∈P\/y=x:=by
 rcases Bi.mp h with z|z
 .exact .inl z
 .exact .inr (Ao.mp z)
theorem XO{G:Sr}(ok:pO G){st:SS}{P:List bR}{c:aJ}{n:Nat}{cut:List Int}{a:Str}(I:fF G st (P++[(n,cut,c)]) c)(o:Ob G st P c)(g:GI G st.best n cut c)(s:dU G n cut=some a)(x:G.own a=false):
  fF G (fZ G st n cut c a) (P++[(n,cut,c)]) c/\Ob G (fZ G st n cut c a) (P++[(n,cut,c)]) c/\∀k d,fE st k d->fE (fZ G st n cut c a) k d:=by
 obtain⟨r,t⟩:=g.rule;rw[part_of t]at s;obtain⟨A,i,C⟩:=rT (λz:Int×Int=>(n,cut++[z.1],(c.1+z.2,c.2))) (G.steps a (cut.getLastD 0)) I λz hz=>⟨.word g t s x hz,by
  have:=ok.pr _ _ _ _ hz;show Le c (c.1+z.2,c.2);unfold Le;simp only;lia⟩
 refine⟨A,⟨o.zero,λy j w=>?_,λy j pt l p z hz=>?_,λy j pt l p=>?_,λkey y j z hz=>?_,λkey y j=>?_,λnm b e m=>?_,λf m B v e=>?_,λpre e u h=>?_⟩,i.le⟩
 .rcases jM j with z|z
  .obtain⟨m,k,l,p⟩:=o.fin y z w;exact⟨m,k,by rw[show(fZ G st n cut c a).best=st.best from i.best];exact l,p⟩
  .subst z;rw[part_of t,s]at w;cases w
 .rcases jM j with q|q
  .exact i.le _ _ (o.wrd y q pt l p z hz)
  .subst q;rw[part_of t,s]at l;cases l;exact C z hz
 .rcases jM j with q|q
  .rw[show(fZ G st n cut c a).begun=st.begun from i.begun];exact o.nam y q pt l p
  .subst q;rw[part_of t,s]at l;cases l;rw[x]at p;cases p
 .rw[show(fZ G st n cut c a).begun=st.begun from i.begun]at j;rw[show(fZ G st n cut c a).ends=st.ends from i.ends]at hz;exact i.le _ _ (o.pair key y j z hz)
 .rw[show(fZ G st n cut c a).begun=st.begun from i.begun]at j;obtain⟨l,p⟩:=o.bgn key y j;exact⟨Cd _ l,p⟩
 .rw[show(fZ G st n cut c a).ends=st.ends from i.ends,show(fZ G st n cut c a).best=st.best from i.best];exact o.ends nm b e m
 .rw[show(fZ G st n cut c a).best=st.best from i.best]at e;exact o.bst f m B v e
 .rw[show(fZ G st n cut c a).best=st.best from i.best]at h;exact o.ord pre e u h
theorem XQ{G:Sr}{st:SS}{P:List bR}{c:aJ}{n:Nat}{cut:List Int}{a:Str}(I:fF G st (P++[(n,cut,c)]) c)(o:Ob G st P c)(g:GI G st.best n cut c)(w:dU G n cut=some a)(x:G.own a=true):
  fF G (fR st n cut c a) (P++[(n,cut,c)]) c/\Ob G (fR st n cut c a) (P++[(n,cut,c)]) c/\∀k d,fE st k d->fE (fR st n cut c a) k d:=by
 obtain⟨r,D⟩:=g.rule;have l:=w;rw[part_of D]at w;obtain⟨H,t,F⟩:=rT (G:=G) (P:=P++[(n,cut,c)]) (cur:=c) (st:={st with begun:=eW st.begun (a,cut.getLastD 0) (n,cut,c)}) (λz:Int×aJ=>(n,cut++[z.1],d8 c z.2)) ((aD st.ends (a,cut.getLastD 0)).getD []) ⟨I.fall,I.item,I.ge,I.nd,I.once,I.pr,I.fresh,I.curq,I.hit⟩ λz hz=>by
  obtain⟨k,hk⟩:=(o.ends a (cut.getLastD 0) z.1 z.2).mp hz;exact⟨.name g D w x hk,XI (o.bst _ _ _ _ hk).2.2.1⟩
 have hb:(fR st n cut c a).best=st.best:=t.best;have E:(fR st n cut c a).ends=st.ends:=t.ends;have J:(fR st n cut c a).begun=eW st.begun (a,cut.getLastD 0) (n,cut,c):=t.begun;have i:∀key y,y∈(aD (fR st n cut c a).begun key).getD []↔y∈(aD st.begun key).getD []\/(a,cut.getLastD 0)=key/\y=(n,cut,c):=λkey y=>by
  rw[J,rS]
  by_cases h:(a,cut.getLastD 0)=key
  .rw[if_pos h,Bi,Ao];exact⟨λz=>z.imp id λq=>⟨h,q⟩,λz=>z.imp id λq=>q.2⟩
  .rw[if_neg h];exact⟨.inl,λz=>z.elim id λq=>absurd q.1 h⟩
 refine⟨H,⟨o.zero,λy p C=>?_,λy p pt j s z hz=>?_,λy p pt j s=>?_,λkey y p z hz=>?_,λkey y p=>?_,λnm b e m=>?_,λf m K v e=>?_,λpre e u h=>?_⟩,t.le⟩
 .rcases jM p with z|z
  .rw[hb];exact o.fin y z C
  .subst z;rw[l]at C;cases C
 .rcases jM p with q|q
  .exact t.le _ _ (o.wrd y q pt j s z hz)
  .subst q;rw[l]at j;cases j;rw[x]at s;cases s
 .rw[i];rcases jM p with q|q
  .exact .inl (o.nam y q pt j s)
  .subst q;rw[l]at j;cases j;exact .inr ⟨rfl,rfl⟩
 .rw[E]at hz;rcases(i key y).mp p with q|⟨B,A⟩
  .exact t.le _ _ (o.pair key y q z hz)
  .subst A;rw[<-B]at hz;exact F z hz
 .rcases(i key y).mp p with q|⟨B,A⟩
  .obtain⟨j,s⟩:=o.bgn key y q;exact⟨Cd _ j,s⟩
  .subst A;rw[<-B];exact⟨Cg _ (Ao.mpr rfl),l,x,rfl,o.zero⟩
 .rw[E,hb];exact o.ends nm b e m
 .rw[hb]at e;exact o.bst f m K v e
 .rw[hb]at h;exact o.ord pre e u h
theorem XR{G:Sr}{st:SS}{P:List bR}{c:aJ}{n:Nat}{cut:List Int}(I:fF G st (P++[(n,cut,c)]) c)(o:Ob G st P c)(g:GI G st.best n cut c)(u:dU G n cut=none):
  fF G (settle G st n cut c) (P++[(n,cut,c)]) c/\Ob G (settle G st n cut c) (P++[(n,cut,c)]) c/\∀k d,fE st k d->fE (settle G st n cut c) k d:=by
 unfold settle;cases hf:aD st.best (cP G n cut) with
 | some v=>
  obtain⟨m,k⟩:=v;obtain⟨_,_,_,Q⟩:=o.bst _ _ _ _ hf;refine⟨I,⟨o.zero,λy j H=>?_,λy j pt a i z hz=>?_,λy j pt a i=>?_,o.pair,λkey y j=>?_,o.ends,o.bst,o.ord⟩,λ_ _ h=>h⟩
  .rcases jM j with z|z
   .exact o.fin y z H
   .subst z;exact⟨m,k,hf,Q⟩
  .rcases jM j with q|q
   .exact o.wrd y q pt a i z hz
   .subst q;rw[u]at a;cases a
  .rcases jM j with q|q
   .exact o.nam y q pt a i
   .subst q;rw[u]at a;cases a
  .obtain⟨a,i⟩:=o.bgn key y j;exact⟨Cd _ a,i⟩
 | none=>
  simp only;have new:∀f,aD (st.best++[(cP G n cut,c,n,cut)]) f=if cP G n cut=f then some (c,n,cut) else aD st.best f:=λf=>by
   rw[yO]
   by_cases h:cP G n cut=f
   .subst h;rw[if_pos rfl,if_pos rfl,hf];rfl
   .rw[if_neg h,if_neg h,Option.or_none]
  have mono:∀f v,aD st.best f=some v->aD (st.best++[(cP G n cut,c,n,cut)]) f=some v:=λf v h=>by
   rw[new,if_neg (λe=>by rw[<-e,hf]at h;cases h)];exact h
  obtain⟨r,l⟩:∃z:SS,z = {st with best:=st.best++[(cP G n cut,c,n,cut)],ends:=eW st.ends (dG G n,cut.headD 0) (cut.getLastD 0,c)}:=⟨_,rfl⟩;have b1:r.best=st.best++[(cP G n cut,c,n,cut)]:=by rw[l]
  have U:r.ends=eW st.ends (dG G n,cut.headD 0) (cut.getLastD 0,c):=by rw[l]
  have W:r.begun=st.begun:=by rw[l]
  have M:r.reached=st.reached:=by rw[l]
  have q0:r.q=st.q:=by rw[l]
  have X:fF G r (P++[(n,cut,c)]) c:=by
   rw[l];exact⟨I.fall,λe V=>(I.item e V).mono mono,I.ge,I.nd,I.once,λy j=>let ⟨a,i,F⟩:=I.pr y j;⟨a,i,F.mono mono⟩,I.fresh,I.curq,I.hit⟩
  rw[<-l];obtain⟨L,C,K⟩:=rT (λy:bR=>(y.1,y.2.1++[cut.getLastD 0],d8 y.2.2 c)) ((aD st.begun (dG G n,cut.headD 0)).getD []) X λy j=>by
   obtain⟨a,i,F,O,T⟩:=o.bgn _ y j;obtain⟨_,_,J⟩:=I.pr y (Cd _ a);obtain⟨Z,D⟩:=J.rule;rw[part_of D]at i;refine⟨.name (k:=(n,cut)) (by rw[b1];exact J.mono mono) D i F ?_,XJ T⟩;rw[b1,new,if_pos (by show(dG G n,cut.headD 0,cut.getLastD 0)=(dG G n,y.2.1.getLastD 0,cut.getLastD 0);rw[O])]
  obtain⟨t,x⟩:∃z,z=((aD st.begun (dG G n,cut.headD 0)).getD []).foldl (λst y=>reach st y.1 (y.2.1++[cut.getLastD 0]) (d8 y.2.2 c)) r:=⟨_,rfl⟩;rw[<-x]at L C K⊢;have B:t.best=st.best++[(cP G n cut,c,n,cut)]:=C.best.trans b1;have E:t.ends=eW st.ends (dG G n,cut.headD 0) (cut.getLastD 0,c):=C.ends.trans U;have N:t.begun=st.begun:=C.begun.trans W;have le:∀k d,fE st k d->fE t k d:=λk d h=>C.le k d (by
   obtain⟨z,a,i⟩:=h;exact⟨z,by rw[M];exact a,i⟩)
  have s:∀key z,z∈(aD t.ends key).getD []↔z∈(aD st.ends key).getD []\/(dG G n,cut.headD 0)=key/\z=(cut.getLastD 0,c):=λkey z=>by
   rw[E,rS]
   by_cases h:(dG G n,cut.headD 0)=key
   .rw[if_pos h,Bi,Ao];exact⟨λz=>z.imp id λq=>⟨h,q⟩,λz=>z.imp id λq=>q.2⟩
   .rw[if_neg h];exact⟨.inl,λz=>z.elim id λq=>absurd q.1 h⟩
  refine⟨L,⟨o.zero,λy j H=>?_,λy j pt a i z hz=>?_,λy j pt a i=>?_,λkey y j z hz=>?_,λkey y j=>?_,λnm b e m=>?_,λf m Y A e=>?_,λpre e w h=>?_⟩,le⟩
  .rw[B];rcases jM j with z|z
   .obtain⟨m,k,a,i⟩:=o.fin y z H;exact⟨m,k,mono _ _ a,i⟩
   .subst z;exact⟨c,(n,cut),by rw[new,if_pos rfl],Le.refl _⟩
  .rcases jM j with q|q
   .exact le _ _ (o.wrd y q pt a i z hz)
   .subst q;rw[u]at a;cases a
  .rw[N];rcases jM j with q|q
   .exact o.nam y q pt a i
   .subst q;rw[u]at a;cases a
  .rw[N]at j;rcases(s key z).mp hz with q|⟨S,R⟩
   .exact le _ _ (o.pair key y j z q)
   .subst R;rw[<-S]at j;exact K y j
  .rw[N]at j;obtain⟨a,i⟩:=o.bgn key y j;exact⟨Cd _ a,i⟩
  .rw[s,B,new,o.ends]
   by_cases h:cP G n cut=(nm,b,e)
   .rw[if_pos h];unfold cP at h;simp only[Ds]at h;obtain⟨rfl,rfl,rfl⟩:=h;constructor
    .rintro(⟨k,hk⟩|⟨_,hk⟩)
     .rw[show(dG G n,cut.headD 0,cut.getLastD 0)=cP G n cut from rfl,hf]at hk;cases hk
     .cases hk;exact⟨(n,cut),rfl⟩
    .rintro⟨k,hk⟩;cases hk;exact .inr ⟨rfl,rfl⟩
   .rw[if_neg h];constructor
    .rintro(hk|⟨a,i⟩)
     .exact hk
     .cases a;cases i;exact absurd rfl h
    .exact .inl
  .rw[B,new]at e
   by_cases h:cP G n cut=f
   .rw[if_pos h]at e;cases e;exact⟨u,h.symm,o.zero,Le.refl _⟩
   .rw[if_neg h]at e;exact o.bst f m Y A e
  .rw[B]at h;rcases Fd w with z|⟨ps,p,z⟩
   .subst z;have h':=List.append_inj' h rfl;have i:=h'.2;simp only[El,and_true]at i;rw[<-h'.1,<-i];exact⟨g,hf⟩
   .rw[Fe]at z;subst z;rw[show pre++e::(ps++[p])=(pre++e::ps)++[p] by simp]at h;have h':=List.append_inj' h rfl;exact o.ord pre e ps h'.1
theorem XS{G:Sr}(ok:pO G){st:SS}{P:List bR}{c:aJ}{n:Nat}{cut:List Int}(I:fF G st (P++[(n,cut,c)]) c)(o:Ob G st P c)(g:GI G st.best n cut c):
  fF G (process G st n cut c) (P++[(n,cut,c)]) c/\Ob G (process G st n cut c) (P++[(n,cut,c)]) c/\∀k d,fE st k d->fE (process G st n cut c) k d:=by
 unfold process;cases b:dU G n cut with
 | none=>exact XR I o g b
 | some a=>
  simp only;cases e:G.own a with
  | true=>rw[if_pos rfl];exact XQ I o g b e
  | false=>rw[if_neg (by decide)];exact XO ok I o g b e
inductive DI(G:Sr):Nat->List Int->aJ->Prop
 | start {n:Nat} {r:aM} {p:Int}:G.rs[n]? = some r->p∈G.places->DI G n [p] (G.wt n,1)
 | word {n:Nat} {r:aM} {cut:List Int} {c:aJ} {part:Str} {e pr:Int}:DI G n cut c->G.rs[n]? = some r->r.parts[cut.length-1]? = some part->G.own part=false->(e,pr)∈G.steps part (cut.getLastD 0)->DI G n (cut++[e]) (c.1+pr,c.2)
 | name {n n':Nat} {r:aM} {cut cut':List Int} {c m:aJ} {part:Str}:DI G n cut c->G.rs[n]? = some r->r.parts[cut.length-1]? = some part->G.own part=true->DI G n' cut' m->dU G n' cut'=none->dG G n'=part->cut'.headD 0=cut.getLastD 0->DI G n (cut++[cut'.getLastD 0]) (d8 c m)
theorem DI.ne{G:Sr}{n:Nat}{cut:List Int}{c:aJ}(h:DI G n cut c):cut≠[]:=by cases h<;>simp
theorem HC{n:Nat}{e:Int}(h:bG n a=bG n b)(ha:a≠[])(hb:b≠[]):bG n (a++[e])=bG n (b++[e]):=by
 unfold bG at *;simp only[Ds,true_and]at h;obtain⟨d,c,f⟩:=h;have hl:∀l:List Int,(l++[e]).getLastD 0=e:=λl=>by simp[Jt]
 rw[hl,hl,Aj,Aj,d];cases a with
 | nil=>exact absurd rfl ha
 | cons x a=>
  cases b with
  | nil=>exact absurd rfl hb
  | cons y b=>
   simp only[List.headD_cons]at c;subst c;rfl
theorem uD{n c:Nat}(h:bG n a=bG c b):n=c/\dU G n a=dU G c b/\cP G n a=cP G c b/\a.getLastD 0=b.getLastD 0:=by
 unfold bG at h;simp only[Ds]at h;obtain⟨rfl,e,f,d⟩:=h;refine⟨rfl,?_,?_,d⟩
 .unfold dU;rw[e]
 .unfold cP;rw[f,d]
def yR(G:Sr)(st:SS):Prop:=∀n r p,G.rs[n]? = some r->p∈G.places->fE st (bG n [p]) (G.wt n,1)
theorem XT{G:Sr}{st:SS}{P:List bR}{cur:aJ}(I:fF G st P cur)(o:Ob G st P cur)(hi:yR G st)(Y:st.q=[]){n:Nat}{cut:List Int}{c:aJ}(h:DI G n cut c):fE st (bG n cut) c:=by
 have done:∀{n:Nat} {cut:List Int} {c:aJ},fE st (bG n cut) c->∃y∈P,lZ y=bG n cut/\Le y.2.2 c:=λ{n cut c} h=>by
  obtain⟨d,z,v⟩:=h;rcases I.hit _ _ z with⟨e,S,_⟩|⟨y,s,X,U⟩
  .rw[Y]at S;cases S
  .exact⟨y,s,X,by rw[U];exact v⟩
 induction h with
 | start a b=>exact hi _ _ _ a b
 | @word n r cut c f e pr hd M D F W H=>
  obtain⟨y,s,u,j⟩:=done H;obtain⟨C,k,_,g⟩:=uD (G:=G) u;have p:=(I.pr y s).2.2.ne;have:=o.wrd y s f (by rw[k,part_of M];exact D) F (e,pr) (by rw[g];exact W);obtain⟨d,z,v⟩:=this;refine⟨d,?_,v.trans ?_⟩
  .have t:bG n y.2.1=bG n cut:=by rw[<-u];unfold lZ;rw[C]
   rw[<-HC t p hd.ne,<-C];exact z
  .unfold Le at j⊢;simp only at *;lia
 | @name n n' r cut i c m f hd M D F hd' A E K H Q=>
  obtain⟨y,s,u,j⟩:=done H;obtain⟨C,k,_,g⟩:=uD (G:=G) u;obtain⟨Z,N,t,B⟩:=done Q;obtain⟨V,w,l,_⟩:=uD (G:=G) t;obtain⟨T,R,hb,L⟩:=o.fin Z N (by rw[w];exact A);rw[l]at hb;have O:aD st.best (f,cut.getLastD 0,i.getLastD 0)=some (T,R):=by
   have:cP G n' i=(f,cut.getLastD 0,i.getLastD 0):=by unfold cP;rw[E,K]
   rw[<-this];exact hb
  have hz:=(o.ends f (cut.getLastD 0) (i.getLastD 0) T).mpr ⟨R,O⟩;have x:=o.nam y s f (by rw[k,part_of M];exact D) F;rw[g]at x;have p:=(I.pr y s).2.2.ne;obtain⟨d,z,v⟩:=o.pair _ y x _ hz;refine⟨d,?_,v.trans (XF j (L.trans B))⟩;have J:bG n y.2.1=bG n cut:=by rw[<-u];unfold lZ;rw[C]
  rw[<-HC J p hd.ne,<-C];exact z
theorem XU{G:Sr}{st:SS}{P:List bR}{cur:aJ}(I:fF G st P cur)(o:Ob G st P cur)(hi:yR G st)(g:st.q=[]){n:Nat}{cut:List Int}{c:aJ}(h:DI G n cut c)(hf:dU G n cut=none):∃m k,aD st.best (cP G n cut)=some (m,k)/\Le m c:=by
 obtain⟨d,i,l⟩:=XT I o hi g h;rcases I.hit _ _ i with⟨e,f,_⟩|⟨y,r,j,p⟩
 .rw[g]at f;cases f
 .obtain⟨_,b,a,_⟩:=uD (G:=G) j;obtain⟨m,k,hb,s⟩:=o.fin y r (by rw[b];exact hf);rw[a]at hb;exact⟨m,k,hb,s.trans (by rw[p];exact l)⟩
theorem yS{G:Sr}{B:bC}(h:∀f m n cut,aD B f=some (m,n,cut)->DI G n cut m/\dU G n cut=none/\f=cP G n cut){n:Nat}{cut:List Int}{c:aJ}(g:GI G B n cut c):DI G n cut c:=by
 induction g with
 | start a b=>exact .start a b
 | word _ a b c d i=>exact .word i a b c d
 | name s p l u hb i=>
  rename_i k;obtain⟨w,j⟩:=k;obtain⟨v,q,e⟩:=h _ _ _ _ hb;unfold cP at e;simp only[Ds]at e;obtain⟨o,r,t⟩:=e;rw[t];exact .name i p l u v q o.symm r.symm
theorem jN{U c:Type}[DecidableEq U]{t:List (U×c)}{k:U}{v:c}(h:aD t k=some v):∃a b,t=a++(k,v)::b:=by
 induction t with
 | nil=>cases h
 | cons e t d=>
  rw[dE]at h
  by_cases hk:e.1=k
  .rw[if_pos hk]at h;cases h;exact⟨[],t,by rw[<-hk];rfl⟩
  .rw[if_neg hk]at h;obtain⟨a,b,rfl⟩:=d h;exact⟨e::a,b,rfl⟩
theorem XW{G:Sr}{st:SS}{P:List bR}{cur:aJ}(o:Ob G st P cur):∀(k:Nat) (pre:bC) (e:a7×aJ×Nat×List Int) (c:bC),pre.length=k->st.best=pre++e::c->DI G e.2.2.1 e.2.2.2 e.2.1:=by
 intro k
 induction k using Nat.strongRecOn with
 | _ k v=>
  intro pre e c hk hb;obtain⟨g,_⟩:=o.ord pre e c hb;refine yS (B:=pre) (λf m n cut hf=>?_) g;obtain⟨a,b,l⟩:=jN hf;have i:st.best=a++(f,m,n,cut)::(b++e::c):=by rw[hb,l];simp
  have j:a.length<k:=by rw[<-hk,l];simp
  have hd:=v a.length j a _ _ rfl i;have d:=(o.ord a _ _ i).2;have p:aD st.best f=some (m,n,cut):=by
   rw[i];have:∀{a:bC} {x:a7×aJ×Nat×List Int} {r:bC},aD a x.1=none->aD (a++x::r) x.1=some x.2:=by
    intro a
    induction a with
    | nil=>intro x r _;rw[Gz,dE,if_pos rfl]
    | cons y a q=>
     intro x r h;rw[dE]at h;rw[List.cons_append,dE]
     by_cases s:y.1=x.1
     .rw[if_pos s]at h;cases h
     .rw[if_neg s]at h⊢;exact q h
   exact this (x:=(f,m,n,cut)) d
  obtain⟨t,u,_⟩:=o.bst f m n cut p;exact⟨hd,t,u⟩
theorem yU{G:Sr}{st:SS}{P:List bR}{cur:aJ}(o:Ob G st P cur){f:a7}{m:aJ}{n:Nat}{cut:List Int}(h:aD st.best f=some (m,n,cut)):DI G n cut m/\dU G n cut=none/\f=cP G n cut:=by
 obtain⟨a,b,c⟩:=jN h;obtain⟨d,e,_⟩:=o.bst f m n cut h;exact⟨XW o a.length a _ b rfl c,d,e⟩
theorem HD(st:SS)(n:Nat)(cut:List Int)(c:aJ):∃j,j<=1/\(a6 (reach st n cut c).q).length=(a6 st.q).length+j/\(reach st n cut c).reached.length<=st.reached.length+j:=by
 have push:∃j,j<=1/\(a6 (dS c (n,cut) st.q)).length=(a6 st.q).length+j/\(bB st.reached (bG n cut) c).length<=st.reached.length+j:=⟨1,Ai _,uC _ _ _,rR _ _ _⟩;unfold reach;cases aD st.reached (bG n cut) with
 | none=>exact push
 | some d=>
  simp only;split
  .exact push
  .exact⟨0,by lia,rfl,by lia⟩
theorem rV{a:Type}(f:a->Nat×List Int×aJ):∀(xs:List a) (st:SS),∃j,j<=xs.length/\(a6 (xs.foldl (λst x=>reach st (f x).1 (f x).2.1 (f x).2.2) st).q).length=(a6 st.q).length+j/\(xs.foldl (λst x=>reach st (f x).1 (f x).2.1 (f x).2.2) st).reached.length<=st.reached.length+j
 | [],st=>⟨0,Ai _,rfl,Ai _⟩
 | x::xs,st=>by
  obtain⟨d,i,c,g⟩:=HD st (f x).1 (f x).2.1 (f x).2.2;obtain⟨b,k,e,h⟩:=rV f xs (reach st (f x).1 (f x).2.1 (f x).2.2);refine⟨d+b,by rw[Bp];lia,?_,?_⟩
  .rw[Eu,e,c];lia
  .rw[Eu];lia
def gP(G:Sr)(S:Nat)(st:SS)(y:bR):Nat:=match dU G y.1 y.2.1 with
 | none=>0
 | some a=>if G.own a=true then((aD st.ends (a,y.2.1.getLastD 0)).getD []).length else S
structure Cn(G:Sr)(S I0:Nat)(st:SS)(P:List bR)(T:Nat):Prop where
 put:(a6 st.q).length+T<=I0+(P.map (gP G S st)).sum
 rch:st.reached.length<=(a6 st.q).length+T
 bnd:∀key,((aD st.begun key).getD []).Nodup
 enn:∀key,(((aD st.ends key).getD []).map Fo).Nodup
theorem uE(f:bR->Nat)(P:List bR)(x:bR):((P++[x]).map f).sum=(P.map f).sum+f x:=by simp
theorem yV{G:Sr}{S:Nat}{st st':SS}(h:st'.ends=st.ends):gP G S st'=gP G S st:=by
 funext y;unfold gP;rw[h]
theorem XX{G:Sr}{S i T:Nat}{st:SS}{P:List bR}{c:aJ}{n:Nat}{cut:List Int}{a:Str}(C:Cn G S i st P T)(k:∀t p,(G.steps t p).length<=S)(l:dU G n cut=some a)(o:G.own a=false):Cn G S i (fZ G st n cut c a) (P++[(n,cut,c)]) T:=by
 obtain⟨j,D,r,s⟩:=rV (λz:Int×Int=>(n,cut++[z.1],(c.1+z.2,c.2))) (G.steps a (cut.getLastD 0)) st;have keep:∀(xs:List (Int×Int)) (st:SS),(xs.foldl (λst z=>reach st n (cut++[z.1]) (c.1+z.2,c.2)) st).ends=st.ends/\(xs.foldl (λst z=>reach st n (cut++[z.1]) (c.1+z.2,c.2)) st).begun=st.begun:=by
  intro xs
  induction xs with
  | nil=>intro st;exact⟨rfl,rfl⟩
  | cons x xs v=>
   intro st;rw[Eu];obtain⟨w,u⟩:=v (reach st n (cut++[x.1]) (c.1+x.2,c.2));have g:(reach st n (cut++[x.1]) (c.1+x.2,c.2)).ends=st.ends/\(reach st n (cut++[x.1]) (c.1+x.2,c.2)).begun=st.begun:=by
    unfold reach;split
    .split<;>exact⟨rfl,rfl⟩
    .exact⟨rfl,rfl⟩
   exact⟨w.trans g.1,u.trans g.2⟩
 obtain⟨m,A⟩:=keep (G.steps a (cut.getLastD 0)) st;have b:(fZ G st n cut c a).ends=st.ends:=m;have d:(fZ G st n cut c a).begun=st.begun:=A;have e:(a6 (fZ G st n cut c a).q).length=(a6 st.q).length+j:=r;have y:(fZ G st n cut c a).reached.length<=st.reached.length+j:=s;have B:=k a (cut.getLastD 0);have h:=C.put;have f:=C.rch;refine⟨?_,by lia,λkey=>by rw[d];exact C.bnd key,λkey=>by rw[b];exact C.enn key⟩;rw[yV b,uE,e];have:gP G S st (n,cut,c)=S:=by
  unfold gP;rw[l];simp only;rw[if_neg (by rw[o];decide)]
 lia
theorem XY(st:SS)(n:Nat)(cut:List Int)(c:aJ):(reach st n cut c).ends=st.ends/\(reach st n cut c).begun=st.begun/\(reach st n cut c).best=st.best:=by
 unfold reach;split
 .split<;>exact⟨rfl,rfl,rfl⟩
 .exact⟨rfl,rfl,rfl⟩
theorem yW{a:Type}(f:a->Nat×List Int×aJ):∀(xs:List a) (st:SS),(xs.foldl (λst x=>reach st (f x).1 (f x).2.1 (f x).2.2) st).ends=st.ends/\(xs.foldl (λst x=>reach st (f x).1 (f x).2.1 (f x).2.2) st).begun=st.begun/\(xs.foldl (λst x=>reach st (f x).1 (f x).2.1 (f x).2.2) st).best=st.best
 | [],st=>⟨rfl,rfl,rfl⟩
 | x::xs,st=>by
  rw[Eu];obtain⟨g,c,b⟩:=yW f xs (reach st (f x).1 (f x).2.1 (f x).2.2);obtain⟨h,e,d⟩:=XY st (f x).1 (f x).2.1 (f x).2.2;exact⟨g.trans h,c.trans e,b.trans d⟩
theorem XZ{G:Sr}{S w T:Nat}{st:SS}{P:List bR}{cur c:aJ}{n:Nat}{cut:List Int}{d:Str}(C:Cn G S w st P T)(o:Ob G st P cur)(i:(n,cut,c)∉P)(x:dU G n cut=some d)(A:G.own d=true):Cn G S w (fR st n cut c d) (P++[(n,cut,c)]) T:=by
 obtain⟨g,f⟩:∃z:SS,z = {st with begun:=eW st.begun (d,cut.getLastD 0) (n,cut,c)}:=⟨_,rfl⟩;obtain⟨j,B,r,s⟩:=rV (λz:Int×aJ=>(n,cut++[z.1],d8 c z.2)) ((aD st.ends (d,cut.getLastD 0)).getD []) g;obtain⟨u,v,_⟩:=yW (λz:Int×aJ=>(n,cut++[z.1],d8 c z.2)) ((aD st.ends (d,cut.getLastD 0)).getD []) g;have k:(fR st n cut c d).ends=st.ends:=by
  have:(fR st n cut c d).ends=g.ends:=by rw[f]at u⊢;exact u
  rw[this,f]
 have l:(fR st n cut c d).begun=eW st.begun (d,cut.getLastD 0) (n,cut,c):=by
  have:(fR st n cut c d).begun=g.begun:=by rw[f]at v⊢;exact v
  rw[this,f]
 have m:(a6 (fR st n cut c d).q).length=(a6 st.q).length+j:=by rw[f]at r;exact r
 have y:(fR st n cut c d).reached.length<=st.reached.length+j:=by rw[f]at s;exact s
 have p:=C.put;have t:=C.rch;refine⟨?_,by lia,λkey=>?_,λkey=>by rw[k];exact C.enn key⟩
 .rw[yV k,uE,m];have:gP G S st (n,cut,c)=((aD st.ends (d,cut.getLastD 0)).getD []).length:=by
   unfold gP;rw[x];simp only;rw[if_pos A]
  lia
 .rw[l,rS];split
  .rename_i h;rw[Ei];refine⟨C.bnd key,by simp,λa ha b hb e=>?_⟩;rw[Ao]at hb;rw[e,hb]at ha;exact i (o.bgn key _ ha).1
  .exact C.bnd key
theorem len_sub{h:Type}[DecidableEq h]:∀{a b:List h},a.Nodup->(∀x∈a,x∈b)->a.length<=b.length
 | [],b,_,_=>Bk _
 | x::a,b,c,i=>by
  rw[Dx]at c;have g:=i x Be;have j:=len_sub (a:=a) (b:=b.erase x) c.2 λy f=>by
   have d:y≠x:=λe=>c.1 (by rw[<-e];exact f);exact(List.mem_erase_of_ne d).mpr (i y (Ap _ f))
  rw[List.length_erase_of_mem g]at j;have:=List.length_pos_of_mem g;rw[Bp];lia
theorem HE{f g:bR->Nat}{p:bR->Bool}:∀{P:List bR},(∀y∈P,g y=f y+if p y=true then 1 else 0)->(P.map g).sum=(P.map f).sum+(P.filter p).length
 | [],_=>rfl
 | y::P,h=>by
  have a:=HE (P:=P) λz hz=>h z (Ap _ hz);rw[Aw,Aw,Kb,Kb,a,h y Be,Dz];split<;>simp<;>lia
theorem X1{G:Sr}{S I T:Nat}{st:SS}{P:List bR}{cur c:aJ}{n:Nat}{cut:List Int}(C:Cn G S I st P T)(o:Ob G st P cur)(K:dU G n cut=none):Cn G S I (settle G st n cut c) (P++[(n,cut,c)]) T:=by
 have f:∀st',gP G S st' (n,cut,c)=0:=λst'=>by unfold gP;rw[K]
 have F:=C.put;have D:=C.rch;unfold settle;cases hf:aD st.best (cP G n cut) with
 | some v=>
  simp only;refine⟨?_,C.rch,C.bnd,C.enn⟩;rw[uE,f];lia
 | none=>
  simp only;obtain⟨i,d⟩:∃z:SS,z = {st with best:=st.best++[(cP G n cut,c,n,cut)],ends:=eW st.ends (dG G n,cut.headD 0) (cut.getLastD 0,c)}:=⟨_,rfl⟩;rw[<-d];obtain⟨j,u,t,x⟩:=rV (λy:bR=>(y.1,y.2.1++[cut.getLastD 0],d8 y.2.2 c)) ((aD st.begun (dG G n,cut.headD 0)).getD []) i;obtain⟨A,H,_⟩:=yW (λy:bR=>(y.1,y.2.1++[cut.getLastD 0],d8 y.2.2 c)) ((aD st.begun (dG G n,cut.headD 0)).getD []) i;obtain⟨p,s⟩:∃z,z=((aD st.begun (dG G n,cut.headD 0)).getD []).foldl (λst y=>reach st y.1 (y.2.1++[cut.getLastD 0]) (d8 y.2.2 c)) i:=⟨_,rfl⟩;rw[<-s]at t x A H⊢;have E:p.ends=eW st.ends (dG G n,cut.headD 0) (cut.getLastD 0,c):=by rw[A,d]
  have N:p.begun=st.begun:=by rw[H,d]
  have V:(a6 i.q).length=(a6 st.q).length:=by rw[d]
  have U:i.reached.length=st.reached.length:=by rw[d]
  obtain⟨w,g⟩:∃w:bR->Bool,w=λy=>decide (dU G y.1 y.2.1=some (dG G n)/\G.own (dG G n)=true/\y.2.1.getLastD 0=cut.headD 0):=⟨_,rfl⟩;have r:(P.map (gP G S p)).sum=(P.map (gP G S st)).sum+(P.filter w).length:=HE λy J=>by
   unfold gP;cases l:dU G y.1 y.2.1 with
   | none=>rw[g];simp[l]
   | some m=>
    simp only;cases B:G.own m with
    | false=>
     rw[g];simp only[l,Es];rw[if_neg (by decide),if_neg (by decide),if_neg (by rw[decide_eq_true_eq];rintro⟨u,t,_⟩;rw[<-u,B]at t;cases t)];rfl
    | true=>
     rw[if_pos rfl,if_pos rfl,E,rS]
     by_cases h:(dG G n,cut.headD 0)=(m,y.2.1.getLastD 0)
     .rw[if_pos h];simp only[Ds]at h;rw[g];simp only[l,Es];rw[if_pos (by rw[decide_eq_true_eq];exact⟨h.1.symm,by rw[h.1];exact B,h.2.symm⟩)];simp
     .rw[if_neg h];rw[g];simp only[l,Es];rw[if_neg (by rw[decide_eq_true_eq];rintro⟨u,_,x⟩;exact h (by rw[u,x]))];lia
  have M:((aD st.begun (dG G n,cut.headD 0)).getD []).length<=(P.filter w).length:=len_sub (C.bnd _) λy J=>by
   obtain⟨R,Q,O,L,_⟩:=o.bgn _ y J;rw[Dy,g];exact⟨R,decide_eq_true ⟨Q,O,L⟩⟩
  refine⟨?_,by lia,λkey=>by rw[N];exact C.bnd key,λkey=>?_⟩
  .rw[uE,f,r];lia
  .rw[E,rS];split
   .rename_i h;rw[Bd,Ei];refine⟨C.enn key,by simp,λa ha b hb e=>?_⟩;obtain⟨z,hz,rfl⟩:=Ax.mp ha;rw[List.map_singleton,Ao]at hb;rw[<-h]at hz;obtain⟨k,hk⟩:=(o.ends _ _ z.1 z.2).mp hz;rw[e,hb]at hk;have:aD st.best (cP G n cut)=some (z.2,k):=hk;rw[hf]at this;cases this
   .exact C.enn key
def l0(G:Sr)(st:SS):SS:=match iF st.q with
 | none=>st
 | some (c,(n,cut),a)=>match aD st.reached (bG n cut) with
  | some d=>if cH d c=true then {st with q:=a} else process G {st with q:=a} n cut c
  | none=>{st with q:=a}
structure All(G:Sr)(S I0:Nat)(st:SS)(P:List bR)(cur:aJ)(T:Nat):Prop where
 inv:fF G st P cur
 ob:Ob G st P cur
 ini:yR G st
 cn:Cn G S I0 st P T
theorem Cn.q{G:Sr}{S b T:Nat}{st:SS}{P:List bR}{a:List (aJ×List (Nat×List Int))}(C:Cn G S b st P T)(h:(a6 st.q).length=(a6 a).length+1):Cn G S b {st with q:=a} P (T+1):=by
 have c:=C.put;have d:=C.rch;refine⟨?_,?_,C.bnd,C.enn⟩
 .show(a6 a).length+(T+1)<=_;rw[yV (st':={st with q:=a}) (st:=st) rfl];lia
 .show st.reached.length<=(a6 a).length+(T+1);lia
theorem X2{G:Sr}{S f T:Nat}{st:SS}{P:List bR}{cur c:aJ}{n:Nat}{cut:List Int}(C:Cn G S f st P T)(o:Ob G st P cur)(g:∀t p,(G.steps t p).length<=S)(b:(n,cut,c)∉P):Cn G S f (process G st n cut c) (P++[(n,cut,c)]) T:=by
 unfold process;cases d:dU G n cut with
 | none=>exact X1 C o d
 | some a=>
  simp only;cases e:G.own a with
  | true=>rw[if_pos rfl];exact XZ C o b d e
  | false=>rw[if_neg (by decide)];exact XX C g d e
theorem X3{G:Sr}(ok:pO G){S o T:Nat}{st:SS}{P:List bR}{cur:aJ}(A:All G S o st P cur T)(u:∀t p,(G.steps t p).length<=S)(D:st.q≠[]):∃C a,All G S o (l0 G st) C a (T+1):=by
 obtain⟨c,x,m,i,H,v,k,F,_⟩:=oE A.inv.fall D;obtain⟨n,cut⟩:=x;have j:(c,(n,cut))∈a6 st.q:=(v _).mpr (.inl rfl);obtain⟨d,hd,f⟩:=A.inv.ge _ j;unfold l0;rw[i];simp only;rw[hd];simp only
 by_cases hl:cH d c=true
 .rw[if_pos hl];obtain⟨b,hc⟩:=XN A.inv i hd hl;exact⟨P,c,b,A.ob.later hc m,A.ini,A.cn.q k⟩
 .rw[if_neg hl];have h:d=c:=Le.antisymm f (yN.mpr hl);subst h;obtain⟨b,hc,g⟩:=XM A.inv i hd;have l:=A.ob.later hc m;obtain⟨y,E,e⟩:=XS ok b l g;refine⟨_,_,y,E,λn r p B z=>e _ _ (A.ini n r p B z),X2 (A.cn.q k) l u λw=>?_⟩;have s:=b.once;rw[Bd,Ei]at s;exact s.2.2 _ (Ax.mpr ⟨_,w,rfl⟩) _ (by simp) rfl
def gQ:SS:=⟨[],[],[],[],[]⟩
def kE(G:Sr):List (Nat×Int):=(Dw G.rs.length).flatMap λn=>G.places.map λp=>(n,p)
def lB(G:Sr):SS:=(kE G).foldl (λst x=>reach st x.1 [x.2] (G.wt x.1,1)) gQ
theorem X4(ok:pO G)(S:Nat):All G S (kE G).length (lB G) [] (0,0) 0:=by
 have D:fF G gQ [] (0,0):=⟨trivial,(λe c=>nomatch c),(λe c=>nomatch c),Ee,Ee,(λy a=>nomatch a),(λe c=>nomatch c),(λe c=>nomatch c),(λk d hd=>nomatch hd)⟩;have l:∀x∈kE G,(∃r,G.rs[x.1]? = some r)/\x.2∈G.places:=λx i=>by
  obtain⟨n,F,i⟩:=Cu.mp i;obtain⟨p,g,rfl⟩:=Ax.mp i;exact⟨⟨_,Bf (Hz.mp F)⟩,g⟩
 obtain⟨E,u,C⟩:=rT (λx:Nat×Int=>(x.1,[x.2],(G.wt x.1,(1:Int)))) (kE G) D λx i=>by
  obtain⟨⟨r,s⟩,g⟩:=l x i;refine⟨.start s g,?_⟩;have:=ok.wt x.1;show Le (0,0) (G.wt x.1,1);unfold Le;simp only;lia
 obtain⟨j,I,o,B⟩:=rV (λx:Nat×Int=>(x.1,[x.2],(G.wt x.1,(1:Int)))) (kE G) gQ;have v:(lB G).best=[]:=u.best;have w:(lB G).ends=[]:=u.ends;have t:(lB G).begun=[]:=u.begun;refine⟨E,⟨Le.refl _,(λy a=>nomatch a),(λy a=>nomatch a),(λy a=>nomatch a),λkey y a=>?_,λkey y a=>?_,λnm b e m=>?_,λf m n cut e=>?_,λpre e A h=>?_⟩,λn r p s g=>?_,⟨?_,?_,λkey=>?_,λkey=>?_⟩⟩
 .rw[t]at a;cases a
 .rw[t]at a;cases a
 .rw[w,v];exact⟨(λz=>nomatch z),(λ⟨k,hk⟩=>nomatch hk)⟩
 .rw[v]at e;cases e
 .rw[v]at h;cases pre<;>cases h
 .exact C (n,p) (Cu.mpr ⟨n,Hz.mpr (Ak.mp s).1,Ax.mpr ⟨p,g,rfl⟩⟩)
 .have o:(a6 (lB G).q).length=(a6 gQ.q).length+j:=o;have:(a6 gQ.q).length=0:=rfl;simp only[Ii,List.sum_nil];lia
 .have o:(a6 (lB G).q).length=(a6 gQ.q).length+j:=o;have B:(lB G).reached.length<=gQ.reached.length+j:=B;have J:(a6 gQ.q).length=0:=rfl;have H:gQ.reached.length=0:=rfl;lia
 .rw[t];exact Ee
 .rw[w];exact Ee
structure rW(G:Sr)(V:List Int)(N L:Nat):Prop where
 pl:∀p∈G.places,p∈V
 st:∀t p e c,p∈V->(e,c)∈G.steps t p->e∈V
 few:G.rs.length<=N
 len:∀r∈G.rs,r.parts.length+1<=L
theorem uF{l:List Int}(h:l≠[]):l.getLastD 0∈l:=by
 rcases Fd l with z|⟨a,b,z⟩
 .exact absurd z h
 .rw[z,Fe];simp[Jt]
theorem X5{l:List Int}(h:l≠[]):l.headD 0∈l:=by
 cases l with
 | nil=>exact absurd rfl h
 | cons a b=>simp
theorem uG{G:Sr}{V:List Int}{N L:Nat}(v:rW G V N L){n:Nat}{cut:List Int}{c:aJ}(h:DI G n cut c):(∀x∈cut,x∈V)/\n<N/\cut.length<=L:=by
 induction h with
 | @start n r p a b=>
  have s:=(Ak.mp a).1;have:=v.len r (Bh a);have:=v.few;exact⟨λx f=>by rw[Ao.mp f];exact v.pl p b,by lia,by simp;lia⟩
 | @word n r cut c d e pr hd a b u w o=>
  obtain⟨g,k,t⟩:=o;have hl:=(Ak.mp b).1;have:=v.len r (Bh a);have l:=He.mpr hd.ne;refine⟨λx f=>?_,k,by rw[Aj,Bq];lia⟩;rcases Bi.mp f with z|z
  .exact g x z
  .rw[Ao.mp z];exact v.st _ _ _ _ (g _ (uF hd.ne)) w
 | @name n B r cut q c m d hd a b u i hf s A o j=>
  obtain⟨g,k,t⟩:=o;obtain⟨y,_,_⟩:=j;have hl:=(Ak.mp b).1;have:=v.len r (Bh a);have l:=He.mpr hd.ne;refine⟨λx f=>?_,k,by rw[Aj,Bq];lia⟩;rcases Bi.mp f with z|z
  .exact g x z
  .rw[Ao.mp z];exact y _ (uF i.ne)
def uH(V:List Int)(N L:Nat):List K4:=(Dw N).flatMap λn=>(Dw (L+1)).flatMap λl=>V.flatMap λa=>V.map λb=>(n,l,a,b)
theorem jO{a b:Type}{f:a->List b}{k:Nat}:∀{l:List a},(∀x∈l,(f x).length=k)->(l.flatMap f).length=l.length*k
 | [],_=>by simp
 | x::l,h=>by
  rw[List.flatMap_cons,Aj,h x Be,jO λy c=>h y (Ap _ c),Bp,Nat.succ_mul];lia
theorem X6(V:List Int)(N L:Nat):(uH V N L).length=N*((L+1)*(V.length*V.length)):=by
 unfold uH;rw[jO (k:=(L+1)*(V.length*V.length)) λn _=>?_,Kq];rw[jO (k:=V.length*V.length) λl _=>?_,Kq];rw[jO (k:=V.length) λa _=>by rw[Ab]]
theorem HF{G:Sr}{V:List Int}{N L S p T:Nat}{st:SS}{P:List bR}{cur:aJ}(v:rW G V N L)(A:All G S p st P cur T):P.length<=N*((L+1)*(V.length*V.length))/\(∀key,((aD st.ends key).getD []).length<=V.length)/\(a6 st.q).length+T<=p+N*((L+1)*(V.length*V.length))*(S+V.length):=by
 have d:∀{B:bC} {n cut c},B=st.best->GI G B n cut c->DI G n cut c:=λ{B n cut c} e g=>yS (B:=B) (λf m D t h=>yU A.ob (by rw[<-e];exact h)) g;have s:P.length<=N*((L+1)*(V.length*V.length)):=by
  have:=len_sub (b:=uH V N L) A.inv.once λk hk=>by
   obtain⟨y,w,rfl⟩:=Ax.mp hk;have hd:=d rfl (A.inv.pr y w).2.2;obtain⟨i,r,x⟩:=uG v hd;unfold uH;refine Cu.mpr ⟨y.1,Hz.mpr r,Cu.mpr ⟨y.2.1.length,Hz.mpr (by lia),Cu.mpr ⟨_,i _ (X5 hd.ne),Ax.mpr ⟨_,i _ (uF hd.ne),rfl⟩⟩⟩⟩
  rw[Ab,X6]at this;exact this
 have j:∀key,((aD st.ends key).getD []).length<=V.length:=λkey=>by
  have:=len_sub (b:=V) (A.cn.enn key) λe u=>by
   obtain⟨z,hz,rfl⟩:=Ax.mp u;obtain⟨k,hk⟩:=(A.ob.ends key.1 key.2 z.1 z.2).mp hz;obtain⟨n,cut⟩:=k;obtain⟨hd,_,hf⟩:=yU A.ob hk;unfold cP at hf;simp only[Ds]at hf;rw[hf.2.2];exact(uG v hd).1 _ (uF hd.ne)
  rw[Ab]at this;exact this
 refine⟨s,j,?_⟩;have o:(P.map (gP G S st)).sum<=P.length*(S+V.length):=by
  have hd:∀y,gP G S st y<=S+V.length:=λy=>by
   unfold gP;split
   .lia
   .rename_i a _;split
    .have:=j (a,y.2.1.getLastD 0);lia
    .lia
  have:∀l:List bR,(l.map (gP G S st)).sum<=l.length*(S+V.length):=by
   intro l
   induction l with
   | nil=>simp
   | cons y l C=>rw[Aw,Kb,Bp,Nat.succ_mul];have:=hd y;lia
  exact this P
 have i:=A.cn.put;have r:P.length*(S+V.length)<=N*((L+1)*(V.length*V.length))*(S+V.length):=Ek _ s;lia
mutual
inductive LD(rs:List aM):Str->Int->Prop
 | mk {r:aM} {l:Int}:r∈rs->mX rs r.parts l->LD rs r.name l
inductive mX(rs:List aM):List Str->Int->Prop
 | nil:mX rs [] 0
 | word {t:Str} {ts:List Str} {l:Int}:bM rs t=false->mX rs ts l->mX rs (t::ts) (1+l)
 | name {t:Str} {ts:List Str} {a l:Int}:bM rs t=true->LD rs t a->mX rs ts l->mX rs (t::ts) (a+l)
end
abbrev LT:=List (Str×Int)
def g9(T:LT)(t:Str):Int:=(aD T t).getD 1
def lackT{a:Type}(rs:List aM)(T:List (Str×a))(ps:List Str):Bool:=ps.any λt=>bM rs t&&(aD T t).isNone
def hJ(T:LT)(ps:List Str):Int:=(ps.map (g9 T)).sum
def kF(i j:Int):Int:=if j<i then j else i
def eL(rs:List aM)(T:LT)(r:aM):LT:=if lackT rs T r.parts=true then T else bB T r.name (kF (hJ T r.parts) ((aD T r.name).getD (hJ T r.parts)))
def X7(rs:List aM)(T:LT):LT:=rs.foldl (eL rs) T
def iQ(rs:List aM):Nat->LT
 | 0=>[]
 | k+1=>X7 rs (iQ rs k)
def lC(rs:List aM):LT:=iQ rs (rs.length+1)
structure fL(rs:List aM)(T:LT):Prop where
 own:∀X l,aD T X=some l->bM rs X=true
 ld:∀X l,aD T X=some l->LD rs X l
theorem yX{c:Type}{rs:List aM}{T:List (Str×c)}{t:Str}{ts:List Str}:lackT rs T (t::ts)=false↔(bM rs t=true->∃l,aD T t=some l)/\lackT rs T ts=false:=by
 unfold lackT;rw[Gg,Bool.or_eq_false_iff,Bool.and_eq_false_iff];constructor
 .rintro⟨h,b⟩;refine⟨λa=>?_,b⟩;rcases h with z|z
  .rw[a]at z;cases z
  .cases q:aD T t with
   | none=>rw[q]at z;cases z
   | some l=>exact⟨l,rfl⟩
 .rintro⟨h,b⟩;refine⟨?_,b⟩;cases a:bM rs t with
  | false=>exact .inl rfl
  | true=>obtain⟨l,e⟩:=h a;rw[e];exact .inr rfl
theorem HG{T:LT}{t:Str}{ts:List Str}:hJ T (t::ts)=g9 T t+hJ T ts:=by unfold hJ;rw[Aw,Kb]
theorem fL.sum{rs:List aM}{T:LT}(g:fL rs T):∀{ps:List Str},lackT rs T ps=false->mX rs ps (hJ T ps)
 | [],_=>.nil
 | t::ts,h=>by
  obtain⟨c,b⟩:=yX.mp h;rw[HG];cases a:bM rs t with
  | true=>
   obtain⟨l,e⟩:=c a;have:g9 T t=l:=by unfold g9;rw[e];rfl
   rw[this];exact .name a (g.ld _ _ e) (g.sum b)
  | false=>
   have:g9 T t=1:=by
    unfold g9;cases e:aD T t with
    | none=>rfl
    | some l=>rw[g.own _ _ e]at a;cases a
   rw[this];exact .word a (g.sum b)
theorem fL.step(g:fL rs T)(b:r∈rs):fL rs (eL rs T r):=by
 unfold eL;split
 .exact g
 .rename_i h;have h:lackT rs T r.parts=false:=by simpa using h
  have c:LD rs r.name (hJ T r.parts):=.mk b (g.sum h);refine⟨λX l e=>?_,λX l e=>?_⟩
  .rw[fJ]at e
   by_cases a:r.name=X
   .rw[<-a];exact G8 b
   .rw[if_neg a]at e;exact g.own X l e
  .rw[fJ]at e
   by_cases a:r.name=X
   .rw[if_pos a]at e;cases e;subst a;unfold kF;cases q:aD T r.name with
    | none=>rw[Ms,if_neg (by lia)];exact c
    | some l=>
     rw[Option.getD_some];split
     .exact g.ld _ _ q
     .exact c
   .rw[if_neg a]at e;exact g.ld X l e
theorem fL.steps:∀{qs:List aM} {T:LT},fL rs T->(∀r∈qs,r∈rs)->fL rs (qs.foldl (eL rs) T)
 | [],T,g,_=>g
 | r::qs,T,g,h=>fL.steps (qs:=qs) (T:=eL rs T r) (g.step (h r Be)) λx a=>h x (Ap _ a)
theorem fL.rounds(rs:List aM):∀k,fL rs (iQ rs k)
 | 0=>⟨(λ_ _ e=>nomatch e),(λ_ _ e=>nomatch e)⟩
 | k+1=>(fL.rounds rs k).steps λ_ h=>h
def iG(b T:LT):Prop:=∀X l,aD T X=some l->∃a,aD b X=some a/\a<=l
theorem iG.refl(T:LT):iG T T:=λ_ l e=>⟨l,e,Em _⟩
theorem iG.trans(x:iG a b)(y:iG b c):iG a c:=λX l e=>by
 obtain⟨l1,d,g⟩:=y X l e;obtain⟨l2,f,h⟩:=x X l1 d;exact⟨l2,f,by lia⟩
theorem iG.step(rs:List aM)(T:LT)(r:aM):iG (eL rs T r) T:=λX l e=>by
 unfold eL;split
 .exact⟨l,e,Em _⟩
 .rw[fJ]
  by_cases a:r.name=X
  .subst a;rw[if_pos rfl,e,Option.getD_some];refine⟨_,rfl,?_⟩;unfold kF;split<;>lia
  .rw[if_neg a];exact⟨l,e,Em _⟩
theorem iG.steps(rs:List aM):∀(qs:List aM) (T:LT),iG (qs.foldl (eL rs) T) T
 | [],T=>iG.refl T
 | r::qs,T=>(iG.steps rs qs (eL rs T r)).trans (iG.step rs T r)
theorem X8(h:lackT rs T r.parts=false):∃l,aD (eL rs T r) r.name=some l/\l<=hJ T r.parts:=by
 unfold eL;rw[if_neg (by rw[h];decide),fJ,if_pos rfl];refine⟨_,rfl,?_⟩;unfold kF;split<;>lia
theorem l8{a:Type}{l:List a}{k:Nat}{x:a}(h:l[k]? = some x):l.take (k+1)=l.take k++[x]:=by
 rw[List.take_succ,h];rfl
end Rg
namespace PySem
namespace Dp
open PyProof.Rows L2 PySem.Spec
section
variable {prog:Bt}{w:Ck}{A:Co}{E:Ae->Ag->Prop}{s:Ag}
theorem X9:typeLookup (.type "list") "keys" = pure none:=by rw[Mh,Jk];kernel_rfl
theorem YA{k:Nat}{Q:Option Ae->Ag->Prop}(hx:s.heap.get? a=some {cls:=.type "list",data:=.seq xs k})(hA:A.handled=none)(h:∀h' tk,(∀b o,s.heap.get? b=some o->h'.get? b=some o)->Q none {s with heap:=h',toks:=tk}):Bc (Bo prog w) A (getAttr? (.ref a) (Eo "keys")) Q E s:=by
 obtain⟨hp,g,d,tk,os⟩:=s;have hT:∀tk',(⟨hp,g,d,tk',os⟩:Ag).TypeIs (.ref a) "list":=λ_=>⟨_,hx,rfl⟩
 have f1:=sub_AttributeError;have f3:=Nj.lookup;have f4:=Nj.bind (.ref a);have f5:=am_list_getattr_none;unfold getAttr? getAttrBy? getAttrBy
 repeat (any_goals (first|assumption|exact hT _|((with_reducible show Bc _ _ (call (Value.builtin "list.__getattribute__") _ _) _ _ _);refine Ls Nj (hT _) am_entry_list_getattribute (F.args_list_getattribute_2 _ _) (meets_getattribute_miss_list a xs k #[] (Eo "keys") _ X9 (by decide +kernel) (by decide +kernel)) ⟨hx,hA,λh' tk' e hx'=>?_⟩)|wp_step))
 obtain⟨t',u',he⟩:=hx'.there;have hx2:=hx'.of.keeps;show Bc _ _ (getattributeRaised _ _ _ _ _ _ _) _ _ _;unfold getattributeRaised
 repeat (any_goals (first|assumption|wp_step))
 exact h _ _ hx2
theorem HH:entryFor table "dict.update.loop" = some Iz.«dict.update.loop»:=entryFor_of_tree (by kernel_rfl)
theorem uI:plainId "dict.update.loop" = true:=by decide +kernel
variable {K:Type}[DecidableEq K]{knd:KeyKind prog w K}
theorem YB(kvs:List (K×Ae))(k:K)(v:Ae):(stored kvs k v).length<=kvs.length+1:=by
 unfold stored;split
 .rw[Ab];lia
 .rw[Aj,Bq];exact Ai _
def all(kvs:List (K×Ae))(ps:List (K×Ae)):List (K×Ae):=ps.foldl (λkvs p=>stored kvs p.1 p.2) kvs
theorem YC{Dd:Nat->Heap->Prop}{R:Result->Ag->Prop}(hh:A.handled=none)(hdI:d≠I)(hdl:d≠l)(hlI:l≠I)(fr:∀{i h h'},Dd i h->(∀b o,b≠I->h.get? b=some o->h'.get? b=some o)->Dd i h')(st:∀{i:Nat} {t:Ag},i<items.size->Dd i t.heap->∃(a:Addr) (key v:Ae),items[i]? = some (.ref a)/\t.heap.IsTuple a #[key,v]/\∀{E:Ae->Ag->Prop} {Q:Unit->Ag->Prop},(∀h2 tk,Dd (i+1) h2->Dk d t.heap h2->Q () {t with heap:=h2,toks:=tk})->Bc (Bo prog w) A.in1 (dictSet d key v) Q E t):
  ∀(k i:Nat) (s:Ag),items.size-i=k->i<=items.size->s.heap.IsListIter I l i->s.heap.IsList l items->Dd i s.heap->
  (∀h' tk,(∀b o,b≠d->b≠I->s.heap.get? b=some o->h'.get? b=some o)->Dd items.size h'->R (.ok (.ret .none)) {s with heap:=h',toks:=tk})->
  Jo (Bo prog w) A (.builtin "dict.update.loop" ⟨[.ref d,.ref I,Ho (i:Int),.none],[]⟩) R s:=by
 intro k
 induction k with
 | zero=>
  intro i s hk hi hit qH hd hR;have hin:i=items.size:=by lia
  refine Gr HH ?_;rw[Fl uI _];show Bc _ A.in1 (Lc (.ref I)>>=_) _ _ s;have W:=Walks.list (prog:=prog) (w:=w) (A:=A.in1) hh I l hlI items;refine Aa (W.done s _ _ (by rw[<-hin];exact⟨hit,qH⟩) λh' tk hm=>?_);show Bc _ A.in1 (Builtin.Dict.addKeywords d []>>=_) _ _ _;rw[hin]at hd;exact Aa (Af (Af (hR h' tk (λb o _ hb e=>hm b o (by simp[hb]) e) (fr hd λb o hb e=>hm b o (by simp[hb]) e))))
 | succ k ih=>
  intro i s hk hi hit qH hd hR;have hlt:i<items.size:=by lia
  refine Gr HH ?_;rw[Fl uI _];show Bc _ A.in1 (Lc (.ref I)>>=_) _ _ s;have W:=Walks.list (prog:=prog) (w:=w) (A:=A.in1) hh I l hlI items;refine Aa (W.item i s _ _ hlt ⟨hit,qH⟩ λv h' tk hv hst hm=>?_);obtain⟨a,key,u,ha,⟨o,ho,hc,n,hd2⟩,go⟩:=st (t:={s with heap:=h',toks:=tk}) hlt (fr hd λb o hb e=>hm b o (by simp[hb]) e);rw[ha]at hv;cases hv;show Bc _ A.in1 (Jn [Value.ref a] _>>=_) _ _ _;refine Aa (Ct (Aa (Pc ?_)));unfold Builtin.Dict.pairItems;refine Aa (La (T:="tuple") ⟨o,ho,hc⟩ ?_);rw[if_pos (by decide)];refine Aa (Mw ho hd2 (Af ?_));show Bc _ _ (Jn [key,u] (dictSet d key u)) _ _ _;refine Ct (go λh2 tk2 hd3 hs2=>?_);refine Af ⟨Gw uI _,?_⟩;exact ih (i+1) _ (by lia) hlt (hst.1.at λo e=>(hs2.2 I (Bw hdI)).trans e) (hst.2.at λo e=>(hs2.2 l (Bw hdl)).trans e) hd3 λh3 tk3 hk3 hd4=>hR h3 tk3 (λb o h1 h2 e=>hk3 b o h1 h2 ((hs2.2 b h1).trans (hm b o (by simp[h2]) e))) hd4
theorem callG{c:Nat}{Dd:Nat->Heap->Prop}{Q:Ae->Ag->Prop}(hh:A.handled=none)(hx:s.heap.get? l=some {cls:=.type "list",data:=.seq items c})(d0:Dd 0 (s.heap.push {cls:=.type "dict",data:=.dict #[]}))(fr:∀{i h h'},Dd i h->(∀b o,@LE.le Nat _ b s.heap.objs.size->h.get? b=some o->h'.get? b=some o)->Dd i h')(st:∀{i:Nat} {t:Ag},i<items.size->Dd i t.heap->(∀b o,s.heap.get? b=some o->t.heap.get? b=some o)->∃(a:Addr) (key v:Ae),items[i]? = some (.ref a)/\s.heap.IsTuple a #[key,v]/\∀{E:Ae->Ag->Prop} {Q:Unit->Ag->Prop},(∀h2 tk,Dd (i+1) h2->Dk s.heap.objs.size t.heap h2->Q () {t with heap:=h2,toks:=tk})->Bc (Bo prog w) A.in1.in1 (dictSet s.heap.objs.size key v) Q E t)(h:∀h' tk,(∀b o,s.heap.get? b=some o->h'.get? b=some o)->Dd items.size h'->Q (.ref s.heap.objs.size) {s with heap:=h',toks:=tk}):
  Bc (Bo prog w) A (call (.type "dict") [.ref l]) Q E s:=by
 refine callType_codes (Q₁:=λobj s1=>obj=.ref s.heap.objs.size/\s1 = {s with heap:=s.heap.push {cls:=.type "dict",data:=.dict #[]}}) F.kt_called_dict (F.kt_typeCall_dict_1 _) F.entry_dict_init (kt_code_dict_new _ ⟨rfl,rfl⟩) ?_;rintro obj s1 ⟨rfl,rfl⟩;have lt:l<s.heap.objs.size:=Az hx;have hx':(s.heap.push {cls:=.type "dict",data:=.dict #[]}).get? l=some {cls:=.type "list",data:=.seq items c}:=Ah _ hx;have hty:({s with heap:=s.heap.push {cls:=.type "dict",data:=.dict #[]}}:Ag).TypeIs (.ref s.heap.objs.size) "dict":=⟨_,Au _ rfl,rfl⟩;refine⟨hty,F.args_dict_init_2 _ _,?_⟩;unfold Iz.«dict.__init__»;refine Aa ?_;unfold Builtin.Dict.selfAndRest;refine Aa (Lm hty ?_);show Bc _ _ (pure (s.heap.objs.size,[Value.ref l])) _ _ _;refine Af ?_;show Bc _ _ (Builtin.Dict.updateFrom "dict.__init__" s.heap.objs.size (.ref l) [] .none) _ _ _;unfold Builtin.Dict.updateFrom;refine Aa (La (T:="list") ⟨_,hx',rfl⟩ ?_);rw[if_pos (by decide)];refine Aa (YA hx' hh λh1 tk1 hk1=>?_);rw[if_pos (by decide)];have hx1:=hk1 _ _ hx';have l1:s.heap.objs.size<h1.objs.size:=Az (hk1 _ _ (Au _ rfl));refine Aa (Ey (Aa (Jl (items:=items) ⟨_,hx1,rfl,c,rfl⟩ ?_)));have gI:(h1.push {cls:=.type "list_iterator",data:=.fields #[.ref l,.int 0 0]}).IsListIter h1.objs.size l 0:=⟨_,Au _ rfl,rfl,rfl⟩;have up:∀b o,s.heap.get? b=some o->(h1.push {cls:=.type "list_iterator",data:=.fields #[.ref l,.int 0 0]}).get? b=some o:=λb o e=>Ah _ (hk1 b o (Ah _ e));have nI:∀{b:Addr},@LE.le Nat _ b s.heap.objs.size->b≠h1.objs.size:=λhb=>Bu (Kj hb l1);refine Af ⟨Gw uI _,?_⟩;refine YC (A:=A.in1) (d:=s.heap.objs.size) (I:=h1.objs.size) (l:=l) (items:=items) (Dd:=λi h=>Dd i h/\∀b o,s.heap.get? b=some o->h.get? b=some o) hh (Bu l1) (Gv lt) (Bu (Nat.lt_trans lt l1)) (λ⟨z1,z2⟩ hm=>⟨fr z1 λb o hb e=>hm b o (nI hb) e,λb o e=>hm b o (nI (Hj (Az e))) (z2 b o e)⟩) (λhi ⟨z1,z2⟩=>?_) items.size 0 _ rfl (Bk _) gI ⟨_,Ah _ hx1,rfl,c,rfl⟩ ⟨fr d0 λb o _ e=>Ah _ (hk1 b o e),up⟩ λh2 tk2 _ hd2=>⟨rfl,h h2 tk2 hd2.2 hd2.1⟩
 obtain⟨a,key,v,g1,⟨o,g2,g3⟩,go⟩:=st hi z1 z2;exact⟨a,key,v,g1,⟨o,z2 a o g2,g3⟩,λk=>go λh2 tk z hs=>k h2 tk ⟨z,λb o e=>(hs.2 b (Bu (Az e))).trans (z2 b o e)⟩ hs⟩
theorem take_at{a:Type}{ps:List a}{i:Nat}{p:a}(h:ps[i]? = some p):ps.take (i+1)=ps.take i++[p]:=by rw[Eh,h];rfl
theorem YD(ps:List (K×Ae)):∀kvs,(all kvs ps).length<=kvs.length+ps.length:=by
 induction ps with
 | nil=>exact λ_=>Ai _
 | cons p ps a=>exact λkvs=>Ar (a _) (by have:=YB kvs p.1 p.2;rw[Bp];lia)
theorem call_pairs{l:Addr}{items:Array Ae}{c:Nat}{ps:List (K×Ae)}{Q:Ae->Ag->Prop}(hh:A.handled=none)(hx:s.heap.get? l=some {cls:=.type "list",data:=.seq items c})(hn:ps.length=items.size)(hz:items.size<=An)(hp:∀(j:Nat) (p:K×Ae),ps[j]? = some p->∃(a:Addr) (key:Ae),items[j]? = some (.ref a)/\s.heap.IsTuple a #[key,p.2]/\knd.is p.1 key=true)(h:∀h' tk,(∀b o,s.heap.get? b=some o->h'.get? b=some o)->h'.DictOf knd s.heap.objs.size (all [] ps)->Q (.ref s.heap.objs.size) {s with heap:=h',toks:=tk}):
  Bc (Bo prog w) A (call (.type "dict") [.ref l]) Q E s:=by
 refine callG (Dd:=λi h=>h.DictOf knd s.heap.objs.size (all [] (ps.take i))) hh hx (Heap.DictOf.new s.heap) (λ⟨o,es,ep,ho,rest⟩ hm=>⟨o,es,ep,hm _ o (Ai _) ho,rest⟩) (λ{i t} hi hd _=>?_) λh' tk e d=>h h' tk e (by rw[<-hn,Cm]at d;exact d);obtain⟨p,hpi⟩:∃p,ps[i]? = some p:=⟨_,Bf (by lia)⟩;obtain⟨a,key,g1,g2,g3⟩:=hp i p hpi;have len:=YD (ps.take i) [];rw[Cb,Lp]at len;refine⟨a,key,p.2,g1,g2,λk=>wpAny_dictSet_pairs g3 hd (λh2 d2 s2=>k h2 _ ?_ s2) (by lia)⟩;rw[take_at hpi,all,Gy];exact d2
end
end Dp
end PySem
namespace L3
open PySem Spec PyProof.Rows L2
section
variable {X:Cx}
def uJ(kvs:List (aF×W))(ps:List (aF×W)):List (aF×W):=ps.foldl (λkvs p=>bQ kvs p.1 p.2) kvs
def uK(ps:List (aF×W)):List W:=ps.map λp=>.tup [wK p.1,p.2]
theorem HI(I:L2.Inv X pins Z H s):∀{ps:List (aF×W)} {vs:List V} {its:List Ae},aK X.K H M vs (uK ps)->aT vs its->
  ∃(ks:List (aF×V)) (rs:List (aF×Ae)),bN X.K H M aF ks ps/\KV ks rs/\rs.length=its.length/\
   ∀(j:Nat) (p:aF×Ae),rs[j]? = some p->∃(a:Addr) (key:Ae),its[j]? = some (.ref a)/\s.heap.IsTuple a #[key,p.2]/\(dH X.prog X.w).is p.1 key=true
 | [],_,_,.nil,.nil=>⟨[],[],.nil,.nil,rfl,λj p h=>by simp at h⟩
 | (k,w)::ps,_,_,.cons u b,.cons i c=>by
  obtain⟨ks,rs,o,y,l,t⟩:=HI I b c;obtain⟨a,xs,r,e,q⟩:=u.inv;rw[r]at i;obtain⟨z,n,ex,a1,a2⟩:=q.two;obtain⟨g,d,pl,_⟩:=I.tuple (bV.of e);rw[ex,a1.key]at d;obtain⟨m,x,v,x1,x2⟩:=vals2 d;rw[v]at pl;refine⟨(k,n)::ks,(k,x)::rs,.cons ⟨rfl,a2⟩ o,.cons ⟨rfl,x2⟩ y,congrArg (· + 1) l,λj p f=>?_⟩;cases j with
  | zero=>rw[<-Bz f];exact⟨a,m,congrArg some i,pl,mI x1⟩
  | succ j=>exact t j p f
theorem HJ:∀{ps:List (aF×W)} {ks:List (aF×V)} {rs:List (aF×Ae)} {kvs:List (aF×W)} {d:List (aF×V)} {us:List (aF×Ae)},bN X.K H M aF ks ps->KV ks rs->bN X.K H M aF d kvs->KV d us->
  ∃c:List (aF×V),bN X.K H M aF c (uJ kvs ps)/\KV c (Dp.all us rs)/\c.length<=d.length+ps.length
 | [],_,_,_,d,_,.nil,.nil,e,f=>⟨d,e,f,Ai _⟩
 | p::ps,_,_,_,d,_,.cons (a:=a) x r,.cons (b:=b) y t,e,f=>by
  obtain⟨k,w⟩:=p;obtain⟨m,v⟩:=a;obtain⟨n,u⟩:=b;obtain⟨x1,x2⟩:=x;obtain⟨i,l⟩:=y;cases x1;cases i;obtain⟨c,j,h,g⟩:=HJ (kvs:=bQ _ k w) r t (tW e k x2) (f.put k l);have:=qQ d k v;exact⟨c,j,h,by simp at g⊢;lia⟩
def HK:List W->Mm->K3->Prop
 | [.rl ws],M,R=>∃ps:List (aF×W),ws=uK ps/\ws.length<=An/\R (.dk (uJ [] ps)) M
 | _,_,_=>False
theorem YE(hc:X.calm=true):cQ X (.type "dict") (gC X.K HK):=by
 rintro pins s Z H xs us Q I rs ⟨ws,M,R,m,b,h,k⟩
 match ws,h with
 | [.rl ws],h=>
  obtain⟨v,rfl,D⟩:=b.one;obtain⟨ps,rfl,hz,r⟩:=h;obtain⟨u,rfl,ru⟩:=vals1 rs;cases D with
  | rl f n q=>
   cases ru;obtain⟨z,its,c,G,hl,e⟩:=I.lstM f;obtain⟨ks,i,A,J,t,E⟩:=HI I q G;obtain⟨g,l,y,x⟩:=HJ A J .nil .nil;refine Dp.call_pairs (knd:=dH X.prog X.w) (items:=its.toArray) (ps:=i) (I.ok.hd hc) e (by simpa using t) (by rw[Ay];lia) (λj p C=>by simpa using E j p C) λh' tk hk hd=>?_;have B:ps.length<=An:=by simpa [uK] using hz
   have a:=I.hok.fresh (Ai _);refine⟨.ref s.heap.objs.size,aR H s.heap.objs.size (.dK g),I.laid (o:=.dK g) (t':=tk) hk (Ai _) ⟨by simp at x;lia,beq_eq_false_iff_ne.mpr (Bw (Bu I.big)),_,y,hd⟩,rfl,?_⟩;obtain⟨d,F⟩:=m.tup (u:=.dK g) a;exact k _ _ _ _ F d (.dk dO (m.nonM a) l.keys (l.vals.newT a)) r
end
def bT(f:Str)(w:W):List (Str×W)->List (Str×W)
 | []=>[(f,w)]
 | (k,x)::r=>if k=f then(k,w)::r else(k,x)::bT f w r
section
variable {K:Ac}{H:Hp}{M:Mm}
theorem bN.look:∀{d:List (Str×V)} {fs:List (Str×W)},bN K H M Str d fs->fs.lookup f=some w->∃v,d.lookup f=some v/\AV K H M v w
 | _,_,.nil,h=>by cases h
 | _,_,.cons (a:=(k,v)) (b:=(i,g)) r t,h=>by
  obtain⟨rfl,e⟩:=r
  by_cases hk:(f==k)=true
  .simp only[Cr,hk]at h⊢;cases h;exact⟨v,rfl,e⟩
  .have c:(f==k)=false:=by simpa using hk
   simp only[Cr,c]at h⊢;exact bN.look t h
theorem bN.lookN:∀{d:List (Str×V)} {fs:List (Str×W)},bN K H M Str d fs->fs.lookup f=none->d.lookup f=none
 | _,_,.nil,_=>rfl
 | _,_,.cons (a:=(k,v)) (b:=(g,e)) r t,h=>by
  obtain⟨rfl,i⟩:=r
  by_cases hk:(f==k)=true
  .simp only[Cr,hk]at h;cases h
  .have c:(f==k)=false:=by simpa using hk
   simp only[Cr,c]at h⊢;exact bN.lookN t h
theorem bN.putF{f:Str}{v:V}{w:W}(c:AV K H M v w):∀{e:List (Str×V)} {fs:List (Str×W)},bN K H M Str e fs->bN K H M Str (L2.putF f v e) (bT f w fs)
 | _,_,.nil=>.cons ⟨rfl,c⟩ .nil
 | _,_,.cons (a:=(k,h)) (b:=(i,g)) r t=>by
  obtain⟨rfl,d⟩:=r;show bN K H M Str (if k=f then(k,v)::_ else(k,h)::L2.putF f v _) (if k=f then(k,w)::_ else(k,g)::bT f w _)
  by_cases hk:k=f
  .rw[if_pos hk,if_pos hk];exact .cons ⟨rfl,c⟩ t
  .rw[if_neg hk,if_neg hk];exact .cons ⟨rfl,d⟩ (bN.putF c t)
theorem bN.len{U:Type}{a:List (U×V)}{fs:List (U×W)}(h:bN K H M U a fs):a.length=fs.length:=by
 have:=congrArg Ej h.keys;simpa using this
end
section
variable {X:Cx}{C:Addr}{f m:Str}{pos apos cpos:Pos}{ta tv:aX}{o e value:Expr}{es:List Expr}{t:d3}{sp:bP}
def cZ(C:Addr)(ta:aX)(f:Str):aX:=λc M R=>ta c M λx b=>∃a d fs w,x=.ref a/\b a=some (.ins C d fs)/\fs.lookup f=some w/\R w b
theorem dY(c:gX X.K C)(n:f9 X.K C f)(g:E3 X o ta)(hb:Km o f X.env (eval o X.env)=eval o X.env:=by rfl):E3 X (.Attribute o f pos) (cZ C ta f):=
 (Q5 g hb).weak λZ H Q j=>j.el λd M R as s h k=>⟨d,M,_,as,s,h,λx D E B m b y ⟨a,l,fs,w,z,i,A,r⟩=>by
  subst z;obtain rfl:=y.inv;obtain⟨t,p,q⟩:=b a _ i;obtain⟨v,e,u⟩:=q.look A;exact⟨a,C,l,t,v,rfl,p,c,n,e,k _ _ _ _ m b u r⟩⟩
def kG(C:Addr)(ta:aX)(f:Str)(tv:aX):aI:=λD b M=>tv b M λy e=>ta b e λx d=>∃a c fs,x=.ref a/\d a=some (.ins C c fs)/\fs.length<1000/\D.nx b (put d a (.ins C c (bT f y fs)))
theorem lD(c:gX X.K C)(n:f9 X.K C f)(ha:E3 X o ta)(F:E3 X value tv)(I:Jd value (some (.Attribute o f apos)) pos.line X.env=pure false:=by rfl):P3 X (.Assign [.Attribute o f apos] value pos) (kG C ta f tv):=
 (Q6 ha F I).weak λD Z H w=>w.el λp M N as j h k=>⟨p,M,_,as,j,h,λy P E z e d B v=>⟨p,z,_,as.kp j e,d,v,λx O L Q l b A ⟨a,m,fs,J,i,hl,r⟩=>by
  subst J;obtain rfl:=A.inv;obtain⟨t,G,q⟩:=b a _ i;refine⟨a,C,m,t,rfl,G,c,n,by rw[q.len];exact hl,?_⟩;obtain⟨g,s⟩:=b.write (o:=.ins C m (bT f E fs)) (u:=.ins C m (L2.putF f y t)) i ⟨_,dO,((q.putF (B.kp d l))).go (oW b i)⟩;exact k.nx _ _ _ _ ((e.trans l).trans s) g (((as.kp j e).kp d l).kp b s) r⟩⟩
variable {k:Nat}{g:Addr}{fd:Bv}{ps:List Str}
def iH(C:Addr)(m:Str)(sp:bP)(ta:aX)(t:d3):aX:=λb M R=>ta b M λx c=>∃a e fs,x=.ref a/\c a=some (.ins C e fs)/\fs.lookup m=none/\t b c λws d=>sp (.ref a::ws) d R
theorem YF(h:up X.K (iH C m sp ta t) Z H Q):wO C m (gZ X.K sp) [] E0 (up X.K ta) (oX X.K t) Z H Q:=by
 obtain⟨e,M,R,as,g,h,k⟩:=h;refine⟨e,M,_,as,g,h,λx B z j f b l ⟨a,u,fs,y,p,n,i⟩=>?_⟩;subst y;obtain rfl:=l.inv;obtain⟨v,r,q⟩:=b a _ p;refine⟨a,u,v,rfl,r,q.lookN n,e,j,_,as.kp g f,b,i,λvs A ws w s c d o=>⟨.ref a::ws,w,R,c,?_,o,k.kp (f.trans s)⟩⟩;rw[Ew];exact .cons (.ref a) d
theorem mY(c:gX X.K C)(l:oQ X.K C m g)(F:e9 X.prog X.w X.K X.mg X.base gL k g fd ps (gZ X.K sp))(i:cM k X.A)(hb:Binds X.K fd ps [])(j:E3 X o ta)(ha:A3 X (e::es) t)(a:Br (e::es) X.env=(false,eval e X.env)::Br es X.env:=by rfl)(b:(Ie pos (Br es X.env)).any (·.1)=false:=by rfl)(ht:eval (.Call (.Attribute o m apos) (e::es) [] pos) X.env=(do
   let d <-eval o X.env
   Pj apos.atName
   let (f,first) <-Jn [d] (Pn d m pl)
   callWith pos f first (Ie pos (Br (e::es) X.env)) (backToKw pos (Nl [] X.env))):=by rfl):
  E3 X (.Call (.Attribute o m apos) (e::es) [] pos) (iH C m sp ta t):=(RH (pl:=pl) j c l F i hb .nil oT ha a b ht).weak λ_ _ _ h=>YF h
theorem yY(c:gX X.K C)(p:oQ X.K C m g)(F:e9 X.prog X.w X.K X.mg X.base gL k g fd ps (gZ X.K sp))(y:cM k X.A)(hb:Binds X.K fd ps [])(r:E3 X o ta)(ht:eval (.Call (.Attribute o m apos) [] [] pos) X.env=(do
   let d <-eval o X.env
   Pj apos.atName
   let (f,first) <-Jn [d] (Pn d m pl)
   callWith pos f first (Ie pos (Br [] X.env)) (backToKw pos (Nl [] X.env))):=by rfl):
  E3 X (.Call (.Attribute o m apos) [] [] pos) (iH C m sp ta aE):=(RI (pl:=pl) r c p F y hb .nil oT ht).weak λZ H Q h=>by
 obtain⟨e,M,R,as,v,h,k⟩:=h;refine⟨e,M,_,as,v,h,λx G E j s b l ⟨a,z,fs,D,t,n,i⟩=>?_⟩;subst D;obtain rfl:=l.inv;obtain⟨B,u,q⟩:=b a _ t;exact⟨a,z,B,rfl,u,q.lookN n,[.ref a],j,R,b,.cons (.ref a) .nil,i,k.kp s⟩
def uL(C:Addr)(sp:bP)(t:d3):aX:=λd M R=>t d M λws c=>∀a b,c a=none->c b=none->b≠a->sp (.ref a::ws) (put c a (.ins C b [])) λw e=>w=.non/\R (.ref a) e
theorem AM.made{K:Ac}{H:Hp}{M:Mm}{x a:Addr}(f:AM K H M)(g:H x=none)(hd:H a=none)(ne:a≠x):AM K (aR (aR H a (.own x)) x (.ins C a [])) (put M x (.ins C a []))/\Kp H M (aR (aR H a (.own x)) x (.ins C a [])) (put M x (.ins C a [])):=by
 obtain⟨d,e⟩:=f.tup (u:=.own x) hd;have c:aR H a (.own x) x=none:=by rw[bF (Bw ne)];exact g
 obtain⟨b,h⟩:=d.laid (o:=.ins C a []) (u:=.ins C a []) c ⟨[],dO,.nil⟩;exact⟨b,e.trans h⟩
theorem HL(c:AM X.K H M)(d:aK X.K H M vs ws)(h:∀a b,M a=none->M b=none->b≠a->sp (.ref a::ws) (put M a (.ins C b [])) λw j=>w=.non/\R (.ref a) j)(k:Up X.K H M R Q):
  ∀x b,H x=none->H b=none->b≠x->gZ X.K sp (.ref x::(vs++[])) (aR (aR H b (.own x)) x (.ins C b [])) (λv l=>v=.non/\Q (.ref x) l) E0:=by
 intro x b i hd ne;obtain⟨f,g⟩:=c.made (C:=C) i hd ne;refine⟨.ref x::ws,_,_,f,?_,h x b (c.nonM i) (c.nonM hd) ne,λv l w j n e m r=>?_⟩
 .rw[Ew];exact .cons (.ref x) (d.kp c g)
 .obtain⟨rfl,r⟩:=r;obtain rfl:=m.inv;exact⟨rfl,k _ _ _ _ (g.trans n) e (.ref x) r⟩
theorem YG(M:Mk X.K C g)(F:e9 X.prog X.w X.K X.mg X.base gL k g fd ps (gZ X.K sp))(i:cM (k+1) X.A)(q:Gl X x)(r:X.mg x=some (.ref C))(hb:Binds X.K fd ps [])(ha:A3 X (e::es) t)(a:(x==("__debug__" : Str))=false:=by decide)(j:Br (e::es) X.env=(false,eval e X.env)::Br es X.env:=by rfl)(d:(Ie pos (Br es X.env)).any (·.1)=false:=by rfl):
  E3 X (.Call (.Name x p) (e::es) [] pos) (uL C sp t):=(RJ M F i q r hb .nil oT ha a j d).weak λZ H Q m=>m.el λf M R as o h k=>⟨f,M,_,as,o,h,λvs u ws s n c b l=>HL c b l (k.kp n)⟩
theorem YH(M:Mk X.K C g)(F:e9 X.prog X.w X.K X.mg X.base gL k g fd ps (gZ X.K sp))(b:cM (k+1) X.A)(e:Gl X x)(f:X.mg x=some (.ref C))(hb:Binds X.K fd ps [])(a:(x==("__debug__" : Str))=false:=by decide):E3 X (.Call (.Name x p) [] [] pos) (uL C sp aE):=(RK M F b e f hb .nil oT a).weak λZ H Q c=>c.el λi M R as d h k=>HL d .nil h k
end
end L3
namespace L2
open PySem Spec PyProof.Rows
section
variable {prog:Bt}{w:Ck}{K:Type}[DecidableEq K]{knd:HeapKind prog w K}{A:Co}{E:Ae->Ag->Prop}{s:Ag}{d a:Addr}{k:K}{xs:List (K×Addr×Ae)}
theorem YI{Q:Ae->Ag->Prop}(hu:knd.room A)(hkey:knd.is s.heap k a)(hm:s.heap.DictOfH knd d xs)(hsz:xs.length<=An)(h1:∀p,Nx xs k=some p->Q p.2 {s with toks:=s.toks+knd.draws k})(h2:Nx xs k=none->∀h',h'.DictOfH knd d (Ph xs k a y)->Dk d s.heap h'->Q y {s with heap:=h',toks:=s.toks+knd.draws k}):
  Bc (Bo prog w) A (dictSetDefault d (.ref a) y) Q E s:=by
 obtain⟨o,es,ep,ho,hc,hd,he,his,hn⟩:=hm;unfold dictSetDefault;refine Ct (Aa (knd.pyHash hu hkey (Aa (wpAny_dictFind_heap (s:={s with toks:=s.toks+knd.draws k}) hu hkey ho hd he his hn (λhno=>?_) λj p hj=>?_))))
 .have hk:=atKey_none_of_get hno;have hnot:k∉xs.map (·.1):=not_mem_keys_of_get hno;refine Aa (Ey (Aa (wpAny_updateDictKeys (hz:=by have e:=Ot he;lia) (s:={s with toks:=s.toks+knd.draws k}) ho hd (Af (h2 hk _ ⟨_,_,ep+1,Ff _ ho (Obj.isFreed_of_dict (Lk hd _)),
   hc.mapDictKeys _,Lk hd _,?_,λx hx=>?_,?_⟩ (Ce ..))))))
  .rw[storedH_new hk];simp[he,entryOfKey]
  .rw[storedH_new hk]at hx;rcases Bi.mp hx with q|q
   .exact knd.keeps (his x q) ho hd (Ce ..)
   .obtain rfl:=Ao.mp q;exact knd.keeps hkey ho hd (Ce ..)
  .rw[storedH_new hk,Bd,Ei];refine⟨hn,by simp,λx hx y hy=>?_⟩;simp only[Aw,Ii,Ao]at hy;subst hy;exact λe=>hnot (e▸hx)
 .refine Aa (Jm (s:={s with toks:=s.toks+knd.draws k}) ho hd ?_);rw[entry_at he j,hj];exact Aa (Ey (Af (h1 p (atKey_of_get hn hj))))
theorem HM:∀{xs:List (K×Addr×Ae)} {j:Nat} {p:Addr×Ae},(xs.map (·.1)).Nodup->xs[j]? = some (k,p)->xs.eraseIdx j=xs.filter λx=>decide (x.1≠k)
 | [],j,p,_,h=>by simp at h
 | x::r,0,p,a,h=>by
  have e:x=(k,p):=by simpa using h
  subst e;rw[Aw,Dx]at a;rw[List.eraseIdx_zero,List.tail_cons,List.filter_cons_of_neg (by simp)];refine(List.filter_eq_self.mpr λy c=>?_).symm;rw[decide_eq_true_eq];exact λe=>a.1 (Ax.mpr ⟨y,c,e⟩)
 | x::r,j+1,p,a,h=>by
  rw[Aw,Dx]at a;have b:r[j]? = some (k,p):=by simpa using h
  have d:x.1≠k:=λe=>a.1 (Ax.mpr ⟨(k,p),Bh b,e.symm⟩);rw[List.eraseIdx_cons_succ,HM a.2 b,List.filter_cons_of_pos (by simpa using d)]
theorem YJ{Q:Option Jj->Ag->Prop}(hu:knd.room A)(hkey:knd.is s.heap k a)(hm:s.heap.DictOfH knd d xs)(hsz:xs.length<=An)(hv:Nx xs k=some (b,v))(h:∀h',h'.DictOfH knd d (xs.filter λx=>decide (x.1≠k))->Dk d s.heap h'->Q (some ⟨knd.hash k,.ref b,v⟩) {s with heap:=h',toks:=s.toks+knd.draws k}):
  Bc (Bo prog w) A (Builtin.Dict.takeOut d (.ref a)) Q E s:=by
 obtain⟨o,es,ep,ho,hc,hd,he,his,hn⟩:=hm;unfold Builtin.Dict.takeOut;refine Ct (Aa (knd.pyHash hu hkey (Aa (wpAny_dictFind_heap (s:={s with toks:=s.toks+knd.draws k}) hu hkey ho hd he his hn (λhno=>?_) λj p hj=>?_))))
 .rw[atKey_none_of_get hno]at hv;cases hv
 .rw[atKey_of_get hn hj]at hv;cases hv;have hej:=HM hn hj;refine Aa (Jm (s:={s with toks:=s.toks+knd.draws k}) ho hd ?_);rw[entry_at he j,hj];refine Aa (wpAny_updateDictKeys (hz:=by have e:=Ot he;lia) (s:={s with toks:=s.toks+knd.draws k}) ho hd (Af (h _ ⟨_,_,ep+1,Ff _ ho (Obj.isFreed_of_dict (Lk hd _)),
   hc.mapDictKeys _,Lk hd _,?_,λx hx=>knd.keeps (his x (Dy.mp hx).1) ho hd (Ce ..),?_⟩ (Ce ..))))
  .rw[<-hej];have e2:(xs.eraseIdx j).map (entryOfKey knd)=(xs.map (entryOfKey knd)).eraseIdx j:=by simp[List.eraseIdx_eq_take_drop_succ,List.map_take,List.map_drop]
   rw[e2,<-he];obtain⟨l⟩:=es;simp
  .exact hn.sublist (List.filter_sublist.map _)
end
section
variable {X:Cx}{pins:List (Addr×Obj)}{Z:St}{H:Hp}{s:Ag}{a b:Addr}{v:V}{r:Ae}{A:Co}{E:Ae->Ag->Prop}{kvs:List (List aF×V)}{k:List aF}
theorem KT.drop(b:KT H kvs xs)(k:List aF):KT H (nQ kvs k) (xs.filter λx=>decide (x.1≠k)):=by
 induction b with
 | nil=>exact .nil
 | @cons p q ps qs h t a=>
  unfold nQ at a⊢;rw[Dz,Dz,<-h.1];split
  .exact .cons h a
  .exact a
theorem YK{Q:Ae->Ag->Prop}(hu:A.units+1<Gu)(I:Inv X pins Z H s)(e:H a=some (.dT kvs))(eb:H b=some (.tup (k.map kV)))(rv:RelV v r)(hl:kvs.length<An)(h1:∀v0 w' s',gA kvs k=some v0->Inv X pins Z H s'->RelV v0 w'->Q w' s')(h2:gA kvs k=none->∀s',Inv X pins Z (aR H a (.dT (eQ kvs k v))) s'->Q r s'):
  Bc (Bo X.prog X.w) A (call (.builtin "dict.setdefault") [.ref a,.ref b,r]) Q E s:=by
 obtain⟨z,hd,xs,rel,dd⟩:=tL I.hok e;have hz:xs.length<=An:=by rw[<-Fn rel];exact z
 have hv:=rel.val k;refine Mp PySem.F.slot_dict_setdefault dd.typeIs PySem.F.entry_dict_setdefault (PySem.F.args_dict_setdefault_3 _ _ _)
  (S:=λA R s1=>(Hg (dH X.prog X.w)).room A.in1/\(Hg (dH X.prog X.w)).is s1.heap k b/\s1.heap.DictOfH (Hg (dH X.prog X.w)) a xs/\
   (∀p,Nx xs k=some p->R (.ok (.ret p.2)) {s1 with toks:=s1.toks+(k.length+1)})/\
   (Nx xs k=none->∀h',h'.DictOfH (Hg (dH X.prog X.w)) a (Ph xs k b r)->Dk a s1.heap h'->R (.ok (.ret r)) {s1 with heap:=h',toks:=s1.toks+(k.length+1)}))
  (.of_wp λA R s1 ⟨q0,q1,q2,q3,q4⟩=>?_) ⟨Gb hu,j5 I.hok eb,dd,λp hp=>?_,λhn h' dd' hs=>?_⟩
 .unfold Iz.«dict.setdefault»;refine Aa ?_;unfold Builtin.Dict.keyAndDefault;refine Aa (Lm q2.typeIs ?_);refine Af ?_;dsimp only;rw[if_neg (by rw[hd];exact Am)];exact Aa (YI q0 q1 q2 hz (λp hp=>Af ⟨_,rfl,q3 p hp⟩) λhn h' hm' hs'=>Af ⟨_,rfl,q4 hn h' hm' hs'⟩)
 .rw[hp]at hv;cases q:gA kvs k with
  | none=>rw[q]at hv;exact(show False from hv).elim
  | some v0=>rw[q]at hv;exact h1 v0 _ _ q (I.tok _) hv
 .rw[hn]at hv;have q:gA kvs k=none:=by
   cases q:gA kvs k with
   | none=>rfl
   | some v0=>rw[q]at hv;exact(show False from hv).elim
  have hl':(eQ kvs k v).length<=An:=by have:=qQ kvs k v;lia
  obtain⟨q1,es,ep,hq,g2,g3,g4,_,g5⟩:=dd';refine h2 q _ (qR (t':=s.toks+(k.length+1)) I (by rw[e];exact True.intro) hs ⟨q1,hq⟩ ⟨hl',hd,_,(rel.put k eb rv).keeps λc ys ec=>?_,q1,es,ep,hq,g2,g3,g4,g5⟩);rw[bF (sR ec e (λz=>nomatch z))];exact ec
theorem YL{Q:Ae->Ag->Prop}(hu:A.units+1<Gu)(I:Inv X pins Z H s)(e:H a=some (.dT kvs))(eb:H b=some (.tup (k.map kV)))(l:gA kvs k=some v)(h:∀w' s',Inv X pins Z (aR H a (.dT (nQ kvs k))) s'->RelV v w'->Q w' s'):Bc (Bo X.prog X.w) A (call (.builtin "dict.pop") [.ref a,.ref b]) Q E s:=by
 obtain⟨z,hd,xs,rel,dd⟩:=tL I.hok e;have hz:xs.length<=An:=by rw[<-Fn rel];exact z
 obtain⟨w',hw,rw'⟩:=fV.some_of (v:=v) (o:=(Nx xs k).map (·.2)) (by rw[<-l];exact rel.val k);obtain⟨⟨c,w2⟩,hc,rfl⟩:=Bb.mp hw;refine Mp PySem.F.slot_dict_pop dd.typeIs PySem.F.entry_dict_pop (PySem.F.args_dict_pop_2 _ _)
  (S:=λA R s1=>(Hg (dH X.prog X.w)).room A.in1/\(Hg (dH X.prog X.w)).is s1.heap k b/\s1.heap.DictOfH (Hg (dH X.prog X.w)) a xs/\
   ∀h',h'.DictOfH (Hg (dH X.prog X.w)) a (xs.filter λx=>decide (x.1≠k))->Dk a s1.heap h'->R (.ok (.ret w2)) {s1 with heap:=h',toks:=s1.toks+(k.length+1)})
  (.of_wp λA R s1 ⟨q0,q1,q2,q3⟩=>?_) ⟨Gb hu,j5 I.hok eb,dd,λh' dd' hs=>?_⟩
 .unfold Iz.«dict.pop»;refine Aa ?_;unfold Builtin.Dict.keyAndDefault;refine Aa (Lm q2.typeIs ?_);refine Af ?_;dsimp only;rw[if_neg (show ¬((keyPart (Value.ref b)).isSome=true) from Am)];obtain⟨o,es,ep,ho,hc',hd',he,his,hn⟩:=id q2;have hne:es.isEmpty=false:=by
   have h1:=Ot he;cases xs with
   | nil=>cases hc
   | cons x r=>rw[Array.isEmpty_eq_false_iff];intro z;rw[z]at h1;simp at h1
  refine Aa (Jm ho hd' ?_);refine Aa (Af ?_);rw[hne,if_neg Am];refine Aa (YJ q0 q1 q2 hz hc λh' hm' hs'=>?_);rw[if_neg (by simp)];exact Aa (Pe (Af ⟨_,rfl,q3 h' hm' hs'⟩))
 .obtain⟨q1,es,ep,hq,g2,g3,g4,_,g5⟩:=dd';refine h w2 _ (qR (t':=s.toks+(k.length+1)) I (by rw[e];exact True.intro) hs ⟨q1,hq⟩ ⟨Ar (TJ kvs k) z,hd,_,(rel.drop k).keeps λc ys ec=>?_,q1,es,ep,hq,g2,g3,g4,g5⟩) rw';rw[bF (sR ec e (λz=>nomatch z))];exact ec
end
end L2
namespace L3
open PySem Spec PyProof.Rows L2
section
variable {X:Cx}
def iZ:W->List W->Mm->K3->Prop
 | d,[y],M,R=>∃o,fB M d y o/\R (o.getD .non) M
 | d,[y,v],M,R=>∃o,fB M d y o/\R (o.getD v) M
 | _,_,_,_=>False
theorem lE(j:X.A.units+1<Gu):jE X "dict.get" (kW X.K iZ):=by
 rintro pins s Z H x xs v us Q I B rs ⟨G,ws,M,R,e,w,f,h,k⟩
 match ws,h with
 | [y],h=>
  obtain⟨z,rfl,n⟩:=f.one;obtain⟨o,g,r⟩:=h;obtain⟨a,rfl,m⟩:=tX e w n g;cases B;obtain⟨u,rfl,ru⟩:=rs.one;rcases m with⟨rfl,c⟩|⟨D,C,rfl,c,q⟩
  .exact EH j I c ru λp t d b=>⟨_,H,d,b,k.at e .non r⟩
  .exact EH j I c ru λp t d b=>⟨_,H,d,b,k.at e q r⟩
 | [y,E],h=>
  obtain⟨z,z1,rfl,n,l⟩:=f.two;obtain⟨o,g,r⟩:=h;obtain⟨a,rfl,m⟩:=tX e w n g;cases B;obtain⟨u,F,rfl,ru,i⟩:=vals2 rs;rcases m with⟨rfl,c⟩|⟨D,C,rfl,c,q⟩
  .exact EI j I c ru i λp t d b=>⟨_,H,d,b,k.at e l r⟩
  .exact EI j I c ru i λp t d b=>⟨_,H,d,b,k.at e q r⟩
def pP:W->List W->Mm->K3->Prop
 | .ref a,[.tup ks,v],M,R=>∃kvs k,M a=some (.dT kvs)/\ks=k.map wK/\kvs.length<An/\(∀w,a0 kvs k=some w->R w M)/\(a0 kvs k=none->R v (put M a (.dT (bQ kvs k v))))
 | _,_,_,_=>False
theorem yZ(D:X.A.units+1<Gu):jE X "dict.setdefault" (kW X.K pP):=by
 rintro pins s Z H x xs v us Q I L rs ⟨F,ws,M,R,f,B,j,h,k⟩
 match F,ws,h with
 | .ref a,[.tup ks,C],h=>
  obtain⟨z,z1,rfl,G,d⟩:=j.two;obtain⟨kvs,i,e,rfl,hl,w,E⟩:=h;obtain rfl:=B.inv;cases L;obtain⟨u,T,rfl,ru,g⟩:=vals2 rs;obtain⟨O,P,q⟩:=f _ _ e;cases G with
  | @tup b vs _ eb J=>
   cases (show u=Value.ref b from ru);rw[J.keys]at eb;have t:=tV q i;refine YK D I P eb g (by rw[q.len];exact hl) (λV U S c n l=>?_) λc S n=>?_
   .rcases t with⟨_,l2⟩|⟨y,p,l1,l2,r⟩
    .rw[l2]at c;cases c
    .rw[l2]at c;cases c;exact⟨_,H,n,l,k.at f r (w p l1)⟩
   .rcases t with⟨l1,l2⟩|⟨y,p,l1,l2,r⟩
    .obtain⟨m,N⟩:=f.write (o:=.dT (bQ kvs i C)) (u:=.dT (eQ O i z1)) e ⟨_,dO,(tW q i d).go (oW f e)⟩;exact⟨_,_,n,g,k _ _ _ _ N m (d.wr f e) (E l1)⟩
    .rw[l2]at c;cases c
def jP{U:Type}[DecidableEq U](kvs:List (U×W))(k:U):List (U×W):=kvs.filter λa=>decide (a.1≠k)
theorem YM{U:Type}[DecidableEq U]{K:Ac}{H:Hp}{M:Mm}{b:List (U×V)}{kvs:List (U×W)}(h:bN K H M U b kvs)(k:U):bN K H M U (nQ b k) (jP kvs k):=by
 induction h with
 | nil=>exact .nil
 | @cons p q ps qs r t a=>
  unfold nQ jP at a⊢;rw[Dz,Dz,<-r.1];split
  .exact .cons r a
  .exact a
def HN:W->List W->Mm->K3->Prop
 | .ref a,[.tup ks],M,R=>∃kvs k w,M a=some (.dT kvs)/\ks=k.map wK/\a0 kvs k=some w/\R w (put M a (.dT (jP kvs k)))
 | _,_,_,_=>False
theorem YN(m:X.A.units+1<Gu):jE X "dict.pop" (kW X.K HN):=by
 rintro pins s Z H x xs v us Q I y rs ⟨n,ws,M,R,d,j,f,h,k⟩
 match n,ws,h with
 | .ref a,[.tup ks],h=>
  obtain⟨z,rfl,p⟩:=f.one;obtain⟨kvs,c,w,e,rfl,l,r⟩:=h;obtain rfl:=j.inv;cases y;obtain⟨u,rfl,ru⟩:=rs.one;obtain⟨C,E,q⟩:=d _ _ e;cases p with
  | @tup b vs _ eb t=>
   cases (show u=Value.ref b from ru);rw[t.keys]at eb;rcases tV q c with⟨l1,l2⟩|⟨G,L,l1,l2,D⟩
   .rw[l1]at l;cases l
   .rw[l1]at l;cases l;obtain⟨i,B⟩:=d.write (o:=.dT (jP kvs c)) (u:=.dT (nQ C c)) e ⟨_,dO,(YM q c).go (oW d e)⟩;exact YL m I E eb l2 λJ N F g=>⟨_,_,F,g,k _ _ _ _ B i (D.wr d e) r⟩
end
section
variable {K:Ac}{H:Hp}{M:Mm}
theorem YO(k:aF):AV K H M (kV k) (wK k):=by cases k<;>first|exact .int _|exact .str _
theorem HP:∀ks:List aF,aK K H M (ks.map kV) (ks.map wK)
 | []=>.nil
 | k::r=>.cons (YO k) (HP r)
end
end L3
namespace PySem
namespace Zd
open PyProof.Rows L2 PySem.Spec Zt
section
variable {prog:Bt}{w:Ck}{A:Co}{E:Ae->Ag->Prop}{s:Ag}
variable {z TI TO i1 i2 l1 l2:Addr}{xs ys:Array Ae}{S1 S2:Nat->Heap->Prop}
abbrev TK(prog:Bt)(w:Ck):=Hg (dH prog w)
def allH(es:List (List aF×Addr×Ae))(ps:List (List aF×Addr×Ae)):List (List aF×Addr×Ae):=ps.foldl (λes p=>Ph es p.1 p.2.1 p.2.2) es
theorem HQ(es:List (List aF×Addr×Ae))(k:List aF)(a:Addr)(v:Ae):(Ph es k a v).length<=es.length+1:=by
 unfold Ph;split
 .rw[Ab];lia
 .rw[Aj,Bq];exact Ai _
theorem y0(x:(TK prog w).is h k a)(e:∀o,h.get? a=some o->h'.get? a=some o):(TK prog w).is h' k a:=by
 obtain⟨o,items,n,b,r⟩:=x;exact⟨o,items,n,e o b,r⟩
end
end Zd
end PySem
namespace L2
open PySem Spec PyProof.Rows
def oF(ks:List (List aF×V))(ps:List (List aF×V)):List (List aF×V):=ps.foldl (λk p=>eQ k p.1 p.2) ks
theorem YQ(h:Hr (λ(q:List aF×Addr×V) (p:List aF×Addr×Ae)=>q.1=p.1/\q.2.1=p.2.1/\RelV q.2.2 p.2.2) qs ps):
  ∀{kvs:List (List aF×V)} {es:List (List aF×Addr×Ae)},(∀q∈qs,H q.2.1=some (.tup (q.1.map kV)))->KT H kvs es->KT H (oF kvs (qs.map λq=>(q.1,q.2.2))) (Zd.allH es ps):=by
 induction h with
 | nil=>intro kvs es _ k;exact k
 | @cons q p qs ps r t b=>
  intro kvs es a k;obtain⟨d,j,g⟩:=q;obtain⟨e,f,i⟩:=p;obtain⟨rfl,rfl,c⟩:=r;exact b (λz hz=>a z (Ap _ hz)) (k.put d (a _ Be) c)
theorem HR:∀(ps:List (List aF×V)) (ks:List (List aF×V)),(oF ks ps).length<=ks.length+ps.length
 | [],ks=>Ai _
 | p::ps,ks=>by
  have b:=HR ps (eQ ks p.1 p.2);have a:=qQ ks p.1 p.2;show(oF (eQ ks p.1 p.2) ps).length<=ks.length+(ps.length+1);lia
end L2
namespace L3
open PySem Spec PyProof.Rows L2
def pQ(kvs:List (List aF×W))(ps:List (List aF×W)):List (List aF×W):=ps.foldl (λkvs p=>bQ kvs p.1 p.2) kvs
structure Dm(K:Ac)(C:Addr)(x qual:Str)(st:Stmt)(ps:List Str)(f:Addr)(fd:Bv):Prop where
 fn:kS K x qual st f fd
 me:oQ K C x f
 bi:Binds K fd ps []
structure Di(K:Ac)(C:Addr)(x qual:Str)(st:Stmt)(ps:List Str)(f:Addr)(fd:Bv):Prop where
 fn:kS K x qual st f fd
 mak:Mk K C f
 bi:Binds K fd ps []
theorem YR{k:Nat}(a:cM k A):A.units+2<Gu:=by have:=a.un;lia
end L3
namespace L2
open PySem Spec PyProof.Rows
def hW(a b:Int×Int):Bool:=decide (a.1<b.1)||(decide (a.1=b.1)&&decide (a.2<b.2))
section
variable {prog:Bt}{w:Ck}{A:Co}{E:Ae->Ag->Prop}{s:Ag}
theorem YS{K nb:Nat}{x1 x2 d c:Int}{Q:Ae->Ag->Prop}(L:A.units+1<Gu)(g:s.heap.get? a=some n)(D:n.cls=.type "tuple")(t:n.data=.seq xs K)(j:s.heap.get? b=some ob)(x:ob.cls=.type "tuple")(G:ob.data=.seq p nb)(ex:xs.toList=[.int x1 r,.int x2 o])(I:p.toList=[.int d C,.int c m])(h:Q (.bool (hW (x1,x2) (d,c))) s):Bc (Bo prog w) A (Cw .Lt (.ref a) (.ref b)) Q E s:=by
 have k:s.TypeIs (.ref a) "tuple":=⟨n,g,D⟩;have l:s.TypeIs (.ref b) "tuple":=⟨ob,j,x⟩;show Bc _ _ (richCompare .Lt (.ref a) (.ref b)) Q E s;refine wpAny_richCompare_same_room (op:=.Lt) k l PySem.F.slot_tuple_lt (Dn PySem.F.slot_tuple_lt k PySem.F.entry_tuple_lt ?_ (PySem.F.args_tuple_lt_2 _ _)) (Kt L);show Bc _ _ (isInstance (.ref b) (.type "tuple")>>=_) _ _ s;refine Aa (Lq l isSubtype_tuple_tuple ?_);simp only[Kd,De,if_false];refine Aa (Mv g t ?_);refine Aa (Mv j G ?_);refine Aa ?_;rw[ex,I];show Bc _ _ (forIn [(Value.int x1 r,Value.int d C),(Value.int x2 o,Value.int c m)] _ _) _ _ s;have hsz:xs.size=2/\p.size=2:=by
  have H:=congrArg Ej ex;have J:=congrArg Ej I;simp at H J;exact⟨H,J⟩
 refine wpAny_forIn_list _
  (λrest q y=>q.1=none/\y=s/\(rest=[(Value.int x1 r,Value.int d C),(Value.int x2 o,Value.int c m)]\/(rest=[(Value.int x2 o,Value.int c m)]/\x1=d)\/(rest=[]/\x1=d/\x2=c)))
  _ ?_ ?_ _ _ ⟨rfl,rfl,.inl rfl⟩
 .rintro⟨u,v⟩ rest q y ⟨B,rfl,hc⟩;rcases hc with z|⟨z,f⟩|⟨z,_⟩
  .simp only[El,Ds]at z;obtain⟨⟨rfl,rfl⟩,rfl⟩:=z;refine Aa (Lr ?_)
   by_cases f:x1=d
   .rw[show(x1==d)=true by simpa using f];simp only[Kd,De,if_false];exact Af ⟨rfl,rfl,by simp[f]⟩
   .rw[show(x1==d)=false by simpa using f];simp only[Oj,if_true];have e:hW (x1,x2) (d,c)=decide (x1<d):=by simp[hW,f]
    rw[e]at h;refine Aa (Ey (Aa (PyProof.Rows.lt_int ?_)));exact Aa (Af (Af (Af ⟨_,rfl,(λe=>nomatch e),h⟩)))
  .simp only[El,Ds]at z;obtain⟨⟨rfl,rfl⟩,rfl⟩:=z;refine Aa (Lr ?_)
   by_cases i:x2=c
   .rw[show(x2==c)=true by simpa using i];simp only[Kd,De,if_false];exact Af ⟨rfl,rfl,by simp[f,i]⟩
   .rw[show(x2==c)=false by simpa using i];simp only[Oj,if_true];have e:hW (x1,x2) (d,c)=decide (x2<c):=by simp[hW,f]
    rw[e]at h;refine Aa (Ey (Aa (PyProof.Rows.lt_int ?_)));exact Aa (Af (Af (Af ⟨_,rfl,(λe=>nomatch e),h⟩)))
  .cases z
 .rintro⟨M,N⟩ y ⟨B,rfl,hc⟩;simp only at B;subst B;rcases hc with z|⟨z,_⟩|⟨_,f,i⟩
  .cases z
  .cases z
  .refine Af ⟨_,rfl,(λe=>nomatch e),?_⟩;subst f;subst i;have e:hW (x1,x2) (x1,x2)=decide (xs.size<p.size):=by rw[hsz.1,hsz.2];simp[hW]
   rw[e]at h;exact h
theorem YT{K nb:Nat}{x1 x2 d c:Int}{Q:Ae->Ag->Prop}(L:A.units+1<Gu)(g:s.heap.get? a=some n)(D:n.cls=.type "tuple")(t:n.data=.seq xs K)(j:s.heap.get? b=some ob)(x:ob.cls=.type "tuple")(G:ob.data=.seq p nb)(ex:xs.toList=[.int x1 r,.int x2 o])(I:p.toList=[.int d C,.int c m])(h:Q (.bool (hW (d,c) (x1,x2))) s):Bc (Bo prog w) A (Cw .Gt (.ref a) (.ref b)) Q E s:=by
 have k:s.TypeIs (.ref a) "tuple":=⟨n,g,D⟩;have l:s.TypeIs (.ref b) "tuple":=⟨ob,j,x⟩;show Bc _ _ (richCompare .Gt (.ref a) (.ref b)) Q E s;refine wpAny_richCompare_same_room (op:=.Gt) k l PySem.F.slot_tuple_gt (Dn PySem.F.slot_tuple_gt k PySem.F.entry_tuple_gt ?_ (PySem.F.args_tuple_gt_2 _ _)) (Kt L);show Bc _ _ (isInstance (.ref b) (.type "tuple")>>=_) _ _ s;refine Aa (Lq l isSubtype_tuple_tuple ?_);simp only[Kd,De,if_false];refine Aa (Mv g t ?_);refine Aa (Mv j G ?_);refine Aa ?_;rw[ex,I];show Bc _ _ (forIn [(Value.int x1 r,Value.int d C),(Value.int x2 o,Value.int c m)] _ _) _ _ s;have hsz:xs.size=2/\p.size=2:=by
  have H:=congrArg Ej ex;have J:=congrArg Ej I;simp at H J;exact⟨H,J⟩
 refine wpAny_forIn_list _
  (λrest q y=>q.1=none/\y=s/\(rest=[(Value.int x1 r,Value.int d C),(Value.int x2 o,Value.int c m)]\/(rest=[(Value.int x2 o,Value.int c m)]/\x1=d)\/(rest=[]/\x1=d/\x2=c)))
  _ ?_ ?_ _ _ ⟨rfl,rfl,.inl rfl⟩
 .rintro⟨u,v⟩ rest q y ⟨B,rfl,hc⟩;rcases hc with z|⟨z,f⟩|⟨z,_⟩
  .simp only[El,Ds]at z;obtain⟨⟨rfl,rfl⟩,rfl⟩:=z;refine Aa (Lr ?_)
   by_cases f:x1=d
   .rw[show(x1==d)=true by simpa using f];simp only[Kd,De,if_false];exact Af ⟨rfl,rfl,by simp[f]⟩
   .rw[show(x1==d)=false by simpa using f];simp only[Oj,if_true];have e:hW (d,c) (x1,x2)=decide (d<x1):=by simp[hW,Bw f]
    rw[e]at h;refine Aa (Ey (Aa (PyProof.Rows.gt_int ?_)));exact Aa (Af (Af (Af ⟨_,rfl,(λe=>nomatch e),h⟩)))
  .simp only[El,Ds]at z;obtain⟨⟨rfl,rfl⟩,rfl⟩:=z;refine Aa (Lr ?_)
   by_cases i:x2=c
   .rw[show(x2==c)=true by simpa using i];simp only[Kd,De,if_false];exact Af ⟨rfl,rfl,by simp[f,i]⟩
   .rw[show(x2==c)=false by simpa using i];simp only[Oj,if_true];have e:hW (d,c) (x1,x2)=decide (c<x2):=by simp[hW,f]
    rw[e]at h;refine Aa (Ey (Aa (PyProof.Rows.gt_int ?_)));exact Aa (Af (Af (Af ⟨_,rfl,(λe=>nomatch e),h⟩)))
  .cases z
 .rintro⟨M,N⟩ y ⟨B,rfl,hc⟩;simp only at B;subst B;rcases hc with z|⟨z,_⟩|⟨_,f,i⟩
  .cases z
  .cases z
  .refine Af ⟨_,rfl,(λe=>nomatch e),?_⟩;subst f;subst i;have e:hW (x1,x2) (x1,x2)=decide (xs.size > p.size):=by rw[hsz.1,hsz.2];simp[hW]
   rw[e]at h;exact h
end
section
variable {X:Cx}
def rInsert:V->List V->Hp->VK->Prop:=λx vs H Q=>∃l xs y i,x=.ref l/\vs=[.int (i:Nat),y]/\H l=some (.lst xs)/\xs.length<An/\i<=xs.length/\Q .non (aR H l (.lst (xs.take i++y::xs.drop i)))
theorem aT.splitAt:∀{xs:List V} {us:List Ae} (i:Nat),aT xs us->aT (xs.take i) (us.take i)/\aT (xs.drop i) (us.drop i)
 | _,_,0,h=>⟨.nil,h⟩
 | _,_,i+1,.nil=>⟨.nil,.nil⟩
 | _,_,i+1,.cons r t=>by
  obtain⟨b,a⟩:=aT.splitAt i t;exact⟨.cons r b,a⟩
theorem YU:qP X "list.insert" rInsert:=by
 intro g s D H x vs v us Q I t m h;obtain⟨l,xs,y,i,rfl,rfl,f,hz,hi,q⟩:=h;cases t;obtain⟨B,c,rfl,A,o⟩:=vals2 m;obtain⟨tk,rfl⟩:=A;obtain⟨z,its,n,r,hl,e⟩:=I.lstM f;have k:its.length=xs.length:=r.length.symm;have C:An=16777216:=Ir;have a:¬(!Builtin.List.listFitsIndex ((i:Nat):Int))=true:=by
  have d:Builtin.List.listFitsIndex ((i:Nat):Int)=true:=by
   unfold Builtin.List.listFitsIndex;rw[Cv,decide_eq_true_eq,decide_eq_true_eq];lia
  rw[d];decide
 have b:its.toArray.size<=An:=by rw[Ay];lia
 generalize w:((i:Nat):Int)=j at a e⊢;have p:=PySem.AutoSeq1.list_insert_list_int_val_1 l its.toArray n j tk c a b;refine Ls F.slot_list_insert ⟨_,e,rfl⟩ F.entry_list_insert (F.args_list_insert_3 _ _ _) p ⟨e,?_⟩;obtain⟨d,u⟩:=aT.splitAt i r;refine⟨.non,_,I.lset (its':=its.take i++c::its.drop i) f e ?_ (d.append (.cons o u)) ?_,rfl,q⟩
 .have hk:(if j<0 then(j+(its.toArray.size:Int)).toNat else min j.toNat its.toArray.size)=i:=by
   rw[<-w,if_neg (by lia),Ci,Ay];lia
  show(its.toArray.extract 0 (if j<0 then(j+(its.toArray.size:Int)).toNat else min j.toNat its.toArray.size)).push c++its.toArray.extract (if j<0 then(j+(its.toArray.size:Int)).toNat else min j.toNat its.toArray.size)=_;rw[hk];apply Array.toList_inj.mp;simp[Cy,Hs];rw[Gh (by rw[Ft];lia)]
 .rw[Aj,Bp,Cb,Ft];lia
end
end L2
namespace L3
open PySem Spec PyProof.Rows L2
section
variable {X:Cx}
def y6:R3:=λx y M R=>∃a b c d:Int,x=.tup [.int a,.int b]/\y=.tup [.int c,.int d]/\R (.bl (hW (a,b) (c,d))) M
def HS:R3:=λx y M R=>∃a b c d:Int,x=.tup [.int a,.int b]/\y=.tup [.int c,.int d]/\R (.bl (hW (c,d) (a,b))) M
theorem uM{c:List (Addr×Obj)}{D:SV}{H:Hp}{M:Mm}{s:Ag}{x:V}{v:Ae}{a b:Int}(I:Inv X c D H s)(h:RelV x v)(B:AV X.K H M x (.tup [.int a,.int b])):∃p o its n t u,v=.ref p/\s.heap.get? p=some o/\o.cls=.type "tuple"/\o.data=.seq its n/\its.toList=[.int a t,.int b u]:=by
 cases B with
 | @tup p xs _ e q=>
  cases (show v=Value.ref p from h);obtain⟨y,z,rfl,f,i⟩:=q.two;obtain rfl:=f.inv;obtain rfl:=i.inv;obtain⟨_,its,r,o,C,j,m,k⟩:=(show cL X.prog X.w H s.heap p (.tup [.int a,.int b]) from I.hok p _ e);obtain⟨E,F,rfl,l,d⟩:=vals2 r;obtain⟨g,rfl⟩:=l;obtain⟨A,rfl⟩:=d;exact⟨p,o,_,m,g,A,rfl,C,j,k,by simp⟩
theorem HU(D:X.A.units+1<Gu):bE X (Cw .Lt) (dB X.K y6):=by
 rintro e s T H x y v u Q I i m ⟨G,L,M,R,z,g,q,⟨a,b,c,d,rfl,rfl,r⟩,k⟩;obtain⟨p,o,its,n,J,N,rfl,h,j,l,F⟩:=uM I i g;obtain⟨P,S,its',O,t,w,rfl,E,f,C,B⟩:=uM I m q;exact YS D h j l E f C F B ⟨.bl _,H,I,rfl,k.at z (.bl _) r⟩
theorem YV(D:X.A.units+1<Gu):bE X (Cw .Gt) (dB X.K HS):=by
 rintro e s T H x y v u Q I i m ⟨G,L,M,R,z,g,q,⟨a,b,c,d,rfl,rfl,r⟩,k⟩;obtain⟨p,o,its,n,J,N,rfl,h,j,l,F⟩:=uM I i g;obtain⟨P,S,its',O,t,w,rfl,E,f,C,B⟩:=uM I m q;exact YT D h j l E f C F B ⟨.bl _,H,I,rfl,k.at z (.bl _) r⟩
def HV:W->List W->Mm->K3->Prop
 | .ref l,[.int i,y],M,R=>∃ws,M l=some (.lst ws)/\ws.length<An/\0<=i/\i<=ws.length/\R .non (put M l (.lst (ws.take i.toNat++y::ws.drop i.toNat)))
 | _,_,_,_=>False
theorem HW{K:Ac}{H:Hp}{M:Mm}:∀{vs:List V} {ws:List W} (i:Nat),aK K H M vs ws->aK K H M (vs.take i) (ws.take i)/\aK K H M (vs.drop i) (ws.drop i)
 | _,_,0,h=>⟨.nil,h⟩
 | _,_,i+1,.nil=>⟨.nil,.nil⟩
 | _,_,i+1,.cons r t=>by
  obtain⟨b,a⟩:=HW i t;exact⟨.cons r b,a⟩
theorem YW:jE X "list.insert" (kW X.K HV):=by
 rintro a s w H x xs v us Q I m rs ⟨g,ws,M,R,c,p,b,h,k⟩
 match g,ws,h with
 | .ref l,[.int i,y],h=>
  obtain⟨u,z,rfl,j,n⟩:=b.two;obtain rfl:=p.inv;obtain rfl:=j.inv;obtain⟨ws,e,hl,d,A,r⟩:=h;obtain⟨i,rfl⟩:=Int.eq_ofNat_of_zero_le d;obtain⟨vs,f,q⟩:=c.lst e;obtain⟨o,t⟩:=HW i q;rw[Ci]at r;exact YU a s w H _ _ v us Q I m rs ⟨l,vs,z,i,rfl,rfl,f,by rw[q.length];exact hl,by rw[q.length];lia,pB c k e (o.append (.cons n t)) .non r⟩
end
end L3
namespace Rg
open PySem Spec PyProof.Rows L2 L3
theorem pR{U:Type}[DecidableEq U]{kvs:List (U×W)}{k j:U}{w:W}:a0 (bQ kvs k w) j=if k=j then some w else a0 kvs j:=fJ kvs k j w
theorem oG{U:Type}[DecidableEq U](e:U×W)(t:List (U×W))(k:U):a0 (e::t) k=if e.1=k then some e.2 else a0 t k:=dE e t k
theorem uN{U:Type}[DecidableEq U]{k j:U}:∀{kvs:List (U×W)},a0 (jP kvs k) j=if k=j then none else a0 kvs j
 | []=>by unfold jP;rw[List.filter_nil];split<;>rfl
 | e::t=>by
  have b:=uN (k:=k) (j:=j) (kvs:=t);unfold jP at b⊢;rw[Dz]
  by_cases h:e.1=k
  .rw[if_neg (by simp[h]),b,oG]
   by_cases a:k=j
   .rw[if_pos a,if_pos a]
   .rw[if_neg a,if_neg a,if_neg (by rw[h];exact a)]
  .rw[if_pos (by simp[h]),oG,b,oG]
   by_cases a:k=j
   .rw[if_pos a,if_pos a,if_neg (by rw[<-a];exact h)]
   .rw[if_neg a,if_neg a]
theorem y7{U:Type}[DecidableEq U](kvs:List (U×W))(k:U)(w:W):(bQ kvs k w).length<=kvs.length+1:=rR kvs k w
theorem HX{U:Type}[DecidableEq U]{k:U}:∀{kvs:List (U×W)},(a0 kvs k).isSome=true->(jP kvs k).length<kvs.length
 | [],h=>by cases h
 | e::t,h=>by
  unfold jP;rw[Dz];have b:(t.filter λc=>decide (c.1≠k)).length<=t.length:=Nv _ _
  by_cases a:e.1=k
  .rw[if_neg (by simp[a]),Bp];lia
  .rw[if_pos (by simp[a]),Bp,Bp];rw[oG,if_neg a]at h;have:=HX h;unfold jP at this;lia
structure eC{U:Type}(kk:U->List aF)(M0 M:Mm)(a:Addr)(kvs:List (List aF×W))(g:U->Option (List W)):Prop where
 sub:L3.Sub M0 M
 new:M0 a=none
 at_:M a=some (.dT kvs)
 non:∀k,g k=none->a0 kvs (kk k)=none
 som:∀k ws,g k=some ws->∃p,a0 kvs (kk k)=some (.ref p)/\p≠a/\M0 p=none/\M p=some (.lst ws)
 inj:∀k j p,a0 kvs (kk k)=some (.ref p)->a0 kvs (kk j)=some (.ref p)->k=j
theorem eX(h:L3.Sub M0 M)(n:M0 p=none):L3.Sub M0 (put M p o):=λa u e=>by
 rw[aN (λz=>by rw[z,n]at e;cases e)];exact h a u e
section
variable {U:Type}[DecidableEq U]{kk:U->List aF}{M0 M:Mm}{a p:Addr}{kvs:List (List aF×W)}{g:U->Option (List W)}{o:MO}{k:U}{ws:List W}
theorem eC.lift(h:eC kk M0 M a kvs g)(i:M p=none\/∃u,M0 p=some u):eC kk (put M0 p o) (put M p o) a kvs g:=by
 have ne:∀{b:Addr},M0 b=none->(∃u,M b=some u)->b≠p:=λ{b} j ⟨u,c⟩ e=>by
  subst e;rcases i with z|⟨v,z⟩
  .rw[c]at z;cases z
  .rw[j]at z;cases z
 refine⟨Sub.put h.sub,?_,?_,h.non,λk ws e=>?_,h.inj⟩
 .rw[aN (ne h.new ⟨_,h.at_⟩)];exact h.new
 .rw[aN (ne h.new ⟨_,h.at_⟩)];exact h.at_
 .obtain⟨q,c,l,d,f⟩:=h.som k ws e;have:=ne d ⟨_,f⟩;exact⟨q,c,l,by rw[aN this];exact d,by rw[aN this];exact f⟩
theorem eC.more(h:eC kk M0 M a kvs g)(d:M p=none):eC kk M0 (put M p o) a kvs g:=by
 have ne:∀{b:Addr},(∃u,M b=some u)->b≠p:=λ{b} ⟨u,c⟩ e=>by subst e;rw[d]at c;cases c
 refine⟨eX h.sub (h.sub.non d),h.new,by rw[aN (ne ⟨_,h.at_⟩)];exact h.at_,h.non,λk ws e=>?_,h.inj⟩;obtain⟨q,c,i,j,f⟩:=h.som k ws e;exact⟨q,c,i,j,by rw[aN (ne ⟨_,f⟩)];exact f⟩
theorem eC.has(h:eC kk M0 M a kvs g)(e:g k=some ws):∃p,a0 kvs (kk k)=some (.ref p)/\M p=some (.lst ws):=by
 obtain⟨q,b,_,_,c⟩:=h.som k ws e;exact⟨q,b,c⟩
theorem eC.look(h:eC kk M0 M a kvs g)(k:U):(a0 kvs (kk k)).isSome=(g k).isSome:=by
 cases e:g k with
 | none=>rw[h.non k e];rfl
 | some ws=>obtain⟨q,b,_⟩:=h.has e;rw[b];rfl
theorem eC.wr(h:eC kk M0 M a kvs g)(hk:a0 kvs (kk k)=some (.ref p)):eC kk M0 (put M p (.lst ws)) a kvs (λj=>if k=j then some ws else g j):=by
 obtain⟨b,r⟩:∃b,g k=some b:=by
  cases e:g k with
  | none=>rw[h.non k e]at hk;cases hk
  | some ws=>exact⟨_,rfl⟩
 obtain⟨q,l,d,f,s⟩:=h.som k b r;rw[hk]at l;cases l;refine⟨eX h.sub f,h.new,by rw[aN (Bw d)];exact h.at_,λj e=>?_,λj us e=>?_,h.inj⟩
 .by_cases c:k=j
  .rw[if_pos c]at e;cases e
  .rw[if_neg c]at e;exact h.non j e
 .by_cases c:k=j
  .rw[if_pos c]at e;cases e;subst c;exact⟨p,hk,d,f,aP⟩
  .rw[if_neg c]at e;obtain⟨q,i,m,o,n⟩:=h.som j us e;refine⟨q,i,m,o,?_⟩;rw[aN (λz=>c (h.inj k j p hk (by rw[<-z];exact i)))];exact n
theorem eC.add(c:∀k j,kk k=kk j->k=j)(h:eC kk M0 M a kvs g)(A:g k=none)(o:M p=none):eC kk M0 (put (put M p (.lst ws)) a (.dT (bQ kvs (kk k) (.ref p)))) a (bQ kvs (kk k) (.ref p)) (λj=>if k=j then some ws else g j):=by
 have ne:∀{b:Addr},(∃u,M b=some u)->b≠p:=λ{b} ⟨u,n⟩ e=>by subst e;rw[o]at n;cases n
 have r:p≠a:=Bw (ne ⟨_,h.at_⟩);have f:∀j q,a0 kvs (kk j)=some (.ref q)->∃u,M q=some u:=λj q e=>by
  cases x:g j with
  | none=>rw[h.non j x]at e;cases e
  | some us=>
   obtain⟨B,v,_,_,t⟩:=h.som j us x;rw[e]at v;cases v;exact⟨_,t⟩
 refine⟨eX (eX h.sub (h.sub.non o)) h.new,h.new,aP,λj e=>?_,λj us e=>?_,λi j q m l=>?_⟩
 .by_cases d:k=j
  .rw[if_pos d]at e;cases e
  .rw[if_neg d]at e;rw[pR,if_neg (λz=>d (c _ _ z))];exact h.non j e
 .by_cases d:k=j
  .rw[if_pos d]at e;cases e;subst d;exact⟨p,by rw[pR,if_pos rfl],r,h.sub.non o,by rw[aN r,aP]⟩
  .rw[if_neg d]at e;obtain⟨q,v,w,y,t⟩:=h.som j us e;exact⟨q,by rw[pR,if_neg (λz=>d (c _ _ z))];exact v,w,y,by rw[aN w,aN (ne ⟨_,t⟩)];exact t⟩
 .rw[pR]at m l
  by_cases n:kk k=kk i
  .by_cases s:kk k=kk j
   .exact(c _ _ n).symm.trans (c _ _ s)
   .rw[if_pos n]at m;rw[if_neg s]at l;cases m;obtain⟨u,z⟩:=f j p l;rw[o]at z;cases z
  .by_cases s:kk k=kk j
   .rw[if_neg n]at m;rw[if_pos s]at l;cases l;obtain⟨u,z⟩:=f i p m;rw[o]at z;cases z
   .rw[if_neg n]at m;rw[if_neg s]at l;exact h.inj i j q m l
theorem eC.del(c:∀k j,kk k=kk j->k=j)(h:eC kk M0 M a kvs g):eC kk M0 (put M a (.dT (jP kvs (kk k)))) a (jP kvs (kk k)) (λj=>if k=j then none else g j):=by
 refine⟨eX h.sub h.new,h.new,aP,λj e=>?_,λj us e=>?_,λi j q f d=>?_⟩
 .rw[uN]
  by_cases b:k=j
  .rw[if_pos (by rw[b])]
  .rw[if_neg b]at e;rw[if_neg (λz=>b (c _ _ z))];exact h.non j e
 .by_cases b:k=j
  .rw[if_pos b]at e;cases e
  .rw[if_neg b]at e;obtain⟨q,o,l,n,m⟩:=h.som j us e;exact⟨q,by rw[uN,if_neg (λz=>b (c _ _ z))];exact o,l,n,by rw[aN l];exact m⟩
 .rw[uN]at f d;split at f
  .cases f
  .split at d
   .cases d
   .exact h.inj i j q f d
theorem eC.same{g':U->Option (List W)}(h:eC kk M0 M a kvs g)(e:∀k,g' k=g k):eC kk M0 M a kvs g':=by
 have:g'=g:=funext e;rw[this];exact h
end
structure Cc where
 q:Addr
 s:Addr
 f:Addr
 g:Addr
 p:Addr
def cW(c:aJ):W:=.tup [.int c.1,.int c.2]
def cK(c:aJ):List aF:=[Sum.inl c.1,Sum.inl c.2]
theorem YX(c:aJ):cW c=.tup ((cK c).map wK):=rfl
theorem HY:∀a b:aJ,cK a=cK b->a=b:=λa b h=>by
 unfold cK at h;simp only[El,Mj,and_true]at h;exact Ka h.1 h.2
def gH(cut:List Int):W:=.tup (cut.map W.int)
def kH(x:Nat×List Int):W:=.tup [.int x.1,gH x.2]
section
variable {O:Type}
theorem uO{U a:Type}[DecidableEq U]{t:List (U×a)}{k:U}(h:∀e∈t,e.1≠k):aD t k=none:=by
 induction t with
 | nil=>rfl
 | cons e t c=>rw[dE,if_neg (h e Be)];exact c λx b=>h x (Ap _ b)
theorem uP(h:cH a b=true):a≠b:=λe=>by subst e;exact rP h
theorem HZ(c:aJ)(x:O)(d:aJ):∀{q:List (aJ×List O)},g8 q->aD (dS c x q) d=if c=d then some ((aD q c).getD []++[x]) else aD q d
 | [],_=>by rw[dS,dE];rfl
 | (e,xs)::r,h=>by
  obtain⟨_,g,i⟩:=h;rw[dS]
  by_cases a:cH c e=true
  .rw[if_pos a,dE,HZ c x d i,dE,dE,if_neg (Bw (uP a))]
   by_cases hd:e=d
   .rw[if_pos hd,if_pos hd,if_neg (λz=>uP a (z.trans hd.symm))]
   .rw[if_neg hd,if_neg hd]
  .rw[if_neg a]
   by_cases b:e=c
   .subst b;rw[if_pos rfl,dE,dE,dE,if_pos rfl]
    by_cases hd:e=d
    .rw[if_pos hd,if_pos hd];rfl
    .rw[if_neg hd,if_neg hd,if_neg hd]
   .rw[if_neg b,dE];have f:aD ((e,xs)::r) c=none:=uO λz hz=>by
     rcases Bg.mp hz with y|y
     .rw[y];exact b
     .intro j;have:=g z y;rw[j]at this;exact a this
    rw[f];rfl
def pos(c:aJ):List aJ->Nat
 | []=>0
 | d::r=>if cH c d=true then pos c r+1 else 0
theorem IA(c:aJ):∀cs:List aJ,pos c cs<=cs.length
 | []=>Ai _
 | d::r=>by
  rw[pos];split
  .have:=IA c r;simp;lia
  .simp
theorem y8(c:aJ)(x:O):∀{q:List (aJ×List O)},g8 q->(aD q c).isSome=false->(dS c x q).map (·.1)=(q.map (·.1)).take (pos c (q.map (·.1)))++c::(q.map (·.1)).drop (pos c (q.map (·.1)))
 | [],_,_=>rfl
 | (e,xs)::r,h,a=>by
  obtain⟨_,g,f⟩:=h;rw[dE]at a
  by_cases d:e=c
  .rw[if_pos d]at a;cases a
  .rw[if_neg d]at a;rw[dS,Aw,pos]
   by_cases b:cH c e=true
   .rw[if_pos b,if_pos b,Aw,y8 c x f a];rfl
   .rw[if_neg b,if_neg b,if_neg d];rfl
theorem IC(c:aJ)(x:O):∀{q:List (aJ×List O)},g8 q->(aD q c).isSome=true->(dS c x q).map (·.1)=q.map (·.1)
 | [],_,h=>by cases h
 | (e,xs)::r,h,d=>by
  obtain⟨_,f,m⟩:=h;rw[dE]at d;rw[dS]
  by_cases a:cH c e=true
  .rw[if_neg (Bw (uP a))]at d;rw[if_pos a,Aw,IC c x m d];rfl
  .rw[if_neg a]
   by_cases g:e=c
   .rw[if_pos g];rfl
   .rw[if_neg g]at d;obtain⟨k,l⟩:=Dh.mp d;have:∃z∈r,z.1=c:=by
     have:∀{t:List (aJ×List O)},aD t c=some k->∃z∈t,z.1=c:=by
      intro t
      induction t with
      | nil=>intro e;cases e
      | cons b t j=>
       intro e;rw[dE]at e
       by_cases hb:b.1=c
       .exact⟨b,Be,hb⟩
       .rw[if_neg hb]at e;obtain⟨z,a,f⟩:=j e;exact⟨z,Ap _ a,f⟩
     exact this l
    obtain⟨z,hz,i⟩:=this;have:=f z hz;rw[i]at this;exact absurd this a
theorem y9:∀{q:List (aJ×List O)},g8 q->q.length<=(a6 q).length
 | [],_=>Ai _
 | (e,xs)::r,h=>by
  obtain⟨b,_,a⟩:=h;have:=y9 a;have:=He.mpr b;rw[a6,Aj,Ab,Bp];lia
theorem ID:∀{q:List (aJ×List O)} {c:aJ},((aD q c).getD []).length<=(a6 q).length
 | [],_=>Ai _
 | (e,xs)::r,c=>by
  rw[dE,a6,Aj,Ab];split
  .show xs.length<=_;lia
  .have:=ID (q:=r) (c:=c);lia
theorem IE:∀{q b:List (aJ×List O)} {c:aJ} {x:O},g8 q->iF q=some (c,x,b)->∃r a,q=r++[(c,a++[x])]/\b=(if a.isEmpty then r else r++[(c,a)])
 | [],b,c,x,_,h=>by cases h
 | [(d,xs)],b,c,x,hf,h=>by
  obtain⟨j,_,_⟩:=hf;rcases Fd xs with z|⟨a,y,z⟩
  .exact absurd z j
  .rw[Fe]at z;subst z;simp[iF]at h;obtain⟨rfl,rfl,rfl⟩:=h;refine⟨[],a,rfl,?_⟩;cases a<;>simp
 | e::k::r,b,c,x,hf,h=>by
  obtain⟨_,_,f⟩:=hf;rw[iF]at h;split at h
  .cases h
  .rename_i l x1 m i;simp only[Es,Ds]at h;obtain⟨rfl,rfl,rfl⟩:=h;obtain⟨g,a,z1,z2⟩:=IE f i;refine⟨e::g,a,by rw[z1];rfl,?_⟩;rw[z2];split<;>rfl
theorem uQ{U b:Type}[DecidableEq U]{t:List (U×b)}{k:U}{v:b}(h:∀e∈t,e.1≠k)(j:U):aD (t++[(k,v)]) j=if k=j then some v else aD t j:=by
 rw[yO]
 by_cases a:k=j
 .subst a;rw[if_pos rfl,if_pos rfl,uO h];rfl
 .rw[if_neg a,if_neg a,Option.or_none]
theorem IF:∀{r:List (aJ×List O)} {c:aJ} {a:List O},g8 (r++[(c,a)])->∀e∈r,e.1≠c
 | [],_,_,_,e,h=>nomatch h
 | b::r,c,a,h,e,f=>by
  obtain⟨_,d,g⟩:=h;rcases Bg.mp f with z|z
  .rw[z];exact Bw (uP (d (c,a) (by simp)))
  .exact IF g e z
theorem IG:∀{q:List (aJ×List O)},g8 q->(q.map (·.1)).Pairwise λa b=>cH b a=true
 | [],_=>.nil
 | (e,xs)::r,h=>by
  obtain⟨_,c,d⟩:=h;rw[Aw,List.pairwise_cons];refine⟨λa ha=>?_,IG d⟩;obtain⟨z,hz,rfl⟩:=Ax.mp ha;exact c z hz
end
theorem II:∀{cs:List aJ} {k:Nat},k<=cs.length->(∀i d,i<k->cs[i]? = some d->cH c d=true)->(∀i d,k<=i->cs[i]? = some d->cH c d=false)->pos c cs=k
 | [],k,h,_,_=>by simp at h;subst h;rfl
 | d::r,k,h,f,b=>by
  rw[pos];cases k with
  | zero=>rw[if_neg (by rw[b 0 d (Ai _) rfl];decide)]
  | succ k=>
   rw[if_pos (f 0 d (by lia) rfl),II (k:=k) (by simpa using h) (λi e hi a=>f (i+1) e (by lia) (by simpa using a)) λi e hi a=>b (i+1) e (by lia) (by simpa using a)]
structure Aq where
 o:Addr
 d:Addr
 c:Addr
 w:Addr
def qf(A:Aq):List (Str×W):=[("costs",.ref A.c),("waiting",.ref A.w)]
theorem pT:Cr ("costs" : Str) (qf A)=some (W.ref A.c):=by kernel_rfl
theorem pU:Cr ("waiting" : Str) (qf A)=some (W.ref A.w):=by kernel_rfl
theorem YY:Cr ("place_of" : Str) (qf A)=none:=by kernel_rfl
theorem YZ:Cr ("put" : Str) (qf A)=none:=by kernel_rfl
theorem Y0:Cr ("take" : Str) (qf A)=none:=by kernel_rfl
theorem Y1:Cr ("is_done" : Str) (qf A)=none:=by kernel_rfl
structure Qm(C:Cc)(M0 M:Mm)(A:Aq)(cs:List aJ):Prop where
 sub:L3.Sub M0 M
 no:M0 A.o=none
 nc:M0 A.c=none
 ne:A.o≠A.c
 ob:M A.o=some (.ins C.q A.d (qf A))
 co:M A.c=some (.lst (cs.map cW))
abbrev Qu:=List (aJ×List (Nat×List Int))
abbrev wG(q:Qu):aJ->Option (List W):=λc=>(aD q c).map λxs=>xs.map kH
structure QR(C:Cc)(M0 M:Mm)(A:Aq)(q:Qu):Prop where
 fall:g8 q
 ex:∃M1 kvs,Qm C M0 M1 A (q.map (·.1))/\eC cK M1 M A.w kvs (wG q)/\kvs.length<=q.length
theorem Qm.lift(h:Qm C M0 M A cs)(d:M p=none\/∃u,M0 p=some u):Qm C (put M0 p o) (put M p o) A cs:=by
 have ne:∀{b:Addr},M0 b=none->(∃u,M b=some u)->b≠p:=λ{b} f ⟨u,g⟩ e=>by
  subst e;rcases d with z|⟨v,z⟩
  .rw[g]at z;cases z
  .rw[f]at z;cases z
 have a:=ne h.no ⟨_,h.ob⟩;have c:=ne h.nc ⟨_,h.co⟩;exact⟨Sub.put h.sub,by rw[aN a];exact h.no,by rw[aN c];exact h.nc,h.ne,by rw[aN a];exact h.ob,by rw[aN c];exact h.co⟩
theorem Qm.costs(h:Qm C M0 M A cs):Qm C M0 (put M A.c (.lst (cs'.map cW))) A cs':=
 ⟨eX h.sub h.nc,h.no,h.nc,h.ne,by rw[aN h.ne];exact h.ob,aP⟩
theorem QR.lift(h:QR C M0 M A q)(a:M p=none\/∃u,M0 p=some u):QR C (put M0 p o) (put M p o) A q:=by
 obtain⟨e,kvs,c,b,d⟩:=h.ex;refine⟨h.fall,put e p o,kvs,c.lift ?_,b.lift ?_,d⟩
 .rcases a with z|z
  .exact .inl (b.sub.non z)
  .exact .inr z
 .rcases a with z|⟨u,z⟩
  .exact .inl z
  .exact .inr ⟨u,c.sub _ _ z⟩
theorem QR.more(h:QR C M0 M A q)(a:M p=none):QR C M0 (put M p o) A q:=by
 obtain⟨e,kvs,d,b,c⟩:=h.ex;exact⟨h.fall,e,kvs,d,b.more a,c⟩
theorem QR.sub(h:QR C M0 M A q):L3.Sub M0 M:=by
 obtain⟨d,kvs,b,a,c⟩:=h.ex;exact b.sub.trans a.sub
theorem QR.ob(h:QR C M0 M A q):M A.o=some (.ins C.q A.d (qf A)):=by
 obtain⟨e,kvs,b,a,c⟩:=h.ex;exact a.sub _ _ b.ob
theorem QR.co(h:QR C M0 M A q):M A.c=some (.lst ((q.map (·.1)).map cW)):=by
 obtain⟨e,kvs,b,a,d⟩:=h.ex;exact a.sub _ _ b.co
def IJ(C:Cc):bP:=λws M R=>∃M0 a c,ws=[.ref a]/\M=put M0 a (.ins C.q c [])/\M0 a=none/\∀b (A:Aq),A.o=a->QR C M0 b A []->R .non b
def IK(C:Cc):bP:=λws M R=>∃M0 A q,ws=[.ref A.o]/\QR C M0 M A q/\R (.bl (decide (q=[]))) M
def IL(C:Cc):bP:=λws M R=>∃(A:Aq) (cs:List aJ) (c:aJ),ws=[.ref A.o,cW c]/\M A.o=some (.ins C.q A.d (qf A))/\M A.c=some (.lst (cs.map cW))/\cs.Pairwise (λa b=>cH b a=true)/\cs.length<10000000/\R (.int (pos c cs:Nat)) M
def zA(C:Cc):bP:=λws M R=>∃M0 A q c x,ws=[.ref A.o,cW c,kH x]/\QR C M0 M A q/\(a6 (dS c x q)).length<10000000/\∀a,QR C M0 a A (dS c x q)->R .non a
def IM(C:Cc):bP:=λws M R=>∃M0 A q c x a,ws=[.ref A.o]/\QR C M0 M A q/\iF q=some (c,x,a)/\∀b,QR C M0 b A a->R (.tup [cW c,kH x]) b
abbrev Y2:List Str:=["self"]
def Y3(C:Cc):aI:=
   (aL (kG C.q (aA 0) "costs" (fX aE))
   (kG C.q (aA 0) "waiting" lX))
abbrev Y4:List Str:=["self"]
def Y5(C:Cc):aI:=
   (cA (aH (rEq false) (bJ cC (aB (cZ C.q (aA 0) "costs") aE)) (vC (.int 0))))
abbrev Y6:List Str:=["self","cost","thing"]
def Y7(C:Cc):aI:=
   (aL (dJ (bO (aH (rIn true) (aA 1) (cZ C.q (aA 0) "waiting")))
    (aL (fY (fX aE) (gD (cZ C.q (aA 0) "waiting") (aA 1)))
   (d6 (cN "list" HV (cZ C.q (aA 0) "costs") (aB (iH C.q "place_of" (IL C) (aA 0) (aB (aA 1) aE)) (aB (aA 1) aE)))))
    eA)
   (d6 (cN "list" fN (aH aW (cZ C.q (aA 0) "waiting") (aA 1)) (aB (aA 2) aE))))
abbrev Y8:List Str:=["self","cost","low","high","middle"]
def Y9(C:Cc):aI:=
   (aY 2 (vC (.int 0)))
def ZA(C:Cc):aI:=
   (aY 3 (bJ cC (aB (cZ C.q (aA 0) "costs") aE)))
def ZC(C:Cc):aI:=
   (aL (aY 4 (aH xO (aH cJ (aA 2) (aA 3)) (vC (.int 2))))
   (dJ (bO (aH HS (aH aW (cZ C.q (aA 0) "costs") (aA 4)) (aA 1)))
    (aY 2 (aH cJ (aA 4) (vC (.int 1))))
    (aY 3 (aA 4))))
def ZD(C:Cc):aI:=
   (pH (bO (aH nX (aA 2) (aA 3))) (ZC C))
def ZE(C:Cc):aI:=
   (cA (aA 2))
def ZF(C:Cc):aI:=(aL (Y9 C) (aL (ZA C) (aL (ZD C) (ZE C))))
abbrev ZG:List Str:=["self","cost","things","thing"]
def ZH(C:Cc):aI:=
   (aY 1 (aH aW (cZ C.q (aA 0) "costs") (kX kZ (vC (.int 1)))))
def ZI(C:Cc):aI:=
   (aY 2 (aH aW (cZ C.q (aA 0) "waiting") (aA 1)))
def ZJ(C:Cc):aI:=
   (aY 3 (nW "list" rPop (aA 2)))
def ZK(C:Cc):aI:=
   (dJ (bO (aH (rEq false) (bJ cC (aB (aA 2) aE)) (vC (.int 0))))
    (aL (d6 (nW "list" rPop (cZ C.q (aA 0) "costs")))
   (d6 (cN "dict" HN (cZ C.q (aA 0) "waiting") (aB (aA 1) aE))))
    eA)
def ZL(C:Cc):aI:=
   (cA (b5 (aB (aA 1) (aB (aA 3) aE))))
def ZM(C:Cc):aI:=(aL (ZH C) (aL (ZI C) (aL (ZJ C) (aL (ZK C) (ZL C)))))
theorem z1:1<=An:=by decide
theorem z2:2<=An:=by decide
theorem z3:3<=An:=by decide
theorem z4:4<=An:=by decide
theorem cI{b:Bool}{P Q:Prop}(c:b=true->P)(a:b=false->Q):if b=true then P else Q:=by cases b;exact a rfl;exact c rfl
theorem pV{R:List W->(Mm->Prop)->Mm->Prop}(e:w=.rl ws)(h:R ws (λ_=>True) M):L3.lY w M R:=by rw[e];exact h
theorem mZ(h:M a=some (.dT kvs))(hl:a0 kvs k=some w)(r:R w M):L3.aW (.ref a) (.tup (k.map wK)) M R:=⟨w,.inr ⟨kvs,k,h,rfl,hl.symm⟩,r⟩
theorem eN(h:M a=some (.lst ws)):lR "list" (.ref a) M:=.inl ⟨rfl,_,h⟩
theorem l9(h:M a=some (.dT kvs)):lR "dict" (.ref a) M:=.inr ⟨rfl,.inr ⟨_,h⟩⟩
theorem ZN(h:IK C ws M R):Y5 C (bS R) (bZ Y4 ws) M:=by
 obtain⟨M0,A,q,rfl,a,r⟩:=h;refine⟨_,rfl,A.o,A.d,qf A,_,rfl,a.ob,pT,.inl ⟨_,a.co,M,Sub.refl _,?_⟩⟩;show R (.bl (decide (((Ng cW (q.map λx=>x.1)).length:Int)=0))) M;have e:decide (((Ng cW (q.map λx=>x.1)).length:Int)=0)=decide (q=[]):=by
  cases q<;>simp;lia
 rw[e];exact r
theorem ZO(h:IJ C ws M R):Y3 C (bS R) (bZ Y2 ws) M:=by
 obtain⟨M0,a,d,rfl,rfl,ha,r⟩:=h;refine⟨Bk _,λp m=>?_⟩;have c:p≠a:=λe=>by rw[e,aP]at m;cases m
 have i:M0 p=none:=by rw[aN c]at m;exact m
 refine⟨_,rfl,a,d,[],rfl,by rw[aN (Bw c),aP],by decide,λw hw=>?_⟩;have f:w≠a:=λe=>by rw[e,aP]at hw;cases hw
 have g:w≠p:=λe=>by rw[e,aN c,aP]at hw;cases hw
 have l:M0 w=none:=by rw[aN f,aN g,aN f]at hw;exact hw
 refine⟨_,rfl,a,d,bT "costs" (.ref p) [],rfl,by rw[aN (Bw f),aP],(show(1:Nat)<1000 by decide),_,Sub.refl _,r _ ⟨a,d,p,w⟩ rfl ⟨trivial,put (put M0 p (.lst [])) a (.ins C.q d (qf ⟨a,d,p,w⟩)),[],⟨eX (eX (Sub.refl _) i) ha,ha,i,Bw c,aP,by rw[aN c,aP];rfl⟩,?_,Ai _⟩⟩;have e:put (put (put (put (put M0 a (.ins C.q d [])) p (.lst [])) a (.ins C.q d (bT "costs" (.ref p) []))) w (.dT [])) a (.ins C.q d (bT "waiting" (.ref w) (bT "costs" (.ref p) [])))=put (put (put M0 p (.lst [])) a (.ins C.q d (qf ⟨a,d,p,w⟩))) w (.dT []):=by
  have eq:bT "waiting" (.ref w) (bT "costs" (.ref p) [])=qf ⟨a,d,p,w⟩:=by
   show(if (("costs" : Str)=("waiting" : Str)) then _ else _)=_;rw[if_neg (by decide +kernel)];rfl
  rw[eq];funext b;unfold put
  by_cases s:b=a<;>by_cases n:b=w<;>by_cases o:b=p<;>simp_all
 rw[e];exact⟨eX (Sub.refl _) (by rw[aN f,aN g];exact l),by rw[aN f,aN g];exact l,aP,(λ_ _=>rfl),(λk ws e=>nomatch e),(λk j p e=>nomatch e)⟩
theorem ZP(h:IL C ws M R):ZF C (bS R) (bZ Y8 ws) M:=by
 obtain⟨A,cs,c,rfl,u,hc,pw,hl,r⟩:=h;refine⟨_,rfl,A.o,A.d,qf A,_,rfl,u,pT,.inl ⟨_,hc,?_⟩⟩;refine⟨λm v y=>∃lo hi:Nat,∃o,v=[some (.ref A.o),some (cW c),some (.int lo),some (.int hi),o]/\y=M/\lo<=hi/\hi<=cs.length/\(∀i d,i<lo->cs[i]? = some d->cH c d=true)/\(∀i d,hi<=i->cs[i]? = some d->cH c d=false)/\m=hi-lo,⟨_,0,cs.length,none,by rw[Ab];rfl,rfl,Bk _,Ai _,(λi d hi=>absurd hi (Kf _)),(λi d hi e=>by rw[Kv hi]at e;cases e),rfl⟩,?_⟩;rintro m v y ⟨lo,hi,o,rfl,rfl,J,w,x,z,rfl⟩;refine⟨_,rfl,_,rfl,_,rfl,cI (λhb=>?_) λhb=>?_⟩
 .have t:=of_decide_eq_true hb;refine⟨_,rfl,_,rfl,⟨by decide,by decide⟩,?_⟩;obtain⟨f,K⟩:∃f,f=(lo+hi)/2:=⟨_,rfl⟩;have F:((lo:Int)+(hi:Int))/2=(f:Nat):=by lia
  dsimp only;rw[F];obtain⟨d,hd⟩:∃d,cs[f]? = some d:=⟨_,Bf (by lia)⟩;refine⟨_,rfl,A.o,A.d,qf A,_,rfl,u,pT,_,rfl,.inl ⟨_,cW d,hc,fW (by rw[Av,hd];rfl),_,rfl,d.1,d.2,c.1,c.2,rfl,rfl,_,rfl,?_⟩⟩;have pg:∀i j a b,i<j->cs[i]? = some a->cs[j]? = some b->cH b a=true:=λi j a b s l q=>by
   obtain⟨H,D⟩:=Ak.mp l;obtain⟨I,G⟩:=Ak.mp q;rw[<-D,<-G];exact Js.mp pw i j H I s
  show if cH c d=true then _ else _
  by_cases g:cH c d=true
  .rw[if_pos g];refine⟨_,rfl,_,_,?_,Sub.refl _,f+1,hi,_,rfl,rfl,by lia,w,λi e l n=>?_,z,rfl⟩
   .lia
   .by_cases p:i<f
    .exact rQ g (Le.of_lt (pg i f e d p n hd))
    .have:i=f:=by lia
     rw[this,hd]at n;cases n;exact g
  .rw[if_neg g];refine⟨_,rfl,_,_,?_,Sub.refl _,lo,f,_,rfl,rfl,by lia,by lia,x,λi e l n=>?_,rfl⟩
   .lia
   .by_cases p:f<i
    .have E:=pg f i d e p hd n;cases B:cH c e with
     | false=>rfl
     | true=>exact absurd (rQ B (Le.of_lt E)) g
    .have:i=f:=by lia
     rw[this,hd]at n;cases n;simpa using g
 .have t:=of_decide_eq_false hb;have:lo=hi:=by lia
  subst this;refine⟨_,rfl,_,Sub.refl _,?_⟩;rw[<-II (c:=c) (cs:=cs) (k:=lo) w x z];exact r
theorem ZQ(h:zA C ws M R):Y7 C (bS R) (bZ Y6 ws) M:=by
 obtain⟨M0,A,q,c,x,rfl,v,hl,r⟩:=h;have H:=uC c x q;have hf:=v.fall;have L:=y9 hf;have s:=ID (q:=q) (c:=c);have y:=yP c x hf;obtain⟨J,kvs,l,m,K⟩:=v.ex;refine⟨_,rfl,_,rfl,A.o,A.d,qf A,_,rfl,v.ob,pU,.inr ⟨_,.inr ⟨kvs,cK c,m.at_,YX c,rfl⟩,_,rfl,?_⟩⟩;rw[m.look c];have i:∀j,wG (dS c x q) j=if c=j then some (((aD q c).getD []).map kH++[kH x]) else wG q j:=λj=>by
  show(aD (dS c x q) j).map _=_;rw[HZ c x j hf]
  by_cases g:c=j
  .rw[if_pos g,if_pos g,Lh,Bd];rfl
  .rw[if_neg g,if_neg g]
 cases t:aD q c with
 | some xs=>
  have f:wG q c=some (xs.map kH):=by show(aD q c).map _=_;rw[t];rfl
  rw[f];rw[t]at s i;have s:xs.length<=(a6 q).length:=s;refine cI (λh=>nomatch (show false=true from h)) λ_=>?_;obtain⟨p,a,b⟩:=m.has f;have n:=IC c x hf (by rw[t];rfl);refine⟨_,rfl,A.o,A.d,qf A,_,rfl,v.ob,pU,_,rfl,mZ m.at_ a ⟨eN b,_,rfl,_,b,dN (by rw[Ab];lia),_,Sub.refl _,r _ ⟨y,J,kvs,?_,(m.wr a).same i,?_⟩⟩⟩
  .rw[n];exact l
  .have:=congrArg Ej n;rw[Ab,Ab]at this;rw[this];exact K
 | none=>
  have f:wG q c=none:=by show(aD q c).map _=_;rw[t];rfl
  rw[f];rw[t]at i;refine cI (λ_=>⟨Bk _,λp w=>?_⟩) λh=>nomatch (show true=false from h);have u:=m.add HY (ws:=[]) f w;have E:A.o≠p:=λe=>by rw[<-e,v.ob]at w;cases w
  have z:((q.map (·.1)).map cW).length=q.length:=by rw[Ab,Ab]
  have D:=IA c (q.map (·.1));rw[Ab]at D;refine⟨_,rfl,A.o,A.d,qf A,_,rfl,by rw[aN E];exact v.ob,pU,_,rfl,oB (k:=cK c) (kvs:=kvs) (by rw[aN (λe=>by rw[<-e,m.at_]at w;cases w)];exact m.at_) (dN (by lia)) ?_⟩;refine⟨_,rfl,A.o,A.d,qf A,_,rfl,u.sub _ _ l.ob,pT,eN (u.sub _ _ l.co),?_⟩;have B:=u.lift (p:=A.c) (o:=.lst ((((q.map (·.1)).take (pos c (q.map (·.1)))++c::(q.map (·.1)).drop (pos c (q.map (·.1)))).map cW))) (.inr ⟨_,l.co⟩);have F:=l.costs (cs':=(q.map (·.1)).take (pos c (q.map (·.1)))++c::(q.map (·.1)).drop (pos c (q.map (·.1))));refine⟨_,rfl,A.o,A.d,qf A,rfl,u.sub _ _ l.ob,YY,_,rfl,A,q.map (·.1),c,rfl,u.sub _ _ l.ob,u.sub _ _ l.co,IG hf,by rw[Ab];lia,_,rfl,_,u.sub _ _ l.co,dN (by rw[z];lia),by lia,by rw[z];lia,?_⟩;have I:((q.map (·.1)).map cW).take (Int.toNat (pos c (q.map (·.1)):Nat))++cW c::((q.map (·.1)).map cW).drop (Int.toNat (pos c (q.map (·.1)):Nat))=(((q.map (·.1)).take (pos c (q.map (·.1)))++c::(q.map (·.1)).drop (pos c (q.map (·.1)))).map cW):=by
   rw[Ci,Bd,Aw,List.map_take,List.map_drop]
  rw[I];obtain⟨O,a,b⟩:=B.has (k:=c) (ws:=[]) (by rw[if_pos rfl]);refine⟨_,rfl,A.o,A.d,qf A,_,rfl,B.sub _ _ F.ob,pU,_,rfl,mZ B.at_ a ⟨eN b,_,rfl,_,b,dN (by simp),_,Sub.refl _,r _ ⟨y,_,_,?_,(B.wr a).same (λj=>?_),?_⟩⟩⟩
  .rw[y8 c x hf (by rw[t];rfl)];exact F
  .rw[i j]
   by_cases g:c=j
   .rw[if_pos g,if_pos g];rfl
   .rw[if_neg g,if_neg g,if_neg g]
  .have G:=congrArg Ej (y8 c x hf (by rw[t];rfl));have N:=y7 kvs (cK c) (W.ref p);rw[Ab,Aj,Bp,Cb,Ft,Ab]at G;lia
theorem ZR(h:IM C ws M R):ZM C (bS R) (bZ ZG ws) M:=by
 obtain⟨M0,A,q,c,x,F,rfl,m,ht,r⟩:=h;have hf:=m.fall;have ⟨_,_,_,e0,hf',_,_,_,_⟩:=oE hf (λe=>by rw[e]at ht;cases ht);rw[ht]at e0;cases e0;obtain⟨H,kvs,s,B,z⟩:=m.ex;obtain⟨n,v,f,l⟩:=IE hf ht;have a:∀e∈n,e.1≠c:=by rw[f]at hf;exact IF hf
 have D:wG q c=some (v.map kH++[kH x]):=by
  show(aD q c).map _=_;rw[f,uQ a,if_pos rfl,Lh,Bd];rfl
 obtain⟨p,g,t⟩:=B.has D;have hc:M A.c=some (.lst (((n.map (·.1)).map cW)++[cW c])):=by rw[m.co,f];simp
 refine⟨_,rfl,A.o,A.d,qf A,_,rfl,m.ob,pT,.inl ⟨_,_,hc,D6 _ _,_,rfl,A.o,A.d,qf A,_,rfl,m.ob,pU,_,rfl,mZ B.at_ g ⟨_,rfl,eN t,⟨_,_,t,_,rfl,.inl ⟨_,aP,_,rfl,?_⟩⟩⟩⟩⟩;have u:=B.wr (ws:=v.map kH) g;cases v with
 | nil=>
  refine cI (λ_=>?_) λh=>nomatch (show true=false from h);have i:H A.c=some (.lst (((n.map (·.1)).map cW)++[cW c])):=by rw[s.co,f];simp
  have E:=s.costs (cs':=n.map (·.1));have w:=u.lift (p:=A.c) (o:=.lst ((n.map (·.1)).map cW)) (.inr ⟨_,i⟩);have G:=w.del (k:=c) HY;refine⟨_,rfl,A.o,A.d,qf A,_,rfl,u.sub _ _ s.ob,pT,eN (u.sub _ _ i),_,_,u.sub _ _ i,_,rfl,A.o,A.d,qf A,_,rfl,w.sub _ _ E.ob,pU,l9 w.at_,_,rfl,_,cK c,_,w.at_,rfl,g,?_⟩;refine⟨_,rfl,_,rfl,z2,_,Sub.refl _,r _ ⟨hf',_,_,?_,G.same (λj=>?_),?_⟩⟩
  .rw[l];exact E
  .show(aD F j).map _=_;rw[l,if_pos (by rfl:([]:List (Nat×List Int)).isEmpty=true)]
   by_cases b:c=j
   .subst b;rw[if_pos rfl,uO a];rfl
   .rw[if_neg b,if_neg b];show _=(aD q j).map _;rw[f,uQ a,if_neg b]
  .have I:=HX (kvs:=kvs) (k:=cK c) (by rw[g];rfl);rw[f,Aj,Bq]at z;rw[l,if_pos (by rfl:([]:List (Nat×List Int)).isEmpty=true)];lia
 | cons y v=>
  refine cI (λh=>?_) λ_=>?_
  .have h:=of_decide_eq_true (show decide (((Ng kH (y::v)).length:Int)=0)=true from h);rw[Aw,Bp]at h;lia
  refine⟨_,rfl,_,rfl,z2,_,Sub.refl _,r _ ⟨hf',_,_,?_,u.same (λj=>?_),?_⟩⟩
  .rw[l,if_neg (by simp)];rw[f]at s;simpa using s
  .show(aD F j).map _=_;rw[l,if_neg (by simp),uQ a]
   by_cases b:c=j
   .rw[if_pos b,if_pos b];rfl
   .rw[if_neg b,if_neg b];show _=(aD q j).map _;rw[f,uQ a,if_neg b]
  .rw[f]at z;rw[l,if_neg (by simp)];simpa using z
def rX:bP:=λws M R=>∃rs:List aM,ws=[.rl (rs.map eV)]/\rs.length<=400/\a9 ((namesOf rs).map W.str) M R
def IP:bP:=λws M R=>∃(r:aM) (rs:List aM),ws=[.rl ((r::rs).map eV)]/\R (.str r.name) M
abbrev ZS:List Str:=["grammar","found","rule"]
def ZT:aI:=
   (aY 1 n6)
def ZU:aI:=
   (fY (vC (.bl true)) (gD (aA 1) (aH aW (aA 2) (vC (.int 0)))))
def ZV:aI:=
   (cY (b6 cT (aA 0)) (bA 2) ZU)
def ZW:aI:=
   (cA (bJ tY (aB (aA 1) aE)))
def ZX:aI:=(aL ZT (aL ZV ZW))
abbrev ZY:List Str:=["grammar"]
def ZZ:aI:=
   (cA (aH aW (aH aW (aA 0) (vC (.int 0))) (vC (.int 0))))
end Rg
namespace L3
open PySem Spec PyProof.Rows L2
theorem zgI{n:Bool}:L3.rIn n (.str i) (.str j) M R=R (.bl (if n then !occ i j else occ i j)) M:=rfl
theorem zgJ{n:Bool}:L3.rIn n (.str i) (.rl ws) M R=(fD (.str i)=true/\ws.all fD=true/\R (.bl (if n then !inW (.str i) ws else inW (.str i) ws)) M):=rfl
end L3
namespace Rg
open PySem Spec PyProof.Rows L2 L3
theorem Z0{P Q:Prop}(h:P):if true=true then P else Q:=h
def fG(t:Str):aF×W:=(Sum.inr t,.bl true)
theorem zC(acc:List Str)(t:Str):bQ (acc.map fG) (Sum.inr t:aF) (.bl true)=(eU acc t).map fG:=by
 unfold bQ eU;have e:((acc.map fG).any λkv=>decide (kv.1=Sum.inr t))=decide (t∈acc):=by
  rw[List.any_map,Ex];simp[fG,Hc]
 rw[e]
 by_cases h:t∈acc
 .rw[if_pos (decide_eq_true h),if_pos h,Ca];refine Dv λu hu=>?_;simp[fG,Hc]
 .rw[if_neg (by simpa using h),if_neg h,Bd];rfl
theorem fS{R:List W->(Mm->Prop)->Mm->Prop}(h:R ws (λ_=>True) M):cT (.rl ws) M R:=h
theorem Z1(h:rX ws M R):ZX (bS R) (bZ ZS ws) M:=by
 obtain⟨rs,rfl,hl,r⟩:=h;refine λp g=>⟨_,rfl,fS (pI (λi d b=>∃o,d=[some (.rl (rs.map eV)),some (.ref p),o]/\b=put M p (.dK ((namesOf (rs.take i)).map fG))) ⟨_,rfl,rfl⟩ (λ_ _ _ _ _=>trivial) ?_ ?_)⟩
 .rintro i w d b hw ⟨o,rfl,rfl⟩;rw[Av]at hw;obtain⟨q,a,rfl⟩:=Bb.mp hw;have hi:i<rs.length:=(Ak.mp a).1;have e:namesOf (rs.take (i+1))=eU (namesOf (rs.take i)) q.name:=by
   rw[Eh,a];unfold namesOf oC;simp
  have f:(namesOf (rs.take i)).length<=i:=by
   have:=uB ((rs.take i).map aM.name) [];unfold namesOf oC;simp at this;simp;lia
  refine⟨_,rfl,_,rfl,_,rfl,yJ aP (by rw[Ab];exact dN (by lia)) ⟨_,Sub.refl _,_,rfl,?_⟩⟩;rw[gB,zC,e]
 .rintro d b ⟨o,rfl,rfl⟩;rw[Ab,Cm];refine⟨_,rfl,.inr ⟨_,aP,λq a=>?_⟩⟩;have c:q≠p:=λe=>by subst e;rw[aP]at a;cases a
  rw[aN c]at a;refine⟨_,?_,r q a⟩;rw[Ca];exact Sub.put (Sub.new g)
theorem Z2(h:IP ws M R):ZZ (bS R) (bZ ZY ws) M:=by
 obtain⟨q,rs,rfl,r⟩:=h;exact⟨_,rfl,_,fW (j:=0) rfl,_,rfl,_,Sub.refl _,r⟩
theorem Z3{t:Str}{ts:List Str}:inW (.str t) (ts.map W.str)=decide (t∈ts):=by
 unfold inW;rw[List.any_map,Ex,Jq,decide_eq_true_eq];exact⟨λ⟨x,h,e⟩=>eq_of_beq (show(x==t)=true from e)▸h,λh=>⟨t,h,beq_self_eq_true t⟩⟩
theorem IQ(ts:List Str):(ts.map W.str).all fD=true:=by
 rw[List.all_map,Kz];intro t _;rfl
def eK(k:Str×Int):List aF:=[Sum.inr k.1,Sum.inl k.2]
def jQ(z:Int×aJ):W:=.tup [.int z.1,cW z.2]
def jR(y:bR):W:=.tup [.int y.1,gH y.2.1,cW y.2.2]
def lG(k:K4):List aF:=[Sum.inl k.1,Sum.inl k.2.1,Sum.inl k.2.2.1,Sum.inl k.2.2.2]
def fK(f:a7):List aF:=[Sum.inr f.1,Sum.inl f.2.1,Sum.inl f.2.2]
def hZ(e:aJ×Nat×List Int):W:=.tup [cW e.1,.int e.2.1,gH e.2.2]
theorem i7:∀a b:Str×Int,eK a=eK b->a=b:=λa b h=>by
 unfold eK at h;simp only[El,Mj,Sum.inr.injEq,and_true]at h;exact Ka h.1 h.2
theorem uR:∀a b:K4,lG a=lG b->a=b:=λa b h=>by
 unfold lG at h;simp only[El,Mj,and_true,Int.natCast_inj]at h;obtain⟨a1,a2,i,j⟩:=a;obtain⟨b1,b2,g,k⟩:=b;simp only at h;obtain⟨f,e,d,c⟩:=h;rw[f,e,d,c]
theorem m7:∀a b:a7,fK a=fK b->a=b:=λa b h=>by
 unfold fK at h;simp only[El,Mj,Sum.inr.injEq,and_true]at h;obtain⟨a1,a2,g⟩:=a;obtain⟨b1,b2,f⟩:=b;simp only at h;obtain⟨e,d,c⟩:=h;rw[e,d,c]
section
variable {U J:Type}[DecidableEq U]{kk:U->List aF}{f:J->W}
abbrev dW(kk:U->List aF)(f:J->W)(t:List (U×J)):List (List aF×W):=t.map λe=>(kk e.1,f e.2)
theorem iI(c:∀a b,kk a=kk b->a=b)(t:List (U×J))(k:U):a0 (dW kk f t) (kk k)=(aD t k).map f:=by
 induction t with
 | nil=>rfl
 | cons e t d=>
  show a0 ((kk e.1,f e.2)::dW kk f t) (kk k)=_;rw[oG,dE,d]
  by_cases h:e.1=k
  .rw[if_pos (by rw[h]),if_pos h];rfl
  .rw[if_neg (λz=>h (c _ _ z)),if_neg h]
theorem pW(c:∀a b,kk a=kk b->a=b)(t:List (U×J))(k:U)(v:J):bQ (dW kk f t) (kk k) (f v)=dW kk f (bB t k v):=by
 unfold bQ bB;rw[show((dW kk f t).any λd=>decide (d.1=kk k))=(a0 (dW kk f t) (kk k)).isSome from gF _ _,iI c,gF];cases aD t k with
 | none=>simp
 | some w=>
  simp only[Lh,Option.isSome_some,if_true,Ca];apply Dv;intro e _;simp only[Hc]
  by_cases h:e.1=k
  .rw[if_pos (by rw[h]),if_pos h]
  .rw[if_neg (λz=>h (c _ _ z)),if_neg h]
end
structure Env where
 rs:List aM
 own:List (aF×W)
 stp:List (List aF×W)
structure Ad where
 s:Addr
 d:Addr
 Q:Aq
 r:Addr
 b:Addr
 e:Addr
 g:Addr
def sf(E:Env)(A:Ad):List (Str×W):=[("grammar",(b9 E.rs)),("own",(.dk E.own)),("steps",(.dt E.stp)),("queue",(.ref A.Q.o)),("reached",(.ref A.r)),("best",(.ref A.b)),("ends",(.ref A.e)),("begun",(.ref A.g))]
theorem IS:Cr ("grammar" : Str) (sf E A)=some (b9 E.rs):=by kernel_rfl
theorem Z4:Cr ("own" : Str) (sf E A)=some (W.dk E.own):=by kernel_rfl
theorem Z5:Cr ("steps" : Str) (sf E A)=some (W.dt E.stp):=by kernel_rfl
theorem zD:Cr ("queue" : Str) (sf E A)=some (W.ref A.Q.o):=by kernel_rfl
theorem uS:Cr ("reached" : Str) (sf E A)=some (W.ref A.r):=by kernel_rfl
theorem zF:Cr ("best" : Str) (sf E A)=some (W.ref A.b):=by kernel_rfl
theorem IT:Cr ("ends" : Str) (sf E A)=some (W.ref A.e):=by kernel_rfl
theorem IU:Cr ("begun" : Str) (sf E A)=some (W.ref A.g):=by kernel_rfl
theorem uU:Cr ("reach" : Str) (sf E A)=none:=by kernel_rfl
theorem Z6:Cr ("take_next" : Str) (sf E A)=none:=by kernel_rfl
theorem Z7:Cr ("step_by_name" : Str) (sf E A)=none:=by kernel_rfl
theorem Z8:Cr ("settle" : Str) (sf E A)=none:=by kernel_rfl
structure Mn(C:Cc)(E:Env)(M0 M:Mm)(A:Ad)(rc:List (K4×aJ))(bs:bC):Prop where
 sub:L3.Sub M0 M
 ns:M0 A.s=none
 nr:M0 A.r=none
 nb:M0 A.b=none
 sr:A.s≠A.r
 sb:A.s≠A.b
 rb:A.r≠A.b
 os:M A.s=some (.ins C.s A.d (sf E A))
 or:M A.r=some (.dT (dW lG cW rc))
 ob:M A.b=some (.dT (dW fK hZ bs))
abbrev eG(t:List ((Str×Int)×List (Int×aJ))):Str×Int->Option (List W):=λk=>(aD t k).map λxs=>xs.map jQ
abbrev gG(t:List ((Str×Int)×List bR)):Str×Int->Option (List W):=λk=>(aD t k).map λxs=>xs.map jR
def Kept(M:Mm):Option (Addr×List W)->Prop
 | none=>True
 | some x=>M x.1=some (.lst x.2)
structure SK(C:Cc)(E:Env)(M0 M:Mm)(A:Ad)(st:SS)(kp:Option (Addr×List W)):Prop where
 ex:∃M1 M2 M3 e g,Mn C E M0 M1 A st.reached st.best/\eC eK M1 M2 A.e e (eG st.ends)/\eC eK M2 M3 A.g g (gG st.begun)/\QR C M3 M A.Q st.q/\e.length<=st.ends.length/\g.length<=st.begun.length/\Kept M3 kp
abbrev SR(C:Cc)(E:Env)(M0 M:Mm)(A:Ad)(st:SS):Prop:=SK C E M0 M A st none
section
variable {C:Cc}{E:Env}{M0 M:Mm}{A:Ad}{st:SS}{kp:Option (Addr×List W)}
theorem SK.os(h:SK C E M0 M A st kp):M A.s=some (.ins C.s A.d (sf E A)):=by
 obtain⟨i,j,k,e,g,f,c,b,a,_⟩:=h.ex;exact a.sub _ _ (b.sub _ _ (c.sub _ _ f.os))
theorem SK.or(h:SK C E M0 M A st kp):M A.r=some (.dT (dW lG cW st.reached)):=by
 obtain⟨f,i,j,e,g,d,c,b,a,_⟩:=h.ex;exact a.sub _ _ (b.sub _ _ (c.sub _ _ d.or))
theorem SK.ob(h:SK C E M0 M A st kp):M A.b=some (.dT (dW fK hZ st.best)):=by
 obtain⟨i,j,k,e,g,f,d,c,a,_⟩:=h.ex;exact a.sub _ _ (c.sub _ _ (d.sub _ _ f.ob))
theorem SK.fall(h:SK C E M0 M A st kp):g8 st.q:=by
 obtain⟨b,c,d,e,g,j,i,f,a,_⟩:=h.ex;exact a.fall
theorem SK.free(h:SK C E M0 M A st kp):SR C E M0 M A st:=by
 obtain⟨a,b,d,e,g,l,j,i,f,k,c,_⟩:=h.ex;exact⟨a,b,d,e,g,l,j,i,f,k,c,trivial⟩
theorem SK.kept(h:SK C E M0 M A st (some (p,ws))):M p=some (.lst ws):=by
 obtain⟨c,f,i,e,g,m,k,j,b,l,d,a⟩:=h.ex;exact b.sub _ _ a
theorem Mn.rput(h:Mn C E M0 b A c bs)(a:List (K4×aJ)):Mn C E M0 (put b A.r (.dT (dW lG cW a))) A a bs:=
 ⟨eX h.sub h.nr,h.ns,h.nr,h.nb,h.sr,h.sb,h.rb,by rw[aN h.sr];exact h.os,aP,by rw[aN (Bw h.rb)];exact h.ob⟩
theorem Mn.bput(h:Mn C E M0 d A c bs)(a:bC):Mn C E M0 (put d A.b (.dT (dW fK hZ a))) A c a:=
 ⟨eX h.sub h.nb,h.ns,h.nr,h.nb,h.sr,h.sb,h.rb,by rw[aN h.sb];exact h.os,by rw[aN h.rb];exact h.or,aP⟩
theorem SK.rput(h:SK C E M0 M A st kp)(a:List (K4×aJ)):SK C E M0 (put M A.r (.dT (dW lG cW a))) A {st with reached:=a} kp:=by
 obtain⟨o,p,f,e,g,c,j,i,m,n,l,b⟩:=h.ex;have k:=j.sub _ _ c.or;have d:=i.sub _ _ k;refine⟨_,_,_,e,g,c.rput a,j.lift (.inr ⟨_,c.or⟩),i.lift (.inr ⟨_,k⟩),m.lift (.inr ⟨_,d⟩),n,l,?_⟩;cases kp with
 | none=>trivial
 | some x=>
  have b:f x.1=some (.lst x.2):=b;show put f A.r _ x.1=some (.lst x.2);rw[aN (λz=>by rw[z,d]at b;cases b)];exact b
theorem SK.bput(h:SR C E M0 M A st)(a:bC):SR C E M0 (put M A.b (.dT (dW fK hZ a))) A {st with best:=a}:=by
 obtain⟨n,q,p,e,g,c,f,d,l,m,k,o⟩:=h.ex;have i:=f.sub _ _ c.ob;have j:=d.sub _ _ i;exact⟨_,_,_,e,g,c.bput a,f.lift (.inr ⟨_,c.ob⟩),d.lift (.inr ⟨_,i⟩),l.lift (.inr ⟨_,j⟩),m,k,trivial⟩
theorem SK.que(h:SK C E M0 M A st kp):∃a,QR C a M A.Q st.q/\∀b c,QR C a b A.Q c->SK C E M0 b A {st with q:=c} kp:=by
 obtain⟨f,k,a,e,g,p,n,m,l,o,j,i⟩:=h.ex;exact⟨a,l,λb c d=>⟨f,k,a,e,g,p,n,m,d,o,j,i⟩⟩
theorem IV{U J:Type}[DecidableEq U]{t:List (U×J)}{k:U}{v:J}(h:(aD t k).isSome=true):(bB t k v).length=t.length:=by
 unfold bB;rw[gF,if_pos h,Ab]
theorem pX{U J:Type}[DecidableEq U]{t:List (U×J)}{k:U}{v:J}(h:aD t k=none):bB t k v=t++[(k,v)]:=by
 unfold bB;rw[gF,h,if_neg (by simp)]
theorem uV{a:Type}(f:a->W)(t:List ((Str×Int)×List a))(k:Str×Int)(z:a)(j:Str×Int):((aD (eW t k z) j).map λxs=>xs.map f)=if k=j then some (((aD t k).getD []).map f++[f z]) else(aD t j).map λxs=>xs.map f:=by
 unfold eW;rw[fJ]
 by_cases h:k=j
 .rw[if_pos h,if_pos h,Lh,Bd];rfl
 .rw[if_neg h,if_neg h]
theorem SK.epush(h:SR C E M0 M A st){k:Str×Int}{z:Int×aJ}{R:K3}(Q:st.ends.length<10000000)(hl:((aD st.ends k).getD []).length<10000000)(r:∀x,SR C E M0 x A {st with ends:=eW st.ends k z}->R .non x):
  ∃kvs,M A.e=some (.dT kvs)/\kvs.length<An/\∀p,M p=none->put M p (.lst []) A.e=some (.dT kvs)/\(∀w,a0 kvs (eK k)=some w->lR "list" w (put M p (.lst []))/\fN w [jQ z] (put M p (.lst [])) R)/\
   (a0 kvs (eK k)=none->lR "list" (.ref p) (put (put M p (.lst [])) A.e (.dT (bQ kvs (eK k) (.ref p))))/\fN (.ref p) [jQ z] (put (put M p (.lst [])) A.e (.dT (bQ kvs (eK k) (.ref p)))) R):=by
 obtain⟨T,N,S,e,g,G,c,l,v,K,B,P⟩:=h.ex;have ha:M A.e=some (.dT e):=v.sub _ _ (l.sub _ _ c.at_);refine⟨e,ha,dN (by lia),λp d=>⟨by rw[aN (λz=>by rw[<-z,ha]at d;cases d)];exact ha,λw hw=>?_,λhw=>?_⟩⟩
 .obtain⟨xs,b⟩:∃xs,aD st.ends k=some xs:=by
   cases q:aD st.ends k with
   | none=>have:=c.non k (by show(aD _ _).map _=_;rw[q];rfl);rw[hw]at this;cases this
   | some xs=>exact⟨_,rfl⟩
  have f:eG st.ends k=some (xs.map jQ):=by show(aD _ _).map _=_;rw[b];rfl
  obtain⟨O,a,t⟩:=c.has f;rw[hw]at a;cases a;have u:=l.sub _ _ t;have s:=v.more (o:=.lst []) d;have n:=s.sub _ _ u;rw[b]at hl;refine⟨eN n,_,n,dN (by rw[Ab];exact hl),r _ ⟨_,_,_,e,g,G,(c.wr (ws:=xs.map jQ++[jQ z]) hw).same λj=>?_,l.lift (.inr ⟨_,t⟩),s.lift (.inr ⟨_,u⟩),?_,B,trivial⟩⟩
  .refine(uV _ _ k z j).trans ?_;rw[b];rfl
  .show _<=(bB _ _ _).length;rw[IV (by rw[b];rfl)];exact K
 .have b:aD st.ends k=none:=by
   cases q:aD st.ends k with
   | none=>rfl
   | some xs=>obtain⟨O,a,_⟩:=c.has (k:=k) (ws:=xs.map jQ) (by show(aD _ _).map _=_;rw[q];rfl);rw[hw]at a;cases a
  have f:eG st.ends k=none:=by show(aD _ _).map _=_;rw[b];rfl
  have H:=v.sub.non d;have I:=l.sub.non H;have L:=c.add i7 (ws:=[]) f I;have i:p≠A.e:=λz=>by rw[z,ha]at d;cases d
  have y:=(l.lift (o:=.lst []) (.inl H)).lift (p:=A.e) (o:=.dT (bQ e (eK k) (.ref p))) (.inr ⟨.dT e,by rw[aN (Bw i)];exact c.at_⟩);have D:=(v.lift (o:=.lst []) (.inl d)).lift (p:=A.e) (o:=.dT (bQ e (eK k) (.ref p))) (.inr ⟨.dT e,by rw[aN (Bw i)];exact l.sub _ _ c.at_⟩);have J:a0 (bQ e (eK k) (.ref p)) (eK k)=some (.ref p):=by rw[pR,if_pos rfl]
  have F:put (put N p (.lst [])) A.e (.dT (bQ e (eK k) (.ref p))) p=some (.lst []):=by rw[aN i,aP]
  have u:=y.sub _ _ F;have n:=D.sub _ _ u;refine⟨eN n,_,n,dN (by simp),r _ ⟨_,_,_,_,g,G,(L.wr (ws:=[jQ z]) J).same λj=>?_,y.lift (.inr ⟨_,F⟩),D.lift (.inr ⟨_,u⟩),?_,B,trivial⟩⟩
  .refine(uV _ _ k z j).trans ?_;rw[b]
   by_cases m:k=j
   .rw[if_pos m,if_pos m];rfl
   .rw[if_neg m,if_neg m,if_neg m]
  .show _<=(bB _ _ _).length;rw[pX b,Aj,Bq];have:=y7 e (eK k) (W.ref p);lia
theorem SK.gpush(h:SR C E M0 M A st){k:Str×Int}{z:bR}{R:K3}(N:st.begun.length<10000000)(hl:((aD st.begun k).getD []).length<10000000)(r:∀u,SR C E M0 u A {st with begun:=eW st.begun k z}->R .non u):
  ∃kvs,M A.g=some (.dT kvs)/\kvs.length<An/\∀p,M p=none->put M p (.lst []) A.g=some (.dT kvs)/\(∀w,a0 kvs (eK k)=some w->lR "list" w (put M p (.lst []))/\fN w [jR z] (put M p (.lst [])) R)/\
   (a0 kvs (eK k)=none->lR "list" (.ref p) (put (put M p (.lst [])) A.g (.dT (bQ kvs (eK k) (.ref p))))/\fN (.ref p) [jR z] (put (put M p (.lst [])) A.g (.dT (bQ kvs (eK k) (.ref p)))) R):=by
 obtain⟨O,P,I,e,g,D,y,f,t,v,H,L⟩:=h.ex;have ha:M A.g=some (.dT g):=t.sub _ _ f.at_;refine⟨g,ha,dN (by lia),λp c=>⟨by rw[aN (λz=>by rw[<-z,ha]at c;cases c)];exact ha,λw hw=>?_,λhw=>?_⟩⟩
 .obtain⟨xs,b⟩:∃xs,aD st.begun k=some xs:=by
   cases q:aD st.begun k with
   | none=>have:=f.non k (by show(aD _ _).map _=_;rw[q];rfl);rw[hw]at this;cases this
   | some xs=>exact⟨_,rfl⟩
  have d:gG st.begun k=some (xs.map jR):=by show(aD _ _).map _=_;rw[b];rfl
  obtain⟨K,a,s⟩:=f.has d;rw[hw]at a;cases a;have n:=t.more (o:=.lst []) c;have m:=n.sub _ _ s;rw[b]at hl;refine⟨eN m,_,m,dN (by rw[Ab];exact hl),r _ ⟨_,_,_,e,g,D,y,(f.wr (ws:=xs.map jR++[jR z]) hw).same λj=>?_,n.lift (.inr ⟨_,s⟩),v,?_,trivial⟩⟩
  .refine(uV _ _ k z j).trans ?_;rw[b];rfl
  .show _<=(bB _ _ _).length;rw[IV (by rw[b];rfl)];exact H
 .have b:aD st.begun k=none:=by
   cases q:aD st.begun k with
   | none=>rfl
   | some xs=>obtain⟨K,a,_⟩:=f.has (k:=k) (ws:=xs.map jR) (by show(aD _ _).map _=_;rw[q];rfl);rw[hw]at a;cases a
  have d:gG st.begun k=none:=by show(aD _ _).map _=_;rw[b];rfl
  have J:=t.sub.non c;have G:=f.add i7 (ws:=[]) d J;have l:p≠A.g:=λz=>by rw[z,ha]at c;cases c
  have x:=(t.lift (o:=.lst []) (.inl c)).lift (p:=A.g) (o:=.dT (bQ g (eK k) (.ref p))) (.inr ⟨.dT g,by rw[aN (Bw l)];exact f.at_⟩);have F:a0 (bQ g (eK k) (.ref p)) (eK k)=some (.ref p):=by rw[pR,if_pos rfl]
  have B:put (put I p (.lst [])) A.g (.dT (bQ g (eK k) (.ref p))) p=some (.lst []):=by rw[aN l,aP]
  have m:=x.sub _ _ B;refine⟨eN m,_,m,dN (by simp),r _ ⟨_,_,_,e,_,D,y,(G.wr (ws:=[jR z]) F).same λj=>?_,x.lift (.inr ⟨_,B⟩),v,?_,trivial⟩⟩
  .refine(uV _ _ k z j).trans ?_;rw[b]
   by_cases i:k=j
   .rw[if_pos i,if_pos i];rfl
   .rw[if_neg i,if_neg i,if_neg i]
  .show _<=(bB _ _ _).length;rw[pX b,Aj,Bq];have:=y7 g (eK k) (W.ref p);lia
theorem SK.ends_at(h:SR C E M0 M A st)(k:Str×Int):∃kvs,M A.e=some (.dT kvs)/\((a0 kvs (eK k)=none/\aD st.ends k=none)\/∃p xs,a0 kvs (eK k)=some (.ref p)/\aD st.ends k=some xs/\SK C E M0 M A st (some (p,xs.map jQ))):=by
 obtain⟨i,l,m,e,g,o,a,d,f,n,j,r⟩:=h.ex;refine⟨e,f.sub _ _ (d.sub _ _ a.at_),?_⟩;cases q:aD st.ends k with
 | none=>exact .inl ⟨a.non k (by show(aD _ _).map _=_;rw[q];rfl),rfl⟩
 | some xs=>
  obtain⟨p,c,b⟩:=a.has (k:=k) (ws:=xs.map jQ) (by show(aD _ _).map _=_;rw[q];rfl);exact .inr ⟨p,xs,c,rfl,i,l,m,e,g,o,a,d,f,n,j,d.sub _ _ b⟩
theorem SK.begun_at(h:SR C E M0 M A st)(k:Str×Int):∃kvs,M A.g=some (.dT kvs)/\((a0 kvs (eK k)=none/\aD st.begun k=none)\/∃p xs,a0 kvs (eK k)=some (.ref p)/\aD st.begun k=some xs/\SK C E M0 M A st (some (p,xs.map jR))):=by
 obtain⟨f,j,l,e,g,o,m,a,d,n,i,r⟩:=h.ex;refine⟨g,d.sub _ _ a.at_,?_⟩;cases q:aD st.begun k with
 | none=>exact .inl ⟨a.non k (by show(aD _ _).map _=_;rw[q];rfl),rfl⟩
 | some xs=>
  obtain⟨p,c,b⟩:=a.has (k:=k) (ws:=xs.map jR) (by show(aD _ _).map _=_;rw[q];rfl);exact .inr ⟨p,xs,c,rfl,f,j,l,e,g,o,m,a,d,n,i,b⟩
theorem SK.eput(h:SR C E M0 M A st){b:Int}(m:e[0]? = some (some (.ref A.s)))(l:∀a Q,Q (W.tup [.str nm,.int b]) a->tk e a Q)(i:∀a Q,Q [jQ z] a->t e a Q)(c:st.ends.length<10000000)(hl:((aD st.ends (nm,b)).getD []).length<10000000)(r:∀f,SR C E M0 f A {st with ends:=eW st.ends (nm,b) z}->R .non f):
  cN "list" fN (cN "dict" pP (cZ C.s (aA 0) "ends") (aB tk (aB (fX aE) aE))) t e M R:=by
 obtain⟨kvs,u,q,o⟩:=h.epush c hl r;refine⟨_,m,A.s,A.d,_,_,rfl,h.os,IT,l9 u,l _ _ ⟨Bk _,λp k=>?_⟩⟩;obtain⟨n,j,g⟩:=o p k;exact⟨kvs,eK (nm,b),n,rfl,q,λw hw=>⟨(j w hw).1,i _ _ (j w hw).2⟩,λc=>⟨(g c).1,i _ _ (g c).2⟩⟩
theorem SK.gput(h:SR C E M0 M A st){b:Int}(m:e[0]? = some (some (.ref A.s)))(l:∀a Q,Q (W.tup [.str nm,.int b]) a->tk e a Q)(i:∀a Q,Q [jR z] a->t e a Q)(c:st.begun.length<10000000)(hl:((aD st.begun (nm,b)).getD []).length<10000000)(r:∀f,SR C E M0 f A {st with begun:=eW st.begun (nm,b) z}->R .non f):
  cN "list" fN (cN "dict" pP (cZ C.s (aA 0) "begun") (aB tk (aB (fX aE) aE))) t e M R:=by
 obtain⟨kvs,u,q,o⟩:=h.gpush c hl r;refine⟨_,m,A.s,A.d,_,_,rfl,h.os,IU,l9 u,l _ _ ⟨Bk _,λp k=>?_⟩⟩;obtain⟨n,j,g⟩:=o p k;exact⟨kvs,eK (nm,b),n,rfl,q,λw hw=>⟨(j w hw).1,i _ _ (j w hw).2⟩,λc=>⟨(g c).1,i _ _ (g c).2⟩⟩
end
def rY:bP:=λws M R=>∃ts:List Str,ws=[.rl (ts.map W.str)]/\ts.length<=400/\R (.dk ((ts.foldl eU []).map fG)) M
def ownOf(rs:List aM):List (aF×W):=((namesOf rs).foldl eU []).map fG
def zG:bP:=λws M R=>∃a b:aJ,ws=[cW a,cW b]/\R (cW (d8 a b)) M
structure Sm(st:SS)(k:Nat):Prop where
 q:(a6 st.q).length+k<10000000
 r:st.reached.length+k<10000000
def rZ(C:Cc):bP:=λws M R=>∃(E:Env) (M0:Mm) (A:Ad) (st:SS) (n:Nat) (cut:List Int) (c:aJ) (kp:Option (Addr×List W)),ws=[.ref A.s,.int n,gH cut,cW c]/\SK C E M0 M A st kp/\cut≠[]/\Sm st 1/\∀a,SK C E M0 a A (reach st n cut c) kp->R .non a
def IW(C:Cc):bP:=λws M R=>∃(E:Env) (M0:Mm) (A:Ad) (st:SS) (n:Nat) (cut:List Int) (c:aJ) (a:Str),ws=[.ref A.s,.int n,gH cut,cW c,.tup [.str a,.int (cut.getLastD 0)]]/\SR C E M0 M A st/\cut≠[]/\cut.length<1000/\Sm st ((aD st.ends (a,cut.getLastD 0)).getD []).length/\st.begun.length<10000000/\((aD st.begun (a,cut.getLastD 0)).getD []).length<10000000/\∀b,SR C E M0 b A (fR st n cut c a)->R .non b
def IX(C:Cc):bP:=λws M R=>∃(G:Sr) (E:Env) (M0:Mm) (A:Ad) (st:SS) (n:Nat) (cut:List Int) (c:aJ),ws=[.ref A.s,.int n,gH cut,cW c]/\SR C E M0 M A st/\G.rs=E.rs/\n<E.rs.length/\cut≠[]/\(∀key,∀y∈(aD st.begun key).getD [],y.2.1.length<1000/\y.2.1≠[])/\Sm st ((aD st.begun (dG G n,cut.headD 0)).getD []).length/\st.best.length<10000000/\st.ends.length<10000000/\((aD st.ends (dG G n,cut.headD 0)).getD []).length<10000000/\∀a,SR C E M0 a A (settle G st n cut c)->R .non a
structure IY(G:Sr)(E:Env):Prop where
 rs:G.rs=E.rs
 own:∀t,(a0 E.own (Sum.inr t:aF)).isSome=G.own t
 stp:∀t p,(a0 E.stp (eK (t,p))=none/\G.steps t p=[])\/a0 E.stp (eK (t,p))=some (.rl ((G.steps t p).map λz=>.tup [.int z.1,.int z.2]))
structure Rm(G:Sr)(st:SS):Prop where
 item:∀c n cut q',iF st.q=some (c,(n,cut),q')->cut≠[]/\cut.length<1000/\n<G.rs.length/\∃d,aD st.reached (bG n cut)=some d
 bg:∀key,∀y∈(aD st.begun key).getD [],y.2.1.length<1000/\y.2.1≠[]
 b:st.best.length<10000000
 e:st.ends.length<10000000
 g:st.begun.length<10000000
 el:∀key,((aD st.ends key).getD []).length<10000000/\Sm st ((aD st.ends key).getD []).length
 gl:∀key,((aD st.begun key).getD []).length<10000000/\Sm st ((aD st.begun key).getD []).length
 sl:∀t p,Sm st (G.steps t p).length
def IZ(C:Cc):bP:=λws M R=>∃(G:Sr) (E:Env) (M0:Mm) (A:Ad) (st:SS),ws=[.ref A.s]/\SR C E M0 M A st/\IY G E/\st.q≠[]/\Rm G st/\∀a,SR C E M0 a A (l0 G st)->R .non a
def JA(C:Cc):bP:=λws M R=>∃(M0:Mm) (s b:Addr) (rs:List aM) (stp:List (List aF×W)),ws=[.ref s,b9 rs,.dt stp]/\rs.length<=100/\M=put M0 s (.ins C.s b [])/\M0 s=none/\∀a (A:Ad),A.s=s->SR C ⟨rs,ownOf rs,stp⟩ M0 a A gQ->R .non a
def zH(G:Sr):Nat->SS
 | 0=>lB G
 | n+1=>l0 G (zH G n)
def gR(G:Sr)(B:bC):Prop:=∃(S a:Nat) (st:SS) (P:List bR) (cur:aJ) (T:Nat),All G S a st P cur T/\st.q=[]/\st.best=B/\st=zH G T
def JB(C:Cc):bP:=λws M R=>∃(G:Sr) (E:Env) (V:List Int) (L S:Nat),ws=[b9 E.rs,.rl (G.places.map W.int),.dt E.stp,.rl ((Dw G.rs.length).map λn=>.int (G.wt n))]/\E.rs.length<=100/\E.own=ownOf E.rs/\IY G E/\pO G/\rW G V G.rs.length L/\L<1000/\G.places.length<=1000/\(∀t p,(G.steps t p).length<=S)/\
 (kE G).length+G.rs.length*((L+1)*(V.length*V.length))*(S+V.length)+G.rs.length*((L+1)*(V.length*V.length))+V.length+S+1<10000000/\∀B,gR G B->kU (dW fK hZ B) M R
abbrev Z9:List Str:=["things"]
def zaa:aI:=
   (cA (bJ HK (aB (cB (eE (b6 cT (aA 0)) (bA 0) fP (b5 (aB (aA 0) (aB (vC (.bl true)) aE))) [none])) aE)))
abbrev zab:List Str:=["cost","other"]
def zac:aI:=
   (cA (b5 (aB (aH cJ (aH aW (aA 0) (vC (.int 0))) (aH aW (aA 1) (vC (.int 0)))) (aB (aH cJ (aH aW (aA 0) (vC (.int 1))) (aH aW (aA 1) (vC (.int 1)))) aE))))
abbrev zad:List Str:=["self","grammar","steps"]
def zae(C:Cc):aI:=
   (kG C.s (aA 0) "grammar" (aA 1))
def zaf(C:Cc):aI:=
   (kG C.s (aA 0) "own" (bK rY (aB (cB (bK rX (aB (aA 1) aE))) aE)))
def zag(C:Cc):aI:=
   (kG C.s (aA 0) "steps" (aA 2))
def JC(C:Cc):aI:=
   (kG C.s (aA 0) "queue" (uL C.q (IJ C) aE))
def zah(C:Cc):aI:=
   (kG C.s (aA 0) "reached" lX)
def zai(C:Cc):aI:=
   (kG C.s (aA 0) "best" lX)
def zaj(C:Cc):aI:=
   (kG C.s (aA 0) "ends" lX)
def zak(C:Cc):aI:=
   (kG C.s (aA 0) "begun" lX)
def zal(C:Cc):aI:=(aL (zae C) (aL (zaf C) (aL (zag C) (aL (JC C) (aL (zah C) (aL (zai C) (aL (zaj C) (zak C))))))))
abbrev zam:List Str:=["self","number","cut","cost","key"]
def zan(C:Cc):aI:=
   (aL (aY 4 (b5 (aB (aA 1) (aB (bJ cC (aB (aA 2) aE)) (aB (aH aW (aA 2) (vC (.int 0))) (aB (aH aW (aA 2) (kX kZ (vC (.int 1)))) aE))))))
   (dJ (tR (bO (aH (rIn true) (aA 4) (cZ C.s (aA 0) "reached"))) (bO (aH y6 (aA 3) (aH aW (cZ C.s (aA 0) "reached") (aA 4)))))
    (aL (fY (aA 3) (gD (cZ C.s (aA 0) "reached") (aA 4)))
   (d6 (iH C.q "put" (zA C) (cZ C.s (aA 0) "queue") (aB (aA 3) (aB (b5 (aB (aA 1) (aB (aA 2) aE))) aE)))))
    eA))
abbrev zao:List Str:=["self","taken","cost","number","cut","parts","end","price"]
def zap(C:Cc):aI:=
   (aY 1 (iH C.q "take" (IM C) (cZ C.s (aA 0) "queue") aE))
def zaq(C:Cc):aI:=
   (aY 2 (aH aW (aA 1) (vC (.int 0))))
def zar(C:Cc):aI:=
   (aY 3 (aH aW (aH aW (aA 1) (vC (.int 1))) (vC (.int 0))))
def zas(C:Cc):aI:=
   (aY 4 (aH aW (aH aW (aA 1) (vC (.int 1))) (vC (.int 1))))
def zat(C:Cc):aI:=
   (dJ (bO (aH y6 (aH aW (cZ C.s (aA 0) "reached") (b5 (aB (aA 3) (aB (bJ cC (aB (aA 4) aE)) (aB (aH aW (aA 4) (vC (.int 0))) (aB (aH aW (aA 4) (kX kZ (vC (.int 1)))) aE)))))) (aA 2)))
    xX
    eA)
def zau(C:Cc):aI:=
   (aY 5 (aH aW (aH aW (cZ C.s (aA 0) "grammar") (aA 3)) (vC (.int 1))))
def zav(C:Cc):aI:=
   (dJ (bO (aH FK (bJ cC (aB (aA 4) aE)) (bJ cC (aB (aA 5) aE))))
    (d6 (iH C.s "settle" (IX C) (aA 0) (aB (aA 3) (aB (aA 4) (aB (aA 2) aE)))))
    (dJ (bO (aH (rIn false) (aH aW (aA 5) (aH rA (bJ cC (aB (aA 4) aE)) (vC (.int 1)))) (cZ C.s (aA 0) "own")))
    (d6 (iH C.s "step_by_name" (IW C) (aA 0) (aB (aA 3) (aB (aA 4) (aB (aA 2) (aB (b5 (aB (aH aW (aA 5) (aH rA (bJ cC (aB (aA 4) aE)) (vC (.int 1)))) (aB (aH aW (aA 4) (kX kZ (vC (.int 1)))) aE))) aE))))))
    (cY (b6 lY (cN "dict" iZ (cZ C.s (aA 0) "steps") (aB (b5 (aB (aH aW (aA 5) (aH rA (bJ cC (aB (aA 4) aE)) (vC (.int 1)))) (aB (aH aW (aA 4) (kX kZ (vC (.int 1)))) aE))) (aB (eT aE) aE)))) (jI 2 (d9 (bA 6) (d9 (bA 7) jH)))
    (d6 (iH C.s "reach" (rZ C) (aA 0) (aB (aA 3) (aB (aH cJ (aA 4) (b5 (aB (aA 6) aE))) (aB (b5 (aB (aH cJ (aH aW (aA 2) (vC (.int 0))) (aA 7)) (aB (aH aW (aA 2) (vC (.int 1))) aE))) aE))))))))
def zaw(C:Cc):aI:=(aL (zap C) (aL (zaq C) (aL (zar C) (aL (zas C) (aL (zat C) (aL (zau C) (zav C)))))))
abbrev zax:List Str:=["self","number","cut","cost","key","end","more"]
def zay(C:Cc):aI:=
   (aL (d6 (cN "list" fN (cN "dict" pP (cZ C.s (aA 0) "begun") (aB (aA 4) (aB (fX aE) aE))) (aB (b5 (aB (aA 1) (aB (aA 2) (aB (aA 3) aE)))) aE)))
   (cY (b6 lY (cN "dict" iZ (cZ C.s (aA 0) "ends") (aB (aA 4) (aB (eT aE) aE)))) (jI 2 (d9 (bA 5) (d9 (bA 6) jH)))
    (d6 (iH C.s "reach" (rZ C) (aA 0) (aB (aA 1) (aB (aH cJ (aA 2) (b5 (aB (aA 5) aE))) (aB (bK zG (aB (aA 3) (aB (aA 6) aE))) aE)))))))
abbrev zaz:List Str:=["self","number","cut","cost","key","fact","other","before","paid"]
def zaA(C:Cc):aI:=
   (aY 4 (b5 (aB (aH aW (aH aW (cZ C.s (aA 0) "grammar") (aA 1)) (vC (.int 0))) (aB (aH aW (aA 2) (vC (.int 0))) aE))))
def zaB(C:Cc):aI:=
   (aY 5 (aH cJ (aA 4) (b5 (aB (aH aW (aA 2) (kX kZ (vC (.int 1)))) aE))))
def zaC(C:Cc):aI:=
   (dJ (bO (aH (rIn false) (aA 5) (cZ C.s (aA 0) "best")))
    xX
    eA)
def zaD(C:Cc):aI:=
   (fY (b5 (aB (aA 3) (aB (aA 1) (aB (aA 2) aE)))) (gD (cZ C.s (aA 0) "best") (aA 5)))
def zaE(C:Cc):aI:=
   (d6 (cN "list" fN (cN "dict" pP (cZ C.s (aA 0) "ends") (aB (aA 4) (aB (fX aE) aE))) (aB (b5 (aB (aH aW (aA 2) (kX kZ (vC (.int 1)))) (aB (aA 3) aE))) aE)))
def zaF(C:Cc):aI:=
   (d6 (iH C.s "reach" (rZ C) (aA 0) (aB (aA 6) (aB (aH cJ (aA 7) (b5 (aB (aH aW (aA 2) (kX kZ (vC (.int 1)))) aE))) (aB (bK zG (aB (aA 8) (aB (aA 3) aE))) aE)))))
def zaG(C:Cc):aI:=
   (cY (b6 lY (cN "dict" iZ (cZ C.s (aA 0) "begun") (aB (aA 4) (aB (eT aE) aE)))) (jI 3 (d9 (bA 6) (d9 (bA 7) (d9 (bA 8) jH)))) (zaF C))
def zaH(C:Cc):aI:=(aL (zaA C) (aL (zaB C) (aL (zaC C) (aL (zaD C) (aL (zaE C) (zaG C))))))
abbrev zaI:List Str:=["grammar","places","steps","weights","search","number","place"]
def zaJ(C:Cc):aI:=
   (aY 4 (uL C.s (JA C) (aB (aA 0) (aB (aA 2) aE))))
def zaK(C:Cc):aI:=
   (cY (b6 cT (aA 1)) (bA 6)
    (d6 (iH C.s "reach" (rZ C) (aA 4) (aB (aA 5) (aB (b5 (aB (aA 6) aE)) (aB (b5 (aB (aH aW (aA 3) (aA 5)) (aB (vC (.int 1)) aE))) aE))))))
def zaL(C:Cc):aI:=
   (cY (jK (aB (bJ cC (aB (aA 0) aE)) aE)) (bA 5) (zaK C))
def zaM(C:Cc):aI:=
   (d6 (iH C.s "take_next" (IZ C) (aA 4) aE))
def zaN(C:Cc):aI:=
   (pH (xG (qW (iH C.q "is_done" (IK C) (cZ C.s (aA 4) "queue") aE))) (zaM C))
def zaO(C:Cc):aI:=
   (cA (cZ C.s (aA 4) "best"))
def zaP(C:Cc):aI:=(aL (zaJ C) (aL (zaL C) (aL (zaN C) (zaO C))))
theorem JD:∀(ts acc:List Str),uJ (acc.map fG) (ts.map fG)=(ts.foldl eU acc).map fG
 | [],acc=>rfl
 | t::r,acc=>by
  show uJ (bQ (acc.map fG) (Sum.inr t) (.bl true)) (r.map fG)=_;rw[zC,JD,Eu]
theorem zaQ(h:rY ws M R):zaa (bS R) (bZ Z9 ws) M:=by
 obtain⟨ts,rfl,hl,r⟩:=h;have l:(ts.map W.str).length<=An:=gE (by rw[Ab];exact Ar hl (by decide));refine⟨_,rfl,fS (rM (rest:=[]) (λw=>.tup [w,.bl true]) l (λ_ _=>trivial) (λw hw b C sb a=>⟨_,rfl,z2,a⟩) (a9.frz ⟨ts.map fG,?_,by rw[Ab];exact l,_,Sub.refl _,?_⟩))⟩
 .unfold uK;rw[Ca,Ca];rfl
 .rw[show([]:List (aF×W))=([]:List Str).map fG from rfl,JD];exact r
theorem zaR(h:zG ws M R):zac (bS R) (bZ zab ws) M:=by
 obtain⟨a,b,rfl,r⟩:=h;exact⟨_,rfl,_,rfl,_,rfl,_,rfl,_,rfl,_,rfl,_,rfl,_,rfl,z2,_,Sub.refl _,r⟩
variable {O:Type}
theorem zI(h:cut≠[]):bW (cut.map W.int) 0=some (.int (cut.headD 0)):=by
 cases cut with
 | nil=>exact absurd rfl h
 | cons a t=>exact yH _ _
theorem oH(h:cut≠[]):bW (cut.map W.int) (-1)=some (.int (cut.getLastD 0)):=by
 rcases Fd cut with z|⟨a,b,z⟩
 .exact absurd z h
 .rw[z,Fe,Bd];refine(D6 _ _).trans ?_;simp[Jt]
theorem JE{n:Nat}:W.tup [.int n,.int (cut.map W.int).length,.int (cut.headD 0),.int (cut.getLastD 0)]=.tup ((lG (bG n cut)).map wK):=by
 rw[Ab];rfl
theorem zaS{n:Nat}(h:M a=some (.dT (dW lG cW t)))(hd:aD t (bG n cut)=some d)(r:R (cW d) M):L3.aW (.ref a) (.tup [.int n,.int (cut.map W.int).length,.int (cut.headD 0),.int (cut.getLastD 0)]) M R:=by rw[JE];exact mZ h (by rw[iI uR,hd];rfl) r
theorem JF{C:Cc}{E:Env}{M0 M:Mm}{A:Ad}{st:SS}{n:Nat}{cut:List Int}{c:aJ}{R:K3}{kp:Option (Addr×List W)}(f:SK C E M0 M A st kp)(h:Sm st 1)(r:∀a,SK C E M0 a A {st with reached:=bB st.reached (bG n cut) c,q:=dS c (n,cut) st.q} kp->R .non a):
  aL (fY (aA 3) (gD (cZ C.s (aA 0) "reached") (aA 4))) (d6 (iH C.q "put" (zA C) (cZ C.s (aA 0) "queue") (aB (aA 3) (aB (b5 (aB (aA 1) (aB (aA 2) aE))) aE)))) (bS R) [some (W.ref A.s),some (W.int n),some (gH cut),some (cW c),some (W.tup (Ng wK (lG (bG n cut))))] M:=by
 have j:=h.q;have k:=h.r;refine⟨_,rfl,_,rfl,A.s,A.d,_,_,rfl,f.os,uS,_,rfl,oB f.or (dN (by rw[Ab];lia)) ?_⟩;rw[pW uR];have e:=f.rput (bB st.reached (bG n cut) c);obtain⟨i,g,b⟩:=e.que;exact⟨_,rfl,A.s,A.d,_,_,rfl,e.os,zD,A.Q.o,A.Q.d,qf A.Q,rfl,g.ob,YZ,_,rfl,_,rfl,_,rfl,z2,i,A.Q,_,c,(n,cut),rfl,g,(by rw[uC];exact j),λa h'=>⟨a,Sub.refl _,r a (b a _ h')⟩⟩
theorem zaT{C:Cc}{ws:List W}{M:Mm}{R:K3}(h:rZ C ws M R):zan C (bS R) (bZ zam ws) M:=by
 obtain⟨E,M0,A,st,n,cut,c,kp,rfl,b,a,g,r⟩:=h;refine xI rfl (xI rfl (xI rfl ⟨_,zI a,xI rfl ⟨_,oH a,z4,?_⟩⟩));rw[JE];refine xI rfl (xI rfl ⟨A.s,A.d,_,xI rfl ⟨b.os,uS,.inr ⟨_,.inr ⟨_,_,b.or,rfl,rfl⟩,xI rfl ?_⟩⟩⟩);rw[iI uR];cases e:aD st.reached (bG n cut) with
 | none=>
  refine cI (λ_=>Z0 (JF b g λf h'=>r f ?_)) λh=>nomatch (show true=false from h);unfold reach;rw[e];exact h'
 | some d=>
  refine cI (λh=>nomatch (show false=true from h)) λ_=>xI rfl (xI rfl ⟨A.s,A.d,_,xI rfl ⟨b.os,uS,xI rfl (mZ b.or (by rw[iI uR,e];rfl) ⟨c.1,c.2,d.1,d.2,rfl,rfl,xI rfl (cI (λhl=>JF b g λf h'=>r f ?_) λhl=>⟨M,Sub.refl _,r M ?_⟩)⟩)⟩⟩)
  .unfold reach;rw[e];simp only;rw[if_pos (show cH c d=true from hl)];exact h'
  .unfold reach;rw[e];simp only;rw[if_neg (ne_true_of_eq_false (show cH c d=false from hl))];exact b
theorem Sm.reach{st:SS}{k:Nat}(h:Sm st (k+1))(n:Nat)(cut:List Int)(c:aJ):Sm (Rg.reach st n cut c) k:=by
 obtain⟨j,d,a,b⟩:=HD st n cut c;have:=h.q;have:=h.r;exact⟨by lia,by lia⟩
theorem Sm.le{st:SS}{k j:Nat}(h:Sm st k)(a:j<=k):Sm st j:=⟨by have:=h.q;lia,by have:=h.r;lia⟩
def eO(f:O->Nat×List Int×aJ)(xs:List O)(st:SS):SS:=xs.foldl (λst x=>reach st (f x).1 (f x).2.1 (f x).2.2) st
theorem uW{f:O->Nat×List Int×aJ}{xs:List O}{st:SS}{i:Nat}{x:O}(h:xs[i]? = some x):eO f (xs.take (i+1)) st=reach (eO f (xs.take i) st) (f x).1 (f x).2.1 (f x).2.2:=by
 unfold eO;rw[Eh,h,Gy];rfl
theorem pY{f:O->Nat×List Int×aJ}:∀{xs:List O} {st:SS} {k:Nat},Sm st (xs.length+k)->Sm (eO f xs st) k
 | [],st,k,h=>by simp at h;exact h
 | x::xs,st,k,h=>by
  show Sm (eO f xs (reach st (f x).1 (f x).2.1 (f x).2.2)) k;exact pY (Sm.reach (by rw[Bp]at h;exact h.le (by lia)) _ _ _)
theorem r6{f:O->Nat×List Int×aJ}:∀{xs:List O} {st:SS},(eO f xs st).ends=st.ends/\(eO f xs st).begun=st.begun/\(eO f xs st).best=st.best
 | [],st=>⟨rfl,rfl,rfl⟩
 | x::xs,st=>by
  have a:=r6 (f:=f) (xs:=xs) (st:=reach st (f x).1 (f x).2.1 (f x).2.2);have b:∀n cut c,(reach st n cut c).ends=st.ends/\(reach st n cut c).begun=st.begun/\(reach st n cut c).best=st.best:=by
   intro n cut c;unfold reach;split
   .split<;>exact⟨rfl,rfl,rfl⟩
   .exact⟨rfl,rfl,rfl⟩
  obtain⟨a1,a2,d⟩:=b (f x).1 (f x).2.1 (f x).2.2;exact⟨a.1.trans a1,a.2.1.trans a2,a.2.2.trans d⟩
theorem zaU{C:Cc}{ws:List W}{M:Mm}{R:K3}(h:IW C ws M R):zay C (bS R) (bZ zax ws) M:=by
 obtain⟨E,M0,A,st,n,cut,c,a,rfl,N,o,I,x,hb,D,r⟩:=h;refine SK.gput N (z:=(n,cut,c)) rfl (λG Q h=>xI rfl h) (λG Q h=>xI rfl (xI rfl (xI rfl ⟨z3,h⟩))) hb D λG l=>?_;have hf:=l.ends_at (a,cut.getLastD 0);obtain⟨kvs,J,hc⟩:=hf;refine xI rfl ⟨A.s,A.d,_,xI rfl ⟨l.os,IT,l9 J,xI rfl ⟨Bk _,_,.inr ⟨kvs,eK (a,cut.getLastD 0),J,rfl,rfl⟩,?_⟩⟩⟩;rcases hc with⟨F,u⟩|⟨p,xs,F,u,hk⟩
 .rw[F];refine pV rfl (pI (λi m k=>k=G) rfl (λ_ _ _ _ _=>trivial) (λi w m k hw=>nomatch hw) λm k e=>⟨_,Sub.refl _,r _ ?_⟩);rw[e];unfold fR;rw[show aD st.ends (a,cut.getLastD 0)=none from u];exact l
 .rw[F];obtain⟨f,hf⟩:∃f:Int×aJ->Nat×List Int×aJ,f=λz=>(n,cut++[z.1],d8 c z.2):=⟨_,rfl⟩;obtain⟨j,g⟩:∃j,j = {st with begun:=eW st.begun (a,cut.getLastD 0) (n,cut,c)}:=⟨_,rfl⟩;rw[<-g]at hk;have H:Sm j xs.length:=by
   rw[show aD st.ends (a,cut.getLastD 0)=some xs from u]at x;rw[g];exact⟨x.q,x.r⟩
  refine⟨_,hk.kept,pI (λi m k=>∃B y,m=[some (.ref A.s),some (.int n),some (gH cut),some (cW c),some (.tup [.str a,.int (cut.getLastD 0)]),B,y]/\SK C E M0 k A (eO f (xs.take i) j) (some (p,xs.map jQ))) ⟨_,xI rfl hk⟩ (λi m k _ ⟨_,_,_,h⟩=>h.kept) ?_ ?_⟩
  .rintro i w m k hw ⟨B,y,rfl,b⟩;rw[Av]at hw;obtain⟨z,hz,rfl⟩:=Bb.mp hw;have hi:=(Ak.mp hz).1;have v:Sm (eO f (xs.take i) j) 1:=pY (H.le (by rw[Cb];lia));have K:W.tup (Ng W.int cut++[W.int z.1])=gH (cut++[z.1]):=by unfold gH;rw[Bd];rfl
   refine⟨rfl,rfl,xI rfl ⟨A.s,A.d,xI rfl ⟨b.os,uU,xI rfl (xI rfl (xI rfl ⟨z1,by simpa using o,by rw[Ab];exact Ar I (gE (by decide)),xI rfl (xI rfl ⟨c,z.2,rfl,E,M0,A,_,n,cut++[z.1],d8 c z.2,_,by rw[K],b,by simp,v,λL t=>⟨L,Sub.refl _,_,xI rfl ?_⟩⟩)⟩))⟩⟩⟩;rw[uW hz,hf];rw[hf]at t;exact t
  .rintro m k ⟨B,y,rfl,b⟩;rw[Ab,Cm]at b;refine⟨_,Sub.refl _,r _ ?_⟩;unfold fR;rw[show aD st.ends (a,cut.getLastD 0)=some xs from u];rw[g,hf]at b;exact b.free
theorem uX{rs:List aM}{n:Nat}(h:n<rs.length):∃r,rs[n]? = some r/\bW (rs.map eV) (n:Int)=some (eV r):=by
 refine⟨rs[n],Bf h,fW ?_⟩;rw[Av,Bf h];rfl
theorem zaV{bs:bC}{k:a7}{v:aJ×Nat×List Int}(h:aD bs k=none):bQ (dW fK hZ bs) (fK k) (hZ v)=dW fK hZ (bs++[(k,v)]):=by
 rw[pW m7,pX h]
theorem zaW(h:IX C ws M R):zaH C (bS R) (bZ zaz ws) M:=by
 obtain⟨G,E,M0,A,st,n,cut,c,rfl,I,hG,hn,j,O,L,hb,he,K,r⟩:=h;obtain⟨ru,hr1,hr2⟩:=uX hn;have D:dG G n=ru.name:=by unfold dG;rw[hG,hr1]
 have t:cP G n cut=(ru.name,cut.headD 0,cut.getLastD 0):=by unfold cP;rw[D]
 rw[D]at L K;refine xI rfl ⟨A.s,A.d,_,xI rfl ⟨I.os,IS,xI rfl ⟨_,hr2,xI rfl (xI rfl ⟨_,zI j,z2,xI rfl (xI rfl ⟨_,oH j,z1,(λh=>nomatch h),z3,xI rfl (xI rfl ⟨A.s,A.d,_,xI rfl ⟨I.os,zF,.inr ⟨_,.inr ⟨_,fK (ru.name,cut.headD 0,cut.getLastD 0),I.ob,rfl,rfl⟩,xI rfl ?_⟩⟩⟩)⟩)⟩)⟩⟩⟩;rw[iI m7];cases o:aD st.best (ru.name,cut.headD 0,cut.getLastD 0) with
 | some v=>
  refine cI (λ_=>⟨M,Sub.refl _,r M ?_⟩) λh=>nomatch (show true=false from h);unfold settle;rw[t,o];exact I
 | none=>
  refine cI (λh=>nomatch (show false=true from h)) λ_=>xI rfl (xI rfl (xI rfl ⟨z3,xI rfl ⟨A.s,A.d,_,xI rfl ⟨I.os,zF,xI rfl (oB (k:=fK (ru.name,cut.headD 0,cut.getLastD 0)) I.ob (dN (by rw[Ab];exact hb)) ?_)⟩⟩⟩));rw[show bQ (dW fK hZ st.best) _ (W.tup [cW c,W.int n,gH cut])=_ from zaV (v:=(c,n,cut)) o];have P:=I.bput (st.best++[((ru.name,cut.headD 0,cut.getLastD 0),c,n,cut)]);refine SK.eput P (nm:=ru.name) (b:=cut.headD 0) (z:=(cut.getLastD 0,c)) rfl (λN Q h=>xI rfl h) (λN Q h=>xI rfl ⟨_,oH j,xI rfl ⟨z2,h⟩⟩) he K λN m=>?_;obtain⟨a,g⟩:∃a:SS,a = {st with best:=st.best++[((ru.name,cut.headD 0,cut.getLastD 0),c,n,cut)],ends:=eW st.ends (ru.name,cut.headD 0) (cut.getLastD 0,c)}:=⟨_,rfl⟩;have m:SR C E M0 N A a:=by rw[g];exact m
  have x:∀xs,(aD st.begun (ru.name,cut.headD 0)).getD []=xs->settle G st n cut c=eO (λy:bR=>(y.1,y.2.1++[cut.getLastD 0],d8 y.2.2 c)) xs a:=λxs hx=>by
   unfold settle;rw[t,o,D,hx,g];rfl
  have B:a.begun=st.begun:=by rw[g]
  obtain⟨kvs,hg,hc⟩:=m.begun_at (ru.name,cut.headD 0);refine xI rfl ⟨A.s,A.d,_,xI rfl ⟨m.os,IU,l9 hg,xI rfl ⟨Bk _,_,.inr ⟨kvs,eK (ru.name,cut.headD 0),hg,rfl,rfl⟩,?_⟩⟩⟩;rcases hc with⟨Y,H⟩|⟨p,xs,Y,H,hk⟩
  .rw[Y];refine pV rfl (pI (λi F u=>u=N) rfl (λ_ _ _ _ _=>trivial) (λi w F u hw=>nomatch hw) λF u e=>⟨_,Sub.refl _,r _ ?_⟩);rw[x [] (by rw[B]at H;rw[H];rfl),e];exact m
  .rw[Y];rw[B]at H;obtain⟨f,hf⟩:∃f:bR->Nat×List Int×aJ,f=λy=>(y.1,y.2.1++[cut.getLastD 0],d8 y.2.2 c):=⟨_,rfl⟩;have sm1:Sm a xs.length:=by
    rw[H]at L;rw[g];exact⟨L.q,L.r⟩
   refine⟨_,hk.kept,pI (λi F u=>∃S T V,F=[some (.ref A.s),some (.int n),some (gH cut),some (cW c),some (.tup [.str ru.name,.int (cut.headD 0)]),some (.tup ([.str ru.name,.int (cut.headD 0)]++[.int (cut.getLastD 0)])),S,T,V]/\SK C E M0 u A (eO f (xs.take i) a) (some (p,xs.map jR))) ⟨_,_,xI rfl hk⟩ (λi F u _ ⟨_,_,_,_,h⟩=>h.kept) ?_ ?_⟩
   .rintro i w F u hw ⟨S,T,V,rfl,l⟩;rw[Av]at hw;obtain⟨y,U,rfl⟩:=Bb.mp hw;have hi:=(Ak.mp U).1;obtain⟨X,Z⟩:=O (ru.name,cut.headD 0) y (by rw[H];exact Bh U);refine⟨rfl,rfl,xI rfl ⟨A.s,A.d,xI rfl ⟨l.os,uU,xI rfl (xI rfl (xI rfl ⟨_,oH j,z1,by simpa using Z,by rw[Ab];exact gE (Ar X (by decide)),xI rfl (xI rfl ⟨y.2.2,c,rfl,E,M0,A,_,y.1,y.2.1++[cut.getLastD 0],d8 y.2.2 c,_,by rw[gH,Bd];rfl,l,by simp,pY (sm1.le (by rw[Cb];lia)),λM2 J=>⟨M2,Sub.refl _,_,_,xI rfl ?_⟩⟩)⟩))⟩⟩⟩;rw[uW U,hf];rw[hf]at J;exact J
   .rintro F u ⟨S,T,V,rfl,l⟩;rw[Ab,Cm]at l;refine⟨_,Sub.refl _,r _ ?_⟩;rw[x xs (by rw[H];rfl),<-hf];exact l.free
theorem zaX(h:IZ C ws M R):zaw C (bS R) (bZ zao ws) M:=by
 obtain⟨G,E,T,A,st,rfl,hs,K,hq,u,r⟩:=h;obtain⟨c,x,B,e1,f1,m1,l1,_,_⟩:=oE hs.fall hq;obtain⟨n,cut⟩:=x;obtain⟨j,N,hn,d,hd⟩:=u.item c n cut B e1;obtain⟨M3,hQ,P⟩:=hs.que;refine xI rfl ⟨A.s,A.d,_,xI rfl ⟨hs.os,zD,A.Q.o,A.Q.d,xI rfl ⟨hQ.ob,Y0,M3,A.Q,_,c,(n,cut),B,rfl,hQ,e1,λM1 hQ1=>?_⟩⟩⟩;have l:=P M1 B hQ1;have v:∀k,Sm st k->Sm {st with q:=B} k:=λk h=>⟨by have:=h.q;show(a6 B).length+k<_;lia,h.r⟩
 have ht:l0 G st=if cH d c=true then {st with q:=B} else process G {st with q:=B} n cut c:=by
  unfold l0;simp only[e1,hd]
 obtain⟨f,p⟩:∃f:SS,f = {st with q:=B}:=⟨_,rfl⟩;have b1:f.begun=st.begun:=by rw[p]
 have b2:f.ends=st.ends:=by rw[p]
 have b3:f.best=st.best:=by rw[p]
 have b4:f.reached=st.reached:=by rw[p]
 rw[<-p]at l v ht;clear p;refine xI rfl (xI rfl (xI rfl (xI rfl (xI rfl (xI rfl (xI rfl (xI rfl (xI rfl ⟨A.s,A.d,_,xI rfl ⟨l.os,uS,xI rfl (xI rfl (xI rfl ⟨_,zI j,xI rfl ⟨_,oH j,z4,zaS l.or (by rw[b4];exact hd) (xI rfl ⟨d.1,d.2,c.1,c.2,rfl,rfl,xI rfl (cI (λhl=>?_) λhl=>?_)⟩)⟩⟩))⟩⟩))))))))
 .rw[ht,if_pos (show cH d c=true from hl)]at r;exact⟨M1,Sub.refl _,r M1 l⟩
 rw[ht,if_neg (ne_true_of_eq_false (show cH d c=false from hl))]at r;rw[K.rs]at hn;obtain⟨ru,hr1,U⟩:=uX hn;have t:dU G n cut=ru.parts[cut.length-1]?:=by unfold dU;rw[K.rs,hr1]
 have hpos:=He.mpr j;have y:(Ng W.int cut).length=cut.length:=Ab _;have O:(Ng W.str ru.parts).length=ru.parts.length:=Ab _;refine xI rfl ⟨A.s,A.d,_,xI rfl ⟨l.os,IS,xI rfl ⟨_,U,xI rfl (xI rfl (xI rfl (xI rfl (cI (λm=>?_) λm=>?_))))⟩⟩⟩
 .have m:=of_decide_eq_true m;rw[y,O]at m;have S:dU G n cut=none:=by rw[t];exact Kv (by lia)
  refine xI rfl ⟨A.s,A.d,xI rfl ⟨l.os,Z8,xI rfl (xI rfl (xI rfl ⟨G,E,T,A,f,n,cut,c,rfl,l,K.rs,hn,j,by rw[b1];exact u.bg,by rw[b1];exact v _ (u.gl _).2,by rw[b3];exact u.b,by rw[b2];exact u.e,by rw[b2];exact(u.el _).1,λJ I=>⟨J,Sub.refl _,r J ?_⟩⟩))⟩⟩;unfold process;rw[S];exact I
 have m:=of_decide_eq_false m;rw[y,O]at m;obtain⟨a,S⟩:∃a,ru.parts[cut.length-1]? = some a:=⟨_,Bf (by lia)⟩;rw[S]at t;have H:bW (ru.parts.map W.str) ((Ng W.int cut).length-1)=some (.str a):=by
  rw[y,show((cut.length:Int)-1)=((cut.length-1:Nat):Int) by lia];exact fW (by rw[Av,S];rfl)
 have V:process G f n cut c=if G.own a=true then fR f n cut c a else eO (λz:Int×Int=>(n,cut++[z.1],(c.1+z.2,c.2))) (G.steps a (cut.getLastD 0)) f:=by
  unfold process;rw[t];rfl
 rw[V]at r;refine xI rfl (xI rfl ⟨_,H,xI rfl ⟨A.s,A.d,_,xI rfl ⟨l.os,Z4,_,⟨Sum.inr a,rfl,rfl⟩,xI rfl (cI (λho=>?_) λho=>?_)⟩⟩⟩)
 .rw[if_pos ((K.own a).symm.trans ho)]at r;exact xI rfl ⟨A.s,A.d,xI rfl ⟨l.os,Z7,xI rfl (xI rfl (xI rfl (xI rfl (xI rfl ⟨_,H,xI rfl ⟨_,oH j,z2,E,T,A,f,n,cut,c,a,rfl,l,j,N,by rw[b2];exact v _ (u.el _).2,by rw[b1];exact u.g,by rw[b1];exact(u.gl _).1,λJ I=>⟨J,Sub.refl _,r J I⟩⟩⟩))))⟩⟩
 rw[if_neg (ne_true_of_eq_false ((K.own a).symm.trans ho))]at r;obtain⟨xs,F⟩:∃xs,xs=G.steps a (cut.getLastD 0):=⟨_,rfl⟩;have X:Sm f xs.length:=by rw[F];exact v _ (u.sl _ _)
 have L:(a0 E.stp (eK (a,cut.getLastD 0))).getD (.rl [])=.rl (xs.map λz=>.tup [.int z.1,.int z.2]):=by
  rw[F];rcases K.stp a (cut.getLastD 0) with⟨h1,h2⟩|h1
  .rw[h1,h2];rfl
  .rw[h1];rfl
 rw[<-F]at r;refine xI rfl ⟨A.s,A.d,_,xI rfl ⟨l.os,Z5,rfl,xI rfl (xI rfl ⟨_,H,xI rfl ⟨_,oH j,z2,Bk _,_,⟨eK (a,cut.getLastD 0),rfl,rfl⟩,pV L (fQ (λi τ M'=>∃Y o7,τ=[some (.ref A.s),some (.tup [cW c,kH (n,cut)]),some (cW c),some (.int n),some (gH cut),some (.tup (ru.parts.map W.str)),Y,o7]/\SR C E T M' A (eO (λz:Int×Int=>(n,cut++[z.1],(c.1+z.2,c.2))) (xs.take i) f)) ⟨_,xI rfl l⟩ ?_ ?_)⟩⟩)⟩⟩
 .rintro i w τ M' hw ⟨Y,o7,rfl,hk⟩ D hD;rw[Av]at hw;obtain⟨z,hz,rfl⟩:=Bb.mp hw;have hi:=(Ak.mp hz).1;exact⟨rfl,rfl,xI rfl ⟨A.s,A.d,xI rfl ⟨hk.os,uU,xI rfl (xI rfl (xI rfl ⟨z1,by simpa using j,by rw[y];exact Ar N (gE (by decide)),xI rfl (xI rfl (xI rfl (xI rfl (xI rfl ⟨z2,E,T,A,_,n,cut++[z.1],(c.1+z.2,c.2),_,by rw[gH,Bd];rfl,hk,by simp,pY (X.le (by rw[Cb];lia)),λJ Z=>hD _ _ ⟨_,xI rfl (by rw[uW hz];exact Z)⟩⟩))))⟩))⟩⟩⟩
 .rintro τ M' ⟨Y,o7,rfl,hk⟩;rw[Ab,Cm]at hk;exact⟨_,Sub.refl _,r _ hk⟩
theorem zaY:bT "begun" (.ref A.g) (bT "ends" (.ref A.e) (bT "best" (.ref A.b) (bT "reached" (.ref A.r) (bT "queue" (.ref A.Q.o) ([("grammar",(b9 E.rs)),("own",(W.dk E.own)),("steps",(W.dt E.stp))]:List (Str×W))))))=sf E A:=by kernel_rfl
theorem uY(d:QR C B a A q)(f:B s=some (.ins C.s b fs))(c:a p=none):p≠s/\B p=none/\put a p (.dT []) s=some (.ins C.s b fs)/\QR C (put (put B p (.dT [])) s (.ins C.s b fs')) (put (put a p (.dT [])) s (.ins C.s b fs')) A q:=by
 have g:=d.sub _ _ f;have ne:p≠s:=λe=>by rw[e,g]at c;cases c
 exact⟨ne,d.sub.non c,by rw[aN (Bw ne)];exact g,(d.lift (.inl c)).lift (.inr ⟨_,by rw[aN (Bw ne)];exact f⟩)⟩
theorem r9(f:Str)(w:W):∀fs:List (Str×W),(bT f w fs).length<=fs.length+1
 | []=>Ai _
 | (k,x)::r=>by
  rw[bT];split
  .simp
  .have:=r9 f w r;simp only[Bp];lia
theorem zaZ(h:JA C ws M R):zal C (bS R) (bZ zad ws) M:=by
 obtain⟨B,s,d,rs,stp,rfl,hl,rfl,h0,r⟩:=h;refine xI rfl (xI rfl ⟨s,d,xI rfl ⟨aP,by decide,?_⟩⟩);rw[gB];have e2:∀w:W,bT "own" w (bT "grammar" (b9 rs) [])=([("grammar",b9 rs),("own",w)]:List (Str×W)):=λw=>by kernel_rfl
 have e3:∀w:W,bT "steps" w ([("grammar",b9 rs),("own",.dk (ownOf rs))]:List (Str×W))=([("grammar",b9 rs),("own",.dk (ownOf rs)),("steps",w)]:List (Str×W)):=λw=>by kernel_rfl
 refine xI rfl ⟨rs,rfl,Ar hl (by decide),a9.frz ⟨namesOf rs,rfl,?_,xI rfl ⟨s,d,xI rfl ⟨aP,(show(1:Nat)<1000 by decide),xI rfl (xI rfl ⟨s,d,xI rfl ⟨aP,?_,?_⟩⟩)⟩⟩⟩⟩
 .have:=uB (rs.map aM.name) [];rw[Ab]at this;unfold namesOf oC;simp at this;simp;lia
 .rw[e2];exact(show(2:Nat)<1000 by decide)
 rw[gB,gB,e2];show JC C _ _ (put B s (.ins C.s d (bT "steps" (.dt stp) [("grammar",b9 rs),("own",.dk (ownOf rs))])));rw[e3];refine λa da ha hda hne=>?_;have hsa:s≠a:=λe=>by rw[<-e,aP]at ha;cases ha
 obtain⟨U,v⟩:∃F:List (Str×W),F=([("grammar",b9 rs),("own",.dk (ownOf rs)),("steps",.dt stp)]:List (Str×W)):=⟨_,rfl⟩;rw[<-v]at ha hda⊢;refine⟨_,a,da,rfl,rfl,ha,λM1 Aq Z hQ=>⟨rfl,xI rfl ⟨s,d,U,rfl,hQ.sub _ _ aP,by rw[v];exact(show(3:Nat)<1000 by decide),?_⟩⟩⟩;have z:=hQ.lift (p:=s) (o:=.ins C.s d (bT "queue" (.ref a) U)) (.inr ⟨_,aP⟩);rw[gB]at z;obtain⟨l,I⟩:∃F:List (Str×W),F=bT "queue" (.ref a) U:=⟨_,rfl⟩;have l4:l.length<=4:=by rw[I];have:=r9 "queue" (.ref a) U;rw[v]at this⊢;exact this
 rw[<-I]at z⊢;obtain⟨Mt,Y⟩:∃m,m=put M1 s (.ins C.s d l):=⟨_,rfl⟩;rw[<-Y]at z⊢;refine λc hp1=>?_;obtain⟨u,b1,o1,hQ2⟩:=uY (fs':=bT "reached" (.ref c) l) z aP hp1;refine xI rfl ⟨s,d,l,rfl,o1,by lia,λi hp2=>?_⟩;obtain⟨G,b2,o2,hQ3⟩:=uY (fs':=bT "best" (.ref i) (bT "reached" (.ref c) l)) hQ2 aP hp2;have l5:=r9 "reached" (.ref c) l;refine xI rfl ⟨s,d,xI rfl ⟨o2,by lia,λf hp3=>?_⟩⟩;obtain⟨K,L,o3,V⟩:=uY (fs':=bT "ends" (.ref f) (bT "best" (.ref i) (bT "reached" (.ref c) l))) hQ3 aP hp3;have l6:=r9 "best" (.ref i) (bT "reached" (.ref c) l);refine xI rfl ⟨s,d,xI rfl ⟨o3,by lia,λn hp4=>?_⟩⟩;obtain⟨N,D,o4,y⟩:=uY (fs':=bT "begun" (.ref n) (bT "ends" (.ref f) (bT "best" (.ref i) (bT "reached" (.ref c) l)))) V aP hp4;have l7:=r9 "ends" (.ref f) (bT "best" (.ref i) (bT "reached" (.ref c) l));refine xI rfl ⟨s,d,xI rfl ⟨o4,by lia,_,Sub.refl _,r _ ⟨s,d,Aq,c,i,f,n⟩ rfl ?_⟩⟩;obtain⟨A,O⟩:∃A:Ad,A=⟨s,d,Aq,c,i,f,n⟩:=⟨_,rfl⟩;obtain⟨E,hE⟩:∃E:Env,E=⟨rs,ownOf rs,stp⟩:=⟨_,rfl⟩;have X:bT "begun" (.ref n) (bT "ends" (.ref f) (bT "best" (.ref i) (bT "reached" (.ref c) l)))=sf E A:=by
  rw[<-zaY,I,v,O,hE,<-Z]
 rw[X]at y⊢;rw[<-O,<-hE];have q:i≠c:=λe=>by rw[e,aN u,aP]at b2;cases b2
 have J:f≠c:=λe=>by rw[e,aN u,aN (Bw q),aN u,aP]at L;cases L
 have H:f≠i:=λe=>by rw[e,aN G,aP]at L;cases L
 have T:n≠c:=λe=>by rw[e,aN u,aN (Bw J),aN u,aN (Bw q),aN u,aP]at D;cases D
 have S:n≠i:=λe=>by rw[e,aN G,aN (Bw H),aN G,aP]at D;cases D
 have P:n≠f:=λe=>by rw[e,aN K,aP]at D;cases D
 have z1:B c=none:=by rw[aN u]at b1;exact b1
 have z2:B i=none:=by rw[aN G,aN q,aN G]at b2;exact b2
 have z3:B f=none:=by rw[aN K,aN H,aN K,aN J,aN K]at L;exact L
 have z4:B n=none:=by rw[aN N,aN P,aN N,aN S,aN N,aN T,aN N]at D;exact D
 obtain⟨t,x⟩:∃m,m=put (put (put B s (.ins C.s d (sf E A))) c (.dT [])) i (.dT []):=⟨_,rfl⟩;have hB:put (put (put (put (put (put (put (put (put B s (.ins C.s d l)) c (.dT [])) s (.ins C.s d (bT "reached" (.ref c) l))) i (.dT [])) s (.ins C.s d (bT "best" (.ref i) (bT "reached" (.ref c) l)))) f (.dT [])) s (.ins C.s d (bT "ends" (.ref f) (bT "best" (.ref i) (bT "reached" (.ref c) l))))) n (.dT [])) s (.ins C.s d (sf E A))=put (put t f (.dT [])) n (.dT []):=by
  rw[x];funext b;unfold put
  by_cases g0:b=s
  .subst g0;simp[Bw u,Bw G,Bw K,Bw N]
  .simp only[if_neg g0]
 rw[hB]at y;have mn:Mn C E B t A [] []:=by
  rw[x,O];exact⟨eX (eX (eX (Sub.refl _) h0) z1) z2,h0,z1,z2,Bw u,Bw G,Bw q,by rw[aN (Bw G),aN (Bw u),aP],by rw[aN (Bw q),aP];rfl,by rw[aP];rfl⟩
 have y3:t f=none:=by rw[x,aN H,aN J,aN K];exact z3
 have y4:t n=none:=by rw[x,aN S,aN T,aN N];exact z4
 have t1:eC eK t (put t f (.dT [])) A.e [] (eG []):=by rw[O];exact⟨Sub.new y3,y3,aP,(λ_ _=>rfl),(λk ws e=>nomatch e),(λk j p e=>nomatch e)⟩
 have x4:put t f (.dT []) n=none:=by rw[aN P];exact y4
 have t2:eC eK (put t f (.dT [])) (put (put t f (.dT [])) n (.dT [])) A.g [] (gG []):=by rw[O];exact⟨Sub.new x4,x4,aP,(λ_ _=>rfl),(λk ws e=>nomatch e),(λk j p e=>nomatch e)⟩
 have hAQ:A.Q=Aq:=by rw[O]
 rw[<-hAQ]at y;exact⟨t,_,_,[],[],mn,t1,t2,y,Ai _,Ai _,trivial⟩
structure Ln(st:SS)(T:Nat):Prop where
 b:st.best.length<=T
 e:st.ends.length<=T
 g:st.begun.length<=T
theorem Ln.process{G:Sr}{st:SS}{T:Nat}(h:Ln st T)(n:Nat)(cut:List Int)(c:aJ):Ln (Rg.process G st n cut c) (T+1):=by
 have i:=h.b;have j:=h.e;have k:=h.g;have keep:Ln st (T+1):=⟨by lia,by lia,by lia⟩;unfold Rg.process;split
 .unfold settle;split
  .exact keep
  .obtain⟨a1,a2,d⟩:=r6 (f:=λy:bR=>(y.1,y.2.1++[cut.getLastD 0],d8 y.2.2 c)) (xs:=(aD st.begun (dG G n,cut.headD 0)).getD []) (st:={st with best:=st.best++[(cP G n cut,c,n,cut)],ends:=eW st.ends (dG G n,cut.headD 0) (cut.getLastD 0,c)});refine⟨?_,?_,?_⟩
   .refine Ar (Ep (congrArg Ej d)) ?_;show(st.best++[_]).length<=_;rw[Aj,Bq];lia
   .refine Ar (Ep (congrArg Ej a1)) ?_;have:=rR st.ends (dG G n,cut.headD 0) ((aD st.ends (dG G n,cut.headD 0)).getD []++[(cut.getLastD 0,c)]);show(bB _ _ _).length<=_;lia
   .refine Ar (Ep (congrArg Ej a2)) ?_;exact keep.g
 .rename_i a _;split
  .unfold fR;obtain⟨a1,a2,d⟩:=r6 (f:=λz:Int×aJ=>(n,cut++[z.1],d8 c z.2)) (xs:=(aD st.ends (a,cut.getLastD 0)).getD []) (st:={st with begun:=eW st.begun (a,cut.getLastD 0) (n,cut,c)});refine⟨?_,?_,?_⟩
   .exact Ar (Ep (congrArg Ej d)) keep.b
   .exact Ar (Ep (congrArg Ej a1)) keep.e
   .refine Ar (Ep (congrArg Ej a2)) ?_;have:=rR st.begun (a,cut.getLastD 0) ((aD st.begun (a,cut.getLastD 0)).getD []++[(n,cut,c)]);show(bB _ _ _).length<=_;lia
  .unfold fZ;obtain⟨a1,a2,d⟩:=r6 (f:=λz:Int×Int=>(n,cut++[z.1],(c.1+z.2,c.2))) (xs:=G.steps a (cut.getLastD 0)) (st:=st);exact⟨Ar (Ep (congrArg Ej d)) keep.b,Ar (Ep (congrArg Ej a1)) keep.e,Ar (Ep (congrArg Ej a2)) keep.g⟩
theorem Ln.next{G:Sr}{st:SS}{T:Nat}(h:Ln st T):Ln (l0 G st) (T+1):=by
 have d:=h.b;have f:=h.e;have i:=h.g;have keep:Ln st (T+1):=⟨by lia,by lia,by lia⟩;have c:∀a,Ln {st with q:=a} T:=λa=>⟨d,f,i⟩
 unfold l0;split
 .exact keep
 .split
  .split
   .exact⟨keep.b,keep.e,keep.g⟩
   .exact(c _).process _ _ _
  .exact⟨keep.b,keep.e,keep.g⟩
theorem za0{G:Sr}{V:List Int}{L S u T:Nat}{st:SS}{P:List bR}{cur:aJ}(v:rW G V G.rs.length L)(K:L<1000)(A:All G S u st P cur T)(C:∀t p,(G.steps t p).length<=S)(ln:Ln st T)(hb:u+G.rs.length*((L+1)*(V.length*V.length))*(S+V.length)+G.rs.length*((L+1)*(V.length*V.length))+V.length+S+1<10000000):Rm G st:=by
 obtain⟨F,w,H⟩:=HF v A;have a:∀{n cut c},GI G st.best n cut c->DI G n cut c:=λ{n cut c} g=>yS (B:=st.best) (λf m O l h=>yU A.ob h) g;have I:=A.cn.rch;generalize G.rs.length*((L+1)*(V.length*V.length))=X at *;generalize X*(S+V.length)=Y at *;have M:=ln.b;have Q:=ln.e;have N:=ln.g;have E:∀key,((aD st.begun key).getD []).length<=X:=λkey=>by
  have:=len_sub (b:=P) (A.cn.bnd key) λy i=>(A.ob.bgn key y i).1;lia
 refine⟨λc n cut J e=>?_,λkey y i=>?_,by lia,by lia,by lia,λkey=>?_,λkey=>?_,λt p=>?_⟩
 .have j:st.q≠[]:=λz=>by rw[z]at e;cases e
  obtain⟨_,_,_,o,_,x,_⟩:=oE A.inv.fall j;rw[e]at o;cases o;have s:(c,(n,cut))∈a6 st.q:=(x _).mpr (.inl rfl);have hd:=a (A.inv.item _ s);obtain⟨_,r,k⟩:=uG v hd;obtain⟨d,D,_⟩:=A.inv.ge _ s;exact⟨hd.ne,by have k:cut.length<=L:=k;lia,r,d,D⟩
 .have hd:=a (A.inv.pr y (A.ob.bgn key y i).1).2.2;obtain⟨_,r,k⟩:=uG v hd;exact⟨by lia,hd.ne⟩
 .have:=w key;exact⟨by lia,⟨by lia,by lia⟩⟩
 .have:=E key;exact⟨by lia,⟨by lia,by lia⟩⟩
 .have:=C t p;exact⟨by lia,by lia⟩
def lH(G:Sr)(i:Nat):List (Nat×Int):=(Dw i).flatMap λn=>G.places.map λp=>(n,p)
theorem za1(G:Sr)(i:Nat):lH G (i+1)=lH G i++G.places.map λp=>(i,p):=by
 unfold lH;rw[List.range_succ,Ox];simp
theorem zJ(G:Sr)(i:Nat):(lH G i).length=i*G.places.length:=by
 unfold lH;rw[jO (k:=G.places.length) λn _=>by rw[Ab],Kq]
abbrev oI(G:Sr):Nat×Int->Nat×List Int×aJ:=λx=>(x.1,[x.2],(G.wt x.1,1))
theorem za2{b:Type}{f:b->Nat×List Int×aJ}{xs a:List b}{st:SS}:eO f (xs++a) st=eO f a (eO f xs st):=by
 unfold eO;rw[Gy]
theorem SK.told{C:Cc}{E:Env}{a M:Mm}{A:Ad}{st:SS}{kp:Option (Addr×List W)}(h:SK C E a M A st kp):a A.b=none/\L3.Sub (put a A.b (.dT (dW fK hZ st.best))) M:=by
 obtain⟨n,o,j,e,g,c,f,i,d,m,l,k⟩:=h.ex;refine⟨c.nb,λb u e=>?_⟩
 by_cases hb:b=A.b
 .subst hb;rw[aP]at e;cases e;exact h.ob
 .rw[aN hb]at e;exact d.sub _ _ (i.sub _ _ (f.sub _ _ (c.sub _ _ e)))
theorem za3{n i:Nat}(h:(kA 0 n)[i]? = some w):i<n/\w=.int (i:Nat):=by
 unfold kA at h;rw[Av]at h;obtain⟨j,c,rfl⟩:=Bb.mp h;obtain⟨b,a⟩:=Ak.mp c;rw[List.getElem_range]at a;rw[Kq]at b;exact⟨b,by rw[<-a,Im]⟩
theorem za4{lo:Int}{n:Nat}:(kA lo n).length=n:=by unfold kA;simp
theorem za5{C:Cc}{ws:List W}{M:Mm}{R:K3}(h:JB C ws M R):zaP C (bS R) (bZ zaI ws) M:=by
 obtain⟨G,E,V,L,S,rfl,hrs,x,ev,ok,v,hL,hpl,hS,hb,r⟩:=h;refine xI rfl (xI rfl (λa dx ha hdx hne=>⟨M,a,dx,E.rs,E.stp,rfl,hrs,rfl,ha,λM1 A hA J=>⟨rfl,?_⟩⟩));rw[<-x]at J;have J:SR C E M M1 A gQ:=J;subst hA;have B:(kE G).length=G.rs.length*G.places.length:=zJ G G.rs.length;obtain⟨N,hN⟩:∃N,N=G.rs.length:=⟨_,rfl⟩;have U:E.rs.length=N:=by rw[hN,ev.rs]
 refine xI rfl ⟨(N:Int),by rw[Ab,U],by lia,by lia,?_⟩;rw[Ci];have O:Sm gQ ((kE G).length+1):=⟨by show 0+_<_;lia,by show 0+_<_;lia⟩;refine fQ (λi k H=>∃u g,k=[some (b9 E.rs),some (.rl (G.places.map W.int)),some (.dt E.stp),some (.rl ((Dw G.rs.length).map λn=>.int (G.wt n))),some (.ref A.s),u,g]/\SR C E M H A (eO (oI G) (lH G i) gQ)) ⟨_,xI rfl J⟩ ?_ ?_
 .rintro i w k M2 hw ⟨u,g,rfl,e⟩ D1 K;obtain⟨hi,rfl⟩:=za3 hw;have hmul:(i+1)*G.places.length<=N*G.places.length:=Ek _ hi;rw[<-hN]at B;refine xI rfl (fS (fQ (λj k H=>∃g,k=[some (b9 E.rs),some (.rl (G.places.map W.int)),some (.dt E.stp),some (.rl ((Dw G.rs.length).map λn=>.int (G.wt n))),some (.ref A.s),some (.int i),g]/\SR C E M H A (eO (oI G) ((G.places.map λp=>(i,p)).take j) (eO (oI G) (lH G i) gQ))) (xI rfl e) ?_ ?_))
  .rintro j w k M3 hw ⟨g,rfl,c⟩ D2 hD2;rw[Av]at hw;obtain⟨pl,l,rfl⟩:=Bb.mp hw;have hj:=(Ak.mp l).1;have hx:(G.places.map λp=>(i,p))[j]? = some (i,pl):=by rw[Av,l];rfl
   have hwt:bW ((Dw G.rs.length).map λn=>W.int (G.wt n)) (i:Int)=some (.int (G.wt i)):=fW (by rw[Av,List.getElem?_range (by lia)];rfl);have smj:Sm (eO (oI G) ((G.places.map λp=>(i,p)).take j) (eO (oI G) (lH G i) gQ)) 1:=by
    refine pY (pY (O.le ?_));rw[zJ,Cb,Ab,B,Nat.succ_mul]at *;lia
   refine xI rfl ⟨A.s,A.d,xI rfl ⟨c.os,uU,xI rfl (xI rfl ⟨z1,xI rfl (xI rfl ⟨_,hwt,z2,E,M,A,_,i,[pl],(G.wt i,1),none,rfl,c,by simp,smj,λM4 Z=>hD2 _ _ (xI rfl ?_)⟩)⟩)⟩⟩;rw[uW hx];exact Z
  .rintro k M3 ⟨g,rfl,c⟩;refine K _ _ ⟨_,xI rfl ?_⟩;rw[za1,za2];rw[Ab,Gh (by rw[Ab];exact Ai _)]at c;exact c
 .rintro k M2 ⟨u,g,rfl,e⟩;rw[za4]at e;have F:eO (oI G) (lH G N) gQ=lB G:=by rw[hN];rfl
  rw[F]at e;have X:Ln (lB G) 0:=by
   obtain⟨a1,a2,a3⟩:=r6 (f:=oI G) (xs:=lH G N) (st:=gQ);rw[F]at a1 a2 a3;exact⟨by rw[a3];exact Ai _,by rw[a1];exact Ai _,by rw[a2];exact Ai _⟩
  obtain⟨y,Y⟩:∃y,y=(kE G).length+G.rs.length*((L+1)*(V.length*V.length))*(S+V.length):=⟨_,rfl⟩;refine G7 (λm k H=>∃st P cur T u g,k=[some (b9 E.rs),some (.rl (G.places.map W.int)),some (.dt E.stp),some (.rl ((Dw G.rs.length).map λn=>.int (G.wt n))),some (.ref A.s),u,g]/\SR C E M H A st/\All G S (kE G).length st P cur T/\Ln st T/\m=y-T/\st=zH G T) ⟨_,_,_,_,_,_,xI rfl ⟨e,X4 ok S,X,rfl,rfl⟩⟩ ?_;rintro m k M3 ⟨st,P,cur,T,u,g,rfl,c,A3,I,rfl,t⟩ D3 hD3;obtain⟨M4,hQ,back⟩:=c.que;refine xI rfl ⟨A.s,A.d,_,xI rfl ⟨c.os,zD,A.Q.o,A.Q.d,xI rfl ⟨hQ.ob,Y1,M4,A.Q,st.q,rfl,hQ,cI (b:=!decide (st.q=[])) (λh=>?_) λh=>?_⟩⟩⟩
  .have z:¬st.q=[]:=of_decide_eq_false (by rw[<-Nn (decide _),h];rfl);have rm:=za0 v hL A3 hS I hb;obtain⟨_,_,f3⟩:=HF v A3;rw[<-Y]at f3;have hpos:=He.mpr z;have hql:=y9 c.fall;obtain⟨P',D,A4⟩:=X3 ok A3 hS z;exact xI rfl ⟨A.s,A.d,xI rfl ⟨c.os,Z6,G,E,M,A,st,rfl,c,ev,z,rm,λM5 hs5=>hD3 _ _ _ (by lia:y-(T+1)<y-T) ⟨_,P',D,T+1,_,xI rfl ⟨hs5,A4,I.next,rfl,congrArg (l0 G) t⟩⟩⟩⟩
  .have z:st.q=[]:=of_decide_eq_true (by rw[<-Nn (decide _),h];rfl);obtain⟨y1,y2⟩:=c.told;exact xI rfl ⟨A.s,A.d,_,xI rfl ⟨c.os,zF,_,y2,r st.best ⟨S,_,st,P,cur,T,A3,z,rfl,t⟩ A.b y1⟩⟩
end Rg
namespace L2
open PySem Spec PyProof.Rows
section
variable {X:Cx}{pins:List (Addr×Obj)}{Z:St}{H:Hp}{s:Ag}{a:Addr}{u:HO}
def IsDict(u:HO):Prop:=(∃ks,u=.dK ks)\/∃ks,u=.dT ks
theorem Inv.frzD(I:Inv X pins Z H s)(e:H a=some u)(hd:IsDict u):∃o,Inv X pins Z (aR H a (.frz o u)) s:=by
 obtain⟨o,j⟩:∃o,s.heap.get? a=some o:=by
  have:=I.hok a u e;rcases hd with⟨ks,rfl⟩|⟨ks,rfl⟩
  .obtain⟨_,_,_,_,o,_,_,e,_⟩:=this;exact⟨o,e⟩
  .obtain⟨_,_,_,_,o,_,_,e,_⟩:=this;exact⟨o,e⟩
 refine⟨o,?_⟩;have ne:∀{b:Addr} {v:HO},H b=some v->v≠u->b≠a:=λ{b v} d h z=>by subst z;rw[e]at d;exact h (Bz d).symm
 have nn:∀{b:Addr},H b=none->b≠a:=λ{b} d z=>by subst z;rw[e]at d;cases d
 have f:∀b xs,H b=some (.tup xs)->aR H a (.frz o u) b=some (.tup xs):=λb xs eb=>by
  rw[bF (ne eb (λz=>by rcases hd with⟨ks,rfl⟩|⟨ks,rfl⟩<;>cases z))];exact eb
 have g:∀b y,H b=some (.own y)->aR H a (.frz o u) b=some (.own y):=λb y eb=>by
  rw[bF (ne eb (λz=>by rcases hd with⟨ks,rfl⟩|⟨ks,rfl⟩<;>cases z))];exact eb
 refine I.step (h':=s.heap) (g':=s.gens) (d':=s.drawn) (t':=s.toks) (ch:=[]) (λ_ z=>nomatch z) (λb o _ _ _ d _=>d) (λb o _ _ _ d _=>⟨o.slots,d⟩) (λb o _ _ n=>by rw[bF (nn n)];exact n) (λb o _ d=>⟨o,d⟩) f
  (λb ob v eb=>?_) (λb ps eb=>⟨#[],?_⟩) (λm i=>i) (λb v eb=>?_) I.bare
 .rw[bF (ne eb (λz=>by rcases hd with⟨ks,rfl⟩|⟨ks,rfl⟩<;>cases z))];exact eb
 .rw[bF (ne eb (λz=>by rcases hd with⟨ks,rfl⟩|⟨ks,rfl⟩<;>cases z)),eb];simp
 .by_cases hb:b=a
  .subst hb;rw[dO]at eb;cases eb;exact⟨j,(I.hok b u e).stay (λ_ _ _ q=>q) (λc q=>g c b q) f⟩
  .rw[bF hb]at eb;exact(I.hok b v eb).stay (λ_ _ _ q=>q) (λc q=>g c b q) f
def za6(Q:VK):VK:=λv H=>∃a u,v=.ref a/\H a=some u/\IsDict u/\∀o,Q v (aR H a (.frz o u))
theorem za7(h:PE X e t):PE X e (λZ H Q=>t Z H (za6 Q)):=λpins s Z H Q I q=>
 a5 (h pins s Z H _ I q) λv j ⟨x,k,d,b,a,u,l,i,c,f⟩=>by
  obtain⟨o,g⟩:=d.frzD i c;exact⟨x,_,g,b,f o⟩
def uZ(a:Addr)(o:Obj)(u:HO)(xs:List V):It:=
 ⟨λi H=>H a=some (.frz o u)/\i<xs.length,λi H x b=>b=H/\xs[i]? = some x,λi H=>H a=some (.frz o u)/\xs.length<=i⟩
theorem JG{P:Bt}{w:Ck}{K:Ac}{tg:Expr}(a it:Addr)(o:Obj)(u:HO)(xs:List V)(es:Array Jj)(ep:Nat)(hd:o.data=.dict es ep)(hn:es.size=xs.length)(hx:∀(i:Nat) (e:Jj),es[i]? = some e->∃x,xs[i]? = some x/\RelV x e.key):
  lN P w K tg (uZ a o u xs) [it] it (λi h=>h.IsKeyIter it a i es.size ep) where
 mem:=by simp
 obj:=λi h st b hb=>by
  have e:b=it:=by simpa using hb
  subst e;obtain⟨o,e,c,d⟩:=st;exact⟨o,e,λv z=>by rw[d]at z;cases z⟩
 keep:=λi h h' st k=>st.at λo e=>k it (by simp) o e
 item:=by
  intro X hP hw hK hc i pins s Z H E I hf st hg;subst hP hw hK;obtain⟨e1,hi⟩:=hg;have ho:s.heap.get? a=some o:=(show cL X.prog X.w H s.heap a (.frz o u) from I.hok a _ e1).1;have hi2:i<es.size:=by lia
  obtain⟨x,hx1,rx⟩:=hx i es[i] (by simp[hi2]);obtain⟨f0,f1,f2,f3,f4,f5⟩:=hf it (by simp);refine UY st ho hd hi2 λh' st' sb=>?_;have I1:Inv X pins Z H {s with heap:=h'}:=I.turned (t':=s.toks) (λb o hb e=>(sb.2 b hb).trans e) f0 f1 f3 f4 f5;obtain⟨o',e,c,d⟩:=id st';exact⟨_,rfl,tB (s:={s with heap:=h'}) e c d (by decide) ⟨x,H,I1,rx,⟨rfl,hx1⟩,st',λb hb=>(hf b hb).1⟩⟩
 done:=by
  intro X hP hw hK hc i pins s Z H E I hf st hg;subst hP hw hK;obtain⟨e1,hi⟩:=hg;have ho:s.heap.get? a=some o:=(show cL X.prog X.w H s.heap a (.frz o u) from I.hok a _ e1).1;refine UZ (I.ok.hd hc) st ho hd (by lia) λh' hk=>⟨rfl,?_⟩
  exact I.turnedT (tk:=s.toks) hf λq o hq eq=>hk q o (λz=>hq (by simp[z])) eq
 self:=λ_ _ _ _ _ st h=>wpAny_pyIter_keyiter st h
end
end L2
namespace L3
open PySem Spec PyProof.Rows L2
section
variable {X:Cx}{e:Expr}{te:aX}
def JH(t:aX):aX:=λb M R=>t b M λw a=>∃p,w=.ref p/\((∃kvs,a p=some (.dK kvs)/\R (.fk kvs) (del a p))\/∃kvs,a p=some (.dT kvs)/\R (.ft kvs) (del a p))
theorem JI{K:Ac}{H:Hp}{M:Mm}{p:Addr}{o:Obj}{u:HO}{x:MO}(c:AM K H M)(e:M p=some x)(hd:IsDict u)(f:H p=some u):Go H M (aR H p (.frz o u)) (del M p)/\AM K (aR H p (.frz o u)) (del M p)/\Kp H M (aR H p (.frz o u)) (del M p):=by
 have nn:∀{b:Addr},M b=none->b≠p:=λ{b} h z=>by subst z;rw[e]at h;cases h
 have go:Go H M (aR H p (.frz o u)) (del M p):=by
  refine⟨λb xs eb=>?_,λb ob v eb=>?_,λb v n eb=>?_⟩
  .rw[bF (nn (c.noTup eb))];exact eb
  .rw[bF (nn (c.noFrz eb))];exact eb
  .rw[bF (nn n),nU (nn n)];exact⟨eb,n⟩
 refine⟨go,λa d ea=>?_,λa v n ea=>?_,λa v ea=>?_⟩
 .have ne:a≠p:=λz=>by rw[z,oV]at ea;cases ea
  rw[nU ne]at ea;exact(c a d ea).go go (bF ne)
 .rw[bF (nn n),nU (nn n)];exact⟨ea,n⟩
 .by_cases ha:a=p
  .subst ha;exact⟨_,dO⟩
  .obtain⟨y,q⟩:=(c a v ea).has;exact⟨y,by rw[bF ha];exact q⟩
theorem za8(h:E3 X e te):E3 X e (JH te):=
 (za7 h).weak λZ H Q m=>m.el λj M R as l h k=>⟨j,M,_,as,l,h,λv n w s d a i ⟨p,hw,r⟩=>by
  subst hw;obtain rfl:=i.inv;rcases r with⟨kvs,e,r⟩|⟨kvs,e,r⟩
  .obtain⟨ks,f,q⟩:=a _ _ e;refine⟨p,.dK ks,rfl,f,.inl ⟨_,rfl⟩,λo=>?_⟩;obtain⟨g,b,c⟩:=JI (o:=o) a e (.inl ⟨_,rfl⟩) f;exact k _ _ _ _ (d.trans c) b (.fk dO q.keys (q.vals.go g)) r
  .obtain⟨ks,f,q⟩:=a _ _ e;refine⟨p,.dT ks,rfl,f,.inr ⟨_,rfl⟩,λo=>?_⟩;obtain⟨g,b,c⟩:=JI (o:=o) a e (.inr ⟨_,rfl⟩) f;exact k _ _ _ _ (d.trans c) b (.ft dO q.keys (q.vals.go g)) r⟩
def zK:W->Mm->(List W->(Mm->Prop)->Mm->Prop)->Prop
 | .fk kvs,a,R=>R (kvs.map λp=>wK p.1) (λ_=>True) a
 | .ft kvs,a,R=>R (kvs.map λp=>.tup (p.1.map wK)) (λ_=>True) a
 | _,_,_=>False
theorem JJ{K:Ac}{b:Hp}{f:Mm}{a:Addr}{o:Obj}{u:HO}{xs:List V}{ws:List W}(c:AM K b f)(e:b a=some (.frz o u))(g:aK K b f xs ws):jJ K b f (uZ a o u xs) ws λ_=>True:=by
 have st:∀H M,Kp b f H M->H a=some (.frz o u):=λH M k=>(k.fr _ _ (c.noFrz e) e).1;refine⟨λi H M k d _ hi=>⟨st H M k,by rw[g.length];exact hi⟩,λH M k d _=>⟨st H M k,by rw[g.length];exact Ai _⟩,λi H M x j k d _ hi y=>?_⟩;obtain⟨rfl,y⟩:=y;obtain⟨w,hw,h⟩:=(g.kp c k).getV y;exact⟨w,hw,Kp.refl d,d,h⟩
theorem za9{K:Ac}{H:Hp}{M:Mm}:∀k:aF,AV K H M (kV k) (wK k)
 | .inl i=>.int i
 | .inr x=>.str x
theorem zba(ok:cV P w H h)(e:H a=some (.frz o (.dK ks))):
  ∃es ep,qS h a es ep/\o.data=.dict es ep/\(a==Hi)=false/\es.size=ks.length/\∀(i:Nat) (en:Jj),es[i]? = some en->∃p,ks[i]? = some p/\RelV (kV p.1) en.key/\RelV p.2 en.val:=by
 obtain⟨g,hz,d,vs,b,G,es,ep,l,B,n,F,f,C⟩:=(show cL P w H h a (.frz o (.dK ks)) from ok a _ e);rw[g]at l;cases l;have D:=b.length;have z:=f.length;rw[Bx]at z;refine⟨es,ep,⟨o,g,B,n⟩,n,d,by lia,λi en c=>?_⟩;have hi:=(Mc.mp c).1;obtain⟨⟨k,x⟩,m⟩:∃v,vs[i]? = some v:=⟨_,Bf (by lia)⟩;obtain⟨z1,z2⟩:=f.get? (by rw[Dr];exact c) m;have:∀{ks:List (aF×V)} {vs:List (aF×Ae)} {i:Nat},KV ks vs->vs[i]? = some (k,x)->∃v,ks[i]? = some (k,v)/\RelV v x:=by
  intro ks vs i r
  induction r generalizing i with
  | nil=>intro h;simp at h
  | @cons p q ps qs j t u=>
   intro h;cases i with
   | zero=>simp at h;subst h;obtain⟨E,s⟩:=p;cases j.1;exact⟨s,rfl,j.2⟩
   | succ i=>rw[Fj]at h⊢;exact u h
 obtain⟨v,y,A⟩:=this b m;exact⟨(k,v),y,xE z1,by rw[z2];exact A⟩
theorem zbb(ok:cV P w H h)(e:H a=some (.frz o (.dT ks))):
  ∃es ep,qS h a es ep/\o.data=.dict es ep/\(a==Hi)=false/\es.size=ks.length/\∃as:List Addr,as.length=ks.length/\(∀(i:Nat) (p:List aF×V) (b:Addr),ks[i]? = some p->as[i]? = some b->H b=some (.tup (p.1.map kV)))/\
   ∀(i:Nat) (en:Jj),es[i]? = some en->∃p b,ks[i]? = some p/\as[i]? = some b/\en.key=.ref b/\RelV p.2 en.val:=by
 obtain⟨u,hz,l,xs,c,C,es,ep,m,A,s,n,D⟩:=(show cL P w H h a (.frz o (.dT ks)) from ok a _ e);rw[u]at m;cases m;have E:=Ot n;have B:=Fn c;refine⟨es,ep,⟨o,u,A,s⟩,s,l,by lia,xs.map λx=>x.2.1,by rw[Ab];lia,λi p b z hb=>?_,λi en d=>?_⟩
 .rw[Av]at hb;obtain⟨x,f,rfl⟩:=Bb.mp hb;have:∀{ks:List (List aF×V)} {xs:List (List aF×Addr×Ae)} {i:Nat},Hr (λ(p:List aF×V) (q:List aF×Addr×Ae)=>p.1=q.1/\H q.2.1=some (.tup (p.1.map kV))/\RelV p.2 q.2.2) ks xs->ks[i]? = some p->xs[i]? = some x->H x.2.1=some (.tup (p.1.map kV)):=by
   intro ks xs i r
   induction r generalizing i with
   | nil=>intro h;simp at h
   | @cons p q ps qs k t j=>
    intro h g;cases i with
    | zero=>simp at h g;subst h;subst g;exact k.2.1
    | succ i=>rw[Fj]at h g;exact j h g
  exact this c z f
 .rw[entry_at n i]at d;obtain⟨x,f,rfl⟩:=Bb.mp d;have:∀{ks:List (List aF×V)} {xs:List (List aF×Addr×Ae)} {i:Nat},Hr (λ(p:List aF×V) (q:List aF×Addr×Ae)=>p.1=q.1/\H q.2.1=some (.tup (p.1.map kV))/\RelV p.2 q.2.2) ks xs->xs[i]? = some x->∃p,ks[i]? = some p/\RelV p.2 x.2.2:=by
   intro ks xs i r
   induction r generalizing i with
   | nil=>intro h;simp at h
   | @cons p q ps qs k t j=>
    intro h;cases i with
    | zero=>simp at h;subst h;exact⟨p,rfl,k.2.2⟩
    | succ i=>rw[Fj]at h⊢;exact j h
  obtain⟨p,y,v⟩:=this c f;exact⟨p,x.2.1,y,by rw[Av,f];rfl,rfl,v⟩
theorem zbc{A:Expr}:mU X A (t5 X.K zK):=by
 rintro pins s Z H x u D I w ⟨C,M,R,y,g,h,k⟩;cases y<;>first|exact(show False from h).elim|skip
 case fk a o ks kvs e ke q=>
  cases (show u=Value.ref a from w);obtain⟨es,ep,n,hd,d,hsz,f⟩:=zba I.hok e;have fp:∀b∈[s.heap.objs.size],iA X pins H b:=λb hb=>by
   have e:b=s.heap.objs.size:=by simpa using hb
   subst e;exact I.fpOk (Ai _) (I.hok.fresh (Ai _))
  refine EX d n ⟨s.heap.objs.size,[s.heap.objs.size],_,uZ a o (.dK ks) (ks.map λp=>kV p.1),H,rfl,I.kept (t':=s.toks) λb o e=>Ah _ e,JG a _ o _ _ es ep hd (by rw[Ab];exact hsz) (λi en v=>?_),⟨_,Au _ rfl,rfl,rfl⟩,fp,k _ _ _ _ _ (Kp.refl g) g (JJ g e ?_) h⟩
  .obtain⟨p,m,j,_⟩:=f i en v;exact⟨kV p.1,by rw[Av,m];rfl,j⟩
  .have hk:(ks.map λp=>kV p.1)=(ks.map Fo).map kV:=by rw[Ca];rfl
   have hw:(kvs.map λp=>wK p.1)=(kvs.map Fo).map wK:=by rw[Ca];rfl
   rw[hk,hw,ke];generalize kvs.map Fo=l
   induction l with
   | nil=>exact .nil
   | cons z l t=>exact .cons (za9 z) t
 case ft a o ks kvs e ke q=>
  cases (show u=Value.ref a from w);obtain⟨es,ep,n,hd,d,hsz,as,hl,c,f⟩:=zbb I.hok e;have fp:∀b∈[s.heap.objs.size],iA X pins H b:=λb hb=>by
   have e:b=s.heap.objs.size:=by simpa using hb
   subst e;exact I.fpOk (Ai _) (I.hok.fresh (Ai _))
  refine EX d n ⟨s.heap.objs.size,[s.heap.objs.size],_,uZ a o (.dT ks) (as.map V.ref),H,rfl,I.kept (t':=s.toks) λb o e=>Ah _ e,JG a _ o _ _ es ep hd (by rw[Ab];lia) (λi en v=>?_),⟨_,Au _ rfl,rfl,rfl⟩,fp,k _ _ _ _ _ (Kp.refl g) g (JJ g e ?_) h⟩
  .obtain⟨p,b,m,j,B,_⟩:=f i en v;exact⟨.ref b,by rw[Av,j];rfl,by rw[B];rfl⟩
  .have hw:(kvs.map λp=>W.tup (p.1.map wK))=(ks.map Fo).map λz=>W.tup (z.map wK):=by rw[ke,Ca];rfl
   rw[hw];have:∀(ks:List (List aF×V)) (as:List Addr),as.length=ks.length->(∀(i:Nat) (p:List aF×V) (b:Addr),ks[i]? = some p->as[i]? = some b->H b=some (.tup (p.1.map kV)))->aK X.K H M (as.map V.ref) ((ks.map Fo).map λz=>W.tup (z.map wK)):=by
    intro ks
    induction ks with
    | nil=>intro as hl _;cases as with
     | nil=>exact .nil
     | cons b r=>simp at hl
    | cons p ks t=>
     intro as hl c;cases as with
     | nil=>simp at hl
     | cons b r=>
      refine .cons (.tup (c 0 p b rfl rfl) (HP p.1)) (t r (by simpa using hl) λi p b m j=>c (i+1) p b (by simpa using m) (by simpa using j))
   exact this ks as hl c
theorem zbd(hl:E3 X l a):PI X b l (g7 X.K (b6 zK a)):=xZ hl zbc
end
end L3
namespace PySem
namespace Dt
open PyProof.Rows L2 PySem.Spec
open Zd (TK allH HQ y0)
section
variable {prog:Bt}{w:Ck}{A:Co}{E:Ae->Ag->Prop}{s:Ag}
theorem call_pairs{c:Nat}{Q:Ae->Ag->Prop}(hh:A.handled=none)(hu:A.units+2<Gu)(hx:s.heap.get? l=some {cls:=.type "list",data:=.seq items c})(hn:ps.length=items.size)(hz:items.size<=An)(hkeys:∀p∈ps,(TK prog w).is s.heap p.1 p.2.1)(hp:∀(j:Nat) (p:List aF×Addr×Ae),ps[j]? = some p->∃(a:Addr),items[j]? = some (.ref a)/\s.heap.IsTuple a #[.ref p.2.1,p.2.2])(h:∀h' tk,(∀b o,s.heap.get? b=some o->h'.get? b=some o)->h'.DictOfH (TK prog w) s.heap.objs.size (allH [] ps)->Q (.ref s.heap.objs.size) {s with heap:=h',toks:=tk}):
  Bc (Bo prog w) A (call (.type "dict") [.ref l]) Q E s:=by
 have lk:∀p∈ps,@LT.lt Nat _ p.2.1 s.heap.objs.size:=λp hp=>by
  obtain⟨o,items,n,e,_⟩:=hkeys p hp;exact Az e
 refine Dp.callG (Dd:=λi h=>∃es,es=allH [] (ps.take i)/\h.DictOfH (TK prog w) s.heap.objs.size es/\es.length<=i/\∀e∈es,@LT.lt Nat _ e.2.1 s.heap.objs.size) hh hx ⟨[],rfl,Heap.DictOfH.new s.heap,Ai _,λ_ h=>nomatch h⟩ ?_ (λ{i t} hi hd ext=>?_) λh' tk e ⟨es,d1,d2,_⟩=>h h' tk e (by rw[<-hn,Cm]at d1;rw[<-d1];exact d2)
 .rintro i h h' ⟨es,he,⟨o,en,ep,ho,hc,hdd,hee,his,hnn⟩,hl,hes⟩ hm;exact⟨es,he,⟨o,en,ep,hm _ o (Ai _) ho,hc,hdd,hee,λx hx'=>y0 (his x hx') λo' e=>hm _ o' (Hj (hes x hx')) e,hnn⟩,hl,hes⟩
 obtain⟨es,he,hd,hl,hes⟩:=hd;obtain⟨p,hpi⟩:∃p,ps[i]? = some p:=⟨_,Bf (by lia)⟩;have hpm:p∈ps:=Bh hpi;obtain⟨a,g1,g2⟩:=hp i p hpi;refine⟨a,_,p.2.2,g1,g2,λk=>wpAny_dictSet_heap (knd:=TK prog w) (Gb (A:=A.in1) (show(A.units+1)+1<Gu from hu)) (y0 (hkeys p hpm) (ext _)) hd (λh2 d2 s2=>k h2 _ ⟨_,?_,d2,?_,λe he=>?_⟩ s2) (by lia)⟩
 .rw[he,Dp.take_at hpi];unfold allH;rw[Gy];rfl
 .have:=HQ es p.1 p.2.1 p.2.2;lia
 unfold Ph at he;split at he
 .obtain⟨e0,he0,rfl⟩:=Ax.mp he;rw[show(putAt p.1 p.2.2 e0).2.1=e0.2.1 by unfold putAt;split<;>rfl];exact hes e0 he0
 .rcases Bi.mp he with q|q
  .exact hes e q
  .rw[Ao.mp q];exact lk p hpm
end
end Dt
end PySem
namespace L3
open PySem Spec PyProof.Rows L2
section
variable {X:Cx}
def pZ(ps:List (List aF×W)):List W:=ps.map λp=>.tup [.tup (p.1.map wK),p.2]
theorem JK(I:L2.Inv X pins Z H s):∀{ps:List (List aF×W)} {vs:List V} {its:List Ae},aK X.K H M vs (pZ ps)->aT vs its->
  ∃(qs:List (List aF×Addr×V)) (rs:List (List aF×Addr×Ae)),bN X.K H M (List aF) (qs.map λq=>(q.1,q.2.2)) ps/\(∀q∈qs,H q.2.1=some (.tup (q.1.map kV)))/\Hr (λ(q:List aF×Addr×V) (p:List aF×Addr×Ae)=>q.1=p.1/\q.2.1=p.2.1/\RelV q.2.2 p.2.2) qs rs/\rs.length=its.length/\
   (∀z∈rs,H z.2.1=some (.tup (z.1.map kV)))/\∀(j:Nat) (p:List aF×Addr×Ae),rs[j]? = some p->∃(a:Addr),its[j]? = some (.ref a)/\s.heap.IsTuple a #[.ref p.2.1,p.2.2]
 | [],_,_,.nil,.nil=>⟨[],[],.nil,(λq c=>nomatch c),.nil,rfl,(λq c=>nomatch c),λj p h=>by simp at h⟩
 | (k,w)::ps,_,_,.cons A d,.cons m f=>by
  obtain⟨qs,rs,C,n,E,D,t,r⟩:=JK I d f;obtain⟨a,xs,F,e,q⟩:=A.inv;rw[F]at m;obtain⟨J,v,ex,a1,a2⟩:=q.two;obtain⟨b,G,y,eb,u⟩:=a1.inv;rw[u.keys]at eb;obtain⟨g,i,pl,_⟩:=I.tuple (bV.of e);rw[ex,y]at i;obtain⟨o,B,x,x1,x2⟩:=vals2 i;rw[x,show o=.ref b from x1]at pl;refine⟨(k,b,v)::qs,(k,b,B)::rs,.cons ⟨rfl,a2⟩ C,List.forall_mem_cons.mpr ⟨eb,n⟩,.cons ⟨rfl,rfl,x2⟩ E,congrArg (· + 1) D,List.forall_mem_cons.mpr ⟨eb,t⟩,λj p l=>?_⟩;cases j with
  | zero=>rw[<-Bz l];exact⟨a,congrArg some m,pl⟩
  | succ j=>exact r j p l
def JL:List W->Mm->K3->Prop
 | [.rl ws],M,R=>∃ps:List (List aF×W),ws=pZ ps/\ws.length<=An/\kU (pQ [] ps) M R
 | _,_,_=>False
theorem zbe(hc:X.calm=true)(C:X.A.units+2<Gu):cQ X (.type "dict") (gC X.K JL):=by
 rintro pins s Z H xs us Q I rs ⟨ws,M,R,w,i,h,k⟩
 match ws,h with
 | [.rl ws],h=>
  obtain⟨v,rfl,J⟩:=i.one;obtain⟨ps,rfl,hz,r⟩:=h;obtain⟨u,rfl,ru⟩:=vals1 rs;cases J with
  | rl f n q=>
   cases ru;obtain⟨z,its,c,U,hl,e⟩:=I.lstM f;obtain⟨qs,m,y,h2,Y,O,F,E⟩:=JK I q U;have hz2:ps.length<=An:=by simpa [pZ] using hz
   have hql:qs.length=ps.length:=by have:=Fn y;rwa [Ab]at this
   refine Dt.call_pairs (items:=its.toArray) (ps:=m) (I.ok.hd hc) C e (by simpa using O) (by rw[Ay];lia) (λp S=>j5 I.hok (F p S)) (λj p T=>by simpa using E j p T) λh' tk hk K=>?_;have a:=I.hok.fresh (Ai _);have len:=HR (qs.map λq=>(q.1,q.2.2)) [];rw[Ab]at len;have b:∀{ps:List (List aF×W)} {qs:List (List aF×V)} {ks:List (List aF×V)} {kvs:List (List aF×W)},bN X.K H M (List aF) qs ps->bN X.K H M (List aF) ks kvs->bN X.K H M (List aF) (oF ks qs) (pQ kvs ps):=by
    intro ps qs ks kvs h
    induction h generalizing ks kvs with
    | nil=>intro h;exact h
    | @cons q p qs ps r t L=>
     intro h;obtain⟨N,q2⟩:=q;obtain⟨p1,p2⟩:=p;obtain⟨rfl,d⟩:=r;exact L (tW h N d)
   have g:=b (ks:=[]) (kvs:=[]) y .nil;refine⟨.ref s.heap.objs.size,aR H s.heap.objs.size (.dT (oF [] (qs.map λq=>(q.1,q.2.2)))),I.laid (o:=.dT (oF [] (qs.map λq=>(q.1,q.2.2)))) (t':=tk) hk (Ai _) ⟨by simp at len;lia,beq_eq_false_iff_ne.mpr (Bw (Bu I.big)),_,(YQ Y h2 .nil).keeps λc ys x=>?_,?_⟩,rfl,?_⟩
   .rw[bF (fH x a)];exact x
   .obtain⟨o,en,ep,G,d,r3,D,_,P⟩:=K;exact⟨o,en,ep,G,d,r3,D,P⟩
   .obtain⟨l,B⟩:=w.laid (o:=.dT (pQ [] ps)) (u:=.dT (oF [] (qs.map λq=>(q.1,q.2.2)))) a ⟨_,dO,qT g.keys (g.vals.newL a)⟩;exact k _ _ _ _ B l (.ref _) (r _ (w.nonM a))
end
end L3
namespace Srt
open PySem SetTable
def mB(xs:Array Nat):Prop:=∀i j (hi:i<xs.size) (a:j<xs.size),i<j->xs[i]<xs[j]
theorem zbf{l:List Nat}(h:l.Pairwise (· < ·)):mB l.toArray:=by
 intro i j hi b a;simp only[List.getElem_toArray];exact Js.mp h i j (by simpa using hi) (by simpa using b) a
theorem zL{j:Nat}(f:mB xs):∀(a lo hi:Nat),hi-lo<=a->lo<=hi->hi<=xs.size->(∀i (h:i<xs.size),i<lo->xs[i]<j)->(∀i (h:i<xs.size),hi<=i->j<=xs[i])->
  below.go xs j a lo hi<=xs.size/\(∀i (h:i<xs.size),i<below.go xs j a lo hi->xs[i]<j)/\∀i (h:i<xs.size),below.go xs j a lo hi<=i->j<=xs[i]
 | 0,lo,hi,hf,hl,d,g,k=>by
  have:lo=hi:=by lia
  subst this;exact⟨d,g,k⟩
 | a+1,lo,hi,hf,hl,d,g,k=>by
  unfold below.go
  by_cases h:lo<hi
  .rw[if_pos h];have l:(lo+hi)/2<xs.size:=by lia
   have e:xs.getD ((lo+hi)/2) j=xs[(lo+hi)/2]:=by simp[Array.getD,l]
   dsimp only;rw[e]
   by_cases c:xs[(lo+hi)/2]<j
   .rw[if_pos c];refine zL f a _ hi (by lia) (by lia) d (λi b o=>?_) k
    by_cases m:i=(lo+hi)/2
    .subst m;exact c
    .exact Nat.lt_trans (f i _ b l (by lia)) c
   .rw[if_neg c];refine zL f a lo _ (by lia) (by lia) (by lia) g λi b n=>?_
    by_cases m:i=(lo+hi)/2
    .subst m;exact Nat.le_of_not_lt c
    .exact Ar (Nat.le_of_not_lt c) (Hj (f _ i l b (by lia)))
  .rw[if_neg h];have:lo=hi:=by lia
   subst this;exact⟨d,g,k⟩
theorem zM(a:mB xs)(j:Nat):below xs j<=xs.size/\(∀i (h:i<xs.size),i<below xs j->xs[i]<j)/\∀i (h:i<xs.size),below xs j<=i->j<=xs[i]:=
 zL a xs.size 0 xs.size (by lia) (Bk _) (Ai _) (λi _ h=>by lia) λi c b=>by lia
theorem zbg(a:mB xs){i:Nat}(h:i<xs.size):below xs (xs[i]+1)=i+1:=by
 obtain⟨b1,b2,b⟩:=zM a (xs[i]+1);rcases Nat.lt_trichotomy (below xs (xs[i]+1)) (i+1) with c|c|c
 .have:=b i h (by lia);lia
 .exact c
 .have h':i+1<xs.size:=by lia
  have:=b2 (i+1) h' c;have:=a i (i+1) h h' (by lia);lia
theorem zbh(a:mB xs):below xs 0=0:=by
 obtain⟨b1,b2,b⟩:=zM a 0;rcases Nat.eq_zero_or_pos (below xs 0) with c|c
 .exact c
 .have:=b2 0 (by lia) c;lia
theorem zbi{j:Nat}(m:mB xs)(v:xs[below xs j]?≠some j):mB (insertAt xs (below xs j) j):=by
 obtain⟨b1,b2,r⟩:=zM m j;have k:∀i (h:i<xs.size),below xs j<=i->j<xs[i]:=λi h n=>by
  have q:=r i h n;rcases Nat.lt_or_ge j xs[i] with c|c
  .exact c
  .have e:xs[i]=j:=by lia
   by_cases hb:i=below xs j
   .exact(v (by rw[<-hb,getElem?_pos xs i h,e])).elim
   .have g:below xs j<xs.size:=by lia
    have:=m (below xs j) i g h (by lia);have:=r (below xs j) g (Ai _);lia
 have d:∀i (h:i<xs.size),xs.getD i 0=xs[i]:=λi h=>by simp[Array.getD,h]
 have hz:(insertAt xs (below xs j) j).size=xs.size+1:=by unfold insertAt;simp;lia
 have a:∀i (h:i<(insertAt xs (below xs j) j).size),(insertAt xs (below xs j) j)[i]=if i<below xs j then xs.getD i 0 else if i=below xs j then j else xs.getD (i-1) 0:=by
  intro i h;have h':i<xs.size+1:=by rw[<-hz];exact h
  have u:(xs.extract 0 (below xs j)).size=below xs j:=by simp;lia
  unfold insertAt at h⊢
  by_cases b:i<below xs j
  .rw[if_pos b,Array.getElem_append_left (by simp;lia),Array.getElem_push_lt (by lia),d i (by lia)];simp
  .rw[if_neg b]
   by_cases f:i=below xs j
   .rw[if_pos f,Array.getElem_append_left (by simp;lia),Array.getElem_push,dif_neg (by lia)]
   .rw[if_neg f,Array.getElem_append_right (by simp;lia),d (i-1) (by lia)];simp only[Array.size_push,u,Array.getElem_extract];congr 1;lia
 intro p q s t o;rw[a p s,a q t];rw[hz]at s t
 by_cases b:p<below xs j
 .rw[if_pos b,d p (by lia)]
  by_cases f:q<below xs j
  .rw[if_pos f,d q (by lia)];exact m p q _ _ o
  .rw[if_neg f]
   by_cases l:q=below xs j
   .rw[if_pos l];exact b2 p _ b
   .rw[if_neg l,d (q-1) (by lia)];exact Nat.lt_trans (b2 p _ b) (k (q-1) _ (by lia))
 .rw[if_neg b,if_neg (show ¬q<below xs j by lia),if_neg (show ¬q=below xs j by lia),d (q-1) (by lia)]
  by_cases l:p=below xs j
  .rw[if_pos l];exact k (q-1) _ (by lia)
  .rw[if_neg l,d (p-1) (by lia)];exact m (p-1) (q-1) _ _ (by lia)
def sA(t:Hw)(j:Nat):Prop:=t.place[below t.place j]?≠some j
theorem JM{j:Nat}(h:t.slot j=.empty\/t.slot j=.dummy):sA t j:=by
 intro e;unfold SetTable.slot at h;simp[e]at h
theorem zO{f:Nat->Int}{h:Int}:∀(fuel:Nat) (p:Probe) {j:Nat} {d:Option Nat},probe.go t f h fuel p=some (.empty j d)->(∀x,p.dummy=some x->sA t x)->sA t j/\∀x,d=some x->sA t x
 | 0,p,j,d,e,_=>by simp[probe.go]at e
 | fuel+1,p,j,d,e,hd=>by
  unfold probe.go at e;have adv:∀q:Probe,(t.advance q).dummy=q.dummy:=λq=>by unfold advance;split<;>rfl
  cases hs:t.slot p.j with
  | empty=>
   rw[hs]at e;simp only[Es,Met.empty.injEq]at e;obtain⟨rfl,rfl⟩:=e;exact⟨JM (.inl hs),hd⟩
  | dummy=>
   rw[hs]at e;refine zO fuel _ e λx hx=>?_;rw[adv]at hx;cases hx;exact JM (.inr hs)
  | live i=>
   rw[hs]at e;dsimp only at e;split at e
   .cases e
   .exact zO fuel _ e λx hx=>hd x (by rw[adv]at hx;exact hx)
theorem zbj{h:Int}{j:Nat}{b:Bool}(e:t.freeSlot h=some (j,b)):sA t j:=by
 unfold freeSlot at e;split at e
 .next j' d hp=>
  simp only[Es,Ds]at e;obtain⟨f,a⟩:=zO _ _ hp λx c=>by simp[probeStart]at c
  cases d with
  | none=>rw[<-e.1];exact f
  | some x=>rw[<-e.1];exact a x rfl
 .cases e
def Good(b:Bool)(t:Hw):Prop:=mB t.place/\t.led=b
theorem zbk(n:Nat):mB (Array.range n):=by
 intro i j hi b a;simpa using a
theorem u0{b:Bool}{t:Hw}(h:t.led=b)(n:Nat):Good b (t.standIn n):=⟨zbk n,h⟩
theorem zbl{b:Bool}{t:Hw}(a:Good b t)(es:Array (Int×Ae))(h:Int)(x:Ae):Good b (layNew t es h x).2.1:=by
 unfold layNew;split
 .next j w e=>
  dsimp only;unfold orStandIn;split
  .exact⟨zbi a.1 (zbj e),a.2⟩
  .exact u0 (t:=(t.put j).1) a.2 _
 .exact u0 a.2 _
theorem zbm{b:Bool}{t:Hw}(h:Good b t)(es:Array (Int×Ae))(n:Nat):Good b (relayAll t es n).2.1:=by
 unfold relayAll;split
 .next t' order e=>
  dsimp only;split
  .unfold relaid laid at e;simp only[Option.bind_eq_bind,Option.bind_eq_some_iff]at e;obtain⟨owner,_,e⟩:=e;simp only[Option.pure_def,Es,Ds]at e;obtain⟨rfl,_⟩:=e;refine⟨zbf ?_,h.2⟩;rw[List.map_filterMap];have:∀l:List Nat,l.Pairwise (· < ·)->∀f:Nat->Option Nat,(∀a c,f a=some c->c=a)->(l.filterMap f).Pairwise (· < ·):=by
    intro l hl f hf;refine List.Pairwise.filterMap (R:=(· < ·)) f (λa j d c hc i g=>?_) hl;rw[hf a c hc,hf j i g];exact d
   refine this _ List.pairwise_lt_range _ λa c hc=>?_;simp only[Option.map_map,Bb]at hc;obtain⟨_,_,rfl⟩:=hc;rfl
  .exact u0 h.2 _
 .exact u0 h.2 _
end Srt
namespace Srt
open PySem PyProof.Rows
def Dj(prog:Bt)(w:Ck)(es:List (Int×Ae)):Prop:=es.Pairwise λe a=>∀k,(Fb prog w).is k e.2=true->(Fb prog w).is k a.2=true->False
def Nz(prog:Bt)(w:Ck)(es:Array (Int×Ae))(n:Nat):Prop:=es.size<=n/\Dj prog w es.toList
theorem Dj.perm(h:Dj prog w es)(p:c.Perm es):Dj prog w c:=p.symm.pairwise h λq k a b=>q k b a
def gS(prog:Bt)(w:Ck)(h:Heap)(a:Addr)(S:Int->Prop)(n:Nat)(b:Bool):Prop:=
 ∃o es ep t,h.get? a=some o/\o.ExactSet/\o.data=.set es ep t/\ElemsOf (Fb prog w) es.toList/\(∀k,S k↔∃e∈es.toList,(Fb prog w).is k e.2=true)/\Nz prog w es n/\t.fits es.size=true/\Good b t
section
variable {prog:Bt}{w:Ck}{A:Co}{E:Ae->Ag->Prop}{s:Ag}{a:Addr}{b:Bool}
theorem gS.at{S:Int->Prop}{n:Nat}(x:gS prog w h a S n b)(e:∀o,h.get? a=some o->h'.get? a=some o):gS prog w h' a S n b:=
 let ⟨o,es,ep,t,ho,r⟩:=x;⟨o,es,ep,t,e o ho,r⟩
theorem JN{ep:Nat}{S:Int->Prop}{n:Nat}{Q:Unit->Ag->Prop}(ho:s.heap.get? a=some o)(hx:o.ExactSet)(hd:o.data=.set es ep t)(he:ElemsOf (Fb prog w) es'.toList)(hm:∀k,S k↔∃e∈es'.toList,(Fb prog w).is k e.2=true)(hz:es'.size<=n)(hb:es'.size<Pm)(hf:t'.fits es'.size=true)(hg:Good b t')(h:∀h' o',Dk a s.heap h'->h'.get? a=some o'->o'.ExactSet->(∃ep',o'.data=.set es' ep' t')->Q () {s with heap:=h'}):Bc (Bo prog w) A (storeSet a es' t') Q E s:=by
 refine wpAny_storeSet_of ho hd ?_ (fits_of_scanBound hb);obtain⟨ho1,_⟩:=SetOf_store (knd:=Fb prog w) (S':=λk=>es'.toList.any λe=>(Fb prog w).is k e.2) ho hx hd he (λk=>by rw[Jq]) hb hf;exact h _ _ (Ce s.heap a (Obj.putSet es' t')) ho1 hx ⟨_,rfl⟩
theorem zbn{S:Int->Prop}{n:Nat}{k:Int}{Q:Bool->Ag->Prop}(hk:(Fb prog w).is k x=true)(hc:x.scannable=true)(hS:gS prog w s.heap a S n b)(hn:n+1<Pm)(h:∀c h',Dk a s.heap h'->gS prog w h' a (λk'=>S k'\/k'=k) (n+1) b->Q c {s with heap:=h'}):Bc (Bo prog w) A (setAddHashed a x ((Fb prog w).hash k)) Q E s:=by
 obtain⟨o,es,ep,t,ho,hx,hd,he,hm,hz,hf,hg⟩:=hS;unfold setAddHashed setAddHashedIn;refine Ct (Aa (Gi ho hd hf ?_));dsimp only;have hz0:=hz.1;rw[byScan_of hc (by lia) he];simp only[↓reduceIte];unfold setAddByScan;refine Aa (Aa (Ey (Aa (wpAny_setScan_of hk ho hd hf he ?_))));cases hr:List.findIdx? (λe=>(Fb prog w).is k e.2) es.toList with
 | some j=>
  obtain⟨hj,hpj,_⟩:=List.findIdx?_eq_some_iff_getElem.mp hr;have hSk:S k:=(hm k).mpr ⟨es.toList[j],Jp hj,hpj⟩;refine Af (Af ?_);exact h false s.heap (Heap.SameBut.refl a s.heap) ⟨o,es,ep,t,ho,hx,hd,he,λk'=>⟨λq=>(hm k').mp (q.elim id λe=>e▸hSk),λq=>.inl ((hm k').mpr q)⟩,⟨by have:=hz.1;lia,hz.2⟩,hf,hg⟩
 | none=>
  dsimp only;have hp:=layNew_perm t es ((Fb prog w).hash k) x;have hl:=layNew_fits t es ((Fb prog w).hash k) x;have hgl:=zbl hg es ((Fb prog w).hash k) x;generalize layNew t es ((Fb prog w).hash k) x=L at hp hl hgl⊢;obtain⟨e1,t1,wd,gv⟩:=L;dsimp only at hp hl hgl⊢;rw[Hs]at hp;have he1:ElemsOf (Fb prog w) e1.toList:=(he.push hk hc).perm hp;have hz1:e1.size=es.size+1:=by rw[<-Bx,hp.length_eq,Aj,Bx];rfl
  have hm1:∀k',(S k'\/k'=k)↔∃e∈e1.toList,(Fb prog w).is k' e.2=true:=λk'=>by
   have q:=mem_push_iff (S:=λk=>es.toList.any λe=>(Fb prog w).is k e.2) hk (λk'=>by rw[Jq]) hp k';rw[<-q,Bool.or_eq_true,decide_eq_true_eq,Jq,hm k']
  have dj1:Dj prog w e1.toList:=Dj.perm (List.pairwise_append.mpr ⟨hz.2,List.pairwise_singleton _ _,λe he e' he' k1 a1 a2=>by
   cases Ao.mp he';have:k1=k:=of_decide_eq_true ((KeyKind.is_eq_decide hk k1).symm.trans a2);subst this;have:=List.findIdx?_eq_none_iff.mp hr e he;rw[a1]at this;cases this⟩) hp
  have gw:∀(c:Bool) {s1:Ag} {Q':Unit->Ag->Prop},Q' () s1->Bc (Bo prog w) A (match c with|true=>rule "set.scan.the-table-gave-way" | false=>pure ()) Q' E s1:=
   λc s1 Q' q=>by cases c<;>first|exact Af q|exact Ey q
  refine Aa (gw _ ?_);have fin:∀t2:Hw,t2.fits e1.size=true->Good b t2->∀h' o',Dk a s.heap h'->h'.get? a=some o'->o'.ExactSet->(∃ep',o'.data=.set e1 ep' t2)->gS prog w h' a (λk'=>S k'\/k'=k) (n+1) b:=
   λt2 hf2 hg2 h' o' _ h1 h2 ⟨ep',h3⟩=>⟨o',e1,ep',t2,h1,h2,h3,he1,hm1,⟨by lia,dj1⟩,hf2,hg2⟩
  have hb1:e1.size<Pm:=by lia
  have tl:∀{t2:Hw} {R:Option Bool->Ag->Prop} {g:Bool->Sem Unit},(∀(c:Bool) (s1:Ag) (Q':Unit->Ag->Prop),Q' () s1->Bc (Bo prog w) A (g c) Q' E s1)->t2.fits e1.size=true->Good b t2->
    (∀h',Dk a s.heap h'->gS prog w h' a (λk'=>S k'\/k'=k) (n+1) b->R (some true) {s with heap:=h'})->Bc (Bo prog w) A (do
     storeSet a e1 t2
     if (!wd&&t2.tooFull)=true then do
       g (relayAll t2 e1 (Iv e1.size)).2.2
       storeSet a (relayAll t2 e1 (Iv e1.size)).1 (relayAll t2 e1 (Iv e1.size)).2.1
       pure (some true)
      else pure (some true)) R E s:=by
   intro t2 R g hgo hf2 hg2 hR;refine Aa (JN (S:=λk'=>S k'\/k'=k) (n:=n+1) ho hx hd he1 hm1 (by lia) hb1 hf2 hg2 λh1 o1 sb1 ho1 hx1 hd1=>?_);obtain⟨ep1,hd1⟩:=hd1;split
   .have hp2:=relayAll_perm t2 e1 (Iv e1.size);have hf3:=relayAll_fits t2 e1 (Iv e1.size);have hg3:=zbm hg2 e1 (Iv e1.size);generalize relayAll t2 e1 (Iv e1.size)=L2 at hp2 hf3 hg3⊢;obtain⟨e2,t3,gv2⟩:=L2;dsimp only at hp2 hf3 hg3⊢;have hz2:e2.size=e1.size:=by rw[<-Bx,hp2.length_eq,Bx]
    have hm2:∀k',(S k'\/k'=k)↔∃e∈e2.toList,(Fb prog w).is k' e.2=true:=λk'=>(hm1 k').trans ⟨λ⟨e,q1,q2⟩=>⟨e,hp2.mem_iff.mpr q1,q2⟩,λ⟨e,q1,q2⟩=>⟨e,hp2.mem_iff.mp q1,q2⟩⟩;refine Aa (hgo _ _ _ ?_);refine Aa (JN (s:={s with heap:=h1}) (S:=λk'=>S k'\/k'=k) (n:=n+1) ho1 hx1 hd1 (he1.perm hp2) hm2 (by lia) (by lia) hf3 hg3 λh2 o2 sb2 ho2 hx2 hd2=>Af ?_);obtain⟨ep2,hd2⟩:=hd2;exact hR h2 (sb1.trans sb2) ⟨o2,e2,ep2,t3,ho2,hx2,hd2,he1.perm hp2,hm2,⟨by lia,dj1.perm hp2⟩,hf3,hg3⟩
   .exact Af (hR h1 sb1 (fin t2 hf2 hg2 h1 o1 sb1 ho1 hx1 ⟨ep1,hd1⟩))
  have gw2:∀(c:Bool) (s1:Ag) (Q':Unit->Ag->Prop),Q' () s1->Bc (Bo prog w) A (match c with|true=>rule "set.scan.the-table-gave-way" | false=>pure ()) Q' E s1:=λc s1 Q' q=>gw c q;split
  .refine Aa ?_;rw[hashByValue_scannable 8 hc];refine Af (tl gw2 ?_ ?_ λh' sb r=>Af (h true h' sb r))
   .split
    .exact hl
    .exact SetTable.fits_plain_off hl
   .split
    .exact hgl
    .exact hgl
  .refine Aa (Af ?_);simp only[↓reduceIte];exact tl gw2 hl hgl λh' sb r=>Af (h true h' sb r)
end
def kI(w:Ck):Bool:=!w.params.followText "set-order"
abbrev lI(w:Ck):Obj:={cls:=.type "set",dict:=none,data:=.set #[] 0 (.fresh 0 0 (kI w))}
section
variable {prog:Bt}{w:Ck}{A:Co}{E:Ae->Ag->Prop}{s:Ag}
theorem zbo(e:h.get? a=some (lI w)):gS prog w h a (λ_=>False) 0 (kI w):=
 ⟨_,#[],0,_,e,⟨rfl,rfl,rfl⟩,rfl,λe b=>by simp at b,λk=>by simp,⟨Ai _,.nil⟩,by rfl,λi j hi=>by simp[SetTable.fresh]at hi,rfl⟩
theorem zbp(a:Ae){Q₁:Ae->Ag->Prop}(h:Q₁ (.ref s.heap.objs.size) {s with heap:=s.heap.push (lI w)}):
  Jo (Bo prog w) A (.call (.builtin "set.__new__") ⟨[.type "set",a],[]⟩) (wants Q₁ E) s:=by
 refine codeAny_of_tree ?_;show Bc _ A.in1 (checkBuiltinCall "set.__new__" ⟨[.type "set",a],[]⟩>>=λ_=>again (.builtin "set.__new__" ⟨[.type "set",a],[]⟩)) _ _ s;refine Aa (Pd (F.newCall_set_1 a) (Af ⟨Gw F.plain_set_new _,Gr F.entry_set_new ?_⟩));rw[Fl F.plain_set_new _];unfold Iz.«set.__new__» Builtin.Frozenset.newClass;have hsub:=sub_set_self;obtain⟨hp,g,d,tk,os⟩:=s;dsimp only
 wp_walk
 refine Gf (Af ?_);dsimp only;simp only[newObj];exact Aa (wpAny_alloc (Af (Af h)))
end
theorem JO:∀{es:List (Int×Ae)},ElemsOf (Fb prog w) es->Dj prog w es->∀V:List Int,(∀k,(∃e∈es,(Fb prog w).is k e.2=true)->k∈V)->es.length<=V.length
 | [],_,_,_,_=>Bk _
 | e::es,c,hd,V,h=>by
  obtain⟨⟨k,hk,_⟩,_⟩:=c e Be;have a:=List.pairwise_cons.mp hd;have b:k∈V:=h k ⟨e,Be,hk⟩;have:=JO (es:=es) (λx j=>c x (Ap _ j)) a.2 (V.erase k) λd ⟨i,f,g⟩=>(List.mem_erase_of_ne λz=>a.1 i f d (by rw[z];exact hk) g).mpr (h d ⟨i,Ap _ f,g⟩);rw[List.length_erase_of_mem b]at this;have:=List.length_pos_of_mem b;rw[Bp];lia
section
variable {prog:Bt}{w:Ck}{A:Co}{R:Result->Ag->Prop}{I:Addr}{fp wr:List Addr}{G:Array GenState->Array GenState->Prop}{n:Nat}{P:Nat->Ae->Prop}{St:Nat->Ag->Prop}{b:Bool}
theorem zbq(W:WalksS prog w A.in1 I fp wr G n P St)(S:Addr)(hSf:S∉fp)(val:Nat->Int)(V:List Int)(vl:∀i v,P i v->∃t,v=.int (val i) t)(hV:∀i,i<n->val i∈V)(hb:V.length+1<Pm):∀(k i:Nat) (s:Ag),n-i=k->i<=n->St i s->
  gS prog w s.heap S (λx=>∃j,j<i/\x=val j) V.length b->(∀s',Moved (S::wr) G s s'->gS prog w s'.heap S (λx=>∃j,j<n/\x=val j) V.length b->R (.ok (.ret .none)) s')->
  Jo (Bo prog w) A (.builtin "set.update.loop" ⟨[.ref S,.ref I],[]⟩) R s:=by
 have nw:S∉wr:=λh=>hSf (W.sub _ h);have sb:∀c∈wr,c∈S::wr:=λc hc=>Ap _ hc;intro k
 induction k with
 | zero=>
  intro i s hk hi at0 hS hR;cases (show i=n by lia);refine Gr F.entry_set_update_loop ?_;rw[Fl Nu _];refine Aa (W.done s _ _ at0 λs' hm=>?_);exact Af (hR s' (hm.mono sb) (hS.at λo e=>hm.heap S o nw e))
 | succ k ih=>
  intro i s hk hi at0 hS hR;refine Gr F.entry_set_update_loop ?_;rw[Fl Nu _];refine Aa (W.item i s _ _ (by lia) at0 λv s' hP hst' hm=>?_);obtain⟨t,rfl⟩:=vl i v hP;show Bc _ A.in1 (Jn [Value.int (val i) t] (setAdd S (.int (val i) t))>>=_) _ _ s';refine Aa (Ct ?_);unfold setAdd;refine Ct (Aa ((Fb prog w).pyHash (k:=val i) (intKind_is _ _ _ _) ?_));refine zbn (b:=b) (s:={s' with toks:=s'.toks+1}) (intKind_is _ _ _ _) rfl (hS.at λo e=>hm.heap S o nw e) hb λc h' hsb hS2=>?_;have hS3:gS prog w h' S (λx=>∃j,j<i+1/\x=val j) V.length b:=by
   obtain⟨o,es,ep,tb,q1,q2,q3,q4,q5,q6,q7⟩:=hS2;refine⟨o,es,ep,tb,q1,q2,q3,q4,λx=>(show _↔_ from ?_).trans (q5 x),⟨JO q4 q6.2 V λx hx=>?_,q6.2⟩,q7⟩
   rotate_left
   .rcases(q5 x).mpr hx with⟨j,hj,rfl⟩|rfl
    .exact hV j (by lia)
    .exact hV i (by lia)
   constructor
   .rintro⟨j,hj,rfl⟩
    by_cases e:j=i
    .exact .inr (by rw[e])
    .exact .inl ⟨j,by lia,rfl⟩
   .rintro(⟨j,hj,rfl⟩|rfl)
    .exact⟨j,by lia,rfl⟩
    .exact⟨i,by lia,rfl⟩
  refine Af ⟨Gw Nu _,ih (i+1) _ (by lia) (by lia) (W.frame _ s' _ _ hst' (Ll _) λc hc o e=>?_) hS3 λs'' hm'' hS''=>?_⟩
  .rw[hsb.2 c (λh:c=S=>hSf (by rw[<-h];exact hc))];exact e
  .refine hR s'' (Moved.trans W.gtrans ((hm.mono sb).then_heap (Ll _) λc o hc e=>?_) hm'') hS'';rw[hsb.2 c (λh:c=S=>hc (by rw[h];exact Be))];exact e
end
section
variable {prog:Bt}{w:Ck}{A:Co}{E:Ae->Ag->Prop}{s:Ag}
theorem zbr{Q:Ae->Ag->Prop}(V:List Int)(hV:∀x∈ns,x∈V)(hh:A.handled=none)(hl:s.heap.IsList l items)(hi:Hh items.toList ns)(hb:V.length+1<Pm)(h:∀(h':Heap) (tk:Nat),gS prog w h' s.heap.objs.size (λx=>x∈ns) V.length (kI w)->(∀c o,c<s.heap.objs.size->s.heap.get? c=some o->h'.get? c=some o)->Q (.ref s.heap.objs.size) {s with heap:=h',toks:=tk}):
  Bc (Bo prog w) A (call (.type "set") [.ref l]) Q E s:=by
 obtain⟨c,ml0,mr0⟩:=Jy.mro;have md0:=Jy.made;have hsub:=Jy.sub;refine wpAny_call (codeAny_of_tree ?_);show Bc _ _ (callAny (.type "set") _) _ _ _;refine Af ⟨Code.quiet_builtin _ (by decide +kernel),Gr F.entry_type_call ?_⟩;rw[Around.under_plain (weight_type_call_type "set" [.ref l] []) rfl];have h1:=Jy.notType;have h2:=Jy.canCreate;have tc0:=F.typeCall_set_1 (.ref l)
 repeat (any_goals (first|assumption|wp_step))
 refine Lf (zbp (w:=w) (.ref l) (E:=E) (Q₁:=λobj s1=>obj=.ref s.heap.objs.size/\s1 = {s with heap:=s.heap.push (lI w)}) ⟨rfl,rfl⟩) λr s1 hr=>?_;cases r with
 | error e=>exact hr
 | ok fl=>
  cases fl with
  | ret obj=>
   obtain⟨rfl,rfl⟩:=hr;have hS:(s.heap.push (lI w)).get? s.heap.objs.size=some (lI w):=Au _ rfl;have hT:Shared.TypeIs {s with heap:=s.heap.push (lI w)} (.ref s.heap.objs.size) "set":=⟨_,hS,rfl⟩;have in1:=Jy.init.lookup;have in2:=Jy.init.bind (.ref s.heap.objs.size)
   repeat (any_goals (first|assumption|wp_step))
   refine Lf (codeAny_call_builtin (R:=wants (λr s2=>r=.none/\∃h' tk,s2 = {s with heap:=h',toks:=tk}/\gS prog w h' s.heap.objs.size (λx=>x∈ns) V.length (kI w)/\(∀c o,c<s.heap.objs.size->s.heap.get? c=some o->h'.get? c=some o)) E)
    Jy.init.plain F.entry_set_init (check_set_init_1 hT ?_)) λr2 s2 rz=>?_
   .have hlt:l<s.heap.objs.size:=by obtain⟨ol,hol,_⟩:=hl;exact Az hol
    have hl1:(s.heap.push (lI w)).IsList l items:=hl.push _;obtain⟨ol,hol,hcl,nl,hdl⟩:=id hl1;obtain⟨oc,od,oda,os⟩:=ol;simp only at hcl hdl;subst hcl;subst hdl;have sl1:=F.sub_list_set;have sl2:=F.sub_list_frozenset;have nld:(Value.type "list"==Value.type "dict")=false:=by decide
    unfold Iz.«set.__init__» noKeywords Builtin.Frozenset.updateFrom;generalize hPI:pyIter=PI
    wp_walk
    subst hPI;refine Jl hl1 (Aa (wpAny_runValue ?_));have hd3:A.in1.in1.in1.handled=none:=by simp[hh]
    have hsz:(s.heap.push (lI w)).objs.size=s.heap.objs.size+1:=Ea _ _;have ni:l≠(s.heap.push (lI w)).objs.size:=by rw[hsz];exact Bu (Fg hlt)
    have nf:s.heap.objs.size∉[(s.heap.push (lI w)).objs.size,l]:=by
     simp only[Bg,Nf,or_false,not_or];exact⟨by rw[hsz];exact Bu (Fv _),Gv hlt⟩
    have vl:∀(i:Nat) (v:Ae),items[i]? = some v->∃t,v=.int ((λi=>ns.getD i 0) i) t:=λi v hv=>IntsAre.int_at hi i v (by rw[Dr];exact hv);have hlen:items.size=ns.length:=by
     have:∀{vs:List Ae} {ns:List Int},Hh vs ns->vs.length=ns.length:=by
      intro vs ns q
      induction q with
      | nil=>rfl
      | cons _ _ _ ih=>simp[ih]
     rw[<-this hi,Bx]
    refine zbq (b:=kI w) ((Walks.list hd3 _ l ni items).toS) s.heap.objs.size nf (λi=>ns.getD i 0) V vl (λi hi'=>hV _ (by rw[Eg,Bf (by lia)];exact Jp _)) hb (items.size-0) 0 _ (by lia) (Bk _) ⟨⟨_,Au _ rfl,rfl,rfl⟩,hl1.push _⟩ ?hS0 ?hR
    case hS0=>
     obtain⟨o,es,ep,tb,q1,q2,q3,q4,q5,q6,q7⟩:=zbo (prog:=prog) (Ah {cls:=.type "list_iterator",data:=.fields #[.ref l,.int 0 0]} hS);exact⟨o,es,ep,tb,q1,q2,q3,q4,λx=>⟨λ⟨j,hj,_⟩=>by lia,λq=>((q5 x).mpr q).elim⟩,⟨Ar q6.1 (Bk _),q6.2⟩,q7⟩
    case hR=>
     intro s' hm hS';obtain⟨h',g',d',tk',os'⟩:=s';cases (show g'=s.gens from hm.gens);cases (show d'=s.drawn from hm.drawn);cases (show os'=s.os from hm.os);refine Af (Af ⟨rfl,h',tk',rfl,?_,λc o hc e=>hm.heap c o ?_ (Ah _ (Ah _ e))⟩)
     .obtain⟨o,es,ep,tb,q1,q2,q3,q4,q5,q6⟩:=hS';refine⟨o,es,ep,tb,q1,q2,q3,q4,λx=>(show _↔_ from ?_).trans (q5 x),q6⟩;constructor
      .intro hx;obtain⟨j,hj,e⟩:=Li.mp hx;exact⟨j,by lia,by simp[hj,e]⟩
      .rintro⟨j,hj,rfl⟩;have:j<ns.length:=by lia
       simp[this]
     .simp only[Bg,Nf,or_false,not_or];exact⟨Bu hc,by rw[hsz];exact Bu (Fg hc)⟩
   .cases r2 with
    | error e=>exact rz
    | ok fl2=>
     cases fl2 with
     | ret r=>
      obtain⟨rfl,h',tk,rfl,hS',kz⟩:=rz
      repeat (any_goals (first|assumption|wp_step))
      exact h _ _ hS' kz
     | _=>exact rz.elim
  | _=>exact hr.elim
end
end Srt
namespace Srt
open PySem
theorem zP{a:Type}:∀{l:List a} {i:Nat} (h:i<l.length),(l[i]::l.eraseIdx i).Perm l
 | x::l,0,_=>List.Perm.refl _
 | x::l,i+1,h=>by
  have:=zP (l:=l) (i:=i) (by simpa using h);exact(List.Perm.swap _ _ _).trans (this.cons x)
theorem JP{b:Type}{next:Nat->Nat}:∀(a k:Nat) (left:List b) (out:Array b),a=left.length->(pickOrder.go next a k left out).toList.Perm (out.toList++left)
 | 0,k,left,out,h=>by
  cases left with
  | nil=>simp[pickOrder.go]
  | cons _ _=>simp at h
 | a+1,k,left,out,h=>by
  have hi:next k % left.length<left.length:=Nat.mod_lt _ (by lia);unfold pickOrder.go;rw[Bf hi];dsimp only;refine(JP a (k+1) _ _ (by rw[List.length_eraseIdx,if_pos hi];lia)).trans ?_;rw[Hs,Bs];exact Cp _ (zP hi)
theorem u3{a:Type}(next:Nat->Nat)(xs:Array a):(Mr next xs).toList.Perm xs.toList:=by
 have:=JP (next:=next) xs.size 0 xs.toList #[] (by simp);show(pickOrder.go next xs.size 0 xs.toList #[]).toList.Perm _;simpa using this
section
variable {M:Model}{A:Co}{E:Ae->Ag->Prop}
theorem zbs{n:Nat}{Q:Nat->Ag->Prop}(b:n≠0)(h:∀i d,i<n->Q i {s with drawn:=d}):Bc M A (choose a n) Q E s:=λc p _=>by
 unfold choose;rw[Sem.wp_choose];exact⟨b,by rw[Sem.wp_pure];exact h _ _ (Nat.mod_lt _ (Nat.pos_of_ne_zero b))⟩
theorem JQ{c:Type}:∀{n:Nat} {xs:List c} {s:Ag} {Q:List c->Ag->Prop},n=xs.length->(∀b d,b.Perm xs->Q b {s with drawn:=d})->Bc M A (drawOrder n xs) Q E s
 | 0,xs,s,Q,a,h=>by
  cases xs with
  | nil=>unfold drawOrder;exact Af (h [] s.drawn (List.Perm.refl _))
  | cons _ _=>simp at a
 | n+1,[],s,Q,a,h=>by simp at a
 | n+1,x::xs,s,Q,a,h=>by
  unfold drawOrder;refine Aa (zbs (by simp) λi d hi=>?_);rw[Bf hi];dsimp only;refine Aa (JQ (by rw[List.length_eraseIdx,if_pos hi];simpa using a) λb d' e=>Af (h _ d' ((e.cons _).trans (zP hi))))
end
end Srt
namespace Srt
open PySem PySem.Calls PyProof.Rows
theorem oJ:Slot "set_iterator" "__next__" "set_iterator.__next__":=
 .of (owner:="set_iterator") (n:="__next__") (by rw[Mh,Jk];kernel_rfl) (by decide +kernel) (by decide +kernel) (by decide +kernel)
  (by first|exact .inl (by decide +kernel)|exact .inr (by decide +kernel)) (by rw[Mz];kernel_rfl)
theorem JR:entryFor table "set_iterator.__next__" = some Iz.«set_iterator.__next__»:=entryFor_of_tree (by kernel_rfl)
theorem JS(a:Ae):argsOk "set_iterator.__next__" ⟨[a],[]⟩:=by unfold argsOk;kernel_rfl
theorem JT:Slot "set" "__iter__" "set.__iter__":=
 .of (owner:="set") (n:="__iter__") (by rw[Mh,Jk];kernel_rfl) (by decide +kernel) (by decide +kernel) (by decide +kernel)
  (by first|exact .inl (by decide +kernel)|exact .inr (by decide +kernel)) (by rw[Mz];kernel_rfl)
theorem zbt:entryFor table "set.__iter__" = some Iz.«frozenset.__iter__»:=entryFor_alias (id':="frozenset.__iter__") (by kernel_rfl) rfl (by decide +kernel) (by kernel_rfl)
theorem zbu(a:Ae):argsOk "set.__iter__" ⟨[a],[]⟩:=by unfold argsOk;kernel_rfl
abbrev sC(w:Ck):Bool:=w.params.followText "set-order"
def Drawn(es:Array (Int×Ae))(t:Hw):Bool:=!t.plain&&es.size > 1
def zbv(w:Ck)(h:Heap)(a:Addr)(es:Array (Int×Ae))(ep:Nat)(t:Hw)(vals:List Ae)(bs:List Addr)(first:Ae)(i:Nat):Prop:=
 (sC w=true/\(∃k u,first=.int k u)/\vals=(Mr (w.params.setOrder a ep) es).toList.map (·.2))\/
 (sC w=false/\Drawn es t=false/\Good true t/\(∃(k:Nat) (u:Tok),first=.int k u/\SetTable.below t.place k=i)/\vals=es.toList.map (·.2))\/
 (sC w=false/\∃(b:Addr) (o:Obj) (js:List Nat) (m:Nat),first=.ref b/\b∈bs/\h.get? b=some o/\o.cls=.type "tuple"/\o.data=.seq (js.map λ(j:Nat)=>Ho j).toArray m/\(∀j∈js,j<es.size)/\js.length=es.size/\vals=js.map λj=>(es.getD j (0,.none)).2)
structure kJ(w:Ck)(h:Heap)(I a:Addr)(es:Array (Int×Ae))(ep:Nat)(t:Hw)(vals:List Ae)(bs:List Addr)(i:Nat):Prop where
 it:∃o first,h.get? I=some o/\o.cls=.type "set_iterator"/\o.data=.fields #[first,Ho i,.ref a,Ho es.size,Ho ep]/\zbv w h a es ep t vals bs first i
 set:∃o,h.get? a=some o/\o.ExactSet/\o.data=.set es ep t/\t.fits es.size=true
 ne:I≠a
 len:vals.length=es.size
section
variable {prog:Bt}{w:Ck}{A:Co}{E:Ae->Ag->Prop}{s:Ag}{I a:Addr}{es:Array (Int×Ae)}{ep:Nat}{t:Hw}{vals:List Ae}{bs:List Addr}{i:Nat}
theorem kJ.typeIs(h:kJ w s.heap I a es ep t vals bs i):s.TypeIs (.ref I) "set_iterator":=let ⟨o,f,ho,hc,_⟩:=h.it;⟨o,ho,hc⟩
theorem p5{h:Heap}{o:Obj}{fs:Array Ae}(b:h.get? I=some o)(hc:o.cls=.type "set_iterator")(hd:o.data=.fields fs)(k:Nat)(v:Ae):
  ∃a,(h.update I (Fs (·.setIfInBounds k v))).get? I=some a/\a.cls=.type "set_iterator"/\a.data=.fields (fs.setIfInBounds k v):=
 ⟨_,Ff _ b (Oa (Il hd _)),(Obj.cls_mapFields ..).trans hc,by rw[Il hd]⟩
theorem zbw{Q:Option Ae->Ag->Prop}(h:kJ w s.heap I a es ep t vals bs i)(hi:i<vals.length)(hQ:∀h',kJ w h' I a es ep t vals bs (i+1)->Dk I s.heap h'->Q (some vals[i]) {s with heap:=h'}):Bc (Bo prog w) A (Lc (.ref I)) Q E s:=by
 have hT:=h.typeIs;obtain⟨⟨o,first,ho,hc,hd,hm⟩,⟨oa,hoa,hxa,hda,hfa⟩,hne,hlen⟩:=h;unfold Lc;refine Aa (Np (Fq (name:=Eo "__next__") hT oJ (Dn oJ hT JR ?_ (JS _))));unfold Iz.«set_iterator.__next__»;refine Aa (Af (Aa (Pf ho hd ?_)));dsimp only[Ho];refine Aa (Pp hoa hda hfa ?_);rw[if_neg (by simp)];have put:∀{h':Heap},Dk I s.heap h'->∃o,h'.get? a=some o/\o.ExactSet/\o.data=.set es ep t/\t.fits es.size=true:=λsb=>⟨oa,(sb.2 a (Bw hne)).trans hoa,hxa,hda,hfa⟩
 rcases hm with⟨bt,⟨k,u,rfl⟩,hv⟩|⟨bt,hdr,hg,⟨k,u,rfl,hk⟩,hv⟩|⟨bt,b,ob,js,m,rfl,hbs,h1,h2,h3,h4,h5,hv⟩
 .have hi':i<(Mr (w.params.setOrder a ep) es).size:=by
   have:=(u3 (w.params.setOrder a ep) es).length_eq;rw[Bx,Bx]at this;lia
  have hge:(Mr (w.params.setOrder a ep) es)[i]? = some (Mr (w.params.setOrder a ep) es)[i]:=getElem?_pos _ i hi';have hx:vals[i]=((Mr (w.params.setOrder a ep) es)[i]).2:=by simp[hv]
  dsimp only;unfold setNext;refine Aa (Aa (Gi hoa hda hfa ?_));unfold My;refine Aa (Aa (Gf (Af ?_)));refine Dg (λ_=>?_) λc=>(c bt).elim;refine Dg (λc=>by simp at c) λ_=>?_;unfold setWalk;refine Aa (Aa (Gi hoa hda hfa ?_));unfold My;refine Aa (Aa (Gf (Af ?_)));refine Dg (λ_=>?_) λc=>(c bt).elim;refine Aa (Gf (Af (Af ?_)));rw[Ci]
  erw [hge]
  dsimp only[Lh];obtain⟨o1,q1,q2,q3⟩:=p5 ho hc hd 0 (.int ((k.toNat:Nat):Int) 0);refine Aa (Fu ho hd (by simp) (Aa (Fu (s:={s with heap:=s.heap.update I (Fs (·.setIfInBounds 0 (.int ((k.toNat:Nat):Int) 0)))}) q1 q3 (by simp) (Af ?_))));obtain⟨o2,p1,p2,p3⟩:=p5 q1 q2 q3 1 (.int ((i:Int)+1) 0);have sb:=(Ce s.heap I (Fs (·.setIfInBounds 0 (.int ((k.toNat:Nat):Int) 0)))).trans (Ce _ I (Fs (·.setIfInBounds 1 (.int ((i:Int)+1) 0))));refine⟨_,rfl,Af ?_⟩;rw[<-hx];exact hQ _ ⟨⟨o2,.int ((k.toNat:Nat):Int) 0,p1,p2,by rw[p3];simp[Ho],.inl ⟨bt,⟨_,_,rfl⟩,hv⟩⟩,put sb,hne,hlen⟩ sb
 .have hi2:i<es.size:=by lia
  have hps:t.place.size=es.size:=by
   simp only[SetTable.fits,Cv,beq_iff_eq]at hfa;exact hfa.1
  have hi3:i<t.place.size:=by lia
  have hx:vals[i]=es[i].2:=by simp[hv]
  dsimp only;unfold setNext;refine Aa (Aa (Gi hoa hda hfa ?_));unfold My;refine Aa (Aa (Gf (Af ?_)));refine Dg (λc=>absurd (Eq.trans (Eq.symm bt) c) Am) λ_=>?_;refine Dg (λc=>absurd (Eq.trans (Eq.symm hdr) c) Am) λ_=>?_;refine Aa (Dg (λc=>by rw[hg.2]at c;simp at c) λ_=>Af ?_);refine Af ?_;rw[Ci,hk,getElem?_pos es i hi2,getElem?_pos t.place i hi3];dsimp only;obtain⟨o1,q1,q2,q3⟩:=p5 ho hc hd 0 (.int (((t.place[i]+1:Nat)):Int) 0);refine Aa (Fu ho hd (by simp) (Aa (Fu (s:={s with heap:=s.heap.update I (Fs (·.setIfInBounds 0 (.int (((t.place[i]+1:Nat)):Int) 0)))}) q1 q3 (by simp) (Af ?_))));obtain⟨o2,p1,p2,p3⟩:=p5 q1 q2 q3 1 (.int ((i:Int)+1) 0);have sb:=(Ce s.heap I (Fs (·.setIfInBounds 0 (.int (((t.place[i]+1:Nat)):Int) 0)))).trans (Ce _ I (Fs (·.setIfInBounds 1 (.int ((i:Int)+1) 0))));refine⟨_,rfl,Af ?_⟩;rw[<-hx];exact hQ _ ⟨⟨o2,.int (((t.place[i]+1:Nat)):Int) 0,p1,p2,by rw[p3];simp[Ho],.inr (.inl ⟨bt,hdr,hg,⟨_,_,rfl,zbg hg.1 hi3⟩,hv⟩)⟩,put sb,hne,hlen⟩ sb
 .have hi2:i<js.length:=by lia
  have hj:js[i]<es.size:=h4 _ (Jp hi2);have hx:vals[i]=es[js[i]].2:=by simp[hv,Array.getD,hj]
  have hIb:b≠I:=λz=>by subst z;rw[h1]at ho;cases ho;rw[h3]at hd;cases hd
  dsimp only;unfold Pk;refine Aa (Aa (wpAny_load h1 ?_));rw[h3];refine Af ?_;dsimp only;have hge:(js.map λ(j:Nat)=>Ho j).toArray[((i:Nat):Int).toNat]? = some (.int (js[i]:Nat) 0):=by
   rw[Ci,Nw,Av,Bf hi2];rfl
  rw[hge];dsimp only;unfold setNextDrawn;refine Aa (Aa (Gi hoa hda hfa ?_));refine Dg (λc=>by simp at c) λ_=>?_;rw[Ci,getElem?_pos es js[i] hj];refine Af ?_;obtain⟨o2,p1,p2,p3⟩:=p5 ho hc hd 1 (.int ((i:Int)+1) 0);have sb:=Ce s.heap I (Fs (·.setIfInBounds 1 (.int ((i:Int)+1) 0)));refine Aa (Fu ho hd (by simp) (Af ⟨_,rfl,Af ?_⟩));have g:=hQ _ ⟨⟨o2,.ref b,p1,p2,by rw[p3];simp[Ho],.inr (.inr ⟨bt,b,ob,js,m,rfl,hbs,(sb.2 b hIb).trans h1,h2,h3,h4,h5,hv⟩)⟩,put sb,hne,hlen⟩ sb;rw[hx]at g;exact g
theorem zQ{Q:Option Ae->Ag->Prop}(hh:A.handled=none)(h:∀h',(∀b o,s.heap.get? b=some o->h'.get? b=some o)->Q none {s with heap:=h'}):
  Bc (Bo prog w) A.in1 (newExc (.type "StopIteration") []>>=λe=>raiseNew e) (λ(fin:PySem.Fin) s'=>∃v,fin=Fin.done (Flow.ret v)/\Bc (Bo prog w) A (pure (some v)) Q E s')
   (λe s'=>Bc (Bo prog w) A (isInstance e (.type "StopIteration")>>=λc=>if c=true then pure none else throw e) Q E s') s:=by
 refine Aa ?_;simp only[newExc,newTuple];refine Aa (Cz (Aa (m:=Ld _ _) (Pd (a:=Value.none) (by first|rfl|(simp only[Ld];rfl)) (Cz ?_ (by size_fits)))) (by size_fits));simp only[raiseNew];refine Aa (wpAny_handled ?_);rw[show A.in1.handled=none from hh];refine Aa (Af (wpAny_throw ?_));refine Aa (Lq (T:="StopIteration") (b:=true) ⟨_,Au _ rfl,rfl⟩ isSubtype_stop ?_);exact Af (h _ λb o e=>Ah _ (Ah _ e))
theorem zbx{Q:Option Ae->Ag->Prop}(hh:A.handled=none)(h:kJ w s.heap I a es ep t vals bs i)(hi:vals.length<=i)(hQ:∀h',(∀b o,b≠I->s.heap.get? b=some o->h'.get? b=some o)->Q none {s with heap:=h'}):Bc (Bo prog w) A (Lc (.ref I)) Q E s:=by
 have hT:=h.typeIs;obtain⟨⟨o,first,ho,hc,hd,hm⟩,⟨oa,hoa,hxa,hda,hfa⟩,hne,hlen⟩:=h;unfold Lc;refine Aa (Np (Fq (name:=Eo "__next__") hT oJ (Dn oJ hT JR ?_ (JS _))));unfold Iz.«set_iterator.__next__»;refine Aa (Af (Aa (Pf ho hd ?_)));dsimp only[Ho];refine Aa (Pp hoa hda hfa ?_);rw[if_neg (by simp)];have oth:∀{h':Heap},Dk I s.heap h'->∀b o,b≠I->s.heap.get? b=some o->h'.get? b=some o:=λsb b o hb e=>(sb.2 b hb).trans e;rcases hm with⟨bt,⟨k,u,rfl⟩,hv⟩|⟨bt,hdr,hg,⟨k,u,rfl,hk⟩,hv⟩|⟨bt,b,ob,js,m,rfl,hbs,h1,h2,h3,h4,h5,hv⟩
 .have hge:(Mr (w.params.setOrder a ep) es)[i]? = none:=by
   have:=(u3 (w.params.setOrder a ep) es).length_eq;rw[Bx,Bx]at this;exact getElem?_neg _ i (by lia)
  dsimp only;unfold setNext;refine Aa (Aa (Gi hoa hda hfa ?_));unfold My;refine Aa (Aa (Gf (Af ?_)));refine Dg (λ_=>?_) λc=>(c bt).elim;refine Dg (λc=>by simp at c) λ_=>?_;unfold setWalk;refine Aa (Aa (Gi hoa hda hfa ?_));unfold My;refine Aa (Aa (Gf (Af ?_)));refine Dg (λ_=>?_) λc=>(c bt).elim;refine Aa (Gf (Af (Af ?_)));rw[Ci]
  erw [hge]
  dsimp only[Option.map_none];have sb:=Ce s.heap I (Fs (·.setIfInBounds 2 Value.none));exact Aa (Fu ho hd (by simp) (zQ (s:={s with heap:=_}) hh λh' kp=>hQ h' λb o hb e=>kp b o (oth sb b o hb e)))
 .have hps:t.place.size=es.size:=by
   simp only[SetTable.fits,Cv,beq_iff_eq]at hfa;exact hfa.1
  dsimp only;unfold setNext;refine Aa (Aa (Gi hoa hda hfa ?_));unfold My;refine Aa (Aa (Gf (Af ?_)));refine Dg (λc=>absurd (Eq.trans (Eq.symm bt) c) Am) λ_=>?_;refine Dg (λc=>absurd (Eq.trans (Eq.symm hdr) c) Am) λ_=>?_;refine Aa (Dg (λc=>by rw[hg.2]at c;simp at c) λ_=>Af ?_);refine Af ?_;rw[Ci,hk,getElem?_neg es i (by lia)];dsimp only;have sb:=Ce s.heap I (Fs (·.setIfInBounds 2 Value.none));exact Aa (Fu ho hd (by simp) (zQ (s:={s with heap:=_}) hh λh' kp=>hQ h' λb o hb e=>kp b o (oth sb b o hb e)))
 .dsimp only;unfold Pk;refine Aa (Aa (wpAny_load h1 ?_));rw[h3];refine Af ?_;dsimp only;have hge:(js.map λ(j:Nat)=>Ho j).toArray[((i:Nat):Int).toNat]? = none:=by
   rw[Ci,Nw];exact Kv (by rw[Ab];lia)
  rw[hge];dsimp only;obtain⟨o2,p1,p2,p3⟩:=p5 ho hc hd 0 (.int 0 0);have sb:=(Ce s.heap I (Fs (·.setIfInBounds 0 (Value.int 0 0)))).trans (Ce _ I (Fs (·.setIfInBounds 2 Value.none)));exact Aa (Fu ho hd (by simp) (Aa (Fu (s:={s with heap:=_}) p1 p3 (by simp) (zQ (s:={s with heap:=_}) hh λh' kp=>hQ h' λb o hb e=>kp b o (oth sb b o hb e)))))
end
theorem JU:Slot "set_iterator" "__iter__" "set_iterator.__iter__":=
 .of (owner:="set_iterator") (n:="__iter__") (by rw[Mh,Jk];kernel_rfl) (by decide +kernel) (by decide +kernel) (by decide +kernel)
  (by first|exact .inl (by decide +kernel)|exact .inr (by decide +kernel)) (by rw[Mz];kernel_rfl)
theorem zby:entryFor table "set_iterator.__iter__" = some Iz.«dict_keyiterator.__iter__»:=entryFor_alias (id':="dict_keyiterator.__iter__") (by kernel_rfl) rfl (by decide +kernel) (by kernel_rfl)
theorem zbz(a:Ae):argsOk "set_iterator.__iter__" ⟨[a],[]⟩:=by unfold argsOk;kernel_rfl
section
variable {prog:Bt}{w:Ck}{A:Co}{E:Ae->Ag->Prop}{s:Ag}{I a:Addr}{es:Array (Int×Ae)}{ep:Nat}{t:Hw}{vals:List Ae}{bs:List Addr}{i:Nat}
theorem kJ.at(x:kJ w h I a es ep t vals bs i)(k:∀b,b=I\/b=a\/b∈bs->∀o,h.get? b=some o->h'.get? b=some o):kJ w h' I a es ep t vals bs i:=by
 obtain⟨⟨o,f,ho,hc,hd,hm⟩,⟨oa,hoa,r⟩,hne,hl⟩:=x;refine⟨⟨o,f,k I (.inl rfl) o ho,hc,hd,?_⟩,⟨oa,k a (.inr (.inl rfl)) oa hoa,r⟩,hne,hl⟩;rcases hm with hm|hm|⟨bt,b,ob,js,m,e,hb,h1,hm⟩
 .exact .inl hm
 .exact .inr (.inl hm)
 .exact .inr (.inr ⟨bt,b,ob,js,m,e,hb,k b (.inr (.inr hb)) ob h1,hm⟩)
theorem zbA(hh:A.handled=none):Walks prog w A I (I::a::bs) [I] vals.length (λj v=>vals[j]? = some v) (λj h=>kJ w h I a es ep t vals bs j) where
 sub:=λb hb=>by simp at hb;simp[hb]
 frame:=λ_ _ _ st hk=>st.at λb hb o e=>hk b (by simpa using hb) o e
 item:=λj s Q E hj st hQ=>zbw st hj λh' st' sb=>hQ _ h' s.toks (by simp[hj]) st' λb o hb e=>(sb.2 b (λz=>hb (by simp[z]))).trans e
 done:=λs Q E st hQ=>zbx hh st (Ai _) λh' kp=>hQ h' s.toks λb o hb e=>kp b o (λz=>hb (by simp[z])) e
 self:=λ_ s _ _ st hQ=>by
  have hT:=st.typeIs;refine wpAny_pyIter_slot hT JU (Dn JU hT zby ?_ (zbz _));show Bc _ _ (ret (.ref I)) _ _ s;exact Af ⟨_,rfl,"set_iterator",_,hT,oJ.lookup,hQ⟩
theorem zbB{S:Int->Prop}{n:Nat}{Q:Ae->Ag->Prop}(hS:gS prog w s.heap a S n (kI w))(hz:n<=An)(h:∀(I:Addr) (h':Heap) d es ep t vals bs,kJ w h' I a es ep t vals bs 0->(∀b o,s.heap.get? b=some o->h'.get? b=some o)->s.heap.objs.size<=I->(∀b∈bs,s.heap.objs.size<=b)->vals.Perm (es.toList.map (·.2))->
   ElemsOf (Fb prog w) es.toList->(∀k,S k↔∃e∈es.toList,(Fb prog w).is k e.2=true)->Nz prog w es n->Q (.ref I) {s with heap:=h',drawn:=d}):Bc (Bo prog w) A (pyIter (.ref a)) Q E s:=by
 obtain⟨o,es,ep,t,ho,hx,hd,he,hm,hn,hf,hg⟩:=hS;have hn0:=hn.1;have hT:s.TypeIs (.ref a) "set":=⟨o,ho,hx.1⟩;refine wpAny_pyIter_slot hT JT (Dn JT hT zbt ?_ (zbu _));unfold Iz.«frozenset.__iter__»;refine Aa (Af (Aa (Aa (Pp ho hd hf (Af ?_)))));unfold setDrawn My;refine Aa (Aa (Gi ho hd hf (Aa (Aa (Gf (Af (Af ?_)))))));have ha:a<s.heap.objs.size:=Az ho;refine Dg (λc=>?_) λc=>?_
 .have bt:sC w=false:=by
   have:=(Lj.mp c).1;exact Bool.not_eq_true' _▸this
  refine Aa (JQ (by simp) λjs d hp=>?_);have hjl:js.length=es.size:=by rw[hp.length_eq];simp
  refine Aa (wpAny_newTuple (s:={s with drawn:=d}) ?_ (by rw[Ab,hjl];lia));have ho1:=Ah {cls:=.type "tuple",data:=.seq (js.map λ(j:Nat)=>Ho j).toArray 0} ho;refine Aa (wpAny_setEpoch_of (s:={s with heap:=_,drawn:=d}) ho1 hd hf ?_);unfold newFields;refine Aa (Cz (Af ⟨_,rfl,"set_iterator",_,⟨_,Au _ rfl,rfl⟩,oJ.lookup,?_⟩));refine h _ _ d es ep t (js.map λj=>(es.getD j (0,.none)).2) [s.heap.objs.size] ⟨⟨_,.ref s.heap.objs.size,Au _ rfl,rfl,rfl,.inr (.inr ⟨bt,_,_,js,0,rfl,by simp,Ah _ (Au _ rfl),rfl,rfl,λj hj=>by simpa using hp.mem_iff.mp hj,hjl,rfl⟩)⟩,
   ⟨o,Ah _ ho1,hx,hd,hf⟩,?_,by rw[Ab,hjl]⟩ (λb o e=>Ah _ (Ah _ e)) ?_ (λb hb=>by simp at hb;rw[hb];exact Ai _) ?_ he hm hn
  .show(s.heap.push _).objs.size≠a;rw[Ea];exact Gv (Fg ha)
  .show s.heap.objs.size<=(s.heap.push _).objs.size;rw[Ea];exact Ll _
  .have e:es.toList.map (·.2)=(Dw es.size).map λj=>(es.getD j (0,.none)).2:=by
    refine List.ext_getElem (by simp) λk h1 h2=>?_;have:k<es.size:=by simpa using h1
    simp[Array.getD,this]
   rw[e];exact hp.map _
 .refine Aa (Af (Aa (wpAny_setEpoch_of ho hd hf ?_)));unfold newFields;refine Aa (Cz (Af ⟨_,rfl,"set_iterator",_,⟨_,Au _ rfl,rfl⟩,oJ.lookup,?_⟩));have ne:s.heap.objs.size≠a:=Gv ha;have st:∀{o1:Obj},∃o,(s.heap.push o1).get? a=some o/\o.ExactSet/\o.data=.set es ep t/\t.fits es.size=true:=⟨o,Ah _ ho,hx,hd,hf⟩;cases bt:sC w with
  | true=>
   exact h _ _ s.drawn es ep t ((Mr (w.params.setOrder a ep) es).toList.map (·.2)) [] ⟨⟨_,Ho 0,Au _ rfl,rfl,rfl,.inl ⟨bt,⟨_,_,rfl⟩,rfl⟩⟩,st,ne,by rw[Ab,(u3 _ _).length_eq,Bx]⟩
    (λb o e=>Ah _ e) (Ai _) (λb hb=>nomatch hb) ((u3 _ _).map _) he hm hn
  | false=>
   have hdr:Drawn es t=false:=by
    cases hq:Drawn es t with
    | false=>rfl
    | true=>exact(c (Lj.mpr ⟨(Bool.not_eq_true' _).mpr bt,hq⟩)).elim
   have hg':Good true t:=by
    have:kI w=true:=by unfold kI;rw[show w.params.followText "set-order" = false from bt];rfl
    rw[this]at hg;exact hg
   exact h _ _ s.drawn es ep t (es.toList.map (·.2)) [] ⟨⟨_,Ho 0,Au _ rfl,rfl,rfl,.inr (.inl ⟨bt,hdr,hg',⟨0,0,rfl,zbh hg'.1⟩,rfl⟩)⟩,st,ne,by rw[Ab,Bx]⟩
    (λb o e=>Ah _ e) (Ai _) (λb hb=>nomatch hb) (List.Perm.refl _) he hm hn
end
theorem zbC:Slot "set" "__len__" "set.__len__":=
 .of (owner:="set") (n:="__len__") (by rw[Mh,Jk];kernel_rfl) (by decide +kernel) (by decide +kernel) (by decide +kernel)
  (by first|exact .inl (by decide +kernel)|exact .inr (by decide +kernel)) (by rw[Mz];kernel_rfl)
section
variable {prog:Bt}{w:Ck}{A:Co}{E:Ae->Ag->Prop}{s:Ag}{a:Addr}
theorem zbD{Q:Bool->Ag->Prop}(hT:s.TypeIs (.ref a) "set")(h:Q false s):Bc (Bo prog w) A (Builtin.List.listLengthHint (.ref a)) Q E s:=by
 unfold Builtin.List.listLengthHint;refine Aa (wpAny_specialOf hT zbC.lookup ?_);generalize hid:("set.__len__" : String)=id0
 wp_delta
 rw[show splitId id0=some ("set","__len__") from by subst hid;decide +kernel];subst hid;refine Aa (Lq (T:="set") (b:=true) hT (by rw[Mz];kernel_rfl) ?_);refine Dg (λhab=>absurd hab (by decide)) (λ_=>?_);refine Dg (λ_=>?_) (λhab=>absurd (by decide +kernel) hab);refine Aa (La hT ?_);exact Af h
theorem zbE{S:Int->Prop}{n:Nat}{R:Result->Ag->Prop}(hh:A.handled=none)(hS:gS prog w s.heap a S n (kI w))(hz:n<=An)(D:Addr)(hDa:D≠a)(res:Ae)(c0:Nat)(hD:s.heap.get? D=some {cls:=.type "list",data:=.seq #[] c0})(hR:∀h' tk d acc' c' (es:Array (Int×Ae)),(∀b o,b≠D->s.heap.get? b=some o->h'.get? b=some o)->h'.get? D=some {cls:=.type "list",dict:=none,data:=.seq acc' c',slots:=#[]}->acc'.toList.Perm (es.toList.map (·.2))->
   ElemsOf (Fb prog w) es.toList->(∀k,S k↔∃e∈es.toList,(Fb prog w).is k e.2=true)->Nz prog w es n->R (.ok (.ret res)) {s with heap:=h',toks:=tk,drawn:=d}):
  Bc (Bo prog w) A.in1 (Ku (.ref D) (.ref a) res)
   (λfin s'=>match fin with|.done f=>R (.ok f) s'|.again c'=>c'.quiet=true/\Jo (Bo prog w) A c' R s') (λe s'=>R (.error e) s') s:=by
 have hT:s.TypeIs (.ref a) "set":=let ⟨o,_,_,_,ho,hx,_⟩:=hS;⟨o,ho,hx.1⟩;unfold Ku;refine Aa (La (T:="set") hT ?_);have h1:Builtin.List.listSameRef (.ref D) (.ref a)=false:=by simp[Builtin.List.listSameRef,hDa]
 simp only[h1,show(Value.type "set"==Value.type "list")=false by decide,show(Value.type "set"==Value.type "tuple")=false by decide,Bool.or_false,De,if_false];refine Aa (zbB hS hz λI h2 d es ep t vals bs st kp hI hb hp he hm hn=>?_);have hD2:=kp _ _ hD;have hDI:D≠I:=λz=>absurd (Az hD) (by rw[z];exact Nat.not_lt.mpr hI);have hDf:D∉I::a::bs:=by
  simp only[Bg,not_or];exact⟨hDI,hDa,λz=>absurd (Az hD) (Nat.not_lt.mpr (hb D z))⟩
 have hvl:vals.length<=An:=by have:=hn.1;rw[st.len];lia
 have key:∀(h:Heap) (c1 tk:Nat),kJ w h I a es ep t vals bs 0->(∀b o,b≠D->s.heap.get? b=some o->h.get? b=some o)->
   h.get? D=some {cls:=.type "list",data:=.seq #[] c1}->Jo (Bo prog w) A (.builtin "list.extend.loop" ⟨[.ref D,.ref I,res],[]⟩) R {s with heap:=h,toks:=tk,drawn:=d}:=by
  intro h c1 tk hst hk hS1;refine codeAny_extend_loopS (zbA (by exact hh)).toS hvl D hDf res vals.length 0 _ #[] c1 rfl (Bk _) hst hS1 (ItemsOf.nil _) λs' acc' c' hm' hS' hacc=>?_;have eq:acc'.toList=vals:=by
   refine List.ext_getElem? λi=>?_;rw[Dr]
   by_cases hi:i<acc'.size
   .have:=hacc.2 i _ (getElem?_pos acc' i hi);rw[getElem?_pos acc' i hi,this]
   .rw[getElem?_neg acc' i hi,Kv (by have:=hacc.1;lia)]
  rw[Moved.eq_with hm'];refine hR s'.heap s'.toks d acc' c' es (λb o hb' e=>hm'.heap b o (λhmem=>?_) (hk b o hb' e)) hS' (by rw[eq];exact hp) he hm hn;rcases Bg.mp hmem with e'|hmem
  .exact hb' e'
  .exact absurd (Az e) (by rw[Ao.mp hmem];exact Nat.not_lt.mpr hI)
 have hT2:Shared.TypeIs {s with heap:=h2,drawn:=d} (.ref a) "set":=let ⟨o,ho,hc⟩:=hT;⟨o,kp _ _ ho,hc⟩;refine Aa (Ct (zbD (s:={s with heap:=h2,drawn:=d}) hT2 ?_));refine Dg (λ_=>?_) (λ_=>Af ⟨Gw PySem.F.plain_extend_loop _,key _ c0 _ st (λb o _ e=>kp b o e) hD2⟩);refine Aa (Ey (Aa ?_));show Bc _ _ (updateSeq D (·.push .none)>>=λ_=>updateSeq D (·.pop)) _ _ _;refine Aa (Mg hD2 rfl ?_);have q2:=Ff (Hb (·.push Value.none)) hD2 rfl;refine Mg (hz:=by seq_fits) q2 rfl ?_;have q3:=Ff (Hb (·.pop)) q2 rfl;have oth:∀b o,b≠D->h2.get? b=some o->((h2.update D (Hb (·.push Value.none))).update D (Hb (·.pop))).get? b=some o:=λb o hb' e=>
  (Eb _ _ (Bw hb')).trans ((Eb _ _ (Bw hb')).trans e)
 exact Af ⟨Gw PySem.F.plain_extend_loop _,key _ _ _ (st.at λb hb' o e=>oth b o (λz=>hDf (by rw[<-z];simpa using hb')) e) (λb o hb' e=>oth b o hb' (kp b o e)) q3⟩
end
section
variable {prog:Bt}{w:Ck}{A:Co}{E:Ae->Ag->Prop}{s:Ag}{a:Addr}
theorem JV:∀(vs:List Ae),(∀v∈vs,∃k,(Fb prog w).is k v=true)->∃ns,Hh vs ns/\∀k,k∈ns↔∃v∈vs,(Fb prog w).is k v=true
 | [],_=>⟨[],.nil,λk=>by simp⟩
 | v::vs,h=>by
  obtain⟨ns,h1,h2⟩:=JV vs λv hv=>h v (Ap _ hv);obtain⟨k,hk⟩:=h v Be;obtain⟨t,rfl⟩:=Value.isInt_shape (k:=k) (v:=v) hk;refine⟨k::ns,.cons k t h1,λk'=>?_⟩;have e:(Fb prog w).is k' (.int k t)=decide (k'=k):=KeyKind.is_eq_decide hk k';simp only[Bg,h2,exists_eq_or_imp,e,decide_eq_true_eq]
theorem JW:∀{vs:List Ae} {ns:List Int},Hh vs ns->vs.Pairwise (λv v'=>∀k,(Fb prog w).is k v=true->(Fb prog w).is k v'=true->False)->ns.Nodup
 | _,_,.nil,_=>.nil
 | _,_,.cons n t r,h=>by
  have h':=List.pairwise_cons.mp h;have g:∀{vs:List Ae} {ns:List Int},Hh vs ns->n∈ns->∃v∈vs,(Fb prog w).is n v=true:=by
   intro vs ns q
   induction q with
   | nil=>exact λz=>nomatch z
   | cons m t _ ih=>exact λz=>(Bg.mp z).elim (λe=>⟨_,Be,by rw[e];exact intKind_is _ _ _ _⟩) λz=>let ⟨v,a,b⟩:=ih z;⟨v,Ap _ a,b⟩
  exact Dx.mpr ⟨λz=>let ⟨v,a,b⟩:=g r z;h'.1 v a n (intKind_is _ _ _ _) b,JW r h'.2⟩
theorem zbF{S:Int->Prop}{n:Nat}{R:List Ae->Ag->Prop}(hh:A.handled=none)(hS:gS prog w s.heap a S n (kI w))(hz:n<=An)(h:∀(h':Heap) (tk:Nat) d (vs:List Ae) (ns:List Int),(∀b o,s.heap.get? b=some o->h'.get? b=some o)->Hh vs ns->(∀k,k∈ns↔S k)->ns.length<=n->ns.Nodup->R vs {s with heap:=h',toks:=tk,drawn:=d}):
  Bc (Bo prog w) A (collect (.ref a)) R E s:=by
 have ha:a<s.heap.objs.size:=let ⟨o,_,_,_,ho,_⟩:=hS;Az ho;unfold collect;refine Aa (wpAny_runValue (Gr entry_proto_collect' ?_));rw[Fl PySem.F.plain_proto_collect _];show Bc _ A.in1 (newList []>>=λl=>again (.builtin "list.__iadd__" ⟨[l,.ref a],[]⟩)) _ _ s;refine Aa (Cz ?_);refine Af ⟨Gw PySem.F.plain_list_iadd _,Gr entry_list_iadd' ?_⟩;rw[Fl PySem.F.plain_list_iadd _];have q1:(s.heap.push {cls:=.type "list",data:=.seq ([]:List Ae).toArray}).get? s.heap.objs.size=some {cls:=.type "list",data:=.seq #[]}:=Au _ rfl;show Bc _ A.in1 (Ku (.ref s.heap.objs.size) (.ref a) (.ref s.heap.objs.size)) _ _ _;have key:=zbE (prog:=prog) (w:=w) (A:=A) (s:={s with heap:=s.heap.push {cls:=.type "list",data:=.seq ([]:List Ae).toArray}})
  (R:=λ(q:Result) (s':Ag)=>∃(h':Heap) (tk:Nat) (d:_) (acc':Array Ae) (c':Nat) (ns:List Int),q=.ok (.ret (.ref s.heap.objs.size))/\s' = {s with heap:=h',toks:=tk,drawn:=d}/\
   (∀b o,s.heap.get? b=some o->h'.get? b=some o)/\h'.get? s.heap.objs.size=some {cls:=.type "list",dict:=none,data:=.seq acc' c',slots:=#[]}/\Hh acc'.toList ns/\(∀k,k∈ns↔S k)/\ns.length<=n/\ns.Nodup)
  hh (hS.at λo e=>Ah _ e) hz s.heap.objs.size (Gv ha) (.ref s.heap.objs.size) 0 q1
  (λh' tk d acc' c' es hk hD hp he hm hn=>by
   obtain⟨ns,n1,n2⟩:=JV (prog:=prog) (w:=w) acc'.toList λv hv=>by
    obtain⟨e,h1,rfl⟩:=Ax.mp (hp.mem_iff.mp hv);obtain⟨⟨k,hk',_⟩,_⟩:=he e h1;exact⟨k,hk'⟩
   refine⟨h',tk,d,acc',c',ns,rfl,rfl,λb o e=>hk b o (Bu (Az e)) (Ah _ e),hD,n1,λk=>(n2 k).trans ((hm k).trans ?_).symm,?_,?_⟩
   .constructor
    .rintro⟨e,h1,h2⟩;exact⟨e.2,hp.mem_iff.mpr (Ov h1),h2⟩
    .rintro⟨v,h1,h2⟩;obtain⟨e,h3,rfl⟩:=Ax.mp (hp.mem_iff.mp h1);exact⟨e,h3,h2⟩
   .have e1:∀{vs:List Ae} {ns:List Int},Hh vs ns->vs.length=ns.length:=by
     intro vs ns q
     induction q with
     | nil=>rfl
     | cons _ _ _ ih=>simp[ih]
    have l1:=e1 n1;have l2:=hp.length_eq;simp only[Ab,Bx]at l1 l2;have:=hn.1;lia
   .exact JW n1 (hp.symm.pairwise (Ko.mpr hn.2) λq k a b=>q k b a))
 refine Ic key (λfin s' x=>?_) λe s' x=>?_
 .cases fin with
  | done f=>
   obtain⟨h',tk,d,acc',c',ns,e,rfl,hk,hS',y1,y2,y3⟩:=x;cases e;show Bc _ A (load s.heap.objs.size>>=_) _ _ _;exact Aa (wpAny_load hS' (Af (h h' tk d _ ns hk y1 y2 y3.1 y3.2)))
  | again c1=>
   refine⟨x.1,Lf x.2 λq s2 y=>?_⟩;obtain⟨h',tk,d,acc',c',ns,rfl,rfl,hk,hS',y1,y2,y3⟩:=y;show Bc _ A (load s.heap.objs.size>>=_) _ _ _;exact Aa (wpAny_load hS' (Af (h h' tk d _ ns hk y1 y2 y3.1 y3.2)))
 .obtain⟨_,_,_,_,_,_,e',_⟩:=x;cases e'
end
end Srt
namespace L2
open PySem Spec PyProof.Rows
section
variable {X:Cx}{a:Expr}{ta:TA}{p p2 pos pos2:Pos}
def zbG(ta:TA):TE:=λZ H Q=>ta Z H λvs H1=>∃n:Nat,vs=[.int n]/\n<=1000/\∀q,H1 q=none->Q (.ref q) (aR H1 q (.lst ((Dw n).map λ(i:Nat)=>V.int i)))
theorem zbH(hc:X.calm=true)(hg:Gl X "list")(hm:X.mg "list" = none)(hg2:Gl X "range")(hm2:X.mg "range" = none)(ha:PA X [a] ta)(hs1:Br [.Call (.Name "range" p2) [a] [] pos2] X.env=[(false,eval (.Call (.Name "range" p2) [a] [] pos2) X.env)]:=by rfl)(hs2:Br [a] X.env=[(false,eval a X.env)]:=by rfl):
  PE X (.Call (.Name "list" p) [.Call (.Name "range" p2) [a] [] pos2] [] pos) (zbG ta):=by
 intro pins s Z H Q I h;refine Ez (jZ I hg hm (by decide +kernel:Dc "list" = some (.type "list")) (Er ?_ hs1 rfl));rw[hs1];refine Calls.spliced_cons (Ez (jZ I hg2 hm2 (by decide +kernel:Dc "range" = some (.type "range")) (Er (a5 (ha pos2 pins s Z H _ I h) λus s1 ⟨vs,H1,I1,r1,q1⟩=>?_) hs2 rfl)));obtain⟨n,rfl,hn,q⟩:=q1;obtain⟨u,rfl,ru⟩:=vals1 r1;obtain⟨t,rfl⟩:=ru;refine call_range_1 (Calls.spliced_nil ?_);have sz:Builtin.Range.rangeSize 0 (n:Int) 1=(n:Nat):=by rw[rangeSize_one];split<;>lia
 refine call_list_range (n:=n) (b:=(n:Int)) (I1.ok.hd hc) (IsRange.new _ _ _ _ _ _ _) (PySem.small_one (by decide) (by decide) (by lia) (by lia)) sz (by lia) λh' tk acc c hk hS hacc=>?_;have up:∀b o,s1.heap.get? b=some o->h'.get? b=some o:=λb o e=>hk b o (Ah _ e);have ez:(s1.heap.push {cls:=.type "range",data:=.fields #[.int 0 0,.int (n:Int) t,.int 1 0]}).objs.size=s1.heap.objs.size+1:=Ea _ _;refine⟨.ref _,_,I1.laid (o:=.lst ((Dw n).map λ(i:Nat)=>V.int i)) (t':=tk) up ?_ ⟨by simp[Ir];lia,acc.toList,c,?_,by rw[Jc];exact hS⟩,rfl,q _ (I1.hok.fresh ?_)⟩
 .first|exact Hj (Ml (Fv _) (Ea _ _).symm)|(rw[Ea];exact Ll _)
 .refine xC (by simp[hacc.1]) λj v hv=>?_;have hv':acc[j]? = some v:=by simpa using hv
  obtain⟨t',rfl⟩:=hacc.2 j v hv';have hj:j<n:=by have:=(Mc.mp hv').1;rw[hacc.1]at this;exact this
  refine⟨.int j,?_,t',by simp⟩;simp[hj]
 .first|exact Hj (Ml (Fv _) (Ea _ _).symm)|(rw[Ea];exact Ll _)
end
end L2
namespace L3
open PySem Spec PyProof.Rows L2
section
variable {X:Cx}{a:Expr}{ta:aX}
def JX(ta:aX):aX:=λτ M R=>ta τ M λw M1=>∃n:Nat,w=.int n/\n<=1000/\a9 ((Dw n).map λ(i:Nat)=>W.int i) M1 R
theorem zbI(hg:Gl X "list")(hm:X.mg "list" = none)(hg2:Gl X "range")(hm2:X.mg "range" = none)(ha:E3 X a ta)(hc:X.calm=true:=by rfl)(hs1:Br [.Call (.Name "range" p2) [a] [] pos2] X.env=[(false,eval (.Call (.Name "range" p2) [a] [] pos2) X.env)]:=by rfl)(hs2:Br [a] X.env=[(false,eval a X.env)]:=by rfl):
  E3 X (.Call (.Name "list" p) [.Call (.Name "range" p2) [a] [] pos2] [] pos) (JX ta):=
 (zbH hc hg hm hg2 hm2 (aC ha aG (by rw[hs2];rfl)) hs1 hs2).weak λZ H Q z0=>z0.el λτ M R as am h k=>⟨τ,M,λws M1=>∃n:Nat,ws=[.int n]/\n<=1000/\a9 ((Dw n).map λ(i:Nat)=>W.int i) M1 R,as,am,(show aB ta aE τ M _ from(show ta τ M _ from by
  refine(id h:ta τ M _) |> λz=>?_
  exact Eq.mp (congrArg (ta τ M) (funext λw=>funext λM1=>propext ⟨λ⟨n,e,r⟩=>⟨n,by rw[e],r⟩,λ⟨n,e,r⟩=>⟨n,(List.cons.inj e).1,r⟩⟩)) z)),λvs H1 ws M1 k1 am1 ax ⟨n,e,hn,r⟩=>by
  subst e;obtain⟨v,rfl,av⟩:=ax.one;obtain rfl:=av.inv;refine⟨n,rfl,hn,λq hq=>iU am1 (k.kp k1) hq ?_ r⟩;have:∀l:List Nat,aK X.K H1 M1 (l.map λ(i:Nat)=>V.int i) (l.map λ(i:Nat)=>W.int i):=by
   intro l
   induction l with
   | nil=>exact .nil
   | cons i r ih=>exact .cons (.int _) ih
  exact this _⟩
end
end L3
namespace Rg
open PySem Spec PyProof.Rows L2 L3
def sD(row:List Str)(t:Str)(p:Int):List (Int×Int):=if 0<=p/\row[p.toNat]? = some t then [(p+1,0)] else []
theorem zR{p e c:Int}:(e,c)∈sD row t p↔0<=p/\row[p.toNat]? = some t/\e=p+1/\c=0:=by
 unfold sD;split
 .rename_i h;simp[h]
 .rename_i h;simp only[Nf,false_iff];exact λz=>h ⟨z.1,z.2.1⟩
theorem zbJ{n:Nat}{p:Int}:p∈((Dw (n+1)).map λ(i:Nat)=>(i:Int))↔0<=p/\p<=n:=by
 rw[Ax];constructor
 .rintro⟨i,hi,rfl⟩;have:=Hz.mp hi;lia
 .intro h;exact⟨p.toNat,Hz.mpr (by lia),by lia⟩
theorem JY(h:gR G B):(B.map (·.1)).Nodup:=by
 obtain⟨S,I0,st,P,cur,T,A,hq,rfl,_⟩:=h;have o:=A.ob.ord;generalize st.best=B at o;rw[Jg,Ko];refine Js.mpr λi j hi hj hij e=>?_;have sp:B=B.take j++B[j]::B.drop (j+1):=by rw[<-Ju hj,Gm]
 have hn:=(o _ _ _ sp).2;have hm:B[i]∈B.take j:=by
  rw[Li];exact⟨i,by rw[Cb];lia,by rw[List.getElem_take]⟩
 unfold aD at hn;rw[Option.map_eq_none_iff,List.find?_eq_none]at hn;have:=hn _ hm;rw[decide_eq_true_eq]at this;exact this e
theorem mC{e:Int}{k:Nat}(h:k<l.length):(l++[e]).getD k 0=l.getD k 0:=by
 rw[Eg,Eg,List.getElem?_append_left h]
theorem u5{e:Int}:(l++[e]).getD l.length 0=e:=by
 rw[Eg,List.getElem?_concat_length];rfl
theorem getD_last{l:List Int}:l.getD (l.length-1) 0=l.getLastD 0:=by
 rw[Eg,Jt,List.getLast?_eq_getElem?]
abbrev En:=a7×aJ×Nat×List Int
structure sE(G:Sr)(pre:bC)(e:En)(r:aM):Prop where
 no:aD pre e.1=none
 ru:G.rs[e.2.2.1]? = some r
 fa:e.1=(r.name,e.2.2.2.headD 0,e.2.2.2.getLastD 0)
 ln:e.2.2.2.length=r.parts.length+1
 pn:∀k t,r.parts[k]? = some t->G.own t=true->(aD pre (t,e.2.2.2.getD k 0,e.2.2.2.getD (k+1) 0)).isSome=true
 pw:∀k t,r.parts[k]? = some t->G.own t=false->∃pr,(e.2.2.2.getD (k+1) 0,pr)∈G.steps t (e.2.2.2.getD k 0)
def u6(G:Sr)(B:bC):Prop:=∀pre e post,B=pre++e::post->∃r,sE G pre e r
theorem zbK{G:Sr}{B:bC}{n:Nat}{cut:List Int}{c:aJ}(g:GI G B n cut c):∀r,G.rs[n]? = some r->cut.length<=r.parts.length+1/\0<cut.length/\
  ∀k t,k+1<cut.length->r.parts[k]? = some t->(G.own t=true->(aD B (t,cut.getD k 0,cut.getD (k+1) 0)).isSome=true)/\(G.own t=false->∃pr,(cut.getD (k+1) 0,pr)∈G.steps t (cut.getD k 0)):=by
 induction g with
 | start h1 h2=>exact λr _=>⟨Nat.le_add_left _ _,Nat.zero_lt_one,λk t h=>by simp at h⟩
 | @word r' cut c part e pr g h1 h2 h3 h4 ih=>
  intro r hr;rw[h1]at hr;cases hr;obtain⟨i1,i2,i3⟩:=ih r' h1;have hl:=(Ak.mp h2).1;refine⟨by simp;lia,by simp,λk t hk ht=>?_⟩;rw[Aj,Bq]at hk
  by_cases z:k+1<cut.length
  .rw[mC (by lia),mC z];exact i3 k t z ht
  .obtain rfl:k=cut.length-1:=by lia
   rw[h2]at ht;cases ht;rw[mC (by lia),getD_last,show cut.length-1+1=cut.length by lia,u5];exact⟨λz=>(by rw[h3]at z;cases z),λ_=>⟨_,h4⟩⟩
 | @name r' cut c m part e k' g h1 h2 h3 h4 ih=>
  intro r hr;rw[h1]at hr;cases hr;obtain⟨i1,i2,i3⟩:=ih r' h1;have hl:=(Ak.mp h2).1;refine⟨by simp;lia,by simp,λk t hk ht=>?_⟩;rw[Aj,Bq]at hk
  by_cases z:k+1<cut.length
  .rw[mC (by lia),mC z];exact i3 k t z ht
  .obtain rfl:k=cut.length-1:=by lia
   rw[h2]at ht;cases ht;rw[mC (by lia),getD_last,show cut.length-1+1=cut.length by lia,u5];exact⟨λ_=>(by rw[h4];rfl),λz=>(by rw[h3]at z;cases z)⟩
theorem p6{U J:Type}[DecidableEq U](a b:List (U×J))(k:U):aD (a++b) k=(aD a k).or (aD b k):=by
 unfold aD;rw[List.find?_append,Option.map_or]
theorem JZ(h:gR G B):u6 G B:=by
 obtain⟨S,I0,st,P,cur,T,A,hq,rfl,_⟩:=h;intro pre e post hb;obtain⟨g,hn⟩:=A.ob.ord pre e post hb;have hat:aD st.best e.1=some e.2:=by rw[hb,p6,hn,dE,if_pos rfl];rfl
 obtain⟨p1,p2,_⟩:=A.ob.bst e.1 e.2.1 e.2.2.1 e.2.2.2 hat;obtain⟨r,hr⟩:=g.rule;obtain⟨i1,i2,i3⟩:=zbK g r hr;rw[part_of hr]at p1;have p1:=List.getElem?_eq_none_iff.mp p1;have hl:e.2.2.2.length=r.parts.length+1:=by lia
 refine⟨r,hn,hr,?_,hl,λk t ht=>(i3 k t ?_ ht).1,λk t ht=>(i3 k t ?_ ht).2⟩
 .rw[p2];unfold cP dG;rw[hr]
 all_goals have:=(Ak.mp ht).1;lia
section
variable (G:Sr)(fw:Str->Int->Int->W)(fr:Nat->List W->W)
def u7(T:a7->W)(cut:List Int)(ps:List Str):List W:=ps.zipIdx.map λx=>if G.own x.1=true then T (x.1,cut.getD x.2 0,cut.getD (x.2+1) 0) else fw x.1 (cut.getD x.2 0) (cut.getD (x.2+1) 0)
def mD(n:Nat):List Str:=((G.rs[n]?).map aM.parts).getD []
def u9(T:List (a7×W))(e:En):a7×W:=(e.1,fr e.2.2.1 (u7 G fw (λf=>(aD T f).getD .non) e.2.2.2 (mD G e.2.2.1)))
def stepT(T:List (a7×W))(e:En):List (a7×W):=T++[u9 G fw fr T e]
def lJ(B:bC):List (a7×W):=B.foldl (stepT G fw fr) []
def vA(B:bC)(f:a7):W:=(aD (lJ G fw fr B) f).getD .non
end
section
variable {G:Sr}{fw:Str->Int->Int->W}{fr:Nat->List W->W}
theorem J0(B:bC)(T:List (a7×W)):∃m,B.foldl (stepT G fw fr) T=T++m/\m.map Fo=B.map (·.1):=by
 induction B generalizing T with
 | nil=>exact⟨[],by simp,rfl⟩
 | cons e B ih=>
  obtain⟨m,h1,h2⟩:=ih (stepT G fw fr T e);refine⟨u9 G fw fr T e::m,?_,congrArg (e.1::·) h2⟩;rw[Eu,h1,stepT,Bs];rfl
theorem f6{U J:Type}[DecidableEq U]{t:List (U×J)}{k:U}:(aD t k).isSome=true↔k∈t.map (·.1):=by
 rw[<-gF,Jq,Ax];exact⟨λ⟨x,h,e⟩=>⟨x,h,of_decide_eq_true e⟩,λ⟨x,h,e⟩=>⟨x,h,decide_eq_true e⟩⟩
theorem zbL{B pre post:bC}{e:En}{r:aM}(hb:B=pre++e::post)(E:sE G pre e r):vA G fw fr B e.1=fr e.2.2.1 (u7 G fw (vA G fw fr B) e.2.2.2 r.parts):=by
 obtain⟨m0,a1,a2⟩:=J0 (G:=G) (fw:=fw) (fr:=fr) pre [];rw[Gz]at a1;obtain⟨m,h1,h2⟩:=J0 (G:=G) (fw:=fw) (fr:=fr) post (stepT G fw fr (lJ G fw fr pre) e);have ht:lJ G fw fr B=lJ G fw fr pre++(u9 G fw fr (lJ G fw fr pre) e::m):=by
  unfold lJ at h1⊢;rw[hb,Gy,Eu,h1,stepT,Bs];rfl
 have hk:(lJ G fw fr pre).map Fo=pre.map (·.1):=by unfold lJ;rw[a1];exact a2
 have hn:aD (lJ G fw fr pre) e.1=none:=by
  rw[<-Option.not_isSome_iff_eq_none,f6,hk,<-f6,E.no];exact Am
 have hp:mD G e.2.2.1=r.parts:=by unfold mD;rw[E.ru];rfl
 unfold vA;rw[ht,p6,hn,dE,if_pos (show(u9 G fw fr (lJ G fw fr pre) e).1=e.1 from rfl)];show fr e.2.2.1 (u7 G fw _ e.2.2.2 (mD G e.2.2.1))=_;rw[hp];refine congrArg _ (Dv λx hx=>?_);obtain⟨t,k⟩:=x;have hx:=Ha.mp hx
 by_cases ho:G.own t=true
 .rw[if_pos ho,if_pos ho];dsimp only;rw[p6];have hs:=E.pn k t hx ho;rw[f6,<-hk,<-f6]at hs;obtain⟨v,hv⟩:=Dh.mp hs;rw[hv];rfl
 .rw[if_neg ho,if_neg ho]
end
inductive PP(S:Str->Int->Int->Int->List Str->Prop):List Str->Int->Int->Int->List Str->Prop
 | nil {b:Int}:PP S [] b b 0 []
 | cons {t:Str} {ts:List Str} {b m e u v:Int} {x y:List Str}:S t b m u x->PP S ts m e v y->PP S (t::ts) b e (u+v) (x++y)
theorem PP.snoc{S:Str->Int->Int->Int->List Str->Prop}{m e u:Int}(h:S t m e u x):∀{ts:List Str} {b v:Int} {y:List Str},PP S ts b m v y->PP S (ts++[t]) b e (v+u) (y++x)
 | _,_,_,_,.nil=>by
  have:=PP.cons h (.nil (S:=S));rw[Int.add_zero,Ew]at this;rw[Im];exact this
 | _,_,_,_,.cons h1 h2=>by
  rw[Pa,Bs];exact .cons h1 (h2.snoc h)
theorem PP.imp{S S':Str->Int->Int->Int->List Str->Prop}(h:∀t b e v x,S t b e v x->S' t b e v x){b e v:Int}(p:PP S ts b e v y):PP S' ts b e v y:=by
 induction p with
 | nil=>exact .nil
 | cons a _ ih=>exact .cons (h _ _ _ _ _ a) ih
def PS(G:Sr)(N:a7->Int->List Str->Prop)(t:Str)(b e v:Int)(x:List Str):Prop:=(G.own t=false/\(e,v)∈G.steps t b/\x=[t])\/(G.own t=true/\N (t,b,e) v x)
theorem PS.imp{N N':a7->Int->List Str->Prop}(h:∀f v x,N f v x->N' f v x)(t:Str)(b e v:Int)(x:List Str)(p:PS G N t b e v x):PS G N' t b e v x:=Or.imp id (λq=>⟨q.1,h _ _ _ q.2⟩) p
def Cs(G:Sr)(f:a7)(v:Int):Prop:=∃n cut k,DI G n cut (v,k)/\dU G n cut=none/\f=cP G n cut
theorem vB{cut:List Int}{z:Int}(h:cut≠[]):(cut++[z]).headD 0=cut.headD 0/\(cut++[z]).getLastD 0=z/\(cut++[z]).length-1=(cut.length-1)+1:=by
 cases cut with
 | nil=>exact absurd rfl h
 | cons x cut=>exact⟨rfl,by rw[<-getD_last,Aj,Bq,Nat.add_sub_cancel,u5],by simp⟩
theorem zbM{n:Nat}(hr:G.rs[n]? = some r){b e v:Int}(h:PP (PS G λf v _=>Cs G f v) ts b e v y):∀{cut:List Int} {c k:Int},DI G n cut (c,k)->cut.getLastD 0=b->r.parts.drop (cut.length-1)=ts->
  ∃cut' k',DI G n cut' (c+v,k')/\cut'.getLastD 0=e/\cut'.headD 0=cut.headD 0/\r.parts[cut'.length-1]? = none:=by
 induction h with
 | nil=>
  intro cut c k d hl hd;refine⟨cut,k,by rw[Int.add_zero];exact d,hl,rfl,?_⟩;rw[List.getElem?_eq_none_iff];exact List.drop_eq_nil_iff.mp hd
 | @cons t ts b m e u v x y hs _ ih=>
  intro cut c k d hl hd;have hp:r.parts[cut.length-1]? = some t:=by rw[<-Nat.add_zero (cut.length-1),<-List.getElem?_drop,hd];rfl
  have hd':r.parts.drop (cut.length-1+1)=ts:=by rw[<-Oi,hd];rfl
  rcases hs with⟨ho,hs,_⟩|⟨ho,n',cut',k',d',p',f'⟩
  .obtain⟨s1,s2,s3⟩:=vB (z:=m) d.ne;obtain⟨c2,k2,h1,h2,h3,h4⟩:=ih (cut:=cut++[m]) (c:=c+u) (k:=k) (DI.word d hr hp ho (by rw[hl];exact hs)) s2 (by rw[s3];exact hd');exact⟨c2,k2,by rw[<-Pa];exact h1,h2,h3.trans s1,h4⟩
  .unfold cP at f';simp only[Ds]at f';obtain⟨f1,f2,f3⟩:=f';obtain⟨s1,s2,s3⟩:=vB (z:=cut'.getLastD 0) d.ne;obtain⟨c2,k2,h1,h2,h3,h4⟩:=ih (cut:=cut++[cut'.getLastD 0]) (c:=c+u) (k:=k+k') (DI.name d hr hp ho d' p' f1.symm (by rw[hl,f2])) (by rw[s2,f3]) (by rw[s3];exact hd');exact⟨c2,k2,by rw[<-Pa];exact h1,h2,h3.trans s1,h4⟩
theorem vD(hw:∀n,G.wt n=0)(hr:r∈G.rs){b e v:Int}(hb:b∈G.places)(h:PP (PS G λf v _=>Cs G f v) r.parts b e v y):Cs G (r.name,b,e) v:=by
 obtain⟨n,hn⟩:=List.getElem?_of_mem hr;obtain⟨cut,k,h1,h2,h3,h4⟩:=zbM hn h (DI.start hn hb) rfl rfl;rw[hw,Im]at h1;refine⟨n,cut,k,h1,(part_of hn).trans h4,?_⟩;unfold cP dG;rw[hn,h2,h3];rfl
theorem J1(h:gR G B){v:Int}(c:Cs G f v):∃x,aD B f=some x/\x.1.1<=v:=by
 obtain⟨n,cut,k,d,p,rfl⟩:=c;obtain⟨_,_,st,_,_,_,A,hq,rfl,_⟩:=h;obtain⟨m,k',e,l⟩:=XU A.inv A.ob A.ini hq d p;refine⟨_,e,?_⟩;unfold Le at l;simp only at l⊢;lia
def p7(yl:a7->List Str)(own:Str->Bool)(cut:List Int)(ps:List Str):List Str:=(ps.zipIdx.map λx=>if own x.1=true then yl (x.1,cut.getD x.2 0,cut.getD (x.2+1) 0) else [x.1]).flatten
theorem J2{yl:a7->List Str}{own:Str->Bool}{cut:List Int}{e:Int}{ps:List Str}{t:Str}(h:ps.length+1=cut.length):p7 yl own (cut++[e]) (ps++[t])=p7 yl own cut ps++if own t=true then yl (t,cut.getLastD 0,e) else [t]:=by
 unfold p7;rw[List.zipIdx_append,Bd,Ow];congr 1
 .congr 1;refine Dv λx hx=>?_;have:=(List.mem_zipIdx hx).2.1;rw[mC (by lia),mC (by lia)]
 .simp only[Kw,List.zipIdx_nil,Aw,Ii,Ht,List.flatten_nil,Ew,Ks];rw[mC (by lia),show ps.length=cut.length-1 by lia,getD_last,show cut.length-1+1=cut.length by lia,u5]
theorem zbN(hw:∀n,G.wt n=0)(yl:a7->List Str){n:Nat}(g:GI G pre n cut c):∃r,G.rs[n]? = some r/\cut.headD 0∈G.places/\cut.length<=r.parts.length+1/\
  PP (PS G λf v x=>(∃z,aD pre f=some z/\z.1.1=v)/\x=yl f) (r.parts.take (cut.length-1)) (cut.headD 0) (cut.getLastD 0) c.1 (p7 yl G.own cut (r.parts.take (cut.length-1))):=by
 induction g with
 | @start r p hr hp=>exact⟨r,hr,hp,by simp,by rw[hw];exact .nil⟩
 | @word r cut c part e pr g hr hp ho hs ih=>
  obtain⟨r',hr',h1,h2,h3⟩:=ih;rw[hr']at hr;cases hr;obtain⟨s1,s2,s3⟩:=vB (z:=e) g.ne;have hl:=(Ak.mp hp).1;have hne:=He.mpr g.ne;refine⟨r,hr',by rw[s1];exact h1,by simp;lia,?_⟩;rw[s1,s2,s3,l8 hp,J2 (by rw[Cb];lia),if_neg (by rw[ho];exact Am)];exact h3.snoc (.inl ⟨ho,hs,rfl⟩)
 | @name r cut c m part e k g hr hp ho hb ih=>
  obtain⟨r',hr',h1,h2,h3⟩:=ih;rw[hr']at hr;cases hr;obtain⟨s1,s2,s3⟩:=vB (z:=e) g.ne;have hl:=(Ak.mp hp).1;have hne:=He.mpr g.ne;refine⟨r,hr',by rw[s1];exact h1,by simp;lia,?_⟩;rw[s1,s2,s3,l8 hp,J2 (by rw[Cb];lia),if_pos ho];exact h3.snoc (.inr ⟨ho,⟨_,hb,rfl⟩,rfl⟩)
def zT:W->List Str
 | .rl l=>l.filterMap λw=>match w with|.str t=>some t|_=>none
 | _=>[]
theorem J3(l:List Str):zT (.rl (l.map W.str))=l:=by
 show(l.map W.str).filterMap _=l;rw[Ij];exact List.filterMap_some
def yT(G:Sr)(B:bC)(f:a7):List Str:=zT (vA G (λt _ _=>.rl [.str t]) (λ_ vs=>.rl ((vs.flatMap zT).map W.str)) B f)
theorem J4(hb:B=pre++e::post)(E:sE G pre e r):yT G B e.1=p7 (yT G B) G.own e.2.2.2 r.parts:=by
 unfold yT;rw[zbL hb E,J3];unfold p7 u7;rw[List.flatMap_def,Ca];congr 1;refine Dv λx _=>?_;simp only[Hc]
 by_cases h:G.own x.1=true
 .rw[if_pos h,if_pos h]
 .rw[if_neg h,if_neg h];exact J3 [x.1]
theorem sF(hw:∀n,G.wt n=0)(h:gR G B)(hb:B=pre++e::post):∃r,G.rs[e.2.2.1]? = some r/\e.1.1=r.name/\e.1.2.1∈G.places/\
  PP (PS G λf v x=>(∃z,aD pre f=some z/\z.1.1=v)/\x=yT G B f) r.parts e.1.2.1 e.1.2.2 e.2.1.1 (yT G B e.1):=by
 obtain⟨r0,E⟩:=JZ h pre e post hb;obtain⟨S,I0,st,P,cur,T,A,hq,rfl,_⟩:=h;obtain⟨g,hn⟩:=A.ob.ord pre e post hb;obtain⟨r,hr,h1,h2,h3⟩:=zbN hw (yT G st.best) g;have:=E.ru;rw[hr]at this;cases this;have hl:=E.ln;rw[Gh (by lia),<-J4 hb E]at h3;have hf:=E.fa;refine⟨_,hr,by rw[hf],by rw[hf];exact h1,?_⟩;rw[<-show e.1.2.1=e.2.2.2.headD 0 by rw[hf],<-show e.1.2.2=e.2.2.2.getLastD 0 by rw[hf]]at h3;exact h3
theorem zU{B pre post:bC}{e:En}(hb:B=pre++e::post){f:a7}{z:aJ×Nat×List Int}(h:aD pre f=some z):∃p q,pre=p++(f,z)::q/\B=p++(f,z)::(q++e::post):=by
 obtain⟨a,b,e1⟩:=jN h;exact⟨a,b,e1,by rw[hb,e1,Bs];rfl⟩
theorem zbO{G:Sr}(hw:∀n,G.wt n=0){B:bC}(h:gR G B)(Q:a7->Int->List Str->Prop)(hq:∀r∈G.rs,∀b∈G.places,∀e v y,PP (PS G Q) r.parts b e v y->Q (r.name,b,e) v y):∀(k:Nat) (pre:bC) (e:En) (post:bC),pre.length=k->B=pre++e::post->Q e.1 e.2.1.1 (yT G B e.1):=by
 intro k
 induction k using Nat.strongRecOn with
 | ind k ih=>
  intro pre e post hk hb;obtain⟨r,hr,h1,h2,h3⟩:=sF hw h hb;have:=hq r (Bh hr) _ h2 _ _ _ (h3.imp (PS.imp λf v x ⟨⟨z,z1,z2⟩,zx⟩=>by
   obtain⟨p,q,e1,e2⟩:=zU hb z1;have:=ih p.length (by rw[<-hk,e1];simp) p (f,z) _ rfl e2;rw[z2]at this;rw[zx];exact this))
  rwa [<-h1]at this
def Tl(B:bC)(f:a7)(v:Int):Prop:=∃z,aD B f=some z/\z.1.1=v
theorem zbP{G:Sr}(hw:∀n,G.wt n=0){B:bC}(h:gR G B)(Z:a7->Bool)(Q:Nat->a7->Int->Prop)(hq:∀k,∀r∈G.rs,∀b∈G.places,∀e v y,Z (r.name,b,e)=true->PP (PS G λf v _=>Tl B f v/\(Z f=true->Q k f v)) r.parts b e v y->Q (k+1) (r.name,b,e) v):
  ∀(k:Nat) (pre:bC) (e:En) (post:bC),B=pre++e::post->Z e.1=true->(pre.filter λx=>Z x.1).length<k->Q k e.1 e.2.1.1:=by
 intro k
 induction k with
 | zero=>intro pre e post _ _ h;exact absurd h (Kf _)
 | succ k ih=>
  intro pre e post hb hz hl;obtain⟨r,hr,h1,h2,h3⟩:=sF hw h hb;have:=hq k r (Bh hr) _ h2 _ _ _ (by rw[<-h1];exact hz) (h3.imp (PS.imp λf v x ⟨⟨z,z1,z2⟩,_⟩=>by
   obtain⟨p,q,e1,e2⟩:=zU hb z1;refine⟨⟨z,by rw[hb,p6,z1];rfl,z2⟩,λhf=>?_⟩;have:=ih p (f,z) _ e2 hf (by
    rw[e1,Mf,Aj,Dz,if_pos hf,Bp]at hl;lia)
   rw[z2]at this;exact this))
  rwa [<-h1]at this
section
variable {rs:List aM}{ws:List Str}
def jS(rs:List aM)(ws:List Str):Prop:=∀r∈rs,∀t∈r.parts,bM rs t=false->t∈ws
variable {S I0 T:Nat}{st:SS}{P:List bR}{cur:aJ}
theorem sG(rs:List aM):(namesOf rs).length<=rs.length:=by
 have:∀(qs:List aM) (acc:List Str),(oC acc qs).length<=acc.length+qs.length:=by
  intro qs
  induction qs with
  | nil=>intro acc;exact Ai _
  | cons r qs ih=>
   intro acc;have h1:=ih (eU acc r.name);have h2:(eU acc r.name).length<=acc.length+1:=by unfold eU;split<;>simp
   show(oC (eU acc r.name) qs).length<=_;rw[Bp];lia
 have:=this rs [];rw[Lp,Ks]at this;exact this
end
def b7(n:Nat):List Int:=(Dw (n+1)).map λ(i:Nat)=>(i:Int)
def fM(row ws:List Str)(t:Str)(p:Int):List (Int×Int):=if p=row.length then(if t∈ws then [((row.length:Int),1)] else []) else sD row t p
def bD(rs:List aM)(row ws:List Str):Sr:=⟨rs,bM rs,b7 row.length,fM row ws,λ_=>0⟩
theorem eF{n:Nat}{p:Int}:p∈b7 n↔0<=p/\p<=n:=zbJ
theorem PP.append{S:Str->Int->Int->Int->List Str->Prop}{m e v':Int}(h:PP S ts' m e v' y'):∀{ts:List Str} {b v:Int} {y:List Str},PP S ts b m v y->PP S (ts++ts') b e (v+v') (y++y')
 | _,_,_,_,.nil=>by rw[Im];exact h
 | _,_,_,_,.cons h1 h2=>by rw[Pa,Bs];exact .cons h1 (PP.append h h2)
section
variable (rs:List aM)(row:List Str)
def eY(E:Str->Int->List Int)(t:Str)(a:Int):List Int:=if bM rs t=true then E t a else if 0<=a/\row[a.toNat]? = some t then [a+1] else []
def gJ(E:Str->Int->List Int)(h:List Int)(ps:List Str):List Int:=ps.foldl (λh t=>h.flatMap (eY rs row E t)) h
def m8(E:Str->Int->List Int):Prop:=∀r∈rs,∀b∈b7 row.length,∀e∈gJ rs row E [b] r.parts,e∈E r.name b
def J5(P:Str->Int->Int->Prop):Prop:=∀r∈rs,∀b∈b7 row.length,∀E:Str->Int->List Int,(∀X b e,e∈E X b->P X b e)->∀e∈gJ rs row E [b] r.parts,P r.name b e
def i8(T:LT)(ps:List Str):Option Int:=if lackT rs T ps=true then none else some (hJ T ps)
abbrev DO:=List ((Str×Int)×Int)
def m9(T:LT)(E:Str->Int->List Int)(D:DO)(ps:List Str)(b v:Int):Prop:=∃k,k<=ps.length/\(((row.length:Int)∈gJ rs row E [b] (ps.take k)/\i8 rs T (ps.drop k)=some v)\/
 ∃t a w l,ps[k]? = some t/\a∈gJ rs row E [b] (ps.take k)/\aD D (t,a)=some w/\i8 rs T (ps.drop (k+1))=some l/\v=w+l)
end
section
variable {rs:List aM}{row:List Str}
theorem sH{E:Str->Int->List Int}{e:Int}:e∈gJ rs row E h (ps++[t])↔∃a∈gJ rs row E h ps,e∈eY rs row E t a:=by
 unfold gJ;rw[Gy];exact Cu
theorem zbQ{b:Int}(h0:0<=b)(h:row[b.toNat]? = some t):(b+1,0)∈fM row ws t b:=by
 have:=(Ak.mp h).1;unfold fM;rw[if_neg (by lia)];exact zR.mpr ⟨h0,h,rfl,rfl⟩
theorem zV{N:a7->Int->List Str->Prop}{E:Str->Int->List Int}(hE:∀X b e,e∈E X b->∃y,N (X,b,e) 0 y):∀{ps:List Str} {h:List Int} {e:Int},e∈gJ rs row E h ps->∃b∈h,∃y,PP (PS (bD rs row ws) N) ps b e 0 y
 | [],h,e,z=>⟨e,z,[],.nil⟩
 | t::ts,h,e,z=>by
  obtain⟨m,hm,y,p⟩:=zV hE (ps:=ts) (h:=h.flatMap (eY rs row E t)) z;obtain⟨b,hb,hm⟩:=Cu.mp hm;unfold eY at hm
  by_cases ho:bM rs t=true
  .rw[if_pos ho]at hm;obtain⟨x,hx⟩:=hE _ _ _ hm;exact⟨b,hb,x++y,.cons (u:=0) (v:=0) (.inr ⟨ho,hx⟩) p⟩
  .rw[if_neg ho]at hm;split at hm
   .rename_i h;cases Ao.mp hm;exact⟨b,hb,[t]++y,.cons (u:=0) (v:=0) (.inl ⟨Bool.eq_false_iff.mpr ho,zbQ h.1 h.2,rfl⟩) p⟩
   .cases hm
theorem zbR:J5 rs row λX b e=>Cs (bD rs row ws) (X,b,e) 0:=by
 intro r hr b hb E hE e he;obtain⟨b',hb',y,p⟩:=zV (ws:=ws) (N:=λf v _=>Cs (bD rs row ws) f v) (λX b e h=>⟨[],hE X b e h⟩) he;cases Ao.mp hb';exact vD (G:=bD rs row ws) (λ_=>rfl) hr hb p
mutual
theorem zbS{ws:List Str}(aw:jS rs ws):∀{X:Str} {l:Int},LD rs X l->Cs (bD rs row ws) (X,row.length,row.length) l
 | _,_,.mk (r:=r) hr hp=>by
  obtain⟨y,p⟩:=vE aw hp λt ht ho=>aw r hr t ht ho;exact vD (G:=bD rs row ws) (λ_=>rfl) hr (eF.mpr ⟨by lia,Em _⟩) p
theorem vE{ws:List Str}(aw:jS rs ws):∀{ps:List Str} {l:Int},mX rs ps l->(∀t∈ps,bM rs t=false->t∈ws)->∃y,PP (PS (bD rs row ws) λf v _=>Cs (bD rs row ws) f v) ps row.length row.length l y
 | _,_,.nil,_=>⟨[],.nil⟩
 | _,_,.word (t:=t) ho h,hw=>by
  obtain⟨y,p⟩:=vE aw h λu hu=>hw u (Ap _ hu);refine⟨[t]++y,.cons (.inl ⟨ho,?_,rfl⟩) p⟩;show((row.length:Int),(1:Int))∈fM row ws t row.length;unfold fM;rw[if_pos rfl,if_pos (hw t Be ho)];exact Ef _
 | _,_,.name (t:=t) ho d h,hw=>by
  obtain⟨y,p⟩:=vE aw h λu hu=>hw u (Ap _ hu);exact⟨[]++y,.cons (.inr ⟨ho,zbS aw d⟩) p⟩
end
theorem zbT(aw:jS rs ws)(gT:fL rs T){E:Str->Int->List Int}(hE:∀X b e,e∈E X b->Cs (bD rs row ws) (X,b,e) 0)(hD:∀X b w,aD D (X,b)=some w->bM rs X=true/\Cs (bD rs row ws) (X,b,row.length) w)(hr:r∈rs){b:Int}(hb:b∈b7 row.length){v:Int}(h:m9 rs row T E D r.parts b v):Cs (bD rs row ws) (r.name,b,row.length) v:=by
 obtain⟨k,hk,h⟩:=h;have rest:∀{j:Nat} {l:Int},i8 rs T (r.parts.drop j)=some l->∃y,PP (PS (bD rs row ws) λf v _=>Cs (bD rs row ws) f v) (r.parts.drop j) row.length row.length l y:=λ{j l} e=>by
  unfold i8 at e;split at e
  .cases e
  .rename_i z;cases e;exact vE aw (gT.sum (Bool.eq_false_iff.mpr z)) λt ht=>aw r hr t (Ji ht)
 have ini:∀{a:Int},a∈gJ rs row E [b] (r.parts.take k)->∃y,PP (PS (bD rs row ws) λf v _=>Cs (bD rs row ws) f v) (r.parts.take k) b a 0 y:=λ{a} e=>by
  obtain⟨b',hb',y,p⟩:=zV (ws:=ws) (N:=λf v _=>Cs (bD rs row ws) f v) (λX b e h=>⟨[],hE X b e h⟩) e;cases Ao.mp hb';exact⟨y,p⟩
 rcases h with⟨h1,h2⟩|⟨t,a,w,l,h1,h2,h3,h4,rfl⟩
 .obtain⟨y,p⟩:=ini h1;obtain⟨z,q⟩:=rest h2;have:=q.append p;rw[Gm,Im]at this;exact vD (G:=bD rs row ws) (λ_=>rfl) hr hb this
 .obtain⟨y,p⟩:=ini h2;obtain⟨z,q⟩:=rest h4;obtain⟨o,c⟩:=hD t a w h3;have:=(PP.cons (x:=[]) (.inr ⟨o,c⟩) q).append p;rw[<-Ak.mp h1 |>.2,List.getElem_cons_drop,Gm,Im]at this;exact vD (G:=bD rs row ws) (λ_=>rfl) hr hb this
end
section
variable {rs:List aM}{row ws:List Str}
def i9(row:List Str)(b e:Int):List Str:=(row.drop b.toNat).take (e-b).toNat
structure QO(row:List Str)(b e v:Int)(y:List Str):Prop where
 lo:0<=b
 le:b<=e
 hi:e<=row.length
 nn:0<=v
 z:e<row.length->v=0
 y:∃x:List Str,(x.length:Int)=v/\y=i9 row b e++x
theorem zbU{b m e:Int}(c:0<=b)(d:b<=m)(a:m<=e):i9 row b m++i9 row m e=i9 row b e:=by
 unfold i9;rw[show(e-b).toNat=(m-b).toNat+(e-m).toNat by lia,show m.toNat=b.toNat+(m-b).toNat by lia,<-Oi,List.take_add]
theorem QO.nil{b:Int}(h:0<=b)(h':b<=row.length):QO row b b 0 []:=⟨h,Em _,h',Em _,λ_=>rfl,[],rfl,by unfold i9;rw[Int.sub_self];rfl⟩
theorem QO.add{b m e u v:Int}{x y:List Str}(h:QO row b m u x)(g:QO row m e v y):QO row b e (u+v) (x++y):=by
 obtain⟨a,l,rfl⟩:=h.y;obtain⟨f,k,rfl⟩:=g.y;have:=h.nn;have:=g.nn;have j:=g.le;have i:=g.hi;refine⟨h.lo,Fh h.le g.le,g.hi,by lia,λz=>by have:=h.z (by lia);have:=g.z z;lia,a++f,by simp;lia,?_⟩
 by_cases d:m<row.length
 .have:=h.z d;obtain rfl:a=[]:=Ib.mp (by lia);rw[Ew,Gz,<-Bs,zbU h.lo h.le g.le]
 .obtain rfl:m=e:=by lia
  have c:i9 row m m=[]:=by unfold i9;rw[Int.sub_self];rfl
  rw[c,Gz,Bs]
theorem nA{b e v:Int}(c:0<=b)(d:b<=row.length)(h:(e,v)∈fM row ws t b):QO row b e v [t]/\(b<row.length->e=b+1/\v=0/\row[b.toNat]? = some t)/\(b=row.length->e=row.length/\v=1):=by
 unfold fM at h;split at h
 .rename_i hb;split at h
  .cases Ao.mp h;subst hb;refine⟨⟨c,Em _,Em _,by decide,λz=>absurd z (Int.lt_irrefl _),[t],rfl,?_⟩,λz=>absurd z (Int.lt_irrefl _),λ_=>⟨rfl,rfl⟩⟩;unfold i9;rw[Int.sub_self];rfl
  .cases h
 .rename_i hb;obtain⟨f,a,rfl,rfl⟩:=zR.mp h;have hl:=(Ak.mp a).1;refine⟨⟨c,by lia,by lia,Em _,λ_=>rfl,[],rfl,?_⟩,λ_=>⟨rfl,rfl,a⟩,λz=>absurd z hb⟩;unfold i9;rw[show(b+1-b).toNat=1 by lia,Ew,List.take_one,List.head?_drop,a];rfl
theorem zW{N:a7->Int->List Str->Prop}(g:∀f v y,N f v y->QO row f.2.1 f.2.2 v y){ts:List Str}{b e v:Int}{y:List Str}(p:PP (PS (bD rs row ws) N) ts b e v y):0<=b->b<=row.length->QO row b e v y:=by
 induction p with
 | nil=>exact λh h'=>QO.nil h h'
 | @cons t ts b m e u v x y a _ d=>
  intro c i;have q:QO row b m u x:=by
   rcases a with⟨_,a,rfl⟩|⟨_,a⟩
   .exact(nA c i a).1
   .exact g _ _ _ a
  exact q.add (d (Fh q.lo q.le) q.hi)
variable {B:bC}(hB:gR (bD rs row ws) B)
include hB
theorem vF(Q:a7->Int->List Str->Prop)(c:∀r∈rs,∀b∈b7 row.length,∀e v y,PP (PS (bD rs row ws) Q) r.parts b e v y->Q (r.name,b,e) v y)(h:aD B f=some x):Q f x.1.1 (yT (bD rs row ws) B f):=by
 obtain⟨a,b,e⟩:=jN h;exact zbO (G:=bD rs row ws) (λ_=>rfl) hB Q c _ a (f,x) b rfl e
theorem nB(h:aD B f=some x):QO row f.2.1 f.2.2 x.1.1 (yT (bD rs row ws) B f):=
 vF hB (λf v y=>QO row f.2.1 f.2.2 v y) (λr _ b hb e v y p=>zW (λ_ _ _ z=>z) p (eF.mp hb).1 (eF.mp hb).2) h
theorem sI(h:f∈B.map (·.1)):∃x,aD B f=some x/\QO row f.2.1 f.2.2 x.1.1 (yT (bD rs row ws) B f):=by
 obtain⟨x,a⟩:=Dh.mp (f6.mpr h);exact⟨x,a,nB hB a⟩
theorem zbV{E:Str->Int->List Int}(o:m8 rs row E)(h:aD B f=some x)(hl:f.2.2<row.length):f.2.2∈E f.1 f.2.1:=by
 refine(vF hB (λf v y=>QO row f.2.1 f.2.2 v y/\(f.2.2<row.length->f.2.2∈E f.1 f.2.1)) (λr n b hb e v y p=>?_) h).2 hl;have c:=eF.mp hb;refine⟨zW (λ_ _ _ z=>z.1) p c.1 c.2,λj=>o r n b hb e ?_⟩;have:∀{ts:List Str} {m e v:Int} {y:List Str},PP (PS (bD rs row ws) λf v y=>QO row f.2.1 f.2.2 v y/\(f.2.2<row.length->f.2.2∈E f.1 f.2.1)) ts m e v y->∀ps,m∈gJ rs row E [b] ps->0<=m->m<=row.length->e<row.length->e∈gJ rs row E [b] (ps++ts):=by
  intro ts m e v y p
  induction p with
  | nil=>intro ps h _ _ _;rw[Ew];exact h
  | @cons t ts m l e u v x y a s w=>
   intro ps h g k j;have d:QO row m l u x:=by
    rcases a with⟨_,a,rfl⟩|⟨_,a⟩
    .exact(nA g k a).1
    .exact a.1
   have q:=zW (λ_ _ _ z=>z.1) s (Fh d.lo d.le) d.hi;have:=q.le;have:=d.le;rw[Ky];refine w _ (sH.mpr ⟨m,h,?_⟩) (Fh d.lo d.le) d.hi j;unfold eY;rcases a with⟨i,a,rfl⟩|⟨i,a⟩
   .obtain⟨rfl,_,z⟩:=(nA g k a).2.1 (by lia);rw[if_neg (by rw[show bM rs t=false from i];exact Am),if_pos ⟨g,z⟩];exact Ef _
   .rw[if_pos (show bM rs t=true from i)];exact a.2 (by show l<_;lia)
 have:=this p [] (Ef _) c.1 c.2 j;rwa [Gz]at this
theorem zbW{E:Str->Int->List Int}(k:m8 rs R E)(h:aD B f=some x):∀(i:Nat) (rest:List Str),i<=R.length->R.drop i=yT (bD rs row ws) B f++rest->((i+(yT (bD rs row ws) B f).length:Nat):Int)∈E f.1 i:=by
 refine vF hB (λf v y=>∀(i:Nat) (rest:List Str),i<=R.length->R.drop i=y++rest->((i+y.length:Nat):Int)∈E f.1 i) (λr g b hb e v y p i rest hi hd=>?_) h;refine k r g i (eF.mpr ⟨by lia,by lia⟩) _ ?_;have:∀{ts:List Str} {m e v:Int} {y:List Str},PP (PS (bD rs row ws) λf v y=>∀(i:Nat) (rest:List Str),i<=R.length->R.drop i=y++rest->((i+y.length:Nat):Int)∈E f.1 i) ts m e v y->∀(j:Nat) (rest:List Str) ps,(j:Int)∈gJ rs R E [(i:Int)] ps->j<=R.length->R.drop j=y++rest->((j+y.length:Nat):Int)∈gJ rs R E [(i:Int)] (ps++ts):=by
  intro ts m e v y p
  induction p with
  | nil=>intro j rest ps h _ _;rw[Ew];exact h
  | @cons t ts m q e u v x y a o l=>
   intro j rest ps h n hd;rw[Bs]at hd;have hl:=congrArg Ej hd;rw[Ft,Aj,Aj]at hl;have d:R.drop (j+x.length)=y++rest:=by rw[<-Oi,hd,Oh]
   rw[Ky,Aj,<-Nat.add_assoc];refine l (j+x.length) rest _ (sH.mpr ⟨j,h,?_⟩) (by lia) d;unfold eY;rcases a with⟨c,a,rfl⟩|⟨c,a⟩
   .rw[if_neg (by rw[show bM rs t=false from c];exact Am),if_pos ⟨by lia,by rw[Ci,<-Nat.add_zero j,<-List.getElem?_drop,hd];rfl⟩];exact Ef _
   .rw[if_pos (show bM rs t=true from c)];exact a j _ n hd
 have:=this p i rest [] (Ef _) hi hd;rwa [Gz]at this
end
section
variable {rs:List aM}{row ws:List Str}{B:bC}(hB:gR (bD rs row ws) B)
include hB
theorem zX(Z:a7->Bool)(Q:Nat->a7->Int->Prop)(c:∀k,∀r∈rs,∀b∈b7 row.length,∀e v y,Z (r.name,b,e)=true->PP (PS (bD rs row ws) λf v _=>Tl B f v/\(Z f=true->Q k f v)) r.parts b e v y->Q (k+1) (r.name,b,e) v)(k:Nat)(hb:B=pre++e::a)(hz:Z e.1=true)(hk:(pre.filter λx=>Z x.1).length<k):Q k e.1 e.2.1.1:=
 zbP (G:=bD rs row ws) (λ_=>rfl) hB Z Q c k pre e a hb hz hk
theorem vG(h:f∈B.map (·.1)):f.1∈namesOf rs:=by
 obtain⟨x,g⟩:=Dh.mp (f6.mpr h);obtain⟨a,b,e⟩:=jN g;obtain⟨r,d,c,_⟩:=sF (G:=bD rs row ws) (λ_=>rfl) hB e;have c:f.1=r.name:=c;rw[c];exact uA.mpr ⟨r,Bh d,rfl⟩
theorem zY{Z:a7->Bool}{h:Type}[DecidableEq h](g:a7->h)(l:List h)(hi:∀f c,f∈B.map (·.1)->c∈B.map (·.1)->Z f=true->Z c=true->g f=g c->f=c)(hl:∀f∈B.map (·.1),Z f=true->g f∈l){pre:bC}{e:En}{a:bC}(hb:B=pre++e::a)(hz:Z e.1=true):(pre.filter λx=>Z x.1).length<l.length:=by
 have nd:=JY hB;have i:∀x∈pre++[e],x.1∈B.map (·.1):=λx d=>by
  rw[hb,Ky];exact Ov (Cd _ d)
 have p:((((pre++[e]).filter λx=>Z x.1).map λx=>g x.1)).Nodup:=by
  have n:((pre++[e]).map (·.1)).Nodup:=by
   rw[hb,Ky,Bd]at nd;exact(Ei.mp nd).1
  rw[Jg,Ko]at n⊢;refine List.Pairwise.imp_of_mem (λha hb j o=>j ?_) (n.filter _);exact hi _ _ (i _ (Dy.mp ha).1) (i _ (Dy.mp hb).1) (Dy.mp ha).2 (Dy.mp hb).2 o
 have k:=len_sub (b:=l) p λx d=>by
  obtain⟨y,m,rfl⟩:=Ax.mp d;exact hl _ (i _ (Dy.mp m).1) (Dy.mp m).2
 rw[Ab,Mf,Aj,Dz,if_pos hz]at k;exact Bn (Fv _) k
def zN(n:Nat)(f:a7):Bool:=decide (f.2.1=(n:Int))
theorem J6(hb:B=pre++e::a)(hz:zN row.length e.1=true):(pre.filter λx=>zN row.length x.1).length<(namesOf rs).length:=by
 refine zY hB (Z:=zN row.length) (λf=>f.1) (namesOf rs) (λf d h h' z b q=>?_) (λf h _=>vG hB h) hb hz;obtain⟨x,_,k⟩:=sI hB h;obtain⟨g,_,c⟩:=sI hB h';have z:=of_decide_eq_true z;have b:=of_decide_eq_true b;have:=k.le;have:=k.hi;have:=c.le;have:=c.hi;exact Ka q (Ka (z.trans b.symm) (by lia))
theorem J7(r:fL rs T):∀{ts:List Str} {b e v:Int} {y:List Str},PP (PS (bD rs row ws) λf v _=>Tl B f v/\(zN row.length f=true->∃l,aD T f.1=some l/\l<=v)) ts b e v y->b=row.length->lackT rs T ts=false/\hJ T ts<=v/\e=row.length:=by
 intro ts b e v y p
 induction p with
 | nil=>intro h;exact⟨rfl,Em _,h⟩
 | @cons t ts b m e u v x y c _ i=>
  intro h;subst h;rw[HG];rcases c with⟨a,c,rfl⟩|⟨a,⟨_,hf,_⟩,c⟩
  .obtain⟨rfl,rfl⟩:=(nA (by lia) (Em _) c).2.2 rfl;obtain⟨g,n,d⟩:=i rfl;have a:bM rs t=false:=a;have:g9 T t=1:=by
    unfold g9;cases q:aD T t with
    | none=>rfl
    | some l=>rw[r.own _ _ q]at a;cases a
   exact⟨yX.mpr ⟨(λz=>by rw[a]at z;cases z),g⟩,by lia,d⟩
  .have k:=nB hB hf;have j:=k.le;have o:=k.hi;obtain rfl:m=row.length:=Int.le_antisymm o j;obtain⟨g,n,d⟩:=i rfl;obtain⟨l,q,s⟩:=c (decide_eq_true rfl);have:g9 T t=l:=by unfold g9;rw[show aD T t=some l from q];rfl
   exact⟨yX.mpr ⟨λ_=>⟨l,q⟩,g⟩,by lia,d⟩
theorem zbX{e:Int}(h:aD B (X,row.length,e)=some x):∃l,aD (lC rs) X=some l/\l<=x.1.1:=by
 obtain⟨pre,m,hb⟩:=jN h;have hz:zN row.length ((X,(row.length:Int),e),x).1=true:=decide_eq_true rfl;have hk:=J6 hB hb hz;refine zX hB (zN row.length) (λk f v=>∃l,aD (iQ rs k) f.1=some l/\l<=v) (λk r n b d e v y z p=>?_) (rs.length+1) hb hz (Fg (Bn hk (sG rs)));have g:=fL.rounds rs k;have d:b=row.length:=of_decide_eq_true z;obtain⟨a,c,j⟩:=List.append_of_mem n;have u:fL rs (a.foldl (eL rs) (iQ rs k)):=g.steps λx q=>by rw[j];exact Cd _ q
 have s:=iG.steps rs a (iQ rs k);obtain⟨o,C,_⟩:=J7 hB u (p.imp (PS.imp λf v _ h=>⟨h.1,λz=>by
  obtain⟨l,A,D⟩:=h.2 z;obtain⟨i,w,F⟩:=s _ _ A;exact⟨i,w,by lia⟩⟩)) d
 obtain⟨l,z1,z2⟩:=X8 o;obtain⟨i,t,E⟩:=iG.steps rs c _ _ _ z1;refine⟨i,?_,by lia⟩;have:iQ rs (k+1)=c.foldl (eL rs) (eL rs (a.foldl (eL rs) (iQ rs k)) r):=by
  have:∀qs:List aM,qs=a++r::c->qs.foldl (eL rs) (iQ rs k)=c.foldl (eL rs) (eL rs (a.foldl (eL rs) (iQ rs k)) r):=λqs e=>by rw[e,Gy,Eu]
  exact this rs j
 rw[this];exact t
theorem zbY{E:Str->Int->List Int}(M:m8 rs row E){D:DO}{r:aM}{b:Int}(hb:b∈b7 row.length){v:Int}{y:List Str}(p:PP (PS (bD rs row ws) λf v _=>Tl B f v/\(f.2.2=row.length->∃w,aD D (f.1,f.2.1)=some w/\w<=v)) r.parts b row.length v y):∃u,u<=v/\m9 rs row (lC rs) E D r.parts b u:=by
 have R:=fL.rounds rs (rs.length+1);have fin:∀{ts:List Str} {m e v:Int} {y:List Str},PP (PS (bD rs row ws) λf v _=>Tl B f v/\(f.2.2=row.length->∃w,aD D (f.1,f.2.1)=some w/\w<=v)) ts m e v y->m=row.length->∃l,i8 rs (lC rs) ts=some l/\l<=v:=λ{ts m e v y} p d=>by
  obtain⟨O,o,_⟩:=J7 hB R (p.imp (PS.imp λf v _ h=>by
   obtain⟨x,N,Q⟩:=h.1;refine⟨h.1,λz=>?_⟩;obtain⟨X,b,e⟩:=f;have z:b=row.length:=of_decide_eq_true z;subst z;obtain⟨l,n,g⟩:=zbX hB N;exact⟨l,n,by rw[<-Q];exact g⟩)) d
  refine⟨_,?_,o⟩;unfold i8;rw[if_neg (by rw[show lackT rs (lC rs) ts=false from O];exact Am)];rfl
 have go:∀{ts:List Str} {m e v:Int} {y:List Str},PP (PS (bD rs row ws) λf v _=>Tl B f v/\(f.2.2=row.length->∃w,aD D (f.1,f.2.1)=some w/\w<=v)) ts m e v y->e=row.length->∀ps,ps++ts=r.parts->m∈gJ rs row E [b] ps->0<=m->m<=row.length->∃u,u<=v/\m9 rs row (lC rs) E D r.parts b u:=by
  intro ts m e v y p;have J:=p
  induction p with
  | @nil m=>
   intro k ps a d F n;obtain⟨l,g,s⟩:=fin J k;refine⟨l,s,ps.length,by rw[<-a];simp,.inl ⟨?_,?_⟩⟩
   .rw[<-a,Og,<-k];exact d
   .rw[<-a,Oh];exact g
  | @cons t ts m A e u v x y i I K=>
   intro k ps a d F n
   by_cases j:m=row.length
   .obtain⟨l,g,s⟩:=fin J j;refine⟨l,s,ps.length,by rw[<-a];simp,.inl ⟨?_,?_⟩⟩
    .rw[<-a,Og,<-j];exact d
    .rw[<-a,Oh];exact g
   .have c:(ps++[t])++ts=r.parts:=by rw[<-Ky];exact a
    rcases i with⟨G,i,rfl⟩|⟨G,⟨z,hz,hc⟩,i⟩
    .obtain⟨q,o,_⟩:=nA F n i;obtain⟨rfl,rfl,z⟩:=o (by lia);obtain⟨u,P,C⟩:=K I k _ c (sH.mpr ⟨m,d,by
      unfold eY;rw[if_neg (by rw[show bM rs t=false from G];exact Am),if_pos ⟨F,z⟩];exact Ef _⟩) (by lia) q.hi
     exact⟨u,by lia,C⟩
    .have q:=nB hB hz;have T:A<=row.length:=q.hi;have o:m<=A:=q.le;have V:=q.nn
     by_cases H:A<row.length
     .obtain⟨L,P,C⟩:=K I k _ c (sH.mpr ⟨m,d,by
       unfold eY;rw[if_pos (show bM rs t=true from G)];exact zbV hB M hz H⟩) (by lia) T
      exact⟨L,by lia,C⟩
     .obtain rfl:A=row.length:=by lia
      obtain⟨w,S,U⟩:=i rfl;obtain⟨l,g,s⟩:=fin I rfl;refine⟨w+l,by lia,ps.length,by rw[<-a];simp,.inr ⟨t,m,w,l,?_,?_,S,?_,rfl⟩⟩
      .rw[<-a,Me (Ai _),Nat.sub_self];rfl
      .rw[<-a,Og];exact d
      .rw[<-c,show ps.length+1=(ps++[t]).length by simp,Oh];exact g
 exact go p rfl [] rfl (Ef _) (eF.mp hb).1 (eF.mp hb).2
end
def p8(P:Int->Prop):Option Int->Prop
 | none=>∀v,¬P v
 | some v=>P v/\∀u,P u->v<=u
def oK(D:DO)(key:Str×Int):Option Int->DO
 | none=>D
 | some v=>bB D key (kF v ((aD D key).getD v))
theorem zbZ{a b:Int}:kF a b<=a:=by unfold kF;split<;>lia
theorem zb0{a b:Int}:kF a b<=b:=by unfold kF;split<;>lia
theorem zb1{w:Int}(h:aD D k=some w):∃u,aD (oK D key m) k=some u/\u<=w:=by
 cases m with
 | none=>exact⟨w,h,Em _⟩
 | some v=>
  show ∃u,aD (bB _ _ _) k=some u/\_;rw[fJ]
  by_cases e:key=k
  .subst e;rw[if_pos rfl,h];exact⟨_,rfl,zb0⟩
  .rw[if_neg e];exact⟨w,h,Em _⟩
theorem zb2{P:Int->Prop}{u:Int}(a:p8 P m)(h:P u):∃w,aD (oK D key m) key=some w/\w<=u:=by
 cases m with
 | none=>exact absurd h (a u)
 | some v=>
  show ∃w,aD (bB _ _ _) key=some w/\_;rw[fJ,if_pos rfl];exact⟨_,rfl,Fh zbZ (a.2 u h)⟩
theorem zb3{P:Int->Prop}{w:Int}(a:p8 P m)(h:aD (oK D key m) k=some w):aD D k=some w\/(k=key/\P w):=by
 cases m with
 | none=>exact .inl h
 | some v=>
  have h:aD (bB _ _ _) k=some w:=h;rw[fJ]at h
  by_cases e:key=k
  .subst e;rw[if_pos rfl]at h;cases h;unfold kF;cases q:aD D key with
   | none=>rw[Ms,if_neg (Int.lt_irrefl _)];exact .inr ⟨rfl,a.1⟩
   | some z=>
    rw[Option.getD_some];split
    .exact .inl rfl
    .exact .inr ⟨rfl,a.1⟩
  .rw[if_neg e]at h;exact .inl h
section
variable {rs:List aM}{row ws:List Str}{B:bC}
def zE(n:Nat)(f:a7):Bool:=decide (f.2.2=(n:Int))
def kK(rs:List aM)(row:List Str)(B:bC)(i:Nat)(ok:Nat->Int->Prop)(D:DO):Prop:=∀pre e a,B=pre++e::a->zE row.length e.1=true->(pre.filter λx=>zE row.length x.1).length<i->ok e.2.2.1 e.1.2.1->∃w,aD D (e.1.1,e.1.2.1)=some w/\w<=e.2.1.1
structure sJ(rs:List aM)(row ws:List Str)(D:DO):Prop where
 nd:(D.map (·.1)).Nodup
 so:∀X b w,aD D (X,b)=some w->bM rs X=true/\Cs (bD rs row ws) (X,b,row.length) w
theorem kK.put{i:Nat}{ok:Nat->Int->Prop}(h:kK rs row B i ok D):kK rs row B i ok (oK D key m):=λpre e a hb hz hk c=>by
 obtain⟨w,g,b⟩:=h pre e a hb hz hk c;obtain⟨u,f,d⟩:=zb1 (key:=key) (m:=m) g;exact⟨u,f,Fh d b⟩
theorem p9{U c:Type}[DecidableEq U]{t:List (U×c)}{k:U}{v:c}(h:(t.map (·.1)).Nodup):((bB t k v).map (·.1)).Nodup:=by
 unfold bB;split
 .rw[Ca];rw[show((λx:U×c=>x.1) ∘ λe=>if e.1=k then(e.1,v) else e)=λx=>x.1 from funext λe=>by simp only[Hc];split<;>rfl];exact h
 .rename_i z;rw[Bd,Ei];refine⟨h,by simp,λa ha b hb e=>z ?_⟩;rw[gF,f6];rw[Aw,Ii,Ao]at hb;rw[show k=b from hb.symm,<-e];exact ha
theorem sJ.put{T:LT}{E:Str->Int->List Int}{D:DO}{m:Option Int}{r:aM}{b:Int}(i:jS rs ws)(f:fL rs T)(d:∀X b e,e∈E X b->Cs (bD rs row ws) (X,b,e) 0)(h:sJ rs row ws D)(a:r∈rs)(hb:b∈b7 row.length)(g:p8 (m9 rs row T E D r.parts b) m):sJ rs row ws (oK D (r.name,b) m):=by
 refine⟨?_,λX c w e=>?_⟩
 .cases m with
  | none=>exact h.nd
  | some v=>exact p9 h.nd
 .rcases zb3 g e with z|⟨z,hc⟩
  .exact h.so X c w z
  .cases z;exact⟨G8 a,zbT i f d h.so a hb hc⟩
variable (hB:gR (bD rs row ws) B)
include hB
theorem zb4(hb:B=pre++e::a)(h:aD pre f=some z):aD B f=some z:=by rw[hb,p6,h];rfl
theorem kK.hit{E:Str->Int->List Int}(y:m8 rs row E){i s:Nat}{ok:Nat->Int->Prop}{D:DO}{r:aM}{b:Int}{m:Option Int}(h:kK rs row B i (λ_ _=>True) D)(h':kK rs row B (i+1) ok D)(H:rs[s]? = some r)(I:p8 (m9 rs row (lC rs) E D r.parts b) m):kK rs row B (i+1) (λn c=>ok n c\/(n=s/\c=b)) (oK D (r.name,b) m):=by
 intro pre e g hb hz hk l;rcases l with l|⟨rfl,rfl⟩
 .exact(h'.put) pre e g hb hz hk l
 .obtain⟨M,a,N,F,t⟩:=sF (G:=bD rs row ws) (λ_=>rfl) hB hb;have a:rs[e.2.2.1]? = some M:=a;rw[H]at a;cases a;have j:e.1.2.2=row.length:=of_decide_eq_true hz;rw[j]at t;obtain⟨u,K,A⟩:=zbY hB y (D:=D) F (t.imp (PS.imp λf v x ⟨⟨z,z1,z2⟩,_⟩=>by
   have C:=zb4 hB hb z1;refine⟨⟨z,C,z2⟩,λhf=>?_⟩
   .obtain⟨p,q,L,J⟩:=zU hb z1;have d:zE row.length f=true:=decide_eq_true hf;obtain⟨w,o,k⟩:=h p (f,z) _ J d (by
     rw[L,Mf,Aj,Dz,if_pos d,Bp]at hk;lia) trivial
    exact⟨w,o,by rw[<-z2];exact k⟩))
  obtain⟨w,o,k⟩:=zb2 (D:=D) (key:=(r.name,e.1.2.1)) I A;exact⟨w,by rw[N];exact o,Fh k K⟩
theorem zb5(hb:B=pre++e::a)(hz:zE row.length e.1=true):(pre.filter λx=>zE row.length x.1).length<rs.length*(row.length+1):=by
 have:=zY hB (Z:=zE row.length) (λf=>(f.1,f.2.1)) ((namesOf rs).flatMap λX=>(b7 row.length).map λb=>(X,b)) (λf d h h' z c q=>?_) (λf h z=>?_) hb hz
 .rw[jO (k:=row.length+1) (λX _=>by unfold b7;simp)]at this;exact Bn this (Ek _ (sG rs))
 .have z:=of_decide_eq_true z;have c:=of_decide_eq_true c;have q:(f.1,f.2.1)=(d.1,d.2.1):=q;exact Ka (Prod.mk.inj q).1 (Ka (Prod.mk.inj q).2 (z.trans c.symm))
 .obtain⟨_,_,k⟩:=sI hB h;exact Cu.mpr ⟨f.1,vG hB h,Ax.mpr ⟨f.2.1,eF.mpr ⟨k.lo,Fh k.le k.hi⟩,rfl⟩⟩
theorem zb6(s:sJ rs row ws D)(h:kK rs row B (rs.length*(row.length+1)+1) (λ_ _=>True) D)(X:Str)(b:Int):aD D (X,b)=(aD B (X,b,(row.length:Int))).map λx=>x.1.1:=by
 cases e:aD B (X,b,(row.length:Int)) with
 | none=>
  cases g:aD D (X,b) with
  | none=>rfl
  | some w=>
   obtain⟨x,a,_⟩:=J1 hB (s.so X b w g).2;rw[e]at a;cases a
 | some x=>
  obtain⟨pre,c,hb⟩:=jN e;have hz:zE row.length ((X,b,(row.length:Int)),x).1=true:=decide_eq_true rfl;obtain⟨w,a,d⟩:=h pre _ c hb hz (Fg (zb5 hB hb hz)) trivial;have a:aD D (X,b)=some w:=a;have d:w<=x.1.1:=d;obtain⟨j,f,i⟩:=J1 hB (s.so X b w a).2;rw[e]at f;cases f;rw[a];show some w=some x.1.1;rw[Int.le_antisymm d i]
theorem J8{L:Int}(l:1<=L){Q:a7->Int->Prop}(j:∀f v,zN row.length f=true->Q f v->v<=L){b e v:Int}(p:PP (PS (bD rs row ws) λf v _=>Tl B f v/\Q f v) ts b e v y):b=row.length->v<=ts.length*L:=by
 induction p with
 | nil=>intro _;exact Int.le_of_eq (by simp)
 | @cons t ts b m e u v x y a _ c=>
  intro h;subst h;rw[Bp,Int.natCast_add,Int.add_mul];rcases a with⟨g,a,rfl⟩|⟨g,⟨_,hf,_⟩,a⟩
  .obtain⟨rfl,rfl⟩:=(nA (by lia) (Em _) a).2.2 rfl;have:=c rfl;simp only[Int.natCast_one,Int.one_mul];lia
  .have k:=nB hB hf;have d:=k.le;have i:=k.hi;obtain rfl:m=row.length:=Int.le_antisymm i d;have:=c rfl;have:=j _ _ (decide_eq_true rfl) a;simp only[Int.natCast_one,Int.one_mul];lia
theorem J9{m:Nat}(g:∀r∈rs,r.parts.length<=m)(i:1<=m){k:Nat}(hk:(namesOf rs).length<=k){e:Int}(h:aD B (X,row.length,e)=some x):x.1.1<=((m ^ k:Nat):Int):=by
 obtain⟨pre,a,hb⟩:=jN h;have hz:zN row.length ((X,(row.length:Int),e),x).1=true:=decide_eq_true rfl;have hf:=J6 hB hb hz;refine zX hB (zN row.length) (λk f v=>v<=((m ^ k:Nat):Int)) (λk r c b d e v y z p=>?_) k hb hz (Bn hf hk);have j:1<=m ^ k:=Nat.one_le_pow _ _ i;have:=J8 hB (L:=((m ^ k:Nat):Int)) (by lia) (Q:=λf v=>zN row.length f=true->v<=((m ^ k:Nat):Int)) (λf v z h=>h z) p (of_decide_eq_true z);have l:=Ek (m ^ k) (g r c);show v<=((m ^ (k+1):Nat):Int);rw[Nat.pow_succ,Nat.mul_comm];have n:((r.parts.length*m ^ k:Nat):Int)=(r.parts.length:Int)*((m ^ k:Nat):Int):=Int.natCast_mul _ _;lia
def zS(n:Nat)(f:a7):Bool:=decide (f.2.1<(n:Int)/\f.2.2=(n:Int))
theorem KA{m:Nat}(M:∀r∈rs,r.parts.length<=m+1){L:Nat}(S:1<=L)(E:∀{X:Str} {e:Int} {x:aJ×Nat×List Int},aD B (X,row.length,e)=some x->x.1.1<=(L:Int)){k:Nat}(hk:(namesOf rs).length<=k){b:Int}(h:aD B (X,b,row.length)=some x):x.1.1<=((L+(k*row.length)*(m*L):Nat):Int):=by
 have q:=nB hB h
 by_cases j:b=row.length
 .subst j;have:=E h;lia
 have g:b<row.length:=by have:=q.le;simp only at this;lia
 obtain⟨pre,F,hb⟩:=jN h;have hz:zS row.length ((X,b,(row.length:Int)),x).1=true:=decide_eq_true ⟨g,rfl⟩;have hf:=zY hB (Z:=zS row.length) (λf=>(f.1,f.2.1)) ((namesOf rs).flatMap λX=>((Dw row.length).map λ(i:Nat)=>(i:Int)).map λb=>(X,b)) (λf A h h' z o q=>by
  have z:=(of_decide_eq_true z).2;have o:=(of_decide_eq_true o).2;have q:(f.1,f.2.1)=(A.1,A.2.1):=q;exact Ka (Prod.mk.inj q).1 (Ka (Prod.mk.inj q).2 (z.trans o.symm))) (λf h z=>by
  obtain⟨_,_,k⟩:=sI hB h;have z:=(of_decide_eq_true z).1;have:=k.lo;exact Cu.mpr ⟨f.1,vG hB h,Ax.mpr ⟨f.2.1,Ax.mpr ⟨f.2.1.toNat,Hz.mpr (by lia),by lia⟩,rfl⟩⟩) hb hz
 rw[jO (k:=row.length) (λX _=>by simp)]at hf;have hf:=Bn hf (Ek _ hk);refine zX hB (zS row.length) (λk f v=>v<=((L+k*(m*L):Nat):Int)) (λk r I b l e v y z p=>?_) (k*row.length) hb hz hf;obtain⟨z1,z2⟩:=of_decide_eq_true z;have z1:b<row.length:=z1;have z2:e=row.length:=z2;have go:∀{ts:List Str} {b e v:Int} {y:List Str},PP (PS (bD rs row ws) λf v _=>Tl B f v/\(zS row.length f=true->v<=((L+k*(m*L):Nat):Int))) ts b e v y->0<=b->b<row.length->e=row.length->v<=((L+k*(m*L)+(ts.length-1)*L:Nat):Int):=by
  intro ts b e v y p
  induction p with
  | nil=>intro _ h h';lia
  | @cons t ts b c e u v x y a n G=>
   intro J hb D;have hl:(((t::ts).length-1:Nat):Nat)=ts.length:=by simp
   rw[hl];have O:((ts.length-1)*L:Nat)<=ts.length*L:=Ek _ (Nat.sub_le _ _);have fin:∀{e v:Int},PP (PS (bD rs row ws) λf v _=>Tl B f v/\(zS row.length f=true->v<=((L+k*(m*L):Nat):Int))) ts row.length e v y->v<=((ts.length*L:Nat):Int):=λ{e v} p=>by
    have:=J8 hB (L:=(L:Int)) (by lia) (Q:=λf v=>Tl B f v) (λf v z ⟨x,H,C⟩=>by
     obtain⟨X,b,e⟩:=f;have z:b=row.length:=of_decide_eq_true z;subst z;rw[<-C];exact E H) (p.imp (PS.imp λf v _ h=>⟨h.1,h.1⟩)) rfl
    rw[Int.natCast_mul];exact this
   rcases a with⟨K,a,rfl⟩|⟨K,⟨w,hf,hw⟩,a⟩
   .obtain⟨q,N,_⟩:=nA J (Int.le_of_lt hb) a;obtain⟨rfl,rfl,_⟩:=N hb
    by_cases d:b+1=row.length
    .rw[d]at n;have:=fin n;lia
    .have:=G (by lia) (by have:=q.hi;lia) D;lia
   .have s:=nB hB hf;have R:b<=c:=s.le;have P:c<=row.length:=s.hi
    by_cases d:c=row.length
    .subst d;have:=fin n;have:=a (decide_eq_true ⟨hb,rfl⟩);lia
    .have:=s.z (show c<_ by lia);have:=G (by lia) (by lia) D;lia
 have:=go p (eF.mp l).1 z1 z2;have C:=Ek L (show r.parts.length-1<=m by have:=M r I;lia);show v<=((L+(k+1)*(m*L):Nat):Int);rw[Nat.add_mul,Nat.one_mul];lia
end
theorem oM{U c:Type}[DecidableEq U]{t:List (U×c)}{k:U}{v:c}(h:aD t k=some v):(k,v)∈t:=by
 obtain⟨a,b,e⟩:=jN h;rw[e];simp
theorem KC{U a:Type}[DecidableEq U]{t:List (U×a)}(nd:(t.map (·.1)).Nodup){k:U}{v:a}(h:(k,v)∈t):aD t k=some v:=by
 induction t with
 | nil=>cases h
 | cons e t b=>
  rw[Aw,Dx]at nd;rw[dE];rcases Bg.mp h with rfl|h
  .rw[if_pos rfl]
  .rw[if_neg (λz=>nd.1 (Ax.mpr ⟨_,h,z.symm⟩))];exact b nd.2 h
end Rg
namespace L3
open PySem Spec PyProof.Rows L2
section
variable {X:Cx}
def kL(M:Mm)(w:W)(xs:List Str):Prop:=w=.rl (xs.map W.str)\/∃a,w=.ref a/\M a=some (.lst (xs.map W.str))
end
section
variable {X:Cx}{pos:Pos}{a b:Expr}{ta tb te:aX}
theorem b8{i:Nat}(a:X.N.Nodup)(hi:X.N[i]? = some x:=by rfl)(b:Loc X.env.scope x:=by first|exact Or.inl rfl|exact Or.inr rfl)(hf:X.fn x=true\/X.env.scope.names.lookup x=some .local:=by first|exact .inl rfl|exact .inr rfl|assumption):PG X (.Name x pos) (gN X.K (bA i)):=F7 a hi b hf
theorem fT{i:Nat}(hi:X.N[i]? = some x:=by rfl)(b:Loc X.env.scope x:=by first|exact Or.inl rfl|exact Or.inr rfl)(a:X.N.Nodup:=by exact of_decide_eq_true (by kernel_rfl))(hf:X.fn x=true\/X.env.scope.names.lookup x=some .local:=by first|exact .inl rfl|exact .inr rfl|assumption):PG X (.Name x pos) (gN X.K (bA i)):=F7 a hi b hf
theorem a8{i:Nat}{x:Str}{e:Expr}{a:Pos}(d:X.N.Nodup)(f:E3 X e te)(hi:X.N[i]? = some x:=by rfl)(b:Loc X.env.scope x:=by first|exact Or.inl rfl|exact Or.inr rfl)(c:Jd e (some (.Name x a)) pos.line X.env=pure false:=by rfl)(hf:X.fn x=true\/X.env.scope.names.lookup x=some .local:=by first|exact .inl rfl|exact .inr rfl|assumption):
  P3 X (.Assign [.Name x a] e pos) (aY i te):=V7 d hi b f c hf
theorem vH(d:bE X (Cw op) (dB X.K r))(ha:E3 X a ta)(hb:E3 X b tb)(c:Je op b=false:=by first|exact DD _|with_unfolding_all rfl):E3 X (.Compare a [op] [b] pos) (aH r ta tb):=VA d ha hb c
theorem bX(d:bE X (Cw op) (dB X.K r))(ha:E3 X a ta)(hb:E3 X b tb)(c:Je op b=false:=by first|exact DD _|with_unfolding_all rfl):T3 X (.Compare a [op] [b] pos) (bO (aH r ta tb)):=VB d ha hb c
variable {tg iter elt:Expr}{ifs:List Expr}{sc:Kn}{wi:iX}{g:eR}{tt:dP}
theorem zb7{i:Nat}{x:Str}{e a:Pos}(m:X.N.Nodup)(b:List Str)(js:List (Option Nat))(hi:PI X tg iter (g7 X.K wi))(f:∀B,PG (cR X sc b B) tg (gN X.K g))(ht:∀B,iE (cR X sc b B) ifs (jF X.K tt))(n:∀B,PE (cR X sc b B) elt (up X.K te))(d:X.N[i]? = some x:=by rfl)(h:Loc X.env.scope x:=by first|exact Or.inl rfl|exact Or.inr rfl)(j:lO b sc X.env.scope=true:=by kernel_rfl)(k:fA b X.N sc js b=true:=by kernel_rfl)(hc:X.calm=true:=by rfl)(c:Jd (.ListComp elt [⟨tg,iter,ifs,0⟩] sc pos) (some (.Name x e)) a.line X.env=pure true:=by rfl)(hf:X.fn x=true\/X.env.scope.names.lookup x=some .local:=by first|exact .inl rfl|exact .inr rfl|assumption)(l:∀x,Gj iter X.env x=pure x:=by intro _;rfl):P3 X (.Assign [.Name x e] (.ListComp elt [⟨tg,iter,ifs,0⟩] sc pos) a) (aY i (eE wi g tt te js)):=WK m d h b js hi f ht n j k hc c hf l
theorem vI{i:Nat}{x:Str}{e a:Pos}(m:X.N.Nodup)(b:List Str)(js:List (Option Nat))(hi:PI X tg iter (g7 X.K wi))(f:∀B,PG (cR X sc b B) tg (gN X.K g))(ht:∀B,iE (cR X sc b B) ifs (jF X.K tt))(n:∀B,PE (cR X sc b B) elt (up X.K te))(d:X.N[i]? = some x:=by rfl)(h:Loc X.env.scope x:=by first|exact Or.inl rfl|exact Or.inr rfl)(j:lO b sc X.env.scope=true:=by kernel_rfl)(k:fA b X.N sc js b=true:=by kernel_rfl)(hc:X.calm=true:=by rfl)(c:Jd (.ListComp elt [⟨tg,iter,ifs,0⟩] sc pos) (some (.Name x e)) a.line X.env=pure true:=by rfl)(hf:X.fn x=true\/X.env.scope.names.lookup x=some .local:=by first|exact .inl rfl|exact .inr rfl|assumption)(l:∀x,Gj iter X.env x=pure x:=by intro _;rfl):P3 X (.Assign [.Name x e] (.ListComp elt [⟨tg,iter,ifs,0⟩] sc pos) a) (aY i (cB (eE wi g tt te js))):=WR m d h b js hi f ht n j k hc c hf l
end
theorem cE(a:sc.kind=.function:=by rfl)(b:sc.isCoroutine=false:=by rfl)(c:sc.isGenerator=false:=by rfl)(d:N.Nodup:=by decide +kernel)(e:N.take ps.length=ps:=by rfl)(f:∀x∈ps,sc.names.lookup x=some .local\/sc.names.lookup x=some .cell:=by decide +kernel)(g:∀y∈sc.names,y.2≠.free:=by decide +kernel):oR N ps sc:=⟨a,b,c,d,e,f,g⟩
theorem KD{C:List Ae->Prop}(h:C [])(us:List Ae)(e:us.length=0):C us:=by rw[Ib.mp e];exact h
theorem oN{C:List Ae->Prop}{n:Nat}(k:∀a us,us.length=n->C (a::us)):∀us:List Ae,us.length=n+1->C us
 | a::l,e=>k a l (Nat.succ.inj e)
theorem vJ{C:List Ae->Prop}(h:∀a,C [a]):∀us:List Ae,us.length=1->C us:=oN λa=>KD (h a)
theorem vK{C:List Ae->Prop}(h:∀a b,C [a,b]):∀us:List Ae,us.length=2->C us:=oN λa=>vJ (h a)
theorem vL{C:List Ae->Prop}(h:∀a b c,C [a,b,c]):∀us:List Ae,us.length=3->C us:=oN λa=>vK (h a)
theorem vM{C:List Ae->Prop}(h:∀a b c d,C [a,b,c,d]):∀us:List Ae,us.length=4->C us:=oN λa=>vL (h a)
theorem vN{C:List Ae->Prop}(h:∀a b c d e,C [a,b,c,d,e]):∀us:List Ae,us.length=5->C us:=oN λa=>vM (h a)
theorem KG{C:List Ae->Prop}(h:∀a b c d e f,C [a,b,c,d,e,f]):∀us:List Ae,us.length=6->C us:=oN λa=>vN (h a)
theorem zb8{C:List Ae->Prop}(h:∀a b c d e f g,C [a,b,c,d,e,f,g]):∀us:List Ae,us.length=7->C us:=oN λa=>KG (h a)
def zZ(x q:Str)(st:Stmt)(ps:List Str):Prop:=∀(kV doc pm:Ae) (an:Option Addr) (cdv ct:Ae) (us:List Ae),us.length=ps.length->bindArgs (Fy x q (jB st) (h9 st) (e8 st) .none kV doc pm an cdv ct) ⟨us,[]⟩=pure (ps.zip us)
section
variable {K:Ac}{mg:Str->Option Ae}{h:Heap}{x q:Str}{st:Stmt}{C f:Addr}{ps:List Str}{an:Option Addr}{kV doc pm cdv ct:Ae}
theorem dF(X:K.In h)(G:h.Ns Fi mg)(hb:zZ x x st ps:=by first|exact λ_ _ _ _ _ _=>vJ λ_=>rfl|exact λ_ _ _ _ _ _=>vK λ_ _=>rfl|exact λ_ _ _ _ _ _=>vL λ_ _ _=>rfl|exact λ_ _ _ _ _ _=>vM λ_ _ _ _=>rfl|exact λ_ _ _ _ _ _=>vN λ_ _ _ _ _=>rfl|exact λ_ _ _ _ _ _=>KG λ_ _ _ _ _ _=>rfl|exact λ_ _ _ _ _ _=>zb8 λ_ _ _ _ _ _ _=>rfl|exact λ_ _ _ _ _ _=>KD rfl)(n:PySem.W.nsIn K Fi x=some (some (.ref f)):=by kernel_rfl)(l:K.lookup f=some ⟨.type "function",none,.func (Fy x x (jB st) (h9 st) (e8 st) .none kV doc pm an cdv ct),#[]⟩:=by kernel_rfl)(c:Kh K cdv x=true:=by kernel_rfl)(k:Gd K (.ref f)=true:=by kernel_rfl):Df K mg x st ps f (Fy x x (jB st) (h9 st) (e8 st) .none kV doc pm an cdv ct):=⟨oU l c k,Of X G n,(oU l c k).binds hb⟩
theorem dM(hb:zZ x q st ps:=by first|exact λ_ _ _ _ _ _=>vJ λ_=>rfl|exact λ_ _ _ _ _ _=>vK λ_ _=>rfl|exact λ_ _ _ _ _ _=>vL λ_ _ _=>rfl|exact λ_ _ _ _ _ _=>vM λ_ _ _ _=>rfl|exact λ_ _ _ _ _ _=>vN λ_ _ _ _ _=>rfl)(a:Cq K (.ref C) x=some (some (.ref f)):=by kernel_rfl)(n:Nb K (.ref f)=true:=by kernel_rfl)(l:K.lookup f=some ⟨.type "function",none,.func (Fy x q (jB st) (h9 st) (e8 st) .none kV doc pm an cdv ct),#[]⟩:=by kernel_rfl)(c:Kh K cdv q=true:=by kernel_rfl)(k:Gd K (.ref f)=true:=by kernel_rfl):Dm K C x q st ps f (Fy x q (jB st) (h9 st) (e8 st) .none kV doc pm an cdv ct):=⟨oU l c k,⟨a,n,k⟩,(oU l c k).binds hb⟩
theorem dI(hb:zZ x q st ps:=by first|exact λ_ _ _ _ _ _=>vJ λ_=>rfl|exact λ_ _ _ _ _ _=>vK λ_ _=>rfl|exact λ_ _ _ _ _ _=>vL λ_ _ _=>rfl|exact λ_ _ _ _ _ _=>vM λ_ _ _ _=>rfl|exact λ_ _ _ _ _ _=>vN λ_ _ _ _ _=>rfl)(m:PySem.W.makesIn K C=true:=by kernel_rfl)(a:Cq K (.ref C) "__init__" = some (some (.ref f)):=by kernel_rfl)(n:Nb K (.ref f)=true:=by kernel_rfl)(d:Gd K (.ref C)=true:=by kernel_rfl)(l:K.lookup f=some ⟨.type "function",none,.func (Fy x q (jB st) (h9 st) (e8 st) .none kV doc pm an cdv ct),#[]⟩:=by kernel_rfl)(c:Kh K cdv q=true:=by kernel_rfl)(k:Gd K (.ref f)=true:=by kernel_rfl):Di K C x q st ps f (Fy x q (jB st) (h9 st) (e8 st) .none kV doc pm an cdv ct):=⟨oU l c k,⟨m,a,n,d⟩,(oU l c k).binds hb⟩
variable {P:Bt}{w:Ck}{base:Heap}{fd:Bv}{N:List Str}{k:Nat}{sp:bP}{rd:aI}
theorem cF(P:Bt)(w:Ck)(mg:Str->Option Ae)(base:Heap)(k:Nat)(F:kS K x q st f fd)(_:Binds K fd ps [])(S:oR N ps (e8 st))(a:∀{ws M R},sp ws M R->rd (bS R) (bZ N ws) M)(c:∀{cdv:Ae} {A:Co} {outer:List Env} {s:Ag} {H:Hp} {E:XK},cM k (A.deeper (Nq q (e8 st) s.heap.objs.size f cdv))->(A.deeper (Nq q (e8 st) s.heap.objs.size f cdv)).units+1<Gu->N.Nodup->k7 (mG gL P w K mg base N q (e8 st) f cdv A outer s H E).nox (h9 st) rd)(len:∀ws M R,sp ws M R->ws.length=ps.length:=by intro _ _ _ h;repeat (first|(obtain⟨rfl,_⟩:=h;exact rfl)|obtain⟨_,h⟩:=h)):e9 P w K mg base gL (k+1) f fd ps (gZ K sp):=
 t6 F S len λ_ _ _ _ _ _ _ _ _ b h=>⟨rd,c b (UC b) S.nd,a h⟩
end
section
variable {X:Cx}{pos p:Pos}{x:Str}{st:Stmt}{e:Expr}{es:List Expr}{t:d3}{k j:Nat}{f:Addr}{fd:Bv}{ps:List Str}{sp:bP}
theorem bU(F:e9 X.prog X.w X.K X.mg X.base gL k f fd ps (gZ X.K sp))(D:Df X.K X.mg x st ps f fd)(c:cM j X.A)(ha:A3 X (e::es) t)(g:k<=j:=by decide)(d:Gl X x:=by rfl)(a:(x==("__debug__" : Str))=false:=by decide)(h:Br (e::es) X.env=(false,eval e X.env)::Br es X.env:=by rfl)(b:(Ie pos (Br es X.env)).any (·.1)=false:=by rfl):
  E3 X (.Call (.Name x p) (e::es) [] pos) (bK sp t):=VE F (c.mono g) d D.at_ D.fn.kp D.bi ha a h b
end
end L3
namespace L2
open PySem Spec PyProof.Rows
section
variable {X:Cx}
def zb9(tk c:TE):TE:=λd H Q=>∀p,H p=none->wV [(tk,c)] d (aR H p (.dT [])) λps a=>∃(b:Addr) (y:V) (k:List aF),ps=[(.ref b,y)]/\a p=some (.dT [])/\a b=some (.tup (k.map kV))/\Q (.ref p) (aR a p (.dT [(k,y)]))
theorem zca(hu:X.A.units+1<Gu)(hk:PE X k tk)(hv:PE X v tv):PE X (.Dict [some k] [v] pos) (zb9 tk tv):=by
 intro pins s Z H Q I q;have hn:=I.hok.fresh (Ai s.heap.objs.size);have I1:=I.laid (a:=s.heap.objs.size) (o:=.dT []) (h':=s.heap.push {cls:=.type "dict",data:=.dict #[]}) (t':=s.toks) (λ_ _ q=>Ah _ q) (Ai _) (EG s.heap I.big);refine wpAny_Dict_any rfl rfl (λh=>nomatch h) (by decide:1<=15) (a5 (T6 hk hv T5 pins _ Z _ _ I1 (q _ hn)) λws s2 ⟨ps,H2,I2,rel,b,y,k,ep,e,eb,q2⟩=>?_);subst ep;cases rel with
 | @cons a1 b1 _ _ r1 r2=>
  cases r2;obtain⟨u1,u2⟩:=b1;obtain⟨ru,rv⟩:=r1;cases (show u1=Value.ref b from ru);obtain⟨z,hd,xs,rel,dd⟩:=tL I2.hok e;cases rel;unfold storeAll;rw[List.forIn_cons];refine Aa (Aa (wpAny_dictSet_heap (hsz:=Bk _) (Kt hu) (j5 I2.hok eb) dd λh' dd' hs=>Af ?_));show Bc _ _ (pure PUnit.unit) _ _ _;refine Af ⟨.ref _,_,?_,rfl,q2⟩;obtain⟨q,es,ep,hq,h2,h3,h4,_,h5⟩:=dd';refine qR I2 (by rw[e];exact True.intro) hs ⟨q,hq⟩ ⟨show 1<=An by decide,hd,_,((show KT H2 [] [] from .nil).put k eb rv).keeps λc ys ec=>?_,q,es,ep,hq,h2,h3,h4,h5⟩;rw[bF (sR ec e (λz=>nomatch z))];exact ec
end
end L2
namespace L3
open PySem Spec PyProof.Rows L2
section
variable {X:Cx}{a b:Expr}{ta tb:aX}{pos p:Pos}
def KH(ta tb:aX):aX:=λb M R=>∀p,M p=none->ta b (put M p (.dT [])) λx c=>tb b c λy a=>a p=some (.dT [])/\∃k:List aF,x=.tup (k.map wK)/\R (.ref p) (put a p (.dT [(k,y)]))
theorem zcb(F:X.A.units+1<Gu)(ha:E3 X a ta)(hb:E3 X b tb):E3 X (.Dict [some a] [b] pos) (KH ta tb):=
 (zca F ha hb).weak λU H Q G=>G.el λz M R as j h k=>λp v=>by
  obtain⟨g,l⟩:=j.laid (o:=.dT []) (u:=.dT []) v ⟨[],dO,.nil⟩;refine⟨z,_,_,as.kp j l,g,h p (j.nonM v),λx S P K w i I B=>⟨z,K,_,(as.kp j l).kp g w,i,B,λy O L T t d D ⟨e,m,ex,r⟩=>?_⟩⟩;subst ex;obtain⟨ks,f,q⟩:=d _ _ e;cases q;have s:=I.kp i t;exact s.tupE λc xs N E C=>by
   obtain⟨n,J⟩:=d.write (o:=.dT [(m,L)]) (u:=.dT [(m,y)]) e ⟨_,dO,.cons ⟨rfl,D.wr d e⟩ .nil⟩;exact⟨c,y,m,by rw[N],f,by rw[<-C.keys];exact E,k _ _ _ _ (((l.trans w).trans t).trans J) n (.ref _) r⟩
variable {x:Str}{e:Expr}{es:List Expr}{t:d3}{k j i:Nat}{f:Addr}{fd:Bv}{ps:List Str}{sp:bP}
def z5(i:Nat)(f:Addr)(sp:bP)(t:d3):aX:=λa M R=>a[i]? = some (some (.ref f))/\bK sp t a M R
theorem KI(S:g=f)(F:e9 X.prog X.w X.K X.mg X.base gL k f fd ps (gZ X.K sp))(z:cM j X.A)(hk:Gd X.K (.ref f)=true)(hb:Binds X.K fd ps [])(ha:A3 X (e::es) t)(y:k<=j:=by decide)(C:X.N[i]? = some x:=by rfl)(E:sU X.env.scope x:=by first|exact Or.inl rfl|exact Or.inr (Or.inl rfl)|exact Or.inr (Or.inr rfl))(hd:(x==("__debug__" : Str))=false:=by decide)(b:(x==("__classdict__" : Str))=false:=by decide)(L:Br (e::es) X.env=(false,eval e X.env)::Br es X.env:=by rfl)(c:(Ie pos (Br es X.env)).any (·.1)=false:=by rfl):
  E3 X (.Call (.Name x p) (e::es) [] pos) (z5 i g sp t):=by
 subst S;intro a s m H Q I ⟨U,M,R,as,B,⟨Y,h⟩,W⟩;have V:=FF (K:=X.K) ⟨U,M,R,as,B,h,W⟩;obtain⟨v,P,J⟩:=as.get Y;refine Ez (a5 (C5 (pos:=p) C E hd b a s m H (λw D=>w=.ref g/\D=H) I ⟨v,P,J.inv,rfl⟩) λu O ⟨w,G,d,n,o,T⟩=>?_);subst o T;cases n;exact Lu (h₀:=X.base) d.ok.mod.kin hk (a5 (ha pos a O m G _ d V) λus s2 ⟨vs,Z,l,r,q⟩=>⟨l.kIn,tH F (z.mono y) hb .nil oT l r q⟩) L c
theorem KJ{g f:Addr}{fd:Bv}{ps:List Str}{x:Str}{pos:Pos}{st:Stmt}(b:g=f)(D:Df X.K X.mg x st ps f fd)(a:Gl X x:=by rfl)(hd:(x==("__debug__" : Str))=false:=by decide):E3 X (.Name x pos) (vC (.ref g)):=by
 subst b;exact U9 (y:=.ref g) a D.at_ rfl (λ_ _=>.ref _) hd
end
end L3
namespace PySem
namespace Et
open PyProof.Rows L2 PySem.Spec
section
variable {prog:Bt}{w:Ck}{A:Co}{E:Ae->Ag->Prop}{s:Ag}
theorem draws(f:A.handled=none)(it l:Addr)(d:l≠it)(items:Array Ae):Draws prog w A it [it,l] items.size (λi v=>items[i]? = some v) (λi h=>h.IsTupleIter it l i/\h.IsTuple l items) where
 live:=λ_ _ st=>let ⟨o,ho,_⟩:=st.1;⟨o,ho⟩
 frame:=λk h h' st hk=>(Zt.side_tuple (prog:=prog) (w:=w) it l d items).keep k h h' st λc hc o e=>hk c (by rcases hc with rfl|rfl<;>simp) o e
 item:=λi s Q E hi st g=>(Zt.side_tuple it l d items).item A E s i items[i] Q st (by simp[hi]) λh' a b=>g _ h' s.toks (by simp[hi]) a b
 done:=λs Q E st j=>(Zt.side_tuple it l d items).stop A E s _ Q f st (by simp) j
theorem zcc(l:Addr)(items:Array Ae)(n:Nat)(dct:Option Addr)(sl:Array (Option Ae)):
  Meets (Iz.«enumerate.__new__» ⟨[.type "enumerate",.ref l],[]⟩) (λ_ R s=>s.heap.get? l=some {cls:=.type "tuple",dict:=dct,data:=.seq items n,slots:=sl}/\
   R (.ok (.ret (.ref (s.heap.push {cls:=.type "tuple_iterator",data:=.fields #[.ref l,.int 0 0]}).objs.size)))
    {s with heap:=(s.heap.push {cls:=.type "tuple_iterator",data:=.fields #[.ref l,.int 0 0]}).push {cls:=.type "enumerate",data:=.fields #[.none,.bool false,.ref s.heap.objs.size,Ho 0,.none,.none]}}):=
 .of_wp λprog w A R s h=>by
  obtain⟨hp,g,d,tk,os⟩:=s;obtain⟨hl,h⟩:=h;have hsub:=sub_enumerate;have hL:Heap.IsTuple (Shared.heap ⟨hp,g,d,tk,os⟩) l items:=⟨_,hl,rfl,n,rfl⟩
  wp_walk using Jr hl
  refine wpAny_stack_any λst=>Af ?_;split
  .rename_i c _ _ _ _ _;cases (c==Value.type "enumerate")
   .wp_walk using Jr hl,Mx hL
    exact⟨_,rfl,h⟩
   .wp_walk using Jr hl,Mx hL
    exact⟨_,rfl,h⟩
  .wp_walk using Jr hl,Mx hL
   exact⟨_,rfl,h⟩
theorem call_new{Q:Ae->Ag->Prop}(hL:s.heap.IsTuple l items)(h:∀h',IsEnum h' (s.heap.objs.size+1) s.heap.objs.size 0 .none->h'.IsTupleIter s.heap.objs.size l 0->(∀b o,s.heap.get? b=some o->h'.get? b=some o)->Q (.ref (s.heap.objs.size+1)) {s with heap:=h'}):
  Bc (Bo prog w) A (call (.type "enumerate") [.ref l]) Q E s:=by
 obtain⟨⟨c,dct,dt,sl⟩,hl,hc,n,hd⟩:=hL;cases (show c=.type "tuple" from hc);cases (show dt=.seq items n from hd);refine callType_new F.called_enumerate (by decide) (F.typeCall_enumerate_1 _) (F.newCall_enumerate_1 _) (λobj=>F.args_object_init_2 obj _) F.entry_enumerate_new (zcc l items n dct sl) ⟨hl,?_⟩;have hz:(s.heap.push {cls:=.type "tuple_iterator",data:=.fields #[.ref l,.int 0 0]}).objs.size=s.heap.objs.size+1:=Ea ..;show _/\_;rw[hz];have he:IsEnum ((s.heap.push {cls:=.type "tuple_iterator",data:=.fields #[.ref l,.int 0 0]}).push {cls:=.type "enumerate",data:=.fields #[.none,.bool false,.ref s.heap.objs.size,Ho 0,.none,.none]}) (s.heap.objs.size+1) s.heap.objs.size 0 .none:=by
  have:=Au (s.heap.push {cls:=.type "tuple_iterator",data:=.fields #[.ref l,.int 0 0]}) (o:={cls:=.type "enumerate",data:=.fields #[.none,.bool false,.ref s.heap.objs.size,Ho 0,.none,.none]}) rfl;rw[hz]at this;exact this
 exact⟨⟨_,he,rfl⟩,h _ he ⟨_,Ah _ (Au _ rfl),rfl,rfl⟩ λb o x=>Ah _ (Ah _ x)⟩
end
end Et
end PySem
namespace L2
open PySem Spec PyProof.Rows
section
variable {X:Cx}
def KL(K:Ac)(a:Addr)(xs:List V):It:=
 ⟨λi H=>bV K H a xs/\i<xs.length,
   λi H x b=>∃p u,xs[i]? = some u/\H p=none/\x=.ref p/\b=aR H p (.tup [.int (i:Nat),u]),
   λi H=>bV K H a xs/\i=xs.length⟩
theorem zcd{P:Bt}{w:Ck}{K:Ac}{es:List Expr}{kx:Nat}{px:Pos}(a e it:Addr)(xs:List V)(hne:e≠it)(hea:e≠a)(hia:a≠it):
  lN P w K (.Tuple es kx px) (KL K a xs) [e,it] e (λi h=>(∃old,IsEnum h e it (i:Nat) old)/\h.IsTupleIter it a i) where
 mem:=by simp
 obj:=λi h st c hc=>by
  obtain⟨⟨old,h1⟩,⟨o4,h4,_,h4d⟩⟩:=st;simp only[Bg,Gs,or_false]at hc;rcases hc with rfl|rfl
  .exact⟨_,h1,λv q=>by cases q⟩
  .exact⟨_,h4,λv q=>by rw[h4d]at q;cases q⟩
 keep:=λi h h' st k=>by
  obtain⟨⟨old,h1⟩,⟨o4,h4,r4⟩⟩:=st;exact⟨⟨old,k e (by simp) _ h1⟩,⟨o4,k it (by simp) _ h4,r4⟩⟩
 item:=by
  intro X hP hw hK hc i pins s Z H E I hf st hg;subst hP hw hK;obtain⟨⟨old,h1⟩,h4⟩:=st;obtain⟨hqa,hi⟩:=hg;obtain⟨its,rv,pl,hz⟩:=I.tuple hqa;obtain⟨u,hu,ru⟩:=rv.get (Bf hi);have hl:=rv.length;refine wpAny_pyNext_enum_itemD (Et.draws (A:=X.A.in1) (I.ok.hd hc) it a hia its.toArray) h1 ⟨h4,pl⟩ (by simp;lia) hne (by simp[hne,hea]) λx h' tk hx a1 a2 a3 a4 hk=>?_;have ex:x=u:=by
   have hx:its.toArray[i]? = some x:=hx;rw[Nw,hu]at hx;exact(Bz hx).symm
  subst ex;refine⟨_,rfl,wpAny_letOwnedTupleGo_enum a1 λh'' e' sb=>?_⟩;have hfr:H s.heap.objs.size=none:=I.hok.fresh (Ai _);have lte:e<s.heap.objs.size:=Az h1;have lti:it<s.heap.objs.size:=by obtain⟨_,q,_⟩:=h4;exact Az q
  have keep2:∀q o,q∉[e,it]->s.heap.get? q=some o->h''.get? q=some o:=λq o hq eq=>by
   simp only[Bg,Gs,or_false,not_or]at hq;exact(sb.2 q hq.1).trans (hk q o hq.1 hq.2 eq)
  have hp2:h''.get? s.heap.objs.size=some {cls:=.type "tuple",data:=.seq [.int (i:Nat) tk,x].toArray}:=(sb.2 _ (Gv lte)).trans a3;have I1:Inv X pins Z (aR H s.heap.objs.size (.tup [.int (i:Nat),xs[i]])) {s with heap:=h'',toks:=tk+1}:=I.laidT (its:=[.int (i:Nat) tk,x]) hf keep2 (by show 2<=An;decide) (.cons ⟨_,rfl⟩ (.cons ru .nil)) hp2;refine⟨.ref s.heap.objs.size,_,I1,rfl,⟨s.heap.objs.size,xs[i],Bf hi,hfr,rfl,rfl⟩,⟨⟨x,by rw[Int.natCast_add];exact e'⟩,a2.1.extBut sb.extBut hne.symm⟩,λq hq=>?_⟩;rw[bF]
  .exact(hf q hq).1
  .intro eq;subst eq;simp only[Bg,Gs,or_false]at hq;rcases hq with q|q
   .exact Gv lte q
   .exact Gv lti q
 done:=by
  intro X hP hw hK hc i pins s Z H E I hf st hg;subst hP hw hK;obtain⟨⟨old,h1⟩,h4⟩:=st;obtain⟨hqa,rfl⟩:=hg;obtain⟨its,rv,pl,hz⟩:=I.tuple hqa;have l1:=rv.length;refine wpAny_pyNext_enum_endD (Et.draws (A:=X.A.in1) (I.ok.hd hc) it a hia its.toArray) h1 (show Heap.IsTupleIter s.heap it a its.toArray.size/\Heap.IsTuple s.heap a its.toArray from⟨by rw[Ay,<-l1];exact h4,pl⟩) λh' hk=>⟨rfl,?_⟩
  exact I.turnedT (tk:=s.toks) hf λq o hq eq=>hk q o (λz=>hq (by simp[z])) eq
 self:=λ_ _ _ _ _ st h=>by
  obtain⟨⟨old,h1⟩,_⟩:=st;exact Nk h1 h
def zce(K:Ac)(d:TA):TI:=λc H R=>d c H λvs b=>∃a xs,vs=[.ref a]/\bV K b a xs/\R (KL K a xs) b
theorem zcf{a:Expr}{ta:TA}{p pos:Pos}{es:List Expr}{kx:Nat}{px:Pos}(hg:Gl X "enumerate")(hm:X.mg "enumerate" = none)(ha:PA X [a] ta)(hs:Br [a] X.env=[(false,eval a X.env)]:=by rfl):
  PI X (.Tuple es kx px) (.Call (.Name "enumerate" p) [a] [] pos) (zce X.K ta):=by
 intro pins s Z H R I h;refine Call_ (jZ I hg hm boot_enumerate (Er (a5 (ha pos pins s Z H _ I h) λus s1 ⟨vs,H1,I1,r1,q1⟩=>?_) hs rfl));obtain⟨a,xs,rfl,hqa,q⟩:=q1;obtain⟨u,rfl,ru⟩:=vals1 r1;cases ru;obtain⟨its,rv1,pl,hz⟩:=I1.tuple hqa;have la:a<s1.heap.objs.size:=by obtain⟨o,e,_⟩:=pl;exact Az e
 refine Et.call_new pl λh' g1 g2 k=>?_;refine Nk g1 ?_;refine⟨s1.heap.objs.size+1,[s1.heap.objs.size+1,s1.heap.objs.size],_,_,H1,rfl,I1.kept (t':=s1.toks) k,zcd a _ _ xs (EV 1 (by decide)) (Bw (Bu (Fg la))) (Bu la),⟨⟨_,g1⟩,g2⟩,λq hq=>?_,q⟩;have hge:s1.heap.objs.size<=q:=by
  simp only[Bg,Gs,or_false]at hq;rcases hq with e|e
  .rw[e];exact EW 1
  .rw[e];exact Ai _
 exact I1.fpOk hge (I1.hok.fresh hge)
end
end L2
namespace L3
open PySem Spec PyProof.Rows L2
section
variable {X:Cx}{a:Expr}
def z6(d:d3):iX:=λb M R=>d b M λws c=>∃a,ws=[.tup a]/\R (gO 0 a) (λ_=>True) c
theorem KN{o:Nat}(C:Gl X "enumerate")(G:X.mg "enumerate" = none)(ha:A3 X [a] j)(s:Br [a] X.env=[(false,eval a X.env)]:=by rfl):PI X (.Tuple es o F) (.Call (.Name "enumerate" p) [a] [] pos) (g7 X.K (z6 j)):=
 (zcf C G ha s).weak λL H I A=>A.el λm M R as d h k=>⟨m,M,_,as,d,h,λvs E ws z n c q ⟨O,B,r⟩=>by
  subst B;obtain⟨v,rfl,f⟩:=q.one;exact f.tupE λb xs eb fb g=>⟨b,xs,by rw[eb],bV.of fb,k _ _ _ _ _ n c (by
   have st:∀H M,Kp E z H M->AM X.K H M->bV X.K H b xs:=λH M k _=>bV.of (k.fr _ _ (c.noTup fb) fb).1;refine⟨λi H M k d kp hi=>⟨st H M k d,by rw[mV]at hi;rw[g.length];exact hi⟩,λH M k d kp=>⟨st H M k d,by rw[mV,g.length]⟩,λi H M x J k d kp hi y=>?_⟩;obtain⟨N,u,t,l,rfl,rfl⟩:=y;obtain⟨w,hw,f⟩:=(g.kp c k).getV t;obtain⟨e,D⟩:=d.tup (u:=.tup [.int (i:Nat),u]) l;exact⟨.tup [.int ((i:Nat):Int),w],by rw[rN,hw];simp,D,e,.tup dO (.cons (.int _) (.cons (f.go (go_same l)) .nil))⟩) r⟩⟩
end
end L3
namespace Rg
open PySem Spec PyProof.Rows L2 L3
def KO:bP:=λws M R=>∃rs:List aM,ws=[b9 rs]/\rs.length<=100/\a9 (rs.map λ_=>W.int 0) M R
abbrev zcg:List Str:=["grammar"]
def zch:aI:=
   (cA (eE (b6 cT (aA 0)) (bA 0) fP (vC (.int 0)) [none]))
theorem zci(h:KO ws M R):zch (bS R) (bZ zcg ws) M:=by
 obtain⟨rs,rfl,hl,r⟩:=h;refine⟨_,rfl,fS (rM (rest:=[]) (λ_=>.int 0) (gE (by rw[Ab];lia)) (λ_ _=>trivial) (λw hw c C sb a=>a) ?_)⟩
 .intro p b;refine⟨_,Sub.refl _,?_⟩;have e:(rs.map eV).map (λ_=>W.int 0)=rs.map λ_=>W.int 0:=by rw[Ca];rfl
  rw[e];exact r p b
abbrev jT(a:List Str):W:=.rl (a.map W.str)
def iR(fs:List a7):List (List aF×W):=fs.map λf=>(fK f,.bl true)
def jU(a:List Str):List (List aF×W):=(a.zipIdx).map λx=>([Sum.inr x.1,Sum.inl (x.2:Int)],.rl [.tup [.int ((x.2:Int)+1),.int 0]])
def KP:bP:=λws M R=>∃a:List Str,ws=[jT a]/\a.length<=60/\a9 ((Dw (a.length+1)).map λ(i:Nat)=>W.int i) M R
def KQ:bP:=λws M R=>∃a:List Str,ws=[jT a]/\a.length<=60/\kU (jU a) M R
abbrev zcj:List Str:=["row"]
def zck:aI:=
   (cA (JX (aH cJ (bJ cC (aB (aA 0) aE)) (vC (.int 1)))))
abbrev zcl:List Str:=["row"]
def zcm:aI:=
   (cA (bJ JL (aB (cB (eE (yK (aB (aA 0) aE)) (jI 2 (d9 (bA 0) (d9 (bA 1) jH))) fP (b5 (aB (b5 (aB (aA 1) (aB (aA 0) aE))) (aB (eT (aB (b5 (aB (aH cJ (aA 0) (vC (.int 1))) (aB (vC (.int 0)) aE))) aE)) aE))) [none,none])) aE)))
theorem nC(r:a9 ws M R):a9 ws M λw b=>∃a,L3.Sub a b/\R w a:=λp c=>⟨_,Sub.refl _,r p c⟩
theorem zcn(r:kU ws M R):kU ws M λw b=>∃a,L3.Sub a b/\R w a:=λp c=>⟨_,Sub.refl _,r p c⟩
theorem zco(h:KP ws M R):zck (bS R) (bZ zcj ws) M:=by
 obtain⟨a,rfl,hl,r⟩:=h;exact⟨_,rfl,a.length+1,by rw[Ab];rfl,by lia,nC r⟩
theorem enum_zip(ws:List Str):∀n:Nat,gO n (ws.map W.str)=(ws.zipIdx n).map λx=>W.tup [.int (x.2:Int),.str x.1]:=by
 induction ws with
 | nil=>intro n;rfl
 | cons w ws a=>intro n;rw[Aw,gO,a,Kw,Aw]
theorem KR:∀{ps acc:List (List aF×W)},((acc++ps).map (·.1)).Nodup->pQ acc ps=acc++ps
 | [],acc,_=>by simp[pQ]
 | p::ps,acc,h=>by
  have a:a0 acc p.1=none:=by
   rw[Bd,Ei]at h;exact uO λe c z=>h.2.2 _ (Ax.mpr ⟨e,c,rfl⟩) p.1 (by simp) z
  have e:bQ acc p.1 p.2=acc++[p]:=by
   unfold bQ;rw[if_neg (by rw[show(acc.any λb=>decide (b.1=p.1))=(a0 acc p.1).isSome from gF acc p.1,a];decide)]
  show pQ (bQ acc p.1 p.2) ps=_;rw[e,KR (by rw[Bs];exact h),Bs];rfl
theorem zcp(a:List Str):((jU a).map (·.1)).Nodup:=by
 unfold jU;rw[Ca];have:∀(a:List Str) (n:Nat),((a.zipIdx n).map ((λx:List aF×W=>x.1) ∘ λx:Str×Nat=>(([Sum.inr x.1,Sum.inl (x.2:Int)]:List aF),W.rl [.tup [.int ((x.2:Int)+1),.int 0]]))).Nodup:=by
  intro a
  induction a with
  | nil=>intro n;exact Ee
  | cons t a b=>
   intro n;rw[Kw,Aw,Dx];refine⟨λd=>?_,b _⟩;obtain⟨x,c,e⟩:=Ax.mp d;have f:=List.mem_zipIdx c;simp only[Hc,El,Sum.inr.injEq,Mj,and_true]at e;lia
 exact this a 0
theorem zcq(a:List Str)(t:Str)(p:Int):a0 (jU a) (eK (t,p))=if 0<=p/\a[p.toNat]? = some t then some (.rl [.tup [.int (p+1),.int 0]]) else none:=by
 have:∀(a:List Str) (n:Nat),a0 ((a.zipIdx n).map λx:Str×Nat=>(([Sum.inr x.1,Sum.inl (x.2:Int)]:List aF),W.rl [.tup [.int ((x.2:Int)+1),.int 0]])) (eK (t,p))=if (n:Int)<=p/\a[(p-n).toNat]? = some t then some (.rl [.tup [.int (p+1),.int 0]]) else none:=by
  intro a
  induction a with
  | nil=>intro n;simp[a0]
  | cons x a f=>
   intro n;rw[Kw,Aw,oG,f]
   by_cases d:p=n
   .subst d
    by_cases c:x=t
    .subst c;rw[if_pos (show([Sum.inr x,Sum.inl (n:Int)]:List aF)=eK (x,(n:Int)) from rfl),if_pos ⟨Em _,by simp⟩]
    .rw[if_neg (λz=>c (by simpa [eK] using z)),if_neg (λz=>by have:=z.1;lia),if_neg (λz=>c (by simpa using z.2))]
   .rw[if_neg (λz=>d (show x=t/\(n:Int)=p by simpa [eK] using z).2.symm)]
    by_cases g:(n:Int)<p
    .have e:(p-(n:Int)).toNat=(p-((n+1:Nat):Int)).toNat+1:=by lia
     rw[e,Fj]
     by_cases b:a[(p-((n+1:Nat):Int)).toNat]? = some t
     .rw[if_pos ⟨by lia,b⟩,if_pos ⟨by lia,b⟩]
     .rw[if_neg (λz=>b z.2),if_neg (λz=>b z.2)]
    .rw[if_neg (λz=>by have:=z.1;lia),if_neg (λz=>by have:=z.1;lia)]
 have h:=this a 0;simpa [jU] using h
theorem zcr(h:KQ ws M R):zcm (bS R) (bZ zcl ws) M:=by
 obtain⟨c,rfl,hl,r⟩:=h;refine⟨_,rfl,?_⟩;delta aE;refine WX (ws:=gO 0 (c.map W.str)) (rest:=[]) (λw y=>∃x:Str×Nat,w=W.tup [.int (x.2:Int),.str x.1]/\y=.tup [.tup (([Sum.inr x.1,Sum.inl (x.2:Int)]:List aF).map wK),.rl [.tup [.int ((x.2:Int)+1),.int 0]]]) (λw hw=>?_) (gE (by rw[mV,Ab];lia)) (λ_ _=>trivial) (λa b g n C sb i=>?_) λf po=>?_
 .rw[enum_zip]at hw;obtain⟨x,_,rfl⟩:=Ax.mp hw;exact⟨_,_,rfl⟩
 .rw[enum_zip]at g;obtain⟨x,_,e⟩:=Ax.mp g;simp only[W.tup.injEq,El,and_true]at e;obtain⟨rfl,rfl⟩:=e;exact⟨_,rfl,_,rfl,z2,_,rfl,z2,z1,z2,i _ ⟨x,rfl,rfl⟩⟩
 .have j:f=pZ (jU c):=by
   rw[enum_zip]at po;unfold pZ jU;rw[Ca]
   revert po
   generalize c.zipIdx=l;intro po
   induction l generalizing f with
   | nil=>cases po;rfl
   | cons x l m=>
    cases po with
    | cons h t=>
     obtain⟨k,d,rfl⟩:=h;simp only[W.tup.injEq,El,W.int.injEq,W.str.injEq,and_true]at d;have:x=k:=Ka d.2 (by lia);subst this;rw[m _ t];rfl
  subst j;refine a9.frz ⟨jU c,rfl,gE (by unfold pZ jU;rw[Ab,Ab,List.length_zipIdx];lia),?_⟩;rw[KR (by simpa using zcp c),Gz];exact zcn r
theorem zcs(ts:List Str)(n:Str):(a0 (ts.map fG) (Sum.inr n:aF)).isSome=decide (n∈ts):=by
 induction ts with
 | nil=>rfl
 | cons t ts ih=>
  unfold a0 at ih⊢;rw[Aw,Fp]
  by_cases h:t=n
  .subst h;simp[fG]
  .rw[show decide ((fG t).1=(Sum.inr n:aF))=false by simp[fG,h]];rw[ih];have h2:¬n=t:=λe=>h e.symm;simp[h2]
theorem vO(rs:List aM)(t:Str):(a0 (ownOf rs) (Sum.inr t:aF)).isSome=bM rs t:=by
 unfold ownOf bM;rw[zcs,Ex];simp only[decide_eq_true_eq];rw[yM];simp
theorem z7(fs:List a7)(f:a7):(a0 (iR fs) (fK f)).isSome=decide (f∈fs):=by
 unfold iR
 induction fs with
 | nil=>rfl
 | cons g fs a=>
  rw[Aw,oG]
  by_cases h:g=f
  .subst h;rw[if_pos rfl];simp
  .rw[if_neg (λz=>h (m7 _ _ z)),a];have:¬f=g:=λz=>h z.symm;simp[this]
theorem zct(h:f∉fs):bQ (iR fs) (fK f) (.bl true)=iR (fs++[f]):=by
 unfold bQ;rw[if_neg (by rw[show((iR fs).any λa=>decide (a.1=fK f))=(a0 (iR fs) (fK f)).isSome from gF _ _,z7,decide_eq_true_eq];exact h)];unfold iR;rw[Bd];rfl
theorem KS(h:M p=some (.lst ws))(r:R (.bl true) M):pL [.ref p,.ty "list"] M R:=⟨"list",true,.inl ⟨rfl,_,h⟩,by decide,r⟩
theorem KU(h:pL [x,.ty T] M R):aB (vC (.ty T)) aE a M λxs b=>pL (x::xs) b R:=h
theorem sL{R:List W->(Mm->Prop)->Mm->Prop}(h:R ws (λ_=>True) M):cT (.tup ws) M R:=h
def iS(q:aM)(a:List Str):a7:=(q.name,0,a.length)
def eZ(f:a7):W:=.tup ((fK f).map wK)
def nD(own:Str->Bool)(ps:List Str)(cut:List Int):List a7:=ps.zipIdx.filterMap λx=>if own x.1=true then some (x.1,cut.getD x.2 0,cut.getD (x.2+1) 0) else none
structure Wb(G:Sr)(B:bC):Prop where
 own:∀t,G.own t=bM G.rs t
 few:G.rs.length<=100
 ord:u6 G B
 bl:B.length<=1000
 pl:∀r∈G.rs,r.parts.length<=100
abbrev sM(B:bC):W:=.ft (dW fK hZ B)
def KW:bP:=λws M R=>∃(q:aM) (rs:List aM) (a:List Str),ws=[b9 (q::rs),jT a]/\R (eZ (iS q a)) M
def KY:bP:=λws M R=>∃(rs:List aM) (ps:List Str) (cut:List Int),ws=[.dk (ownOf rs),.tup (ps.map W.str),gH cut]/\cut.length=ps.length+1/\ps.length<=100/\a9 ((nD (bM rs) ps cut).map eZ) M R
def KZ:bP:=λws M R=>∃(G:Sr) (B:bC) (aV:a7),ws=[b9 G.rs,sM B,eZ aV]/\Wb G B/\aV∈B.map (·.1)/\∀p:a7->Bool,p aV=true->(∀e∈B,p e.1=true->∀f∈nD G.own (mD G e.2.2.1) e.2.2.2,p f=true)->a9 (((B.map (·.1)).filter p).map eZ) M R
abbrev zcu:List Str:=["grammar","row"]
def zcv:aI:=
   (cA (b5 (aB (bK IP (aB (aA 0) aE)) (aB (vC (.int 0)) (aB (bJ cC (aB (aA 1) aE)) aE)))))
abbrev zcw:List Str:=["own","parts","cut"]
def zcx:aI:=
   (cA (eE (z6 (aB (aA 1) aE)) (jI 2 (d9 (bA 0) (d9 (bA 1) jH))) (bO (aH (rIn false) (aA 1) (aA 2))) (b5 (aB (aA 1) (aB (aH aW (aA 3) (aA 0)) (aB (aH aW (aA 3) (aH cJ (aA 0) (vC (.int 1)))) aE)))) [none,none,some 0,some 2]))
abbrev zcy:List Str:=["grammar","best","top","own","found","waiting","told","fact"]
def zcz:aI:=
   (aY 3 (bK rY (aB (cB (bK rX (aB (aA 0) aE))) aE)))
def zcA:aI:=
   (aY 4 (KH (aA 2) (vC (.bl true))))
def zcB:aI:=
   (aY 5 (fX (aB (aA 2) aE)))
def zcC:aI:=
   (aL (aY 6 (aH aW (aA 1) (nW "list" rPop (aA 5))))
   (cY (b6 cT (cB (bK KY (aB (aA 3) (aB (aH aW (aH aW (aA 0) (aH aW (aA 6) (vC (.int 1)))) (vC (.int 1))) (aB (aH aW (aA 6) (vC (.int 2))) aE)))))) (bA 7)
    (dJ (bO (aH (rIn true) (aA 7) (aA 4)))
    (aL (fY (vC (.bl true)) (gD (aA 4) (aA 7)))
   (d6 (cN "list" fN (aA 5) (aB (aA 7) aE))))
    eA)))
def zcD:aI:=
   (pH (qW (aA 5)) zcC)
def zcE:aI:=
   (cA (eE (b6 zK (aA 1)) (bA 0) (bO (aH (rIn false) (aA 0) (aA 1))) (aA 0) [none,some 4]))
def zcF:aI:=(aL zcz (aL zcA (aL zcB (aL zcD zcE))))
theorem K0(h:rs.length<=100):(namesOf rs).length<=400:=by
 have a:=uB (rs.map aM.name) [];rw[Ab,Lp,Ks]at a;exact Ar a (Ar h (by decide))
theorem vP{cut:List Int}{k:Nat}(h:k<cut.length):bW (cut.map W.int) (k:Int)=some (.int (cut.getD k 0)):=fW (by rw[Av,Eg,Bf h];rfl)
theorem zcG(h:KW ws M R):zcv (bS R) (bZ zcu ws) M:=by
 obtain⟨q,rs,a,rfl,r⟩:=h;refine⟨_,rfl,q,rs,rfl,_,rfl,z3,_,Sub.refl _,?_⟩;rw[Ab];exact r
def z9(rs:List aM)(cut:List Int):W->Option W
 | .tup [.int i,.str t]=>if bM rs t=true then some (eZ (t,cut.getD i.toNat 0,cut.getD (i.toNat+1) 0)) else none
 | _=>none
theorem zcH{F:W->Option W}{ws:List W}{os:List (Option W)}(h:Hr (λw o=>o=F w) ws os):os.filterMap id=ws.filterMap F:=by
 induction h with
 | nil=>rfl
 | cons a _ b=>rw[a,Hf,Hf,b];rfl
theorem zcI(rs:List aM)(cut:List Int)(ps:List Str):(gO 0 (ps.map W.str)).filterMap (z9 rs cut)=(nD (bM rs) ps cut).map eZ:=by
 unfold nD;rw[enum_zip,Ij,List.map_filterMap];refine congrArg (λf=>List.filterMap f ps.zipIdx) (funext λx=>?_);show(if bM rs x.1=true then _ else none)=_;rw[Ci]
 by_cases h:bM rs x.1=true
 .rw[if_pos h,if_pos h];rfl
 .rw[if_neg h,if_neg h];rfl
theorem zcJ{ws:List W}{M:Mm}{R:K3}(h:KY ws M R):zcx (bS R) (bZ zcw ws) M:=by
 obtain⟨rs,ps,cut,rfl,hc,hp,r⟩:=h;refine⟨_,rfl,_,rfl,GU (rest:=[some (.dk (ownOf rs)),some (gH cut)]) (λw o=>o=z9 rs cut w) (λw hw=>?_) (gE (by rw[mV,Ab];lia)) (λ_ _=>trivial) (λa b hm M' C D sb h1 h2=>?_) λos po=>?_⟩
 .rw[enum_zip]at hw;obtain⟨x,_,rfl⟩:=Ax.mp hw;exact⟨_,_,rfl⟩
 .rw[enum_zip]at hm;obtain⟨⟨t,k⟩,hx,e⟩:=Ax.mp hm;cases e;have hk:=(Ak.mp (Ha.mp hx)).1;have ep:z9 rs cut (.tup [.int (k:Int),.str t])=if bM rs t=true then some (eZ (t,cut.getD k 0,cut.getD (k+1) 0)) else none:=rfl;have ho:(a0 (ownOf rs) (Sum.inr t:aF)).isSome=bM rs t:=vO rs t;exact⟨_,rfl,_,rfl,_,⟨Sum.inr t,rfl,rfl⟩,_,rfl,cI (λz=>⟨_,rfl,_,rfl,_,rfl,_,vP (by lia),_,rfl,_,rfl,_,vP (k:=k+1) (by lia),z3,h1 _ (by rw[ep,if_pos (ho.symm.trans z)];rfl)⟩) λz=>h2 (by rw[ep,if_neg (ne_true_of_eq_false (ho.symm.trans z))])⟩
 .rw[zcH po,zcI];exact nC r
structure FW(G:Sr)(B:bC)(aV:a7)(ex:a7->Prop)(fs wt:List a7):Prop where
 tp:aV∈fs
 nd:fs.Nodup
 sub:∀f∈fs,f∈B.map (·.1)
 wq:∀f∈wt,f∈fs
 wl:wt.length<=fs.length
 cl:∀e∈B,e.1∈fs->e.1∈wt\/ex e.1\/∀f∈nD G.own (mD G e.2.2.1) e.2.2.2,f∈fs
theorem FW.len{G:Sr}{B:bC}{aV:a7}{fs wt:List a7}{ex:a7->Prop}(h:FW G B aV ex fs wt):fs.length<=B.length:=by
 have:=len_sub h.nd h.sub;rw[Ab]at this;exact this
theorem FW.add{G:Sr}{B:bC}{aV g:a7}{fs wt:List a7}{ex:a7->Prop}(h:FW G B aV ex fs wt)(d:g∉fs)(hb:g∈B.map (·.1)):FW G B aV ex (fs++[g]) (wt++[g]):=by
 refine⟨Cd _ h.tp,?_,λf hf=>?_,λf hf=>?_,(by rw[Aj,Aj];exact Nat.add_le_add_right h.wl _),λe c hf=>?_⟩
 .rw[Ei];exact⟨h.nd,(by simp),λa ha b hb e=>d (by cases Ao.mp hb;rw[<-e];exact ha)⟩
 .rcases Bi.mp hf with z|z
  .exact h.sub f z
  .cases Ao.mp z;exact hb
 .rcases Bi.mp hf with z|z
  .exact Cd _ (h.wq f z)
  .exact Cg _ z
 .rcases Bi.mp hf with z|z
  .rcases h.cl e c z with y|y|y
   .exact .inl (Cd _ y)
   .exact .inr (.inl y)
   .exact .inr (.inr λf hf=>Cd _ (y f hf))
  .exact .inl (Cg _ z)
def qA(fs:List a7):W->Option W
 | .tup [.str n,.int b,.int e]=>if (n,b,e)∈fs then some (.tup [.str n,.int b,.int e]) else none
 | _=>none
theorem zcK(fs a:List a7):(a.map eZ).filterMap (qA fs)=(a.filter λf=>decide (f∈fs)).map eZ:=by
 induction a with
 | nil=>rfl
 | cons f a b=>
  have e:qA fs (eZ f)=if f∈fs then some (eZ f) else none:=rfl;rw[Aw,Hf,Dz,e,b]
  by_cases h:f∈fs
  .rw[if_pos h,if_pos (decide_eq_true h),Aw]
  .rw[if_neg h,if_neg (by rw[decide_eq_false h];exact Am)]
theorem K1(h:f∈B.map (·.1)):∃v,aD B f=some v/\a0 (dW fK hZ B) (fK f)=some (hZ v):=by
 obtain⟨v,a⟩:=Dh.mp (f6.mpr h);exact⟨v,a,by rw[iI m7,a];rfl⟩
theorem zcL(o:u6 G B)(c:e∈B):aD B e.1=some e.2:=by
 obtain⟨a,b,sp⟩:=List.append_of_mem c;obtain⟨r,E⟩:=o a e b sp;rw[sp,p6,E.no,dE,if_pos rfl];rfl
theorem K2(E:sE G pre e r)(d:g∈nD G.own r.parts e.2.2.2):g∈pre.map (·.1):=by
 obtain⟨⟨t,k⟩,b,a⟩:=Hl.mp d;have b:=Ha.mp b
 by_cases c:G.own t=true
 .rw[if_pos c]at a;cases a;exact f6.mp (E.pn k t b c)
 .rw[if_neg c]at a;cases a
theorem K5(E:sE G pre e r):mD G e.2.2.1=r.parts:=by unfold mD;rw[E.ru];rfl
theorem zcM(h:KZ ws M R):zcF (bS R) (bZ zcy ws) M:=by
 obtain⟨G,B,aV,rfl,w,ht,r⟩:=h;have P:G.own=bM G.rs:=funext w.own;refine xI rfl ⟨G.rs,rfl,(Ar w.few (by decide)),a9.frz ⟨namesOf G.rs,rfl,K0 w.few,λp hp=>xI rfl ⟨aP,fK aV,rfl,xI rfl ⟨z1,λq Q=>?_⟩⟩⟩⟩;rw[gB]at Q⊢;have A:q≠p:=λe=>by rw[e,aP]at Q;cases Q
 have hq0:M q=none:=by rw[aN A]at Q;exact Q
 have t:∀{X Y:MO},put (put M p X) q Y p=some X:=λ{X Y}=>by rw[aN (Bw A),aP]
 have S:∀{X X' Y:MO},put (put (put M p X) q Y) p X'=put (put M p X') q Y:=λ{X X' Y}=>by rw[U4 A,gB]
 refine⟨λm K N=>∃fs wt o6 L,K=[some (b9 G.rs),some (sM B),some (eZ aV),some (.dk (ownOf G.rs)),some (.ref p),some (.ref q),o6,L]/\N=put (put M p (.dT (iR fs))) q (.lst (wt.map eZ))/\FW G B aV (λ_=>False) fs wt/\m=2*(B.length-fs.length)+wt.length,
  ⟨_,[aV],[aV],_,_,rfl,rfl,⟨Ef _,(by simp),λf hf=>by cases Ao.mp hf;exact ht,λf hf=>hf,Ai _,λe _ hf=>.inl hf⟩,rfl⟩,?_⟩
 rintro m K N ⟨fs,wt,o6,L,rfl,rfl,F,rfl⟩;refine xI rfl (.inl ⟨_,aP,cI (λh=>?_) λh=>?_⟩)
 .rcases Fd wt with e|⟨Z,f,e⟩
  .rw[e]at h;cases h
  rw[Fe]at e;subst e;obtain⟨v,hv,lv⟩:=K1 (F.sub f (F.wq f (by simp)));obtain⟨pre,V,sp⟩:=jN hv;obtain⟨ru,E⟩:=w.ord pre _ V sp;obtain⟨ru',h1,h2⟩:=uX (rs:=G.rs) (n:=v.2.1) (Ak.mp E.ru).1;cases (show some ru'=some ru from h1.symm.trans E.ru);refine xI rfl (xI rfl ⟨eN aP,_,_,by rw[Bd];exact aP,_,⟨fK f,rfl,lv.symm⟩,xI rfl (xI rfl (xI rfl (xI rfl ⟨_,h2,xI rfl (xI rfl (xI rfl ⟨G.rs,ru.parts,v.2.2,rfl,E.ln,w.pl ru (Bh h1),a9.frz (fS ?_)⟩))⟩)))⟩);rw[gB,<-P];obtain⟨pf,J⟩:∃pf,pf=nD G.own ru.parts v.2.2:=⟨_,rfl⟩;rw[<-J];have hpB:∀g∈pf,g∈B.map (·.1):=λg l=>by
   rw[J]at l;rw[sp,Bd];exact Cd _ (K2 E l)
  have hlen:=F.len;refine fQ (λj K N=>∃c d L,K=[some (b9 G.rs),some (sM B),some (eZ aV),some (.dk (ownOf G.rs)),some (.ref p),some (.ref q),some (hZ v),L]/\N=put (put M p (.dT (iR c))) q (.lst (d.map eZ))/\(∀g∈pf.take j,g∈c)/\FW G B aV (λx=>x=f) c d/\2*(B.length-c.length)+d.length+1<=2*(B.length-fs.length)+(Z++[f]).length) ?_ ?_ ?_
  .refine⟨fs,Z,xI rfl ⟨rfl,(λg l=>nomatch l),⟨F.tp,F.nd,F.sub,λx H=>F.wq x (Cd _ H),Ar (by rw[Aj];exact Nat.le_add_right _ _) F.wl,λe I hf=>?_⟩,by rw[Aj];exact Ai _⟩⟩;rcases F.cl e I hf with y|y|y
   .rcases Bi.mp y with y|y
    .exact .inl y
    .exact .inr (.inl (Ao.mp y))
   .exact y.elim
   .exact .inr (.inr y)
  .rintro j x K N H ⟨c,d,L,rfl,rfl,o,i,hm⟩ D1 T;rw[Av]at H;obtain⟨g,l,rfl⟩:=Bb.mp H;have hgm:=Bh l;have hl2:=i.len;have hbl:=w.bl;refine xI rfl (xI rfl (.inr ⟨_,.inr ⟨iR c,fK g,t,rfl,rfl⟩,xI rfl ?_⟩));show if (!(a0 (iR c) (fK g)).isSome)=true then _ else _;rw[z7];refine cI (λu=>?_) λu=>?_
   .have u:g∉c:=of_decide_eq_false (by rw[<-Nn (decide _),u];rfl);have F3:=i.add u (hpB g hgm);have hl3:=F3.len;rw[Aj,Bq]at hl3;have lw:=i.wl;refine xI rfl (xI rfl (oB (k:=fK g) t (by unfold iR;rw[Ab];exact dN (by lia)) ?_));rw[zct u,S];refine xI rfl ⟨eN aP,xI rfl ⟨_,aP,dN (by rw[Ab];lia),T _ _ ⟨c++[g],d++[g],xI rfl ⟨?_,λy U=>?_,F3,?_⟩⟩⟩⟩
    .rw[gB,Bd];rfl
    .rw[Eh,l]at U;rcases Bi.mp U with z|z
     .exact Cd _ (o y z)
     .exact Cg _ z
    .rw[Aj,Aj,Bq];lia
   .have u:g∈c:=of_decide_eq_true (by rw[<-Nn (decide _),u];rfl);refine T _ _ ⟨c,d,xI rfl ⟨rfl,λy U=>?_,i,hm⟩⟩;rw[Eh,l]at U;rcases Bi.mp U with z|z
    .exact o y z
    .cases Ao.mp z;exact u
  .rintro K N ⟨c,d,L,rfl,rfl,o,i,hm⟩;rw[Ab,Cm]at o;refine⟨_,_,hm,Sub.refl _,c,d,_,xI rfl ⟨rfl,⟨i.tp,i.nd,i.sub,i.wq,i.wl,λe I hf=>?_⟩,rfl⟩⟩;rcases i.cl e I hf with y|y|y
   .exact .inl y
   .have:=zcL w.ord I;rw[y,hv]at this;refine .inr (.inr λg l=>o g ?_);rw[<-Bz this,show mD G v.2.1=ru.parts from K5 E]at l;rw[J];exact l
   .exact .inr (.inr y)
 .have e:wt=[]:=by
   cases wt with
   | nil=>rfl
   | cons a b=>cases h
  subst e;have hbl:=w.bl;refine xI rfl (t9 (rest:=[some (.ref p)]) (qA fs) (gE (by rw[Ab,Ab];lia)) (λ_ _=>trivial) (λx H M3 C D sb d1 d2=>?_) ?_)
  .rw[Ca]at H;obtain⟨e,I,rfl⟩:=Ax.mp H;have ei:qA fs (eZ e.1)=if e.1∈fs then some (eZ e.1) else none:=rfl;refine xI rfl (xI rfl (.inr ⟨_,.inr ⟨iR fs,fK e.1,sb _ _ t,rfl,rfl⟩,xI rfl ?_⟩));show if (a0 (iR fs) (fK e.1)).isSome=true then _ else _;rw[z7];exact cI (λz=>xI rfl (d1 _ (by show qA fs (eZ e.1)=_;rw[ei,if_pos (of_decide_eq_true z)];rfl))) λz=>d2 (by show qA fs (eZ e.1)=_;rw[ei,if_neg (of_decide_eq_false z)])
  .have e:((dW fK hZ B).map λp=>W.tup (p.1.map wK))=(B.map (·.1)).map eZ:=by rw[Ca,Ca];rfl
   rw[e,zcK];have z:=r (λf=>decide (f∈fs)) (decide_eq_true F.tp) λe I hf f hm=>by
    rcases F.cl e I (of_decide_eq_true hf) with y|y|y
    .cases y
    .exact y.elim
    .exact decide_eq_true (y f hm)
   intro s O;have hs1:s≠q:=λe=>by rw[e,aP]at O;cases O
   have hs2:s≠p:=λe=>by rw[e,t]at O;cases O
   rw[aN hs1,aN hs2]at O;exact⟨_,Sub.put (eX (eX (Sub.refl _) hp) hq0),z s O⟩
theorem zcN(o:u6 G B):(B.map (·.1)).Nodup:=by
 rw[Jg,Ko];refine Js.mpr λi j hi b c e=>?_;obtain⟨r,E⟩:=o (B.take j) B[j] (B.drop (j+1)) (by rw[<-Ju b,Gm]);have a:B[j].1∈(B.take j).map (·.1):=by
  rw[<-e];exact Ov (Li.mpr ⟨i,by rw[Cb];lia,by rw[List.getElem_take]⟩)
 rw[<-f6,E.no]at a;cases a
theorem zcO(nd:l.Nodup)(e:l=a++f::b){j:Nat}(h:l[j]? = some f):l.take j=a:=by
 have:j=a.length:=(List.getElem?_inj (Ak.mp h).1 nd).mp (h.trans (by rw[e,Me (Ai _),Nat.sub_self];rfl));rw[this,e,Og]
def Dq(d n:Addr)(M:Mm):Prop:=d≠n/\∃(ns:List Int) (v:Int),M d=some (.lst [.ref n,.int v])/\M n=some (.lst (ns.map W.int))
def Oq(d n:Addr)(M a:Mm):Prop:=∀p o,p≠d->p≠n->M p=some o->a p=some o
theorem Oq.refl:Oq d n M M:=λ_ _ _ _ h=>h
theorem Dq.put(h:Dq d n M)(e:M p=none):Dq d n (put M p o):=by
 obtain⟨a,ns,v,b,c⟩:=h;exact⟨a,ns,v,Sub.new e _ _ b,Sub.new e _ _ c⟩
theorem Dq.pot(h:Dq d n M)(e:p≠d)(f:p≠n):Dq d n (L3.put M p o):=by
 obtain⟨a,ns,v,b,c⟩:=h;exact⟨a,ns,v,by rw[aN (Bw e)];exact b,by rw[aN (Bw f)];exact c⟩
theorem Dq.del(h:Dq d n M)(e:p≠d)(f:p≠n):Dq d n (del M p):=by
 obtain⟨a,ns,v,b,c⟩:=h;exact⟨a,ns,v,by rw[nU (Bw e)];exact b,by rw[nU (Bw f)];exact c⟩
theorem Dq.ne(h:Dq d n M)(f:M p=none):p≠d/\p≠n:=by
 obtain⟨a,ns,v,b,c⟩:=h;exact⟨λe=>(by rw[e,b]at f;cases f),λe=>(by rw[e,c]at f;cases f)⟩
theorem nE{lo:Int}{n i:Nat}(h:(kA lo n)[i]? = some w):i<n/\w=.int (lo+i):=by
 unfold kA at h;rw[Av]at h;obtain⟨j,c,rfl⟩:=Bb.mp h;obtain⟨a,b⟩:=Ak.mp c;simp at a b;subst b;exact⟨a,rfl⟩
theorem nF{lo:Int}{n:Nat}:(kA lo n).length=n:=by unfold kA;simp
theorem qB{ts:List Str}{z:Int}(b:0<=z)(a:z<(ts.length:Int)):∃t,bW (ts.map W.str) z=some (.str t)/\t∈ts:=by
 have hz:z.toNat<ts.length:=by lia
 refine⟨ts[z.toNat],?_,Jp hz⟩;have e:bW (ts.map W.str) ((z.toNat:Nat):Int)=some (.str ts[z.toNat]):=fW (by rw[Av,Bf hz];rfl);rwa [show((z.toNat:Nat):Int)=z by lia]at e
theorem sN(neg:Bool)(n:Nat)(c:n<=60)(a:dR M x=.rl ws)(hw:Pl n (.rl ws))(h:R (.bl (if neg then !ws.isEmpty else ws.isEmpty)) M):rEq neg x (.rl []) M R:=by
 refine GP n c (by rw[a];exact hw) (by cases n with|zero=>exact(show False from hw).elim|succ n=>intro w hw;cases hw) λb hb=>?_;rw[a]at hb;have:b=ws.isEmpty:=by
  rw[Ex,hb];show W.rl ws=W.rl []↔_;cases ws<;>simp
 rw[this];exact h
theorem vQ{xs:List Str}(h:∀x∈xs,oA x):Pl 1 (.rl (xs.map W.str)):=λw hw=>by
 obtain⟨x,a,rfl⟩:=Ax.mp hw;exact h x a
theorem K6(h:M a=some (.lst ws)):dR M (.ref a)=.rl ws:=by simp[dR,h]
def AA(rs:List aM)(t:Str):List W:=rs.filterMap λq=>if q.name=t then some (.tup (q.parts.map W.str)) else none
theorem zcP(h:w∈AA rs t):∃q∈rs,w=.tup (q.parts.map W.str):=by
 obtain⟨q,a,e⟩:=Hl.mp h;split at e
 .cases e;exact⟨q,a,rfl⟩
 .cases e
theorem zcQ{k:Nat}{keep:Mm->Prop}(P:W->Prop)(hk:k<=1000)(e:∀M,keep M)(dk:Dq d n q)(j:∀(o:Option W) M (C:K3),Dq d n M->(∀w c,P w->Dq d n c->Oq d n M c->C w c)->t (o::rest) M C)(r:∀(xs:List W) c,xs.length=k->(∀x∈xs,P x)->Dq d n c->R (.rl xs) c):
  kC (kA 0 k) keep (bA 0) fP t (o::rest) q λw c=>frz w c R:=by
 intro p A;refine⟨λi f acc M=>∃(o:Option W),f=o::rest/\acc.length=i/\(∀x∈acc,P x)/\Dq d n M,⟨o,rfl,rfl,(λ_ h=>nomatch h),dk⟩,λ_ _ _ _ _ _ _ _=>e _,?_,?_⟩
 .rintro vs i w f acc M hw a ⟨o,rfl,hl,g,b⟩;obtain⟨hi,rfl⟩:=nE hw;obtain⟨s,m⟩:=b.ne a;refine j _ _ _ (b.put a) λz c hz l u=>?_;have v:=u p _ s m aP;refine⟨v,dN (by lia),_,Sub.refl _,_,rfl,by rw[Aj,Bq,hl],λx y=>?_,l.del s m⟩;rcases Bi.mp y with z1|z1
  .exact g x z1
  .rw[Ao.mp z1];exact hz
 .rintro f acc M a ⟨o,rfl,hl,g,b⟩;rw[nF]at hl;exact a9.frz (r acc M hl g b) p a
theorem AB{P:Str->Prop}:∀{ws:List W},(∀w∈ws,∃t,P t/\w=W.str t)->∃ts:List Str,ws=ts.map W.str/\∀t∈ts,P t
 | [],_=>⟨[],rfl,λ_ h=>nomatch h⟩
 | w::ws,h=>by
  obtain⟨t,ht,rfl⟩:=h w Be;obtain⟨ts,rfl,b⟩:=AB λx a=>h x (Ap _ a);refine⟨t::ts,rfl,λx a=>?_⟩;rcases Bg.mp a with rfl|a
  .exact ht
  .exact b x a
theorem K7(h:acc.Nodup):(eU acc t).Nodup:=by
 unfold eU;split
 .exact h
 .rename_i c;rw[Ei];refine⟨h,by simp,λa ha b hb e=>c ?_⟩;have:b=t:=by simpa using hb
  rw[<-this,<-e];exact ha
theorem zcR(rs:List aM):(namesOf rs).Nodup:=by
 have:∀(ts acc:List Str),acc.Nodup->(ts.foldl eU acc).Nodup:=by
  intro ts
  induction ts with
  | nil=>intro acc h;exact h
  | cons t ts a=>intro acc h;exact a _ (K7 h)
 exact this _ _ Ee
def K8:bP:=λws M R=>∃(b:List W) (a:List (List Str)),ws=[.rl b]/\b.length<=1000/\Hr (kL M) b a/\a.flatten.length<=1000000/\a9 (a.flatten.map W.str) M R
def K9:bP:=λws M R=>∃(rs:List aM) (U:List Str),ws=[b9 rs]/\rs.length<=100/\U.length<64/\jS rs U/\∀a:List Str,jS rs a->a.Nodup->(∀t∈a,t∈U)->R (.rl (a.map W.str)) M
abbrev zcS:List Str:=["lists","whole","one"]
def zcT:aI:=
   (aY 1 (fX aE))
def zcU:aI:=
   (d6 (cN "list" F6 (aA 1) (aB (aA 2) aE)))
def zcV:aI:=
   (cY (b6 cT (aA 0)) (bA 2) zcU)
def zcW:aI:=
   (cA (aA 1))
def zcX:aI:=(aL zcT (aL zcV zcW))
abbrev zcY:List Str:=["grammar","own","found","rule","part"]
def zcZ:aI:=
   (aY 1 (bK rY (aB (cB (bK rX (aB (aA 0) aE))) aE)))
def zc0:aI:=
   (aY 2 n6)
def zc1:aI:=
   (cY (b6 cT (aH aW (aA 3) (vC (.int 1)))) (bA 4)
    (dJ (bO (aH (rIn true) (aA 4) (aA 1)))
    (fY (vC (.bl true)) (gD (aA 2) (aA 4)))
    eA))
def zc2:aI:=
   (cY (b6 cT (aA 0)) (bA 3) zc1)
def zc3:aI:=
   (cA (bJ G6 (aB (cB (aA 2)) aE)))
def zc4:aI:=(aL zcZ (aL zc0 (aL zc2 zc3)))
theorem Paired.getP{f g:Type}{F:f->g->Prop}:∀{d:List f} {c:List g} {i:Nat} {a:f},Hr F d c->d[i]? = some a->∃b,c[i]? = some b/\F a b
 | _,_,_,_,.nil,e=>by simp at e
 | _,_,0,_,.cons r _,e=>by simp at e;subst e;exact⟨_,rfl,r⟩
 | _,_,i+1,_,.cons _ t,e=>by
  obtain⟨b,h,j⟩:=Paired.getP (i:=i) t (by simpa using e);exact⟨b,by simpa using h,j⟩
theorem LA{b:Type}{a:List (List b)}{i:Nat}{xs:List b}(h:a[i]? = some xs):(a.take (i+1)).flatten=(a.take i).flatten++xs:=by
 rw[l8 h,Ow];simp
theorem zc5{b:Type}{a:List (List b)}{i:Nat}{xs:List b}(h:a[i]? = some xs):(a.take i).flatten.length+xs.length<=a.flatten.length:=by
 have e:a=a.take (i+1)++a.drop (i+1):=(Gm _ _).symm;have:=congrArg (λz=>(List.flatten z).length) e;simp only[Ow,Aj]at this;rw[LA h,Aj]at this;lia
theorem zc6{ws:List W}{M:Mm}{R:K3}(h:K8 ws M R):zcX (bS R) (bZ zcS ws) M:=by
 obtain⟨t,c,rfl,hl,q,ht,r⟩:=h;refine⟨Bk _,λp d=>⟨_,rfl,fS ?_⟩⟩;have j:=Fn q;have big:∀{n:Nat},n<=1000000->n<=An:=λh=>Ar h (by decide);refine mW (λi k m=>∃o,k=[some (.rl t),some (.ref p),o]/\m=put M p (.lst ((c.take i).flatten.map W.str))) ⟨_,rfl,rfl⟩ ?_ ?_
 .rintro i w k m hw ⟨o,rfl,rfl⟩;obtain⟨xs,g,l⟩:=Paired.getP q hw;have b:=big (Ar (zc5 g) ht);have s:(c.take (i+1)).flatten.map W.str=(c.take i).flatten.map W.str++xs.map W.str:=by rw[LA g,Bd]
  rw[<-Ab (f:=W.str),<-Ab (as:=xs) (f:=W.str)]at b;rcases l with rfl|⟨a,rfl,e⟩
  .exact⟨_,rfl,eN aP,_,rfl,_,aP,b,_,Sub.refl _,_,rfl,by rw[gB,s]⟩
  .exact⟨_,rfl,eN aP,_,rfl,_,_,aP,by rw[aN (λz=>by rw[z,d]at e;cases e)];exact e,b,_,Sub.refl _,_,rfl,by rw[gB,s]⟩
 .rintro k m ⟨o,rfl,rfl⟩;rw[j,Cm];exact⟨_,rfl,_,Sub.refl _,r p d⟩
theorem zc7(h:K9 ws M R):zc4 (bS R) (bZ zcY ws) M:=by
 obtain⟨rs,U,rfl,hl,hU,aU,r⟩:=h;refine⟨_,rfl,rs,rfl,Ar hl (by decide),a9.frz ?_⟩;refine⟨namesOf rs,rfl,by have:=sG rs;lia,?_⟩;obtain⟨ow,how⟩:∃ow,ow=(((namesOf rs).foldl eU []).map fG):=⟨_,rfl⟩;have lo:∀t,(a0 ow (Sum.inr t:aF)).isSome=bM rs t:=λt=>by rw[how];exact vO rs t
 rw[<-how];refine λp hp=>⟨_,rfl,fS ?_⟩
 refine mW (λi τ M'=>∃(ss:List Str) (o3 o4:Option W),τ=[some (.rl (rs.map eV)),some (.dk ow),some (.ref p),o3,o4]/\M'=put M p (.dK (ss.map fG))/\ss.Nodup/\(∀t∈ss,t∈U)/\∀q∈rs.take i,∀t∈q.parts,bM rs t=false->t∈ss) ⟨[],_,_,rfl,rfl,Ee,by simp,by simp⟩ ?_ ?_
 .rintro i w τ M' hw ⟨ss,o3,o4,rfl,rfl,nd,hsU,hin⟩;rw[Av]at hw;obtain⟨q,hq,rfl⟩:=Bb.mp hw;refine⟨_,rfl,_,rfl,?_⟩;refine mW (ws:=q.parts.map W.str) (λj τ M'=>∃(s2:List Str) (o4:Option W),τ=[some (.rl (rs.map eV)),some (.dk ow),some (.ref p),some (eV q),o4]/\M'=put M p (.dK (s2.map fG))/\s2.Nodup/\(∀t∈s2,t∈U)/\(∀t∈ss,t∈s2)/\∀t∈q.parts.take j,bM rs t=false->t∈s2) ⟨ss,_,rfl,rfl,nd,hsU,λ_ h=>h,by simp⟩ ?_ ?_
  .rintro j w τ M' hw ⟨s2,o4,rfl,rfl,nd2,hsU2,hs2,hin2⟩;rw[Av]at hw;obtain⟨t,ht,rfl⟩:=Bb.mp hw;refine⟨_,rfl,_,rfl,_,⟨Sum.inr t,rfl,rfl⟩,_,rfl,?_⟩;show if (!(a0 ow (Sum.inr t:aF)).isSome)=true then _ else _;rw[lo t];cases ho:bM rs t with
   | true=>
    refine⟨_,Sub.refl _,s2,_,rfl,rfl,nd2,hsU2,hs2,λx hx hox=>?_⟩;rw[l8 ht]at hx;rcases Bi.mp hx with z|z
    .exact hin2 x z hox
    .rw[Ao.mp z,ho]at hox;cases hox
   | false=>
    have hl2:s2.length<=U.length:=len_sub nd2 hsU2;refine⟨_,rfl,_,rfl,yJ aP (by rw[Ab];exact dN (by lia)) ⟨_,Sub.refl _,eU s2 t,_,rfl,by rw[gB,zC],K7 nd2,λx hx=>?_,λx hx=>rO.mpr (.inl (hs2 x hx)),λx hx hox=>?_⟩⟩
    .rcases rO.mp hx with z|z
     .exact hsU2 x z
     .rw[z];exact aU q (Bh hq) t (Bh ht) ho
    .rw[l8 ht]at hx;rcases Bi.mp hx with z|z
     .exact rO.mpr (.inl (hin2 x z hox))
     .exact rO.mpr (.inr (by simpa using z))
  .rintro τ M' ⟨s2,o4,rfl,rfl,nd2,hsU2,hs2,hin2⟩;rw[Ab,Cm]at hin2;refine⟨_,Sub.refl _,s2,_,_,rfl,rfl,nd2,hsU2,λx hx t ht ho=>?_⟩;rw[l8 hq]at hx;rcases Bi.mp hx with z|z
   .exact hs2 t (hin x z t ht ho)
   .rw[Ao.mp z]at ht;exact hin2 t ht ho
 .rintro τ M' ⟨ss,o3,o4,rfl,rfl,nd,hsU,hin⟩;rw[Ab,Cm]at hin;refine⟨_,rfl,E5 hp ?_⟩;have hl2:ss.length<=U.length:=len_sub nd hsU;refine⟨ss,by rw[Ca];rfl,by lia,λs3 hperm=>⟨_,Sub.refl _,r s3 (λq hq t ht ho=>hperm.mem_iff.mpr (hin q hq t ht ho)) (hperm.nodup_iff.mpr nd) λt ht=>hsU t (hperm.mem_iff.mp ht)⟩⟩
end Rg
namespace Tsr
open PySem PyProof.Rows
def zc8:Bool->Ed->Array Ed->Nat->Nat->Nat->StateT Ga Sem (Option Nat):=sortPriv% PySem.Builtin.gallop
def zc9:Array Ed->Array Ed->StateT Ga Sem (Array Ed):=sortPriv% PySem.Builtin.mergeLo
def zda:Array Ed->Array Ed->StateT Ga Sem (Array Ed):=sortPriv% PySem.Builtin.mergeHi
def jV(M:Model)(A:Co)(E:Ae->Ag->Prop)(s:Ag)(U:Na)(S:Ed->Prop):Prop:=
 ∀x y st (Q:Option Bool->Ga->Prop),S x->S y->kindOf st=U->(∀b,Q (some b) st)->wpS M A E s (lt' x y) Q st
def fU(S:Ed->Prop)(xs:Array Ed):Prop:=∀p∈xs.toList,S p
section
variable {M:Model}{A:Co}{E:Ae->Ag->Prop}{s:Ag}{U:Na}{S:Ed->Prop}{st:Ga}
theorem fU.at(h:fU S xs){i:Nat}(hi:i<xs.size):∃p,xs[i]? = some p/\S p:=
 ⟨xs[i],getElem?_pos xs i hi,h _ (by simp)⟩
theorem e6{i:Nat}{Q:Ed->Ga->Prop}(h:fU S xs)(hi:i<xs.size)(b:∀p,xs[i]? = some p->S p->Q p st):wpS M A E s (elem' xs i) Q st:=by
 obtain⟨p,a,sp⟩:=h.at hi;rw[elem'_eq,a];exact Bj (b p a sp)
theorem zdb{i j:Nat}{Q:Option Bool->Ga->Prop}(c:jV M A E s U S)(hk:kindOf st=U)(h:fU S (Iu st))(hi:i<(Iu st).size)(d:j<(Iu st).size)(a:∀b,Q (some b) st):wpS M A E s (ltAt' i j) Q st:=by
 rw[ltAt'_eq];refine Ba (Mo (Ba (e6 h hi λp _ sp=>Ba (e6 h d λq _ sq=>c p q st Q sp sq hk a))))
def LB(left:Bool)(key:Ed)(xs:Array Ed)(base i:Nat):StateT Ga Sem (Option Bool):=do
 let x <-elem' xs (base+i)
 if left=true then lt' x key else do
  let r <-lt' key x
  pure (Option.map (λb=>!b) r)
theorem zdc{left:Bool}{base i:Nat}{Q:Option Bool->Ga->Prop}(d:jV M A E s U S)(hk:kindOf st=U)(a:S key)(h:fU S xs)(hi:base+i<xs.size)(c:∀b,Q (some b) st):wpS M A E s (LB left key xs base i) Q st:=by
 refine Ba (e6 h hi λp _ sp=>?_);split
 .exact d _ _ _ _ sp a hk c
 .exact Ba (d _ _ _ _ a sp hk λb=>Bj (c _))
theorem qC{left:Bool}{base n a:Nat}{Q:Option Nat->Ga->Prop}(m:jV M A E s U S)(hk:kindOf st=U)(e:S key)(h:fU S xs)(hb:base+n<=xs.size)(j:a<n)(l:∀k,k<=n->Q (some k) st):wpS M A E s (zc8 left key xs base n a) Q st:=by
 have hf:∀i (Q:Option Bool->Ga->Prop),i<n->(∀b,Q (some b) st)->wpS M A E s (LB left key xs base i) Q st:=λi Q hi h'=>zdc m hk e h (by lia) h';refine Ba (hf a _ j λb=>?_);dsimp only;split
 all_goals
  refine Ba (Hv (Fm (I:=λ_ c st'=>st=st'/\c.1=none) (Q:=λc st'=>st=st'/\c.1=none) ?_ (λ_ _ h=>h) ⟨rfl,rfl⟩) ?_)
  .rintro x ⟨g,lo,hi⟩ st' _ _ ⟨rfl,_⟩;dsimp only;split
   .exact Bj ⟨rfl,rfl⟩
   .refine Ba (hf _ _ (by lia) λb=>?_);dsimp only;split
    .exact Bj ⟨rfl,rfl⟩
    .exact Bj ⟨rfl,rfl⟩
  .rintro⟨g,lo,hi⟩ st' ⟨rfl,f⟩;dsimp only at f⊢;subst f;refine Ba (Hv (Fm (I:=λ_ c st'=>st=st'/\c.1=none/\c.2.2<=n) (Q:=λc st'=>st=st'/\c.1=none/\c.2.2<=n) ?_ (λ_ _ h=>h) ⟨rfl,rfl,by dsimp only;lia⟩) ?_)
   .rintro x ⟨g,lo,hi⟩ st' _ _ ⟨rfl,_,d⟩;dsimp only at d⊢;split
    .exact Bj ⟨rfl,rfl,d⟩
    .refine Ba (hf _ _ (by lia) λb=>?_);dsimp only;split
     .exact Bj ⟨rfl,rfl,d⟩
     .exact Bj ⟨rfl,rfl,by dsimp only;lia⟩
   .rintro⟨g,lo,hi⟩ st' ⟨rfl,f,d⟩;dsimp only at f d⊢;subst f;exact Bj (l _ d)
end
structure iJ(st st':Ga):Prop where
 kind:kindOf st'=kindOf st
 arr:Iu st'=Iu st
 pend:Fw st'=Fw st
 failed:Ik st'=Ik st
theorem iJ.refl(st:Ga):iJ st st:=⟨rfl,rfl,rfl,rfl⟩
theorem iJ.mg{st st':Ga}(h:iJ st st')(g:Nat):iJ st (Nd (kindOf st') (Iu st') (Fw st') g (Ik st')):=⟨h.1,h.2,h.3,h.4⟩
def e7(a b out:Array Ed)(ia ib:Nat):Prop:=(out.toList++a.toList.drop ia++b.toList.drop ib).Perm (a.toList++b.toList)
section
variable {a b out:Array Ed}{ia ib:Nat}
theorem AD{xs:Array Ed}{i:Nat}{p:Ed}(h:xs[i]? = some p):xs.toList.drop i=p::xs.toList.drop (i+1):=by
 obtain⟨hi,rfl⟩:=Mc.mp h;rw[Ju (by simpa using hi)];simp
theorem vR(xs:Array Ed)(i:Nat):(xs.extract i xs.size).toList=xs.toList.drop i:=by
 simp[Nm,Gh]
theorem LC(xs:Array Ed)(i k:Nat):(xs.extract i (i+k)).toList++xs.toList.drop (i+k)=xs.toList.drop i:=by
 have h:(xs.extract i (i+k)).toList=(xs.toList.drop i).take k:=by simp[Nm]
 rw[h,<-Oi,Gm]
theorem e7.pa{p:Ed}(h:e7 a b out ia ib)(c:a[ia]? = some p):e7 a b (out.push p) (ia+1) ib:=by
 unfold e7 at h⊢;rw[AD c]at h;simpa using h
theorem e7.pb{p:Ed}(h:e7 a b out ia ib)(c:b[ib]? = some p):e7 a b (out.push p) ia (ib+1):=by
 unfold e7 at h⊢;rw[AD c]at h;refine List.Perm.trans ?_ h;simp only[Hs,Bs,List.singleton_append];exact Cp _ Kx.symm
theorem e7.ea(h:e7 a b out ia ib)(k:Nat):e7 a b (out++a.extract ia (ia+k)) (ia+k) ib:=by
 unfold e7 at h⊢;rw[<-LC a ia k]at h;simpa using h
theorem e7.eb(h:e7 a b out ia ib)(k:Nat):e7 a b (out++b.extract ib (ib+k)) ia (ib+k):=by
 unfold e7 at h⊢;rw[<-LC b ib k]at h;refine List.Perm.trans ?_ h;simp only[Cy,Bs];refine Cp _ ?_;rw[<-Bs,<-Bs];exact Hx _ Gn
theorem e7.dn(h:e7 a b out ia ib):(out++a.extract ia a.size++b.extract ib b.size).toList.Perm (a.toList++b.toList):=by
 rw[Cy,Cy,vR,vR];exact h
theorem e7.la(h:e7 a b out ia ib):(out++b.extract ib b.size++a.extract ia a.size).toList.Perm (a.toList++b.toList):=by
 rw[Cy,Cy,vR,vR];refine List.Perm.trans ?_ h;rw[Bs,Bs];exact Cp _ Gn
end
structure nG(a b:Array Ed)(k:Nat)(out:Array Ed)(ia ib:Nat):Prop where
 n:k<=ia+ib
 ha:ia+1<a.size
 hb:ib<b.size
 p:e7 a b out ia ib
section
variable {M:Model}{A:Co}{E:Ae->Ag->Prop}{s:Ag}{U:Na}{S:Ed->Prop}{st:Ga}
theorem w_ite{a:Type}{c:Prop}[Decidable c]{t e:StateT Ga Sem a}{Q:a->Ga->Prop}(d:c->wpS M A E s t Q st)(b:¬c->wpS M A E s e Q st):wpS M A E s (if c then t else e) Q st:=by
 by_cases h:c
 .rw[if_pos h];exact d h
 .rw[if_neg h];exact b h
theorem zdd{a b:Array Ed}{Q:Array Ed->Ga->Prop}(K:jV M A E s U S)(hk:kindOf st=U)(ha:fU S a)(hb:fU S b)(h1:1<=a.size)(n:1<=b.size)(J:∀r st',iJ st st'->r.toList.Perm (a.toList++b.toList)->Q r st'):wpS M A E s (zc9 a b) Q st:=by
 refine Ba (Pb (Ey ⟨rfl,?_⟩));refine Ba (e6 hb n λp0 C _=>?_);have D:e7 a b #[p0] 0 1:=by
  unfold e7;have e:=AD C;rw[Kr]at e;rw[Kr,e];exact Kx.symm
 dsimp only;refine w_ite (λ_=>Bj (J _ _ (.refl _) D.dn)) λT=>?_;refine w_ite (λ_=>Bj (J _ _ (.refl _) D.la)) λZ=>?_;rw[beq_iff_eq]at T Z;refine Ba (Mo ?_);refine Ba (Hv (Fm (I:=λx c st'=>iJ st st'/\c.1=none/\nG a b (x+1) c.2.1 c.2.2.1 c.2.2.2.1)
  (Q:=λc st'=>iJ st st'/\∃r,c.1=some r/\r.toList.Perm (a.toList++b.toList)) ?_ ?_ ⟨.refl _,rfl,⟨by simp,by dsimp only;lia,by dsimp only;lia,D⟩⟩) ?_)
 rotate_left
 .rintro c st' ⟨_,_,h⟩;have:=h.n;have:=h.ha;have:=h.hb;lia
 .rintro⟨T,c⟩ st' ⟨v,r,h,g⟩;dsimp only at h;subst h;exact Bj (J _ _ v g)
 rintro x ⟨r,out,ia,ib,mg⟩ o _ _ ⟨v,d,j⟩;dsimp only at d j⊢;subst d;have F:kindOf o=U:=v.kind.trans hk;refine Ba (Hv (Fm (I:=λy c st'=>o=st'/\c.1=none/\nG a b (x+1+y) c.2.1 c.2.2.1 c.2.2.2.1)
  (Q:=λc st'=>o=st'/\((∃r,c.1=some r/\r.toList.Perm (a.toList++b.toList))\/(c.1=none/\nG a b (x+2) c.2.1 c.2.2.1 c.2.2.2.1))) ?_ ?_ ⟨rfl,rfl,j⟩) ?_)
 .rintro y ⟨r,out,ia,ib,L,B⟩ st' _ _ ⟨rfl,d,j⟩;dsimp only at d j⊢;subst d;obtain⟨R,O,w,u⟩:=j;refine Ba (e6 hb w λp g sp=>Ba (e6 ha (by lia) λq m sq=>Ba (K p q o _ sp sq F λt=>?_)));dsimp only;refine w_ite (λ_=>?_) λ_=>?_
  .refine Ba (e6 hb w λp g sp=>?_);refine w_ite (λ_=>Bj ⟨rfl,.inl ⟨_,rfl,(u.pb g).dn⟩⟩) λN=>?_;rw[beq_iff_eq]at N;have i:nG a b (x+1+(y+1)) (out.push p) ia (ib+1):=⟨by lia,O,by lia,u.pb g⟩;exact w_ite (λ_=>Bj ⟨rfl,.inr ⟨rfl,⟨by dsimp only;lia,i.2,i.3,i.4⟩⟩⟩) λ_=>Bj ⟨rfl,rfl,i⟩
  .refine Ba (e6 ha (by lia) λp g sp=>?_);refine w_ite (λ_=>Bj ⟨rfl,.inl ⟨_,rfl,(u.pa g).la⟩⟩) λN=>?_;rw[beq_iff_eq]at N;have i:nG a b (x+1+(y+1)) (out.push p) (ia+1) ib:=⟨by lia,by lia,w,u.pa g⟩;exact w_ite (λ_=>Bj ⟨rfl,.inr ⟨rfl,⟨by dsimp only;lia,i.2,i.3,i.4⟩⟩⟩) λ_=>Bj ⟨rfl,rfl,i⟩
 .rintro c st' ⟨rfl,h,i⟩;exact⟨rfl,.inr ⟨h,⟨by have:=i.n;lia,i.2,i.3,i.4⟩⟩⟩
 rintro⟨r,out,ia,ib,L,B⟩ st' ⟨rfl,⟨r,d,g⟩|⟨d,j⟩⟩
 .dsimp only at d⊢;subst d;exact Bj ⟨v,r,rfl,g⟩
 dsimp only at d j⊢;subst d;refine Ba (Pb (Ey ⟨rfl,?_⟩));refine Ba (Hv (Fm (I:=λy c st'=>iJ st st'/\c.1=none/\nG a b (x+2) c.2.1 c.2.2.1 c.2.2.2.1)
  (Q:=λc st'=>iJ st st'/\((∃r,c.1=some r/\r.toList.Perm (a.toList++b.toList))\/(c.1=none/\nG a b (x+2) c.2.1 c.2.2.1 c.2.2.2.1))) ?_ (λc st' h=>⟨h.1,.inr h.2⟩) ⟨v,rfl,j⟩) ?_)
 rotate_left
 .rintro⟨r,out,ia,ib,mg,L,B⟩ st' ⟨v,⟨r,d,g⟩|⟨d,j⟩⟩
  .dsimp only at d⊢;subst d;exact Bj ⟨v,r,rfl,g⟩
  .dsimp only at d j⊢;subst d;exact Ba (Iw (Bj ⟨v.mg _,rfl,j⟩))
 rintro y ⟨r,out,ia,ib,mg,L,B⟩ Y _ _ ⟨f,d,j⟩;dsimp only at d j⊢;subst d;obtain⟨R,O,w,u⟩:=j;refine w_ite (λ_=>?_) λ_=>?_
 all_goals
  refine Ba (Iw ?_);refine Ba (e6 hb w λp g sp=>?_);refine Ba (qC (left:=false) K (f.kind.trans hk) sp ha (by lia) (by lia) λk V=>?_);dsimp only;refine w_ite (λ_=>w_ite (λ_=>Bj ⟨f.mg _,.inl ⟨_,rfl,(u.ea k).la⟩⟩) λc4=>w_ite (λ_=>Bj ⟨f.mg _,.inl ⟨_,rfl,(u.ea k).dn⟩⟩) λW=>?_) λ_=>?_;rw[beq_iff_eq]at c4 W;have j1:x+2<=ia+k+ib:=by lia
  have G:ia+k+1<a.size:=by lia
  have z:=u.ea k
  rotate_left
  have j1:=R;have G:=O;have z:=u
  all_goals
   refine Ba (e6 hb w λp g sp=>?_);refine w_ite (λ_=>Bj ⟨f.mg _,.inl ⟨_,rfl,(z.pb g).dn⟩⟩) λc6=>?_;rw[beq_iff_eq]at c6;refine Ba (e6 ha (Kt G) λq m sq=>?_);refine Ba (qC (left:=true) K (f.kind.trans hk) sq hb (by lia) (by lia) λl hl=>?_);dsimp only;refine w_ite (λ_=>w_ite (λ_=>Bj ⟨f.mg _,.inl ⟨_,rfl,((z.pb g).eb l).dn⟩⟩) λc7=>?_) λ_=>?_;rw[beq_iff_eq]at c7;have P:ib+1+l<b.size:=by lia
   have H:=(z.pb g).eb l
   rotate_left
   have P:ib+1<b.size:=by lia
   have H:=z.pb g
   all_goals
    refine Ba (e6 ha (Kt G) λq m sq=>?_);refine w_ite (λ_=>Bj ⟨f.mg _,.inl ⟨_,rfl,(H.pa m).la⟩⟩) λX=>?_;rw[beq_iff_eq]at X;have i:nG a b (x+2) _ _ _:=⟨by lia,by lia,P,H.pa m⟩;exact w_ite (λ_=>Bj ⟨f.mg _,.inr ⟨rfl,i⟩⟩) λ_=>Bj ⟨f.mg _,rfl,i⟩
end
def eP(a b out:Array Ed)(na nb:Nat):Prop:=(a.toList.take na++(b.toList.take nb++out.toList)).Perm (a.toList++b.toList)
section
variable {a b out:Array Ed}{na nb:Nat}
theorem take_at{xs:Array Ed}{i:Nat}{p:Ed}(a:1<=i)(h:xs[i-1]? = some p):xs.toList.take i=xs.toList.take (i-1)++[p]:=by
 obtain⟨j,rfl⟩:∃j,i=j+1:=⟨i-1,by lia⟩;rw[Nat.add_sub_cancel]at h⊢;rw[List.take_succ,Dr,h];rfl
theorem LF(xs:Array Ed)(i:Nat):(xs.extract 0 i).toList=xs.toList.take i:=by
 simp[Nm]
theorem vS{xs:Array Ed}{i j:Nat}(h:j<=i):xs.toList.take i=xs.toList.take j++(xs.extract j i).toList:=by
 have e:(xs.extract j i).toList=(xs.toList.drop j).take (i-j):=by simp[Nm]
 rw[e,<-List.take_add,show j+(i-j)=i by lia]
theorem eP.pa{p:Ed}(h:eP a b out na nb)(d:1<=na)(c:a[na-1]? = some p):eP a b (out.push p) (na-1) nb:=by
 unfold eP at h⊢;rw[take_at d c,Bs]at h;rw[Hs,<-Bs (List.take nb _)];exact(Cp _ Gn).trans h
theorem eP.pb{p:Ed}(h:eP a b out na nb)(d:1<=nb)(c:b[nb-1]? = some p):eP a b (out.push p) na (nb-1):=by
 unfold eP at h⊢;rw[take_at d c,Bs]at h;rw[Hs];exact(Cp _ (Cp _ Gn)).trans h
theorem eP.ea(h:eP a b out na nb){k:Nat}(hk:k<=na):eP a b (out++(a.extract k na).reverse) k nb:=by
 unfold eP at h⊢;rw[vS hk,Bs]at h;rw[Cy,Oe,<-Bs (List.take nb _)];exact(Cp _ (Gn.trans (Hx _ (List.reverse_perm _)))).trans h
theorem eP.eb(h:eP a b out na nb){k:Nat}(hk:k<=nb):eP a b (out++(b.extract k nb).reverse) na k:=by
 unfold eP at h⊢;rw[vS hk,Bs]at h;rw[Cy,Oe];exact(Cp _ (Cp _ (Gn.trans (Hx _ (List.reverse_perm _))))).trans h
theorem eP.dn(h:eP a b out na nb):(a.extract 0 na++b.extract 0 nb++out.reverse).toList.Perm (a.toList++b.toList):=by
 rw[Cy,Cy,Oe,LF,LF,Bs];exact(Cp _ (Cp _ (List.reverse_perm _))).trans h
theorem eP.fb(h:eP a b out na nb):(b.extract 0 nb++a.extract 0 na++out.reverse).toList.Perm (a.toList++b.toList):=by
 refine List.Perm.trans ?_ h.dn;rw[Cy,Cy,Cy,Cy];exact Hx _ Gn
end
structure nH(a b:Array Ed)(k:Nat)(out:Array Ed)(na nb:Nat):Prop where
 n:k+na+nb<=a.size+b.size
 a1:1<=na
 a2:na<=a.size
 b1:2<=nb
 b2:nb<=b.size
 p:eP a b out na nb
section
variable {M:Model}{A:Co}{E:Ae->Ag->Prop}{s:Ag}{U:Na}{S:Ed->Prop}{st:Ga}
theorem zde{a b:Array Ed}{Q:Array Ed->Ga->Prop}(K:jV M A E s U S)(hk:kindOf st=U)(ha:fU S a)(hb:fU S b)(h1:1<=a.size)(h2:1<=b.size)(J:∀r st',iJ st st'->r.toList.Perm (a.toList++b.toList)->Q r st'):wpS M A E s (zda a b) Q st:=by
 refine Ba (Pb (Ey ⟨rfl,?_⟩));refine Ba (e6 ha (by lia) λp0 D _=>?_);have F:eP a b #[p0] (a.size-1) b.size:=by
  have h:eP a b #[] a.size b.size:=by unfold eP;simp[Gh]
  exact h.pa h1 D
 refine w_ite (λ_=>Bj (J _ _ (.refl _) F.dn)) λW=>?_;refine w_ite (λ_=>Bj (J _ _ (.refl _) F.fb)) λc2=>?_;rw[beq_iff_eq]at W c2;refine Ba (Mo ?_);refine Ba (Hv (Fm (I:=λx c st'=>iJ st st'/\c.1=none/\nH a b (x+1) c.2.2.2.1 c.2.1 c.2.2.1)
  (Q:=λc st'=>iJ st st'/\∃r,c.1=some r/\r.toList.Perm (a.toList++b.toList)) ?_ ?_ ⟨.refl _,rfl,⟨by dsimp only;lia,by dsimp only;lia,by dsimp only;lia,by dsimp only;lia,by dsimp only;lia,F⟩⟩) ?_)
 rotate_left
 .rintro c st' ⟨_,_,h⟩;have:=h.n;lia
 .rintro⟨W,c⟩ st' ⟨m,r,h,g⟩;dsimp only at h;subst h;exact Bj (J _ _ m g)
 rintro x ⟨r,na,nb,out,mg⟩ j _ _ ⟨m,e,i⟩;dsimp only at e i⊢;subst e;have H:kindOf j=U:=m.kind.trans hk;refine Ba (Hv (Fm (I:=λy c st'=>j=st'/\c.1=none/\nH a b (x+1+y) c.2.2.2.1 c.2.1 c.2.2.1)
  (Q:=λc st'=>j=st'/\((∃r,c.1=some r/\r.toList.Perm (a.toList++b.toList))\/(c.1=none/\nH a b (x+2) c.2.2.2.1 c.2.1 c.2.2.1))) ?_ ?_ ⟨rfl,rfl,i⟩) ?_)
 .rintro y ⟨r,na,nb,out,N,C⟩ st' _ _ ⟨rfl,e,i⟩;dsimp only at e i⊢;subst e;obtain⟨n,z,L,X,P,o⟩:=i;refine Ba (e6 hb (by lia) λp g sp=>Ba (e6 ha (by lia) λq u sq=>Ba (K p q j _ sp sq H λt=>?_)));dsimp only;refine w_ite (λ_=>?_) λ_=>?_
  .refine Ba (e6 ha (by lia) λp g sp=>?_);refine w_ite (λ_=>Bj ⟨rfl,.inl ⟨_,rfl,(o.pa z g).dn⟩⟩) λO=>?_;rw[beq_iff_eq]at O;have d:nH a b (x+1+(y+1)) (out.push p) (na-1) nb:=⟨by lia,by lia,by lia,X,P,o.pa z g⟩;exact w_ite (λ_=>Bj ⟨rfl,.inr ⟨rfl,⟨by dsimp only;lia,d.2,d.3,d.4,d.5,d.6⟩⟩⟩) λ_=>Bj ⟨rfl,rfl,d⟩
  .refine Ba (e6 hb (by lia) λp g sp=>?_);refine w_ite (λ_=>Bj ⟨rfl,.inl ⟨_,rfl,(o.pb (by lia) g).fb⟩⟩) λO=>?_;rw[beq_iff_eq]at O;have d:nH a b (x+1+(y+1)) (out.push p) na (nb-1):=⟨by lia,z,L,by lia,by lia,o.pb (by lia) g⟩;exact w_ite (λ_=>Bj ⟨rfl,.inr ⟨rfl,⟨by dsimp only;lia,d.2,d.3,d.4,d.5,d.6⟩⟩⟩) λ_=>Bj ⟨rfl,rfl,d⟩
 .rintro c st' ⟨rfl,h,d⟩;exact⟨rfl,.inr ⟨h,⟨by have:=d.n;lia,d.2,d.3,d.4,d.5,d.6⟩⟩⟩
 rintro⟨r,na,nb,out,N,C⟩ st' ⟨rfl,⟨r,e,g⟩|⟨e,i⟩⟩
 .dsimp only at e⊢;subst e;exact Bj ⟨m,r,rfl,g⟩
 dsimp only at e i⊢;subst e;refine Ba (Pb (Ey ⟨rfl,?_⟩));refine Ba (Hv (Fm (I:=λy c st'=>iJ st st'/\c.1=none/\nH a b (x+2) c.2.2.2.1 c.2.1 c.2.2.1)
  (Q:=λc st'=>iJ st st'/\((∃r,c.1=some r/\r.toList.Perm (a.toList++b.toList))\/(c.1=none/\nH a b (x+2) c.2.2.2.1 c.2.1 c.2.2.1))) ?_ (λc st' h=>⟨h.1,.inr h.2⟩) ⟨m,rfl,i⟩) ?_)
 rotate_left
 .rintro⟨r,na,nb,out,mg,N,C⟩ st' ⟨m,⟨r,e,g⟩|⟨e,i⟩⟩
  .dsimp only at e⊢;subst e;exact Bj ⟨m,r,rfl,g⟩
  .dsimp only at e i⊢;subst e;exact Ba (Iw (Bj ⟨m.mg _,rfl,i⟩))
 rintro y ⟨r,na,nb,out,mg,N,C⟩ st2 _ _ ⟨f,e,i⟩;dsimp only at e i⊢;subst e;obtain⟨n,z,L,X,P,o⟩:=i;refine w_ite (λ_=>?_) λ_=>?_
 all_goals
  refine Ba (Iw ?_);refine Ba (e6 hb (by lia) λp g sp=>?_);refine Ba (qC (left:=false) K (f.kind.trans hk) sp ha (by lia) (by lia) λk v=>?_);dsimp only;refine w_ite (λ_=>w_ite (λ_=>Bj ⟨f.mg _,.inl ⟨_,rfl,(o.ea v).dn⟩⟩) λc4=>?_) λ_=>?_;rw[beq_iff_eq]at c4;have j1:x+2+k+nb<=a.size+b.size:=by lia
  have B:1<=k:=by lia
  have G:k<=a.size:=by lia
  have T:=o.ea v
  rotate_left
  have j1:=n;have B:=z;have G:=L;have T:=o
  all_goals
   refine Ba (e6 hb (by lia) λp g sp=>?_);have w:=T.pb (by lia) g;refine w_ite (λ_=>Bj ⟨f.mg _,.inl ⟨_,rfl,w.fb⟩⟩) λc6=>?_;rw[beq_iff_eq]at c6;refine Ba (e6 ha (Bn (Nat.sub_lt B Nat.one_pos) G) λq u sq=>?_);refine Ba (qC (left:=true) K (f.kind.trans hk) sq hb (by lia) (by lia) λl hl=>?_);dsimp only;refine w_ite (λ_=>w_ite (λ_=>Bj ⟨f.mg _,.inl ⟨_,rfl,(w.eb hl).fb⟩⟩) λc7=>w_ite (λ_=>Bj ⟨f.mg _,.inl ⟨_,rfl,(w.eb hl).dn⟩⟩) λc8=>?_) λ_=>?_;rw[beq_iff_eq]at c7 c8;have V:2<=l:=by lia
   have l2:l<=nb-1:=by lia
   have R:=w.eb hl
   rotate_left
   have V:2<=nb-1:=by lia
   have l2:nb-1<=nb-1:=Ai _;have R:=w
   all_goals
    refine Ba (e6 ha (Bn (Nat.sub_lt B Nat.one_pos) G) λq u sq=>?_);have Y:=R.pa B u;refine w_ite (λ_=>Bj ⟨f.mg _,.inl ⟨_,rfl,Y.dn⟩⟩) λZ=>?_;rw[beq_iff_eq]at Z;have d:nH a b (x+2) _ _ _:=⟨by lia,by lia,by lia,V,by lia,Y⟩;exact w_ite (λ_=>Bj ⟨f.mg _,.inr ⟨rfl,d⟩⟩) λ_=>Bj ⟨f.mg _,rfl,d⟩
end
def gK:Nat->List (Nat×Nat×Nat)->Nat->Prop
 | a,[],b=>a=b
 | a,x::r,b=>x.1=a/\1<=x.2.1/\gK (a+x.2.1) r b
theorem gK.le:∀{l:List (Nat×Nat×Nat)} {a b:Nat},gK a l b->a<=b
 | [],a,b,h=>Ep h
 | x::r,a,b,h=>by have:=h.2.2.le;lia
theorem gK.snoc:∀{l:List (Nat×Nat×Nat)} {a b n w:Nat},gK a l b->1<=n->gK a (l++[(b,n,w)]) (b+n)
 | [],a,b,n,w,h,c=>by cases h;exact⟨rfl,c,rfl⟩
 | x::r,a,b,n,w,h,c=>⟨h.1,h.2.1,h.2.2.snoc c⟩
theorem gK.mod:∀{l:List (Nat×Nat×Nat)} {a b:Nat} (i w:Nat),gK a l b->gK a (l.modify i λx=>(x.1,x.2.1,w)) b
 | [],a,b,i,w,h=>by cases i<;>exact h
 | x::r,a,b,0,w,h=>⟨h.1,h.2.1,h.2.2⟩
 | x::r,a,b,i+1,w,h=>⟨h.1,h.2.1,gK.mod i w h.2.2⟩
def gK.two:∀{l:List (Nat×Nat×Nat)} {a b i:Nat} {u v:Nat×Nat×Nat},gK a l b->l[i]? = some u->l[i+1]? = some v->
  1<=u.2.1/\1<=v.2.1/\v.1=u.1+u.2.1/\v.1+v.2.1<=b/\gK a ((l.set i (u.1,u.2.1+v.2.1,u.2.2)).eraseIdx (i+1)) b
 | [],_,_,i,_,_,_,h,_=>by simp at h
 | x::[],_,_,i,_,_,_,_,h=>by simp at h
 | x::y::r,a,b,0,u,v,h,c,d=>by
  simp only[List.getElem?_cons_zero,Fj,Es]at c d;subst c d;obtain⟨c,d,o,n,e⟩:=h;exact⟨d,n,by lia,by have:=e.le;lia,⟨c,by dsimp only;lia,by rw[Nat.add_assoc]at e;exact e⟩⟩
 | x::y::r,a,b,i+1,u,v,h,c,d=>by
  simp only[Fj]at c d;obtain⟨g,f,j,m,k⟩:=gK.two (i:=i) h.2.2 c (by simpa using d);exact⟨g,f,j,m,⟨h.1,h.2.1,k⟩⟩
def LG(sa:Nat):∀(l:List Ed) (k:Nat) (xs:Array Ed),sa+k+l.length<=xs.size->
  ((l.zipIdx k).foldl (λa x=>match x with|(p,j)=>a.setIfInBounds (sa+j) p) xs).toList=xs.toList.take (sa+k)++l++xs.toList.drop (sa+k+l.length)
 | [],k,xs,_=>by simp
 | p::l,k,xs,h=>by
  rw[Kw,Eu];simp only[Bp]at h;rw[LG sa l (k+1) _ (by simp;lia)];simp only[Array.toList_setIfInBounds];have hk:sa+k<xs.toList.length:=by simp;lia
  rw[show sa+(k+1)=sa+k+1 by lia,List.take_succ_eq_append_getElem (by simpa using hk),List.getElem_set_self,List.take_set_of_le (Ai _),List.drop_set_of_lt (by lia)];simp only[Bs,List.singleton_append,Bp];congr 3;lia
def LH{xs m:Array Ed}{sa sb n:Nat}(c:sa<=sb)(d:sb+n<=xs.size)(b:m.toList.Perm ((xs.extract sa sb).toList++(xs.extract sb (sb+n)).toList)):
  (m.toList.zipIdx.foldl (λa x=>match x with|(p,j)=>a.setIfInBounds (sa+j) p) xs).Perm xs:=by
 have hl:m.toList.length=sb+n-sa:=by
  rw[b.length_eq];simp;lia
 rw[Mb,LG sa _ 0 _ (by lia)];have e:xs.toList=xs.toList.take sa++((xs.extract sa sb).toList++(xs.extract sb (sb+n)).toList)++xs.toList.drop (sa+m.toList.length):=by
  rw[<-Bs,<-vS c,<-vS (Nat.le_add_right _ _),show sa+m.toList.length=sb+n by lia,Gm]
 conv=>rhs;rw[e]
 exact Hx _ (Cp _ b)
section
variable {M:Model}{A:Co}{E:Ae->Ag->Prop}{s:Ag}{U:Na}{S:Ed->Prop}{st:Ga}{a₀:Array Ed}
def zdf{Q:PUnit->Ga->Prop}(h:Q ⟨⟩ st'):wpS M A E s (set st':StateT Ga Sem PUnit) Q st:=by
 unfold wpS;rw[StateT.run_set];exact Af ⟨rfl,h⟩
structure TS(U:Na)(S:Ed->Prop)(a₀:Array Ed)(lo:Nat)(st:Ga):Prop where
 perm:(Iu st).Perm a₀
 kind:kindOf st=U
 failed:Ik st=none
 chain:gK 0 (Fw st).toList lo
 lo:lo<=a₀.size
def TS.size{lo:Nat}(h:TS U S a₀ lo st):(Iu st).size=a₀.size:=h.perm.size_eq
def TS.all{lo:Nat}(h:TS U S a₀ lo st)(b:fU S a₀):fU S (Iu st):=λp a=>
 b p ((Mb.mp h.perm).mem_iff.mp a)
def TS.arr{lo:Nat}(h:TS U S a₀ lo st)(a:xs.Perm (Iu st)):TS U S a₀ lo (setArr st xs):=
 ⟨a.trans h.perm,h.kind,h.failed,h.chain,h.lo⟩
def fU.ext(h:fU S xs)(i j:Nat):fU S (xs.extract i j):=λp a=>by
 refine h p ?_;rw[show(xs.extract i j).toList=(xs.toList.drop i).take (j-i) by simp[Nm]]at a;exact Ji (Jh a)
def LI{i lo:Nat}{Q:Bool->Ga->Prop}(w:jV M A E s U S)(J:fU S a₀)(b:TS U S a₀ lo st)(hi:i+1<(Fw st).size)(t:∀st',TS U S a₀ lo st'->Q true st'):wpS M A E s (mergeAt' i) Q st:=by
 obtain⟨u,C⟩:∃u,(Fw st)[i]? = some u:=⟨_,getElem?_pos _ i (by lia)⟩;obtain⟨v,G⟩:∃v,(Fw st)[i+1]? = some v:=⟨_,getElem?_pos _ (i+1) hi⟩;obtain⟨N,K,R,L,D⟩:=b.chain.two (i:=i) (by rw[Dr];exact C) (by rw[Dr];exact G);obtain⟨sa,na,pw⟩:=u;obtain⟨sb,nb,O⟩:=v;dsimp only at N K R L D;have r:a₀.size<=(Iu st).size:=Ep b.size.symm;have wF:=b.lo;have h:=b.all J;refine Ba (Mo ?_);rw[C,G];dsimp only;refine Ba (zdf ?_);refine Ba (e6 h (Bn (m:=a₀.size) (by lia) r) λp T sp=>?_);refine Ba (qC (left:=false) w b.kind sp h (Ar (m:=a₀.size) (by lia) r) (by lia) λk hk=>?_);have c:TS U S a₀ lo (Nd (kindOf st) (Iu st) (((Fw st).setIfInBounds i (sa,na+nb,pw)).eraseIdxIfInBounds (i+1)) (gallopOf st) (Ik st)):=
  ⟨b.perm,b.kind,b.failed,by
   show gK 0 (((Fw st).setIfInBounds i (sa,na+nb,pw)).eraseIdxIfInBounds (i+1)).toList lo;simpa using D,b.lo⟩
 dsimp only;refine w_ite (λ_=>Bj (t _ c)) λI=>?_;rw[beq_iff_eq]at I;refine Ba (e6 h (Bn (m:=a₀.size) (by lia) r) λq H sq=>?_);refine Ba (qC (left:=true) w b.kind sq h (Ar (m:=a₀.size) (by lia) r) (by lia) λl hl=>?_);dsimp only;refine w_ite (λ_=>Bj (t _ c)) λP=>?_;rw[beq_iff_eq]at P;have F:((Iu st).extract (sa+k) sb).size=na-k:=by rw[Array.size_extract];lia
 have B:((Iu st).extract sb (sb+l)).size=l:=by rw[Array.size_extract];lia
 refine w_ite (λ_=>?_) λ_=>?_
 .refine Ba (zdd w b.kind (h.ext _ _) (h.ext _ _) (Ar (by lia) (Ep F.symm)) (Ar (by lia) (Ep B.symm)) λm st' d y=>?_);refine Ba (Iw (Ba (Mo (Bj ?_))));have e:Iu st'=Iu st:=d.arr;have f:Ik st'=none:=d.failed.trans b.failed;have o:TS U S a₀ lo (Nd (kindOf st') (m.toList.zipIdx.foldl (λa x=>match x with|(p,j)=>a.setIfInBounds (sa+k+j) p) (Iu st')) (Fw st') (gallopOf st') (Ik st')):=
   ⟨by rw[e];exact(LH (n:=l) (by lia) (Ar (m:=a₀.size) (by lia) r) y).trans b.perm,d.kind.trans b.kind,f,by rw[d.pend];exact c.chain,b.lo⟩
  have g:=t _ o;have z:(Ik st').isNone=true:=by rw[f];rfl
  show Q (Ik st').isNone _;rw[z];exact g
 .refine Ba (zde w b.kind (h.ext _ _) (h.ext _ _) (Ar (by lia) (Ep F.symm)) (Ar (by lia) (Ep B.symm)) λm st' d y=>?_);refine Ba (Iw (Ba (Mo (Bj ?_))));have e:Iu st'=Iu st:=d.arr;have f:Ik st'=none:=d.failed.trans b.failed;have o:TS U S a₀ lo (Nd (kindOf st') (m.toList.zipIdx.foldl (λa x=>match x with|(p,j)=>a.setIfInBounds (sa+k+j) p) (Iu st')) (Fw st') (gallopOf st') (Ik st')):=
   ⟨by rw[e];exact(LH (n:=l) (by lia) (Ar (m:=a₀.size) (by lia) r) y).trans b.perm,d.kind.trans b.kind,f,by rw[d.pend];exact c.chain,b.lo⟩
  have g:=t _ o;have z:(Ik st').isNone=true:=by rw[f];rfl
  show Q (Ik st').isNone _;rw[z];exact g
end
section
variable {M:Model}{A:Co}{E:Ae->Ag->Prop}{s:Ag}{U:Na}{S:Ed->Prop}{st:Ga}{a₀:Array Ed}{L:Nat}
def qD{i j:Nat}{Q:Option Bool->Ga->Prop}(f:jV M A E s U S)(d:fU S a₀)(a:TS U S a₀ L st)(hi:i<a₀.size)(e:j<a₀.size)(c:∀b,Q (some b) st):wpS M A E s (ltAt' i j) Q st:=
 zdb f a.kind (a.all d) (Ml hi a.size.symm) (Ml e a.size.symm) c
def w_rev{i j:Nat}{Q:Unit->Ga->Prop}(a:TS U S a₀ L st)(b:∀st',TS U S a₀ L st'->Q () st'):wpS M A E s (reverseSlice' i j) Q st:=by
 rw[reverseSlice'_eq];exact Iw (b _ (a.arr (mirror_perm _ _ _ _)))
def zdg{i j:Nat}{Q:Unit->Ga->Prop}(a:TS U S a₀ L st)(b:∀st',TS U S a₀ L st'->Q () st'):wpS M A E s (moveDown' i j) Q st:=by
 rw[moveDown'_eq];exact Iw (b _ (a.arr (bubble_perm _ _ _)))
def zdh{lo d:Nat}{Q:Option Nat->Ga->Prop}(o:jV M A E s U S)(p:fU S a₀)(g:TS U S a₀ L st)(hl:lo+d<=a₀.size)(C:1<=d)(t:∀m st',TS U S a₀ L st'->1<=m->m<=d->Q (some m) st'):wpS M A E s (countRun' lo d) Q st:=by
 refine Ba (Hv (Fm (I:=λx c st'=>st=st'/\c=(none,x)) (Q:=λc st'=>st=st'/\c.1=none/\1<=c.2/\c.2<=d) ?_ ?_ ⟨rfl,rfl⟩) ?_)
 .rintro x c st' w q ⟨rfl,rfl⟩;refine Ba (qD o p g (by dsimp only;lia) (by dsimp only;lia) λb=>?_);dsimp only;exact w_ite (λ_=>Bj ⟨rfl,rfl,w,by dsimp only;lia⟩) λ_=>Bj ⟨rfl,rfl⟩
 .rintro c st' ⟨rfl,rfl⟩;exact⟨rfl,rfl,by dsimp only;lia,by dsimp only;lia⟩
 rintro⟨r,n⟩ st' ⟨rfl,e,k,l⟩;dsimp only at e k l⊢;subst e;dsimp only;refine w_ite (λ_=>Bj (t _ _ g k l)) λB=>?_;rw[beq_iff_eq]at B;have rest:∀st',TS U S a₀ L st'->∀{P:Prop},(P->P):=λ_ _ _ h=>h;clear rest;refine w_ite (λ_=>?_) λ_=>?_;refine Ba (qD o p g (by lia) (by lia) λb=>?_);dsimp only;refine w_ite (λ_=>Bj (t _ _ g k l)) λ_=>?_;refine Ba (w_rev g λst g=>?_)
 all_goals
  refine Ba (Pb (Ey ⟨rfl,?_⟩));refine Ba (Hv (Fm (I:=λx c st'=>TS U S a₀ L st'/\c.1=none/\c.2.1=x) (Q:=λc st'=>TS U S a₀ L st'/\c.1=none/\1<=c.2.1/\c.2.1<=d) ?_ ?_ ⟨g,rfl,rfl⟩) ?_)
  .rintro x ⟨r,m,v⟩ j w q ⟨a,e,u⟩;dsimp only at e u⊢;subst e u;refine Ba (qD o p a (by lia) (by lia) λb=>?_);dsimp only;refine w_ite (λ_=>w_ite (λ_=>Ba (w_rev a λi f=>Bj ⟨f,rfl,rfl⟩)) λ_=>Bj ⟨a,rfl,rfl⟩) λ_=>?_;refine Ba (qD o p a (by lia) (by lia) λb=>?_);dsimp only;exact w_ite (λ_=>Bj ⟨a,rfl,by dsimp only;lia,by dsimp only;lia⟩) λ_=>Bj ⟨a,rfl,rfl⟩
  .rintro c j ⟨a,e,u⟩;exact⟨a,e,by lia,by lia⟩
  rintro⟨r,m,v⟩ j ⟨a,e,y,z⟩;dsimp only at e y z⊢;subst e;dsimp only;refine w_ite (λ_=>?_) λ_=>?_;refine Ba (w_rev a λj a=>?_)
  all_goals
   refine Ba (w_rev a λi f=>?_);refine Ba (Hv (Fm (I:=λx c st'=>i=st'/\c=(none,x)) (Q:=λc st'=>i=st'/\c.1=none/\1<=c.2/\c.2<=d) ?_ ?_ ⟨rfl,rfl⟩) ?_)
   .rintro x c st' w q ⟨rfl,rfl⟩;refine Ba (qD o p f (by dsimp only;lia) (by dsimp only;lia) λb=>?_);dsimp only;exact w_ite (λ_=>Bj ⟨rfl,rfl,by dsimp only;lia,by dsimp only;lia⟩) λ_=>Bj ⟨rfl,rfl⟩
   .rintro c st' ⟨rfl,rfl⟩;exact⟨rfl,rfl,by dsimp only;lia,by dsimp only;lia⟩
   rintro⟨r,n⟩ st' ⟨rfl,e,k,l⟩;dsimp only at e k l⊢;subst e;exact Bj (t _ _ f k l)
def zdi{lo n ok:Nat}{Q:Bool->Ga->Prop}(t:jV M A E s U S)(q:fU S a₀)(p:TS U S a₀ L st)(hl:lo+n<=a₀.size)(o:∀st',TS U S a₀ L st'->Q true st'):wpS M A E s (binarySort' lo n ok) Q st:=by
 refine Ba (Hv (Fm (I:=λ_ c st'=>TS U S a₀ L st'/\c.1=none) (Q:=λc st'=>TS U S a₀ L st'/\c.1=none) ?_ (λ_ _ h=>h) ⟨p,rfl⟩) ?_)
 .rintro k ⟨r,u⟩ a hk m ⟨e,_⟩;dsimp only;refine Ba (Hv (Fm (I:=λ_ c st'=>a=st'/\c.1=none/\c.2.2<=k) (Q:=λc st'=>a=st'/\c.1=none) ?_ (λ_ _ h=>⟨h.1,h.2.1⟩) ⟨rfl,rfl,Ai _⟩) ?_)
  .rintro x ⟨r,l,h⟩ st' _ _ ⟨rfl,_,i⟩;dsimp only at i⊢;refine w_ite (λ_=>Bj ⟨rfl,rfl⟩) λ_=>?_;refine Ba (qD t q e (by lia) (by lia) λb=>?_);dsimp only;exact w_ite (λ_=>Bj ⟨rfl,rfl,by dsimp only;lia⟩) λ_=>Bj ⟨rfl,rfl,i⟩
  .rintro⟨r,l,h⟩ st' ⟨rfl,d⟩;dsimp only at d⊢;subst d;exact Ba (zdg e λj g=>Bj ⟨g,rfl⟩)
 .rintro⟨r,u⟩ st' ⟨f,d⟩;dsimp only at d⊢;subst d;exact Bj (o _ f)
def TS.push{lo n w:Nat}(h:TS U S a₀ lo st)(b:1<=n)(a:lo+n<=a₀.size):TS U S a₀ (lo+n) (setPending st ((Fw st).push (lo,n,w))):=
 ⟨h.perm,h.kind,h.failed,by
  show gK 0 ((Fw st).push (lo,n,w)).toList (lo+n);rw[Hs];exact h.chain.snoc b,a⟩
def TS.mod{lo i w:Nat}(h:TS U S a₀ lo st):TS U S a₀ lo (setPending st ((Fw st).modify i λx=>(x.1,x.2.1,w))):=
 ⟨h.perm,h.kind,h.failed,by
  show gK 0 ((Fw st).modify i λx=>(x.1,x.2.1,w)).toList lo;rw[Array.toList_modify];exact h.chain.mod i w,h.lo⟩
def zdj{c:Prop}[Decidable c]{z:Nat}(h:¬z<=1):(if c then z-2-1 else z-2)+1<z:=by split<;>lia
def zdk{Q:Unit->Ga->Prop}(k:jV M A E s U S)(l:fU S a₀)(w:TS U S a₀ 0 st)(z:∀st',(Iu st').Perm a₀->Ik st'=none->Q () st'):wpS M A E s sortRuns' Q st:=by
 refine Ba (Mo ?_);dsimp only;rw[w.size];refine Ba (Hv (Fm (I:=λ_ c st'=>c.1=none/\TS U S a₀ c.2 st') (Q:=λc st'=>c.1=none/\∃L,TS U S a₀ L st') ?_ (λ_ _ h=>⟨h.1,_,h.2⟩) ⟨rfl,w⟩) ?_)
 .rintro x ⟨r,lo⟩ q _ _ ⟨d,e⟩;dsimp only at d e⊢;subst d;refine w_ite (λ_=>Bj ⟨rfl,lo,e⟩) λJ=>?_;refine Ba (zdh k l e (by lia) (by lia) λn i f t G=>?_);dsimp only;refine w_ite (λD=>?_) λ_=>?_;refine Ba (Pb (Ey ⟨rfl,?_⟩));refine Ba (zdi k l f (by lia) λi f=>?_);simp only[Kd,De,if_false];have m:1<=min (a₀.size-lo) (minRun' a₀.size a₀.size 0):=Nat.le_min.mpr ⟨by lia,Ar t (Hj D)⟩;have o:lo+min (a₀.size-lo) (minRun' a₀.size a₀.size 0)<=a₀.size:=by lia
  rotate_left
  have m:=t;have o:lo+n<=a₀.size:=by lia
  all_goals
   refine Ba (Mo ?_);rcases hb:(Fw i).back? with _|⟨H,C,K⟩
   .exact Ba (Iw (Bj ⟨rfl,f.push m o⟩))
   .dsimp only;refine Ba (Hv (Fm (I:=λ_ c st'=>c.1=none/\TS U S a₀ lo st') (Q:=λc st'=>c.1=none/\TS U S a₀ lo st') ?_ (λ_ _ h=>h) ⟨rfl,f⟩) ?_)
    .rintro y ⟨r,u⟩ b _ _ ⟨d,a⟩;refine Ba (Mo ?_)
     by_cases j:(Fw b).size > 1
     .rw[if_pos j];obtain⟨v,B⟩:∃v,(Fw b)[(Fw b).size-2]? = some v:=⟨_,getElem?_pos _ _ (by lia)⟩;rw[B];obtain⟨F,O,N⟩:=v;dsimp only;refine w_ite (λ_=>Bj ⟨rfl,a⟩) λ_=>?_;exact Ba (LI k l a (show(Fw b).size-2+1<(Fw b).size by lia) λp g=>Bj ⟨rfl,g⟩)
     .rw[if_neg j];exact Bj ⟨rfl,a⟩
    .rintro⟨r,u⟩ b ⟨d,a⟩;dsimp only at d⊢;subst d;exact Ba (Iw (Ba (Iw (Bj ⟨rfl,TS.push (TS.mod a) m o⟩))))
 .rintro⟨r,lo⟩ q ⟨d,L,e⟩;dsimp only at d⊢;subst d;dsimp only;refine Ba (Hv (Fm (I:=λ_ c st'=>c.1=none/\TS U S a₀ L st') (Q:=λc st'=>c.1=none/\TS U S a₀ L st') ?_ (λ_ _ h=>h) ⟨rfl,e⟩) ?_)
  .rintro y ⟨r,u⟩ b _ _ ⟨d,a⟩;refine Ba (Mo ?_);refine w_ite (λ_=>Bj ⟨rfl,a⟩) λj=>?_;refine Ba (LI k l a ?_ λp g=>Bj ⟨rfl,g⟩);exact zdj j
  .rintro⟨r,u⟩ b ⟨d,a⟩;dsimp only at d⊢;subst d;exact Bj (z _ a.perm a.failed)
end
section
variable {prog:Bt}{w:Ck}{A:Co}{E:Ae->Ag->Prop}{s:Ag}
def zdl{n:Nat}{P:Fin->Ag->Prop}{S:Ed->Prop}(ho:s.heap.get? a=some (Mi "list" vs.toArray n))(hz:vs.length<=An)(hS:∀v∈vs,S (v,v))(hk:∀h',(∀b o,b≠a->s.heap.get? b=some o->h'.get? b=some o)->(2<=vs.length->∀Q:Na->Ag->Prop,Q U {s with heap:=h'}->Bc (Bo prog w) A (keyKind' vs.toArray) Q E {s with heap:=h'})/\jV (Bo prog w) A E {s with heap:=h'} U S)(h:∀out:List Ae,out.Perm vs->P (.done (.ret .none)) {s with heap:=sortedHeap s.heap a vs out.toArray}):Bc (Bo prog w) A (Iz.«list.sort» ⟨[.ref a],[]⟩) P E s:=by
 rw[list_sort_plain];have la:a<s.heap.objs.size:=Az ho;refine Aa (listItems_at ho rfl ?_);refine Aa (listUpdate_at ho rfl ?_ (by simpa using hz) (Bk _));obtain⟨ep1,g1⟩:∃ep1,(s.heap.update a (Hb λ_=>#[])).get? a=some (Mi "list" #[] ep1):=⟨_,get?_update_seq ho (λ_=>#[])⟩;refine Aa (seqEpoch_at g1 rfl ?_);refine Aa (wpAny_newTuple ?_ (by simpa using hz));refine Aa (wpAny_newList ?_ (Bk _));refine Ct ?_;have g6:(((s.heap.update a (Hb λ_=>#[])).push (Mi "tuple" vs.toArray 0)).push (Mi "list" #[] 0)).get? a=some (Mi "list" #[] ep1):=by
  rw[Heap.get?_push_ne _ _ _ (by rw[size_push',Heap.size_update];exact Bu (Fg la)),Heap.get?_push_ne _ _ _ (by rw[Heap.size_update];exact Bu la)];exact g1
 obtain⟨hk1,hk2⟩:=hk _ (λb o hb e=>Ah _ (Ah _ ((Eb _ _ (Bw hb)).trans e)):∀b o,b≠a->s.heap.get? b=some o->(((s.heap.update a (Hb λ_=>#[])).push (Mi "tuple" vs.toArray 0)).push (Mi "list" #[] 0)).get? b=some o);show Bc (Bo prog w) A _ P E {s with heap:=((s.heap.update a (Hb λ_=>#[])).push (Mi "tuple" vs.toArray 0)).push (Mi "list" #[] 0)};dsimp only;have zl:vs.toArray.size=vs.length:=by simp
 have hpz:(vs.toArray.zip vs.toArray).toList.map (·.2)=vs:=by
  rw[Array.toList_zip];simp[List.map_snd_zip]
 have fin:∀st':Ga,(Iu st').Perm (vs.toArray.zip vs.toArray)->((Iu st').map (·.2)).size<=An+1/\P (.done (.ret .none)) {s with heap:=sortedHeap s.heap a vs ((Iu st').map (·.2))}:=λst' hp=>by
  have hp2:((Iu st').map (·.2)).toList.Perm vs:=by
   have:=(Mb.mp hp).map (·.2);rw[hpz]at this;rw[Array.toList_map];exact this
  refine⟨?_,?_⟩
  .have:=hp2.length_eq;rw[Bx]at this;lia
  .have:=h _ hp2;rw[Jc]at this;exact this
 by_cases h2:vs.toArray.size<2
 .rw[if_pos h2,if_pos h2];refine Aa (Af ?_);rw[StateT.run_pure];refine Aa (Af ?_);obtain⟨f1,f2⟩:=fin (Nd general' (vs.toArray.zip vs.toArray) #[] 7 none) (Array.Perm.refl _);dsimp only;refine Aa (seqEpoch_at g6 rfl ?_);refine Aa (listUpdate_at g6 rfl ?_ (Bk _) f1);simp only[bne_self_eq_false,De,if_false];exact Af f2
 .rw[if_neg h2,if_neg h2];refine Aa (hk1 (by lia) _ ?_);refine Aa (Ic (zdk (U:=U) (S:=S) (a₀:=vs.toArray.zip vs.toArray) (st:=Nd U (vs.toArray.zip vs.toArray) #[] 7 none)
   (Q:=λ_ st'=>(Iu st').Perm (vs.toArray.zip vs.toArray)/\Ik st'=none) hk2 (λp hp=>?_) ⟨Array.Perm.refl _,rfl,rfl,rfl,Bk _⟩ λst' a1 a2=>⟨a1,a2⟩) ?_ λ_ _ e=>e)
  .rw[Array.toList_zip,List.zip_eq_zipWith]at hp;simp only[List.zipWith_self]at hp;obtain⟨v,hv,rfl⟩:=Ax.mp hp;exact hS v hv
  .rintro⟨⟨⟩,st'⟩ s' ⟨rfl,hp,hf⟩;obtain⟨f1,f2⟩:=fin st' hp;dsimp only;refine Aa (seqEpoch_at g6 rfl ?_);refine Aa (listUpdate_at g6 rfl ?_ (Bk _) f1);rw[hf];simp only[bne_self_eq_false,De,if_false];exact Af f2
end
end Tsr
namespace Tsr
open PySem PyProof.Rows PySem.W
section
variable {prog:Bt}{w:Ck}{A:Co}{E:Ae->Ag->Prop}{s:Ag}
def zdm:jV (Bo prog w) A E s oneType' (λp=>∃n t,p.1=.int n t):=by
 rintro⟨x,p⟩ ⟨y,q⟩ st Q ⟨n,t,rfl⟩ ⟨b,t',rfl⟩ hk a;rw[lt'_eq];refine Ba (Mo ?_);rw[hk,keyLt'_oneType];exact Ba (Pb (Np (oneLt_int ⟨rfl,Bj (a _)⟩)))
end
end Tsr
namespace Srt
open PySem PySem.Calls PyProof.Rows Tsr
section
variable {prog:Bt}{w:Ck}{A:Co}{E:Ae->Ag->Prop}{s:Ag}{a:Addr}
def LJ:∀{vs:List Ae} {ns:List Int},Hh vs ns->vs.length=ns.length
 | _,_,.nil=>rfl
 | _,_,.cons _ _ r=>congrArg (· + 1) (LJ r)
def zdn(p:out.Perm vs):∀{ns:List Int},Hh vs ns->∃ms:List Int,Hh out ms/\ms.Perm ns:=by
 induction p with
 | nil=>intro ns h;cases h;exact⟨[],.nil,.nil⟩
 | cons x _ ih=>intro ns h;cases h with|cons n t r=>obtain⟨ms,h1,h2⟩:=ih r;exact⟨n::ms,.cons n t h1,h2.cons _⟩
 | swap x y l=>intro ns h;cases h with|cons n t r=>cases r with|cons m u r=>exact⟨_,.cons m u (.cons n t r),.swap _ _ _⟩
 | trans _ _ ih1 ih2=>intro ns h;obtain⟨ms,h1,h2⟩:=ih2 h;obtain⟨ms',h3,h4⟩:=ih1 h1;exact⟨ms',h3,h4.trans h2⟩
def zdo{S:Int->Prop}{n:Nat}{Q:Ae->Ag->Prop}(hh:A.handled=none)(hS:gS prog w s.heap a S n (kI w))(hn:n<=10000)(h:∀(h1 h':Heap) (tk:Nat) d (out:Array Ae) (ms:List Int) (e:Nat),(∀b o,s.heap.get? b=some o->h1.get? b=some o)->(∀b o,h1.get? b=some o->h'.get? b=some o)->Hh out.toList ms->(∀k,k∈ms↔S k)->ms.length<=n->ms.Nodup->h'.get? h1.objs.size=some (Mi "list" out e)->
   Q (.ref h1.objs.size) {s with heap:=h',toks:=tk,drawn:=d}):Bc (Bo prog w) A (call (.builtin "sorted") [.ref a]) Q E s:=by
 refine Calls.call_function_entry kind_sorted plain_sorted entry_sorted (args_sorted1 _) ?_;unfold Iz.«sorted»;refine Aa (m:=checkCount "sorted" 1 1 _) (Af (Aa (zbF (A:=A.in1) hh hS (by rw[Ir];lia) λh' tk d vs ns kp hI hm hl hnd=>?_)));have hvl:=LJ hI;have kk:2<=vs.length->keyKind' vs.toArray=pure oneType':=λh2=>by
  match vs,hI,h2 with
  | _::_::_,hI,_=>exact keyKind_ints hI
 refine Aa (wpAny_newList (s:={s with heap:=h',toks:=tk,drawn:=d}) ?_ (by rw[hvl,Ir];lia));have ho:(h'.push (Mi "list" vs.toArray 0)).get? h'.objs.size=some (Mi "list" vs.toArray 0):=Au _ rfl;refine Aa (Ct (Dn slot_list_sort ⟨_,ho,rfl⟩ entry_list_sort (zdl (U:=oneType') (S:=λp=>∃n t,p.1=.int n t) ho (by rw[hvl,Ir];lia) (λv hv=>?_) (λh2 _=>⟨λh2 Q q=>by rw[kk h2];exact Af q,zdm⟩) λout hp=>⟨_,rfl,?_⟩) (args_list_sort _)))
 .have:∀{vs:List Ae} {ns:List Int},Hh vs ns->v∈vs->∃n t,v=.int n t:=by
   intro vs ns q
   induction q with
   | nil=>exact λz=>nomatch z
   | cons n t _ ih=>exact λz=>(Bg.mp z).elim (λe=>⟨n,t,e⟩) ih
  exact this hI hv
 obtain⟨ms,a1,a2⟩:=zdn hp hI;obtain⟨e,he⟩:=sortedHeap_at (out:=out.toArray) ho;refine Af ⟨_,rfl,h h' _ tk d out.toArray ms e kp (λb o eb=>?_) (by simpa using a1) (λk=>a2.mem_iff.trans (hm k)) (by rw[a2.length_eq];exact hl) (a2.nodup_iff.mpr hnd) he⟩;have hlt:b<h'.objs.size:=Az eb;exact(sortedHeap_old (Bu hlt) (by rw[Ea];exact Fg hlt)).trans (Ah _ eb)
end
end Srt
namespace L2
open PySem Spec PyProof.Rows Srt
section
variable {X:Cx}{a:Expr}{ta:TA}{p p2 pos pos2:Pos}
def Inv.dr2{a:List (Addr×Obj)}{e:St}{H:Hp}{s:Ag}(I:Inv X a e H s)(d:_):Inv X a e H {s with drawn:=d}:=by
 refine I.step (h':=s.heap) (g':=s.gens) (d':=d) (t':=s.toks) (ch:=[]) (λ_ z=>nomatch z) (λb o _ _ _ c _=>c) (λb o _ _ _ c _=>⟨o.slots,c⟩) (λb o _ _ n=>n) (λb o _ c=>⟨o,c⟩)
  (λb xs eb=>eb) (λb o u eb=>eb) (λb ps eb=>⟨#[],by rw[eb];simp⟩) (λm f=>f) (λb v eb=>I.hok b v eb) I.bare
def LK:∀{vs:List Ae} {ns:List Int},Hh vs ns->aT (ns.map V.int) vs
 | _,_,.nil=>.nil
 | _,_,.cons n t r=>.cons ⟨t,rfl⟩ (LK r)
def zdp(ta:TA):TE:=λc H Q=>ta c H λvs b=>∃(l:Addr) (ns us:List Int),vs=[.ref l]/\b l=some (.lst (ns.map V.int))/\(∀x∈ns,x∈us)/\us.length<=4000/\∀a:List Int,(∀k,k∈a↔k∈ns)->a.length<=us.length->a.Nodup->∀q,b q=none->Q (.ref q) (aR b q (.lst (a.map V.int)))
def zdq:Dc "set" = some (.type "set"):=by decide +kernel
def zdr:Dc "sorted" = some (.builtin "sorted"):=by decide +kernel
def zds(hc:X.calm=true)(hg:Gl X "sorted")(hm:X.mg "sorted" = none)(hg2:Gl X "set")(hm2:X.mg "set" = none)(ha:PA X [a] ta)(hs1:Br [.Call (.Name "set" p2) [a] [] pos2] X.env=[(false,eval (.Call (.Name "set" p2) [a] [] pos2) X.env)]:=by rfl)(hs2:Br [a] X.env=[(false,eval a X.env)]:=by rfl):
  PE X (.Call (.Name "sorted" p) [.Call (.Name "set" p2) [a] [] pos2] [] pos) (zdp ta):=by
 intro pins s Z H Q I h;refine Ez (jZ I hg hm zdr (PyProof.Rows.callWith_builtin1 ?_ hs1 rfl));rw[hs1];refine Calls.spliced_cons (Ez (jZ I hg2 hm2 zdq (Er (a5 (ha pos2 pins s Z H _ I h) λus s1 ⟨vs,H1,I1,r1,q1⟩=>?_) hs2 rfl)));obtain⟨l,ns,us,rfl,hl,hV,h64,q⟩:=q1;obtain⟨u,rfl,ru⟩:=vals1 r1;cases ru;obtain⟨hz,its,n,rv,hlen,ho⟩:=I1.lstM hl;refine zbr (items:=its.toArray) (ns:=ns) us hV (I1.ok.hd hc) ⟨_,ho,rfl,n,rfl⟩ (by simpa using intsAre_of rv) (by unfold Pm;lia) λh1 tk1 hS hk1=>Calls.spliced_nil ?_;have kp1:∀b o,s1.heap.get? b=some o->h1.get? b=some o:=λb o e=>hk1 b o (Az e) e;have I2:Inv X pins Z H1 {s1 with heap:=h1,toks:=tk1}:=I1.kept (t':=tk1) kp1;refine zdo (s:={s1 with heap:=h1,toks:=tk1}) (I1.ok.hd hc) hS (by lia) λh2 h3 tk d out ms e k1 k2 i1 i2 i3 i6 i5=>?_;have I3:Inv X pins Z H1 {s1 with heap:=h2,toks:=tk,drawn:=d}:=(I2.kept (t':=tk) k1).dr2 d;refine⟨.ref h2.objs.size,_,I3.laid (o:=.lst (ms.map V.int)) (t':=tk) k2 (Ai _) ⟨by rw[Ab,Ir];lia,out.toList,e,LK i1,by rw[Jc];exact i5⟩,rfl,q ms i2 i3 i6 _ (I3.hok.fresh (Ai _))⟩
end
end L2
namespace L3
open PySem Spec PyProof.Rows L2
def LL:W->Mm->K3->Prop
 | .rl l,M,R=>∃ns us:List Int,l=ns.map W.int/\(∀x∈ns,x∈us)/\us.length<=4000/\∀a:List Int,(∀k,k∈a↔k∈ns)->a.length<=us.length->a.Nodup->R (.rl (a.map W.int)) M
 | _,_,_=>False
def vT(ta:aX):aX:=λa M R=>ta a M λw b=>LL w b R
section
variable {X:Cx}{a:Expr}{ta:aX}
def zdt{K:Ac}{H:Hp}{M:Mm}(a:List Int):aK K H M (a.map V.int) (a.map W.int):=by
 induction a with
 | nil=>exact .nil
 | cons m a b=>exact .cons (.int _) b
def LM(x:Gl X "sorted")(t:X.mg "sorted" = none)(i:Gl X "set")(g:X.mg "set" = none)(ha:E3 X a ta)(hc:X.calm=true:=by rfl)(c:Br [.Call (.Name "set" p2) [a] [] pos2] X.env=[(false,eval (.Call (.Name "set" p2) [a] [] pos2) X.env)]:=by rfl)(b:Br [a] X.env=[(false,eval a X.env)]:=by rfl):
  E3 X (.Call (.Name "sorted" p) [.Call (.Name "set" p2) [a] [] pos2] [] pos) (vT ta):=
 (zds hc x t i g (aC ha aG (by rw[b];rfl)) c b).weak λF H Q o=>o.el λm M R as u h k=>⟨m,M,λws j=>match ws with | [w]=>LL w j R|_=>False,as,u,h,λvs G ws j D f s r=>by
  match ws,r with
  | [w],r=>
   obtain⟨v,rfl,B⟩:=s.one;cases B<;>first|exact(show False from r).elim|skip
   case rl a xs ws e n q=>
    obtain⟨ns,us,rfl,C,d,r⟩:=r;rw[q.intsL]at e;exact⟨a,ns,us,rfl,e,C,d,λl A z y p E=>yC f (k.kp D) E (zdt l) (r l A z y)⟩⟩
end
end L3
namespace Md
open PySem PyProof.Rows
def vU(o:Option Int)(x:Int):Option Int:=match o with
 | none=>some x
 | some m=>some (if x<m then x else m)
def jW(val:Nat->Int):Nat->Option Int
 | 0=>none
 | i+1=>vU (jW val i) (val i)
def Holds(S:Addr)(o:Option Int)(h:Heap):Prop:=∃(c:Nat) (xs:Array Ae),h.get? S=some {cls:=.type "list",dict:=none,data:=.seq xs c,slots:=#[]}/\match o with
 | none=>xs = #[]
 | some m=>∃t,xs = #[.int m t,.int m t]
section
variable {prog:Bt}{w:Ck}{A:Co}{R:Result->Ag->Prop}{I:Addr}{fp wr:List Addr}{G:Array GenState->Array GenState->Prop}{n:Nat}{P:Nat->Ae->Prop}{St:Nat->Ag->Prop}
def zdu(o:Option Int)(v:Ae):Prop:=match o with
 | none=>v=.none
 | some m=>∃t,v=.int m t
def zdv(W:WalksS prog w A.in1 I fp wr G n P St)(S:Addr)(hf:S∉fp)(val:Nat->Int)(vl:∀i v,P i v->∃t,v=.int (val i) t):∀(k i:Nat) (s:Ag),n-i=k->i<=n->St i s->Holds S (jW val i) s.heap->
  (∀v s',zdu (jW val n) v->Moved (S::wr) G s s'->R (.ok (.ret v)) s')->Jo (Bo prog w) A (.builtin "min.loop" ⟨[.ref I,.none,.ref S],[("default",.none)]⟩) R s:=by
 have nw:S∉wr:=λh=>hf (W.sub _ h);have sb:∀b∈wr,b∈S::wr:=λb hb=>Ap _ hb;have nm:(toString "min"++toString ".loop" : String) = "min.loop":=by decide
 have nS:∀{b:Addr},b∉S::wr->S≠b:=λhb h=>hb (by rw[h];exact Be);intro k
 induction k with
 | zero=>
  intro i s hk hi st ⟨c,xs,hS,ho⟩ hR;cases (show i=n by lia);refine Gr F.entry_min_loop ?_;rw[Fl Jx _];show Bc _ A.in1 (Pk (.ref S)>>=_) _ _ s;refine Aa (Mw hS rfl ?_);refine Aa (Pc (W.done s _ _ st λs' hm=>?_));have hS':=hm.heap S _ nw hS;cases e:jW val n with
  | none=>
   rw[e]at ho hR;subst ho;exact Aa (Ey (Af (hR _ s' rfl (hm.mono sb))))
  | some m=>
   rw[e]at ho hR;obtain⟨t,rfl⟩:=ho;refine Aa (m:=updateSeq S λ_=>#[]) ?_;refine Mg hS' rfl (Aa (Pe (Af ?_)));exact hR _ _ ⟨t,rfl⟩ ((hm.mono sb).then_heap (tk:=s'.toks) (Ai _) λb o hb e=>(Eb _ _ (nS hb)).trans e)
 | succ k ih=>
  intro i s hk hi st ⟨c,xs,hS,ho⟩ hR;refine Gr F.entry_min_loop ?_;rw[Fl Jx _];show Bc _ A.in1 (Pk (.ref S)>>=_) _ _ s;refine Aa (Mw hS rfl ?_);refine Aa (Pc (W.item i s _ _ (by lia) st λv s' hP st' hm=>?_));have hS':=hm.heap S _ nw hS;obtain⟨t,rfl⟩:=vl i v hP;have eB:jW val (i+1)=vU (jW val i) (val i):=rfl;have put:∀(c':Nat) (xs':Array Ae),s'.heap.get? S=some {cls:=.type "list",dict:=none,data:=.seq xs' c',slots:=#[]}->jW val (i+1)=some (val i)->Jo (Bo prog w) A (.builtin "min.loop" ⟨[.ref I,.none,.ref S],[("default",.none)]⟩) R {s' with heap:=s'.heap.update S (Hb λ_=>#[.int (val i) t,.int (val i) t])}:=λc' xs' h e=>
   ih (i+1) _ (by lia) (by lia) (W.frame _ s' _ s'.toks st' (Ai _) λb hb o eb=>(Eb _ _ (λh:S=b=>hf (by rw[h];exact hb))).trans eb) ⟨_,_,Ff _ h rfl,by rw[e];exact⟨t,rfl⟩⟩ λv' s'' hv hm''=>
    hR v' s'' hv (Moved.trans W.gtrans ((hm.mono sb).then_heap (tk:=s'.toks) (Ai _) λb o hb e=>(Eb _ _ (nS hb)).trans e) hm'')
  cases e:jW val i with
  | none=>
   rw[e]at ho eB;subst ho;refine Aa (m:=pure (Value.int (val i) t)) (Af ?_);refine Aa (m:=updateSeq S λ_=>#[.int (val i) t,.int (val i) t]) ?_;refine Mg hS' rfl ?_;rw[nm];exact Af ⟨Gw Jx _,put _ _ hS' eB⟩
  | some m=>
   rw[e]at ho eB;obtain⟨u,rfl⟩:=ho;refine Aa (m:=pure (Value.int (val i) t)) (Af ?_);show Bc _ A.in1 (tryCatch (Jn [Value.int (val i) t,Value.int (val i) t] (richCompare .Lt (Value.int (val i) t) (Value.int m u)>>=_)) _>>=_) _ _ _;refine Aa (Pc (Ct (Aa (CmpOf.ints_lt (prog:=prog) (w:=w) (A:=A.in1) (P:=λ(j:Nat) v=>∃t,v=.int (if j=0 then val i else m) t) (λj=>if j=0 then val i else m) (λi v h=>h) 0 1 _ _ _ _ _ ⟨t,rfl⟩ ⟨u,rfl⟩ ?_))));refine Aa (Ct (Lb ?_));refine Aa (Pe (Af ?_));show Bc _ A.in1 (if decide (val i<m)=true then _ else _) _ _ _
   by_cases hb:val i<m
   .rw[if_pos (decide_eq_true hb)];refine Aa (m:=updateSeq S λ_=>#[.int (val i) t,.int (val i) t]) ?_;refine Mg hS' rfl (Aa (Pe ?_));rw[nm];exact Af ⟨Gw Jx _,put _ _ hS' (by rw[eB];show some (if _ then _ else _)=_;rw[if_pos hb])⟩
   .rw[if_neg (by rw[decide_eq_false hb];exact Am)];refine Aa (Pe ?_);rw[nm];refine Af ⟨Gw Jx _,ih (i+1) _ (by lia) (by lia) st' ⟨_,_,hS',?_⟩ λv' s'' hv hm''=>hR v' s'' hv (Moved.trans W.gtrans (hm.mono sb) hm'')⟩;rw[eB,show vU (some m) (val i)=some m by show some (if _ then _ else _)=_;rw[if_neg hb]];exact⟨u,rfl⟩
end
section
variable {prog:Bt}{w:Ck}{A:Co}{E:Ae->Ag->Prop}{s:Ag}
def zdw(a v:Ae):argsOk "min" ⟨[a],[("default",v)]⟩:=by unfold argsOk;kernel_rfl
def LN(val:Nat->Int):∀n,match jW val n with|none=>n=0|some m=>(∃j,j<n/\m=val j)/\∀j,j<n->m<=val j
 | 0=>rfl
 | n+1=>by
  have a:=LN val n;show match vU (jW val n) (val n) with|none=>_|some m=>_
  cases e:jW val n with
  | none=>
   rw[e]at a;have a:n=0:=a;subst a;exact⟨⟨0,Nat.zero_lt_one,rfl⟩,λj c=>by cases (show j=0 by lia);exact Em _⟩
  | some m=>
   rw[e]at a;obtain⟨⟨j,c,d⟩,b⟩:=a;show(∃j,j<n+1/\(if val n<m then val n else m)=val j)/\∀j,j<n+1->(if val n<m then val n else m)<=val j;refine⟨?_,λi hi=>?_⟩
   .split
    .exact⟨n,by lia,rfl⟩
    .exact⟨j,by lia,d⟩
   .by_cases z:i=n
    .subst z;split<;>lia
    .have:=b i (by lia);split<;>lia
def callD{Q:Ae->Ag->Prop}(hh:A.handled=none)(hl:s.heap.IsList l items)(hi:Hh items.toList ns)(h:∀v (h':Heap) (tk:Nat),(∀b o,s.heap.get? b=some o->h'.get? b=some o)->((ns=[]/\v=.none)\/∃m t,v=.int m t/\m∈ns/\∀x∈ns,m<=x)->Q v {s with heap:=h',toks:=tk}):
  Bc (Bo prog w) A (call (.builtin "min") [.ref l] [("default",.none)]) Q E s:=by
 have nm:(toString "min"++toString ".loop" : String) = "min.loop":=by decide
 have hlen:items.size=ns.length:=by
  have:∀{vs:List Ae} {ns:List Int},Hh vs ns->vs.length=ns.length:=by
   intro vs ns q
   induction q with
   | nil=>rfl
   | cons _ _ _ ih=>simp[ih]
  rw[<-this hi,Bx]
 have hlt:l<s.heap.objs.size:=by obtain⟨ol,hol,_⟩:=hl;exact Az hol
 refine kmk_tree F.kind_min F.plain_min F.entry_min (zdw _ _) ?_;show Bc _ A.in1 (Builtin.Builtins.bindParams "min" ["key","default"] 0 ⟨[],[("default",Value.none)]⟩>>=_) _ _ s;refine Aa (Pd (show Builtin.Builtins.bindParams "min" ["key","default"] 0 ⟨[],[("default",Value.none)]⟩=pure [none,some .none] from rfl) ?_);refine Aa (Af ?_);refine Aa (Jl hl ?_);refine Aa (Cz ?_);rw[nm];have vl:∀(i:Nat) (v:Ae),items[i]? = some v->∃t,v=.int ((λi=>ns.getD i 0) i) t:=λi v hv=>IntsAre.int_at hi i v (by rw[Dr];exact hv);have hI:(s.heap.push {cls:=.type "list_iterator",data:=.fields #[.ref l,.int 0 0]}).objs.size=s.heap.objs.size+1:=Ea _ _;have hit:(s.heap.push {cls:=.type "list_iterator",data:=.fields #[.ref l,.int 0 0]}).get? s.heap.objs.size=some {cls:=.type "list_iterator",data:=.fields #[.ref l,.int 0 0]}:=Au _ rfl;have hS0:((s.heap.push {cls:=.type "list_iterator",data:=.fields #[.ref l,.int 0 0]}).push {cls:=.type "list",data:=.seq #[]}).get? (s.heap.objs.size+1)=some {cls:=.type "list",data:=.seq #[]}:=by rw[<-hI];exact Au _ rfl
 rw[hI];refine Af ⟨Gw Jx _,zdv ((Walks.list (A:=A.in1) hh s.heap.objs.size l (Bu hlt) items).toS) (s.heap.objs.size+1) (by simp;lia) (λi=>ns.getD i 0) vl _ 0 _ rfl (Bk _) ⟨⟨_,Ah _ hit,rfl,rfl⟩,(hl.push _).push _⟩ ⟨0,#[],hS0,rfl⟩ λv s' hv hm=>?_⟩;obtain⟨h',g',d',tk',os'⟩:=s';cases (show g'=s.gens from hm.gens);cases (show d'=s.drawn from hm.drawn);cases (show os'=s.os from hm.os);refine h v h' tk' (λb o e=>hm.heap b o ?_ (Ah _ (Ah _ e))) ?_
 .have:=Az e;simp only[Bg,Nf,or_false,not_or];exact⟨by lia,by lia⟩
 .have hb:=LN (λi=>ns.getD i 0) items.size;cases e:jW (λi=>ns.getD i 0) items.size with
  | none=>
   rw[e]at hv hb;have hb:items.size=0:=hb;exact .inl ⟨Ib.mp (by lia),hv⟩
  | some m=>
   rw[e]at hv hb;obtain⟨t,rfl⟩:=hv;obtain⟨⟨j,hj,rfl⟩,h2⟩:=hb;have hj':j<ns.length:=by lia
   refine .inr ⟨_,t,rfl,by rw[Eg,Bf hj'];exact Jp _,λx hx=>?_⟩;obtain⟨i,hi',rfl⟩:=Li.mp hx;have:=h2 i (by lia);rwa [Eg (i:=i),Bf hi']at this
end
end Md
namespace L2
open PySem Spec PyProof.Rows
section
variable {X:Cx}{a:Expr}{ta:TA}{p kp cp pos:Pos}{j:_}
def zdx(ta:TA):TE:=λb H Q=>ta b H λvs a=>∃(l:Addr) (ns:List Int),vs=[.ref l]/\a l=some (.lst (ns.map V.int))/\(ns=[]->Q .non a)/\∀m∈ns,(∀x∈ns,m<=x)->Q (.int m) a
def zdy:Dc "min" = some (.builtin "min"):=by decide +kernel
def zdz(hc:X.calm=true)(hg:Gl X "min")(hm:X.mg "min" = none)(ha:PA X [a] ta)(hs:Br [a] X.env=[(false,eval a X.env)]:=by rfl):PE X (.Call (.Name "min" p) [a] [⟨some "default",.Constant .none j cp,kp⟩] pos) (zdx ta):=by
 intro pins s Z H Q I h;refine Ez (jZ I hg hm zdy ?_);refine callWith_kw (e:=a) (rest:=[]) (a5 (ha pos pins s Z H _ I h) λus s1 ⟨vs,H1,I1,r1,q1⟩=>kws_cons (Constant_none (kws_nil ?_))) (by rw[hs];rfl) (by rw[hs];rfl);obtain⟨l,ns,rfl,hl,q0,q⟩:=q1;obtain⟨u,rfl,ru⟩:=vals1 r1;cases ru;obtain⟨hz,its,n,rv,hlen,ho⟩:=I1.lstM hl;refine Md.callD (items:=its.toArray) (ns:=ns) (I1.ok.hd hc) ⟨_,ho,rfl,n,rfl⟩ (by simpa using intsAre_of rv) λv h' tk kp hv=>?_;have I2:Inv X pins Z H1 {s1 with heap:=h',toks:=tk}:=I1.kept (t':=tk) kp;rcases hv with⟨e,rfl⟩|⟨m,t,rfl,h1,h2⟩
 .exact⟨.non,H1,I2,rfl,q0 e⟩
 .exact⟨.int m,H1,I2,⟨t,rfl⟩,q m h1 h2⟩
end
end L2
namespace L3
open PySem Spec PyProof.Rows L2
def LO:W->Mm->K3->Prop
 | .rl l,M,R=>∃ns:List Int,l=ns.map W.int/\(ns=[]->R .non M)/\∀m∈ns,(∀x∈ns,m<=x)->R (.int m) M
 | _,_,_=>False
def LP(ta:aX):aX:=λa M R=>ta a M λw b=>LO w b R
section
variable {X:Cx}{a:Expr}{ta:aX}{p kp cp pos:Pos}{j:_}
def zdA(u:Gl X "min")(g:X.mg "min" = none)(ha:E3 X a ta)(hc:X.calm=true:=by rfl)(c:Br [a] X.env=[(false,eval a X.env)]:=by rfl):E3 X (.Call (.Name "min" p) [a] [⟨some "default",.Constant .none j cp,kp⟩] pos) (LP ta):=
 (zdz hc u g (aC ha aG (by rw[c];rfl)) c).weak λB H Q y=>y.el λl M R as s h k=>⟨l,M,λws f=>match ws with | [w]=>LO w f R|_=>False,as,s,h,λvs C ws f d b A r=>by
  match ws,r with
  | [w],r=>
   obtain⟨v,rfl,x⟩:=A.one;cases x<;>first|exact(show False from r).elim|skip
   case rl a xs ws e n q=>
    obtain⟨ns,rfl,o,r⟩:=r;rw[q.intsL]at e;exact⟨a,ns,rfl,e,λz=>(k.kp d).at b .non (o z),λm t i=>(k.kp d).at b (.int _) (r m t i)⟩⟩
end
end L3
namespace L2
open PySem Spec PyProof.Rows
section
variable {X:Cx}{e k:Expr}{te tk:TE}{p2 pos:Pos}
def zdB(te tk:TE):TE:=λc H Q=>te c H λx d=>tk c d λy b=>y=.int (-1)/\∃(a:Addr) (xs:List V),x=.ref a/\b a=some (.lst xs)/\∀q,b q=none->Q (.ref q) (aR b q (.lst xs.reverse))
def zdC:∀{xs:List V} {us:List Ae},aT xs us->aT xs.reverse us.reverse:=by
 intro xs us h;have e:∀{a b:List V} {c d:List Ae},aT a c->aT b d->aT (a++b) (c++d):=by
  intro a b c d i g
  induction i with
  | nil=>exact g
  | cons r _ f=>exact .cons r f
 induction h with
 | nil=>exact .nil
 | cons r _ f=>rw[Gx,Gx];exact e f (.cons r .nil)
def zdD(he:PE X e te)(hk:PE X k tk):PE X (.Subscript e (.Slice none none (some k) p2) pos) (zdB te tk):=by
 intro pins s Z H Q I h;refine Subscript_ (a5 (he pins s Z H _ I h) λv s1 ⟨x,H1,I1,r1,q1⟩=>wpAny_Slice ?_);rw[evalPart_none,evalPart_some];refine Af (Af (a5 (hk pins s1 Z H1 _ I1 q1) λvk s3 ⟨y,H3,I3,rk,q3⟩=>?_));obtain⟨rfl,a,xs,rfl,hx,q⟩:=q3;obtain⟨t,rfl⟩:=rk;cases r1;have I4:Inv X pins Z H3 {s3 with heap:=s3.heap.push {cls:=.type "slice",data:=.fields #[.none,.none,.int (-1) t]}}:=I3.kept (t':=s3.toks) λb ob q=>Ah _ q;obtain⟨hz,its,n,rv,hlen,ho⟩:=I4.lstM hx;have hl:({s3 with heap:=s3.heap.push {cls:=.type "slice",data:=.fields #[.none,.none,.int (-1) t]}}:Ag).heap.IsList a its.toArray:=⟨_,ho,rfl,n,rfl⟩;show Bc (Bo X.prog X.w) X.A (subscriptTail e (.Slice none none (some k) p2) (.ref a) (.ref s3.heap.objs.size)) (EP X pins Z Q) X.xe {s3 with heap:=s3.heap.push {cls:=.type "slice",data:=.fields #[.none,.none,.int (-1) t]}};refine tail_any (ops:=[.ref a,.ref s3.heap.objs.size]) (T:="list") hl.typeIs slot_list_getitem.lookup (wpAny_getItem_list_slice hl (Heap.IsSliceOf.new ..) .none .none (.int _ t) (by simp) ?_ (by rw[Ay];lia)) (by with_unfolding_all rfl);rw[PySem.W.krv_pick];exact⟨.ref _,_,I4.laid (t':=s3.toks) (o:=.lst xs.reverse) (λb ob q=>Ah _ q) (Ai _) ⟨by rw[Lv];exact hz,its.reverse,0,zdC rv,Au _ rfl⟩,rfl,q _ (I4.hok.fresh (Ai _))⟩
end
end L2
namespace L3
open PySem Spec PyProof.Rows L2
def zdE:W->Mm->K3->Prop
 | .rl l,M,R=>R (.rl l.reverse) M
 | _,_,_=>False
def LQ(ta tk:aX):aX:=λa M R=>ta a M λx c=>tk a c λy b=>y=.int (-1)/\zdE x b R
section
variable {X:Cx}{a k:Expr}{ta tk:aX}{p2 pos:Pos}
def LR{K:Ac}{H:Hp}{M:Mm}:∀{vs:List V} {ws:List W},aK K H M vs ws->aK K H M vs.reverse ws.reverse
 | _,_,.nil=>.nil
 | _,_,.cons r t=>by
  have e:∀{a b:List V} {c d:List W},aK K H M a c->aK K H M b d->aK K H M (a++b) (c++d):=by
   intro a
   induction a with
   | nil=>intro b c d g f;cases g;exact f
   | cons x a h=>intro b c d g f;cases g with|cons r t=>exact .cons r (h t f)
  rw[Gx,Gx];exact e (LR t) (.cons r .nil)
def zdF(ha:E3 X a ta)(hk:E3 X k tk):E3 X (.Subscript a (.Slice none none (some k) p2) pos) (LQ ta tk):=
 (zdD ha hk).weak λC H Q m=>m.el λf M R as g h k=>⟨f,M,_,as,g,h,λx F z o j b s u=>⟨f,o,_,as.kp g j,b,u,λy D B E i c w ⟨t,r⟩=>by
  subst t;refine⟨w.inv,?_⟩
  match z,s.kp b i,r with
  | .rl l,d,r=>
   obtain⟨a,xs,v,e,n,q⟩:=d.inv;exact⟨a,_,v,e,λp A=>yC c ((k.kp j).kp i) A (LR q) r⟩⟩⟩
end
end L3
namespace HT
open PySem Spec PyProof.Rows
section
variable {prog:Bt}{w:Ck}{A:Co}{E:Ae->Ag->Prop}{s:Ag}
def getItem_tuple_w{t sl:Addr}{items:Array Ae}{f d:Ae}{lo hi:Option Int}{Q:Ae->Ag->Prop}(ht:IsTup s.heap t items)(e:s.heap.IsSliceOf sl f d .none)(pl:Pg f lo)(i:Pg d hi)(hw:sIx items.size 0 lo=0/\sIx items.size items.size hi=items.size)(h:Q (.ref t) s):Bc (Bo prog w) A (Po (.ref t) (.ref sl)) Q E s:=by
 obtain⟨os,a,b,g⟩:=id e;have c:s.TypeIs (.ref sl) "slice":=⟨os,a,b⟩;unfold Po
 try with_reducible refine Ct ?_
 first|refine Aa (Af ?_)|skip
 refine Aa (wpAny_sequenceKey ht.typeIs (by decide) ?_);refine Aa (Fq (name:=Eo "__getitem__") ht.typeIs Fc
  (Dn Fc ht.typeIs entry_tuple_getitem ?_ (args_tuple_getitem _ _)))
 show Bc _ _ (Builtin.Tuple.tupleItemsOf (.ref t)>>=_) _ _ s;refine Aa (tupleItemsOf_ ht ?_);refine Aa (La c ?_);rw[if_pos (by decide)];refine Aa (DW e pl i ?_);show Bc _ _ (if (((sIx items.size 0 lo:Nat):Int)==0&&(1:Int)==1&&(sIx items.size items.size hi-sIx items.size 0 lo)==items.size)=true then _ else _) _ _ s;rw[if_pos (by rw[hw.1,hw.2];simp)]
 first
  | exact Af ⟨_,rfl,Af h⟩
  | exact Aa (Ey (Af ⟨_,rfl,Af h⟩))
  | exact Aa (Af (Af ⟨_,rfl,Af h⟩))
  | exact Aa (Ey (Aa (Af (Af ⟨_,rfl,Af h⟩))))
  | (refine Aa ?_
     unfold Builtin.Tuple.tupleIsExact;refine Aa (La ht.typeIs ?_);refine Af ?_;rw[if_pos (by decide)];exact Aa (Ey (Af ⟨_,rfl,Af h⟩)))
end
end HT
namespace L2
open PySem Spec PyProof.Rows
section
variable {X:Cx}
def zdG:oS X (λx lo hi H Q=>∃a xs,x=.ref a/\bV X.K H a xs/\(HT.sIx xs.length 0 lo=0/\HT.sIx xs.length xs.length hi=xs.length)/\Q (.ref a) H):=by
 intro c s j H x v k i lo hi sl Q I g d pl f h;obtain⟨a,xs,rfl,e,hw,q⟩:=h;cases g;obtain⟨its,r,ht,hz⟩:=I.tuple e;have b:its.toArray.size=xs.length:=by rw[Ay];exact r.length.symm
 refine⟨"tuple",_,Fc.lookup,ht.typeIs,?_⟩;exact HT.getItem_tuple_w ht d pl f (by rw[b];exact hw) ⟨.ref a,H,I,rfl,q⟩
end
end L2
namespace L3
open PySem Spec PyProof.Rows L2
section
variable {X:Cx}
def LS:W->Option Int->Option Int->Mm->K3->Prop
 | .tup ws,lo,hi,M,R=>R (.tup (d5 ws lo hi)) M
 | _,_,_,_,_=>False
def zdH:oS X (FU X.K LS):=by
 rintro b s g H x v j d lo hi sl Q I m i pl l ⟨n,M,R,f,c,h,k⟩
 match n,c,h with
 | .tup ws,c,h=>
  have h:R (.tup (d5 ws lo hi)) M:=h;obtain⟨a,xs,rfl,e,q⟩:=c.inv
  by_cases hw:HT.sIx ws.length 0 lo=0/\HT.sIx ws.length ws.length hi=ws.length
  .rw[show d5 ws lo hi=ws by unfold d5;rw[hw.1,hw.2];simp]at h;exact zdG b s g H _ v j d lo hi sl Q I m i pl l ⟨a,xs,rfl,bV.of e,by rw[q.length];exact hw,k.at f c h⟩
  .exact DZ b s g H _ v j d lo hi sl Q I m i pl l ⟨a,xs,rfl,bV.of e,by rw[q.length];exact hw,λp o=>laidT f k o (rE q) h⟩
variable {a:Expr}{ta:aX}{pos:Pos}
def vV(ta:aX)(c b:mP):aX:=λa M R=>ta a M λx f=>c a f λl e=>b a e λu d=>LS x l u d R
def LU{lo hi:Option Expr}{n m:mP}{p2:Pos}(r:E3 X a ta)(hl:PO X lo (mQ X.K n))(s:PO X hi (mQ X.K m)):E3 X (.Subscript a (.Slice lo hi none p2) pos) (vV ta n m):=
 (DX zdH r hl s).weak λB H Q o=>o.el λd M R as e h k=>⟨d,M,_,as,e,h,λx E z p g b q w=>⟨d,p,_,as.kp e g,b,w,λl D A f c v=>⟨d,A,_,(as.kp e g).kp b f,c,v,λu C y j i t=>
  ⟨z,y,R,i,(q.kp b f).kp c j,t,((k.kp g).kp f).kp j⟩⟩⟩⟩
end
end L3
namespace Rg
open PySem Spec PyProof.Rows L2 L3
def dA:List Str:=["S","A","LIST","B_1"]
def eI:List Str:=["a","b","x","aa","other"]
structure gU(rs:List aM):Prop where
 ne:rs≠[]
 few:rs.length<=9
 kd:((∀r∈rs,r.parts.length<=3)/\(namesOf rs).length<=4)\/((∀r∈rs,r.parts.length<=4)/\(namesOf rs).length<=3)
 nm:∀r∈rs,r.name∈dA
 sp:∀r∈rs,∀t∈r.parts,t∈dA\/t∈eI
structure nJ(row:List Str):Prop where
 few:row.length<=6
 wd:∀t∈row,t∈dA\/t∈eI
def qE(h:t∈dA\/t∈eI):oA t:=by
 have b:∀t∈dA,oA t:=by unfold dA oA;decide +kernel
 have a:∀t∈eI,oA t:=by unfold eI oA;decide +kernel
 exact h.elim (b t) (a t)
def gU.fp(g:gU rs)(a:r∈rs):r.parts.length<=4:=by
 rcases g.kd with h|h
 .exact Nat.le_succ_of_le (h.1 r a)
 .exact h.1 r a
def iK(t:List Int):List (aF×W):=t.map λe=>(Sum.inl e,.bl true)
abbrev Lo:=List ((Str×Int)×Addr×List Int)
def bH(L:Lo)(X:Str)(b:Int):List Int:=((aD L (X,b)).map (·.2)).getD []
structure dZ(M0 M:Mm)(a:Addr)(L:Lo):Prop where
 sub:L3.Sub M0 M
 new:M0 a=none
 at_:M a=some (.dT (dW eK (λy:Addr×List Int=>W.ref y.1) L))
 inn:∀x∈L,x.2.1≠a/\M0 x.2.1=none/\M x.2.1=some (.dK (iK x.2.2))
 inj:(L.map λx=>x.2.1).Nodup
structure jA(n:Nat)(L:Lo):Prop where
 nd:(L.map (·.1)).Nodup
 en:∀x∈L,x.2.2.Nodup/\(∀e∈x.2.2,0<=e/\e<=n)/\x.1.1∈dA/\0<=x.1.2/\x.1.2<=n
def gV(T:LT):List (aF×W):=T.map λe=>(Sum.inr e.1,.int e.2)
abbrev dD(D:DO):List (List aF×W):=dW eK W.int D
def vW:Option Int->W
 | none=>.non
 | some v=>.int v
def sO(f:Str->Int->List (Int×Int))(kvs:List (List aF×W)):Prop:=∀t p,(a0 kvs (eK (t,p))=none/\f t p=[])\/a0 kvs (eK (t,p))=some (.rl ((f t p).map λz=>.tup [.int z.1,.int z.2]))
abbrev nK(rs:List aM):W:=.rl ((rs.map aM.name).map W.str)
def LV:bP:=λws M R=>∃(t:Str) (b e:Int),ws=[.str t,.int b,.int e]/\R (.rl [.str t]) M
def LW:bP:=λws M R=>∃(n:Int) (b:List W) (a:List (List Str)),ws=[.int n,.rl b]/\b.length<=1000/\Hr (kL M) b a/\a.flatten.length<=1000000/\a9 (a.flatten.map W.str) M R
def LX:bP:=λws M R=>∃(rs:List aM) (a:List Str),ws=[b9 rs,jT a]/\gU rs/\nJ a/\∀us kvs,jS rs us->us.length<=63->sO (fM a us) kvs->kU kvs M R
def LY(C:Cc):bP:=λws M R=>∃(G:Sr) (B:bC) (aV:a7),ws=[b9 G.rs,sM B,eZ aV,.ref C.f,.ref C.g]/\Wb G B/\aV∈B.map (·.1)/\(∀f∈B.map (·.1),(yT G B f).length<=5000)/\∀p a,M p=none->L3.Sub M a->a p=some (.lst ((yT G B aV).map W.str))->R (.ref p) a
def AE(C:Cc):bP:=λws M R=>∃(q:aM) (rs:List aM) (a:List Str),ws=[b9 (q::rs),jT a]/\gU (q::rs)/\nJ a/\∀us B,jS (q::rs) us->gR (bD (q::rs) a us) B->(aD B (iS q a)=none->R .non M)/\(∀x,aD B (iS q a)=some x->∀p b,M p=none->L3.Sub M b->b p=some (.lst ((yT (bD (q::rs) a us) B (iS q a)).map W.str))->R (.ref p) b)
def LZ:bP:=λws M R=>∃b:List Int,ws=[.sc (b.map W.int)]/\∀d n a,Dq d n a->L3.Sub M a->M d=none->M n=none->R (.ref d) a
def jX:bP:=λws M R=>∃(d n:Addr) (a:Int),ws=[.ref d,.int a]/\0<a/\a<=1000/\Dq d n M/\∀z b,0<=z->z<a->Dq d n b->Oq d n M b->R (.int z) b
def L0:bP:=λws M R=>∃(d n:Addr),ws=[.ref d]/\Dq d n M/\∀rs a b,gU rs->b a=some (.lst (rs.map eV))->a≠d->a≠n->Dq d n b->R (.ref a) b
def L5:bP:=λws M R=>∃(d n:Addr) (rs:List aM),ws=[.ref d,b9 rs]/\Dq d n M/\gU rs/\∀b a c,nJ b->c a=some (.lst (b.map W.str))->R (.ref a) c
def vX:bP:=λws M R=>∃(rs:List aM) (c:List Str) (x:W) (d:Mm) (a:Addr) (L:Lo) (t:Str) (b:Int),ws=[x,.ref a,nK rs,.str t,.int b]/\kL M x c/\dZ d M a L/\(∀t∈c,t∈dA\/t∈eI)/\(t∈dA\/t∈eI)/\0<=b/\rs.length<=9/\(∀r∈rs,r.name∈dA)/\a9 ((eY rs c (bH L) t b).map W.int) M R
def AF:bP:=λws M R=>∃(rs:List aM) (c:List Str) (x:W) (P:Str->Int->Int->Prop),ws=[b9 rs,x]/\gU rs/\kL M x c/\c.length<=3990/\(∀t∈c,t∈dA\/t∈eI)/\J5 rs c P/\∀a d L,dZ M d a L->jA c.length L->m8 rs c (bH L)->(∀X b e,e∈bH L X b->P X b e)->R (.ref a) d
def L6:bP:=λws M R=>∃rs:List aM,ws=[b9 rs]/\gU rs/\oY (gV (lC rs)) M R
def vY:bP:=λws M R=>∃(rs:List aM) (T:LT) (ps:List Str),ws=[b9 rs,.dk (gV T),.tup (ps.map W.str)]/\gU rs/\ps.length<=4/\(∀t∈ps,t∈dA\/t∈eI)/\R (vW (i8 rs T ps)) M
def L7:bP:=λws M R=>∃(rs:List aM) (c:List Str) (T:LT) (d:Mm) (a m:Addr) (L:Lo) (D:DO) (ps:List Str) (b:Int),ws=[b9 rs,jT c,.dk (gV T),.ref a,.ref m,.tup (ps.map W.str),.int b]/\gU rs/\nJ c/\dZ d M a L/\jA c.length L/\M m=some (.dT (dD D))/\ps.length<=4/\(∀t∈ps,t∈dA\/t∈eI)/\b∈b7 c.length/\
 ∀o,p8 (m9 rs c T (bH L) D ps b) o->R (vW o) M
def L8:bP:=λws M R=>∃(q:aM) (rs:List aM) (a:List Str),ws=[b9 (q::rs),jT a]/\gU (q::rs)/\nJ a/\∀o:Option Int,(∀us B,jS (q::rs) us->gR (bD (q::rs) a us) B->o=(aD B (iS q a)).map λx=>x.1.1)->R (vW o) M
abbrev zdI:bP:=rL
abbrev zdJ:List Str:=["word","begin","end"]
def zdK:aI:=
   (cA (eT (aB (aA 0) aE)))
abbrev zdL:List Str:=["number","lists"]
def zdM:aI:=
   (cA (bK K8 (aB (aA 1) aE)))
abbrev zdN:List Str:=["grammar","row","steps","word"]
def zdO:aI:=
   (aY 2 (bK KQ (aB (aA 1) aE)))
def zdP:aI:=
   (fY (eT (aB (b5 (aB (bJ cC (aB (aA 1) aE)) (aB (vC (.int 1)) aE))) aE)) (gD (aA 2) (b5 (aB (aA 3) (aB (bJ cC (aB (aA 1) aE)) aE)))))
def zdQ:aI:=
   (cY (b6 cT (bK K9 (aB (aA 0) aE))) (bA 3) zdP)
def zdR:aI:=
   (cA (aA 2))
def zdS:aI:=(aL zdO (aL zdQ zdR))
abbrev zdT:List Str:=["grammar","best","top","of_word","of_rule","own","made","fact","number","cut","values","k","part"]
def zdU(C:Cc):aI:=
   (aY 5 (bK rY (aB (cB (bK rX (aB (aA 0) aE))) aE)))
def zdV(C:Cc):aI:=
   (aY 6 lX)
def zdW(C:Cc):aI:=
   (aL (aY 8 (aH aW (aH aW (aA 1) (aA 7)) (vC (.int 1))))
   (aL (aY 9 (aH aW (aH aW (aA 1) (aA 7)) (vC (.int 2))))
   (aL (aY 10 (fX aE))
   (aL (cY (z6 (aB (aH aW (aH aW (aA 0) (aA 8)) (vC (.int 1))) aE)) (jI 2 (d9 (bA 11) (d9 (bA 12) jH)))
    (dJ (bO (aH (rIn false) (aA 12) (aA 5)))
    (d6 (cN "list" fN (aA 10) (aB (aH aW (aA 6) (b5 (aB (aA 12) (aB (aH aW (aA 9) (aA 11)) (aB (aH aW (aA 9) (aH cJ (aA 11) (vC (.int 1)))) aE))))) aE)))
    (d6 (cN "list" fN (aA 10) (aB (z5 3 C.f LV (aB (aA 12) (aB (aH aW (aA 9) (aA 11)) (aB (aH aW (aA 9) (aH cJ (aA 11) (vC (.int 1)))) aE)))) aE)))))
   (fY (z5 4 C.g LW (aB (aA 8) (aB (cB (aA 10)) aE))) (gD (aA 6) (aA 7)))))))
def zdX(C:Cc):aI:=
   (cY (b6 cT (cB (bK KZ (aB (aA 0) (aB (aA 1) (aB (aA 2) aE)))))) (bA 7) (zdW C))
def zdY(C:Cc):aI:=
   (cA (aH aW (aA 6) (aA 2)))
def zdZ(C:Cc):aI:=(aL (zdU C) (aL (zdV C) (aL (zdX C) (zdY C))))
abbrev zd0:List Str:=["grammar","row","best","top"]
def zd1(C:Cc):aI:=
   (aY 2 (JH (bK (JB C) (aB (aA 0) (aB (cB (bK KP (aB (aA 1) aE))) (aB (cB (bK LX (aB (aA 0) (aB (aA 1) aE)))) (aB (cB (bK KO (aB (aA 0) aE))) aE)))))))
def zd2(C:Cc):aI:=
   (aY 3 (bK KW (aB (aA 0) (aB (aA 1) aE))))
def zd3(C:Cc):aI:=
   (cA (FD (bO (aH (rIn false) (aA 3) (aA 2))) (bK (LY C) (aB (aA 0) (aB (aA 2) (aB (aA 3) (aB (vC (.ref C.f)) (aB (vC (.ref C.g)) aE)))))) (vC .non)))
def zd4(C:Cc):aI:=(aL (zd1 C) (aL (zd2 C) (zd3 C)))
abbrev zd5:List Str:=["script","numbers","k","cell","number","turn","one"]
def zd6:aI:=
   (aY 1 (fX aE))
def zd7:aI:=
   (aL (aY 4 (bJ G1 (aB (aA 3) aE)))
   (aL (dJ (bO (aH nX (aA 4) (aH FI (vC (.int 10)) (vC (.int 18)))))
    (cY (jK (aB (vC (.int 6)) aE)) (bA 5)
    (aL (aY 6 (aH rB (aH cJ (aH cJ (aH cJ (aA 4) (aH n8 (vC (.int 7901)) (aA 2))) (aH n8 (vC (.int 5)) (aA 5))) (vC (.int 1))) (vC (.int 2305843009213693951))))
   (aL (aY 6 (aH rB (aH n8 (aA 6) (aA 6)) (vC (.int 2305843009213693951))))
   (aY 4 (aH cJ (aH n8 (aA 4) (vC (.int 2305843009213693951))) (aH rB (aH n8 (aA 6) (vC (.int 3037000493))) (vC (.int 2305843009213693951))))))))
    eA)
   (d6 (cN "list" fN (aA 1) (aB (aA 4) aE)))))
def zd8:aI:=
   (cY (yK (aB (t8 (aA 0) nY (nZ (vC (.int 63)))) aE)) (jI 2 (d9 (bA 2) (d9 (bA 3) jH))) zd7)
def zd9:aI:=
   (d6 (nW "list" G2 (aA 1)))
def zea:aI:=
   (cA (fX (aB (aA 1) (aB (vC (.int 0)) aE))))
def zeb:aI:=(aL zd6 (aL zd8 (aL zd9 zea)))
abbrev zec:List Str:=["deck","many","taken"]
def zed:aI:=
   (dJ (mM (bO (aH (rEq false) (aH aW (aA 0) (vC (.int 1))) (vC (.int 0)))) (bO (aH (rEq true) (aH aW (aA 0) (vC (.int 0))) (eT aE))))
    (fY (nW "list" rPop (aH aW (aA 0) (vC (.int 0)))) (gD (aA 0) (vC (.int 1))))
    eA)
def MA:aI:=
   (aY 2 (aH rB (aH aW (aA 0) (vC (.int 1))) (aA 1)))
def MB:aI:=
   (fY (aH xO (aH aW (aA 0) (vC (.int 1))) (aA 1)) (gD (aA 0) (vC (.int 1))))
def MC:aI:=
   (cA (aA 2))
def zee:aI:=(aL zed (aL MA (aL MB MC)))
abbrev zef:List Str:=["deck","some","heads","rules","head","parts","turn","part"]
def zeg:aI:=
   (aY 1 (t8 (eT (aB (vC (.str "S")) (aB (vC (.str "A")) (aB (vC (.str "LIST")) (aB (vC (.str "B_1")) aE))))) nY (nZ (aH cJ (vC (.int 1)) (bK jX (aB (aA 0) (aB (vC (.int 4)) aE)))))))
def MD:aI:=
   (aY 2 (aH cJ (eT (aB (aH aW (aA 1) (vC (.int 0))) aE)) (cB (eE (jK (aB (bK jX (aB (aA 0) (aB (vC (.int 9)) aE))) aE)) (bA 0) fP (aH aW (aA 1) (bK jX (aB (aA 2) (aB (bJ cC (aB (aA 1) aE)) aE)))) [none,some 1,some 0]))))
def ME:aI:=
   (aY 3 (fX aE))
def zeh:aI:=
   (aL (aY 5 (fX aE))
   (aL (cY (jK (aB (bK jX (aB (aA 0) (aB (aH aW (eT (aB (vC (.int 5)) (aB (vC (.int 5)) (aB (vC (.int 5)) (aB (vC (.int 4)) aE))))) (aH rA (bJ cC (aB (aA 1) aE)) (vC (.int 1)))) aE))) aE)) (bA 6)
    (aL (aY 7 (aH aW (eT (aB (vC (.str "b")) (aB (vC (.str "a")) (aB (vC (.str "x")) (aB (vC (.str "aa")) aE))))) (bK jX (aB (aA 0) (aB (vC (.int 4)) aE)))))
   (d6 (cN "list" fN (aA 5) (aB (aH aW (eT (aB (aA 7) (aB (aH aW (aA 2) (bK jX (aB (aA 0) (aB (bJ cC (aB (aA 2) aE)) aE)))) aE))) (bK jX (aB (aA 0) (aB (vC (.int 2)) aE)))) aE)))))
   (d6 (cN "list" fN (aA 3) (aB (b5 (aB (aA 4) (aB (bJ xW (aB (aA 5) aE)) (aB (vC (.int 0)) aE)))) aE)))))
def AG:aI:=
   (cY (b6 cT (aA 2)) (bA 4) zeh)
def MF:aI:=
   (cA (aA 3))
def zei:aI:=(aL zeg (aL MD (aL ME (aL AG MF))))
abbrev zej:List Str:=["deck","rules","row","pile","many","step","part","some"]
def zek:aI:=
   (aY 2 (fX aE))
def zel:aI:=
   (aY 3 (fX (aB (aH aW (aH aW (aA 1) (vC (.int 0))) (vC (.int 0))) aE)))
def zem:aI:=
   (aY 4 (bK jX (aB (aA 0) (aB (vC (.int 7)) aE))))
def zen:aI:=
   (dJ (mM (bO (aH (rEq true) (aA 3) (eT aE))) (bO (aH nX (bJ cC (aB (aA 2) aE)) (aA 4))))
    (aL (aY 6 (nW "list" rPop (aA 3)))
   (aL (aY 7 (cB (eE (b6 cT (aA 1)) (bA 0) (bO (aH (rEq false) (aH aW (aA 0) (vC (.int 0))) (aA 1))) (aH aW (aA 0) (vC (.int 1))) [none,some 6])))
   (dJ (bO (aH (rEq false) (aA 7) (eT aE)))
    (d6 (cN "list" fN (aA 2) (aB (aA 6) aE)))
    (aY 3 (aH qX (aA 3) (LQ (bJ t7 (aB (aH aW (aA 7) (bK jX (aB (aA 0) (aB (bJ cC (aB (aA 7) aE)) aE)))) aE)) (kX kZ (vC (.int 1)))))))))
    eA)
def zeo:aI:=
   (cY (jK (aB (vC (.int 30)) aE)) (bA 5) zen)
def zep:aI:=
   (dJ (bO (aH (rEq false) (bK jX (aB (aA 0) (aB (vC (.int 3)) aE))) (vC (.int 0))))
    (aY 2 (eE (jK (aB (aA 4) aE)) (bA 0) fP (aH aW (eT (aB (vC (.str "a")) (aB (vC (.str "b")) (aB (vC (.str "x")) (aB (vC (.str "aa")) (aB (vC (.str "other")) aE)))))) (bK jX (aB (aA 1) (aB (vC (.int 5)) aE)))) [none,some 0]))
    eA)
def zeq:aI:=
   (cA (aA 2))
def zer:aI:=(aL zek (aL zel (aL zem (aL zeo (aL zep zeq)))))
abbrev zes:List Str:=["row","ends","heads","part","at"]
def zet:aI:=
   (dJ (bO (aH (rIn false) (aA 3) (aA 2)))
    (cA (bJ tY (aB (cN "dict" iZ (aA 1) (aB (b5 (aB (aA 3) (aB (aA 4) aE))) (aB (cB n6) aE))) aE)))
    eA)
def zeu:aI:=
   (dJ (mM (bO (aH nX (aA 4) (bJ cC (aB (aA 0) aE)))) (bO (aH (rEq false) (aH aW (aA 0) (aA 4)) (aA 3))))
    (cA (fX (aB (aH cJ (aA 4) (vC (.int 1))) aE)))
    eA)
def zev:aI:=
   (cA (fX aE))
def zew:aI:=(aL zet (aL zeu zev))
abbrev zex:List Str:=["rules","row","heads","ends","more","head","parts","cost","begin","here","part","there","at","own","end"]
def zey:aI:=
   (aY 2 (cB (eE (b6 cT (aA 0)) (bA 0) fP (aH aW (aA 0) (vC (.int 0))) [none])))
def zez:aI:=
   (aY 3 lX)
def zeA:aI:=
   (aY 4 (vC (.bl true)))
def zeB:aI:=
   (aL (aY 4 (vC (.bl false)))
   (cY (b6 lY (aA 0)) (jI 3 (d9 (bA 5) (d9 (bA 6) (d9 (bA 7) jH))))
    (cY (jK (aB (aH cJ (bJ cC (aB (aA 1) aE)) (vC (.int 1))) aE)) (bA 8)
    (aL (aY 9 (eT (aB (aA 8) aE)))
   (aL (cY (b6 cT (aA 6)) (bA 10)
    (aL (aY 11 (eT aE))
   (aL (cY (b6 cT (aA 9)) (bA 12)
    (aY 11 (aH cJ (aA 11) (cB (bK vX (aB (aA 1) (aB (aA 3) (aB (aA 2) (aB (aA 10) (aB (aA 12) aE))))))))))
   (aY 9 (vT (aA 11))))))
   (aL (aY 13 (cN "dict" pP (aA 3) (aB (b5 (aB (aA 5) (aB (aA 8) aE))) (aB n6 aE))))
   (cY (b6 cT (aA 9)) (bA 14)
    (aL (aY 4 (tS (aA 4) (aH (rIn true) (aA 14) (aA 13))))
   (fY (vC (.bl true)) (gD (aA 13) (aA 14)))))))))))
def zeC:aI:=
   (pH (qW (aA 4)) zeB)
def zeD:aI:=
   (cA (aA 3))
def zeE:aI:=(aL zey (aL zez (aL zeA (aL zeC zeD))))
abbrev zeF:List Str:=["rules","lengths","heads","turn","head","parts","cost","length"]
def zeG:aI:=
   (aY 1 n6)
def zeH:aI:=
   (aY 2 (cB (eE (b6 cT (aA 0)) (bA 0) fP (aH aW (aA 0) (vC (.int 0))) [none])))
def zeI:aI:=
   (cY (b6 lY (aA 0)) (jI 3 (d9 (bA 4) (d9 (bA 5) (d9 (bA 6) jH))))
    (dJ (bO (aH (rEq false) (cB (eE (b6 cT (aA 5)) (bA 0) (mM (bO (aH (rIn false) (aA 0) (aA 1))) (bO (aH (rIn true) (aA 0) (aA 2)))) (aA 0) [none,some 2,some 1])) (eT aE)))
    (aL (aY 7 (bJ yL (aB (cB (eE (b6 cT (aA 5)) (bA 0) fP (cN "dict" iZ (aA 1) (aB (aA 0) (aB (vC (.int 1)) aE))) [none,some 1])) aE)))
   (fY (bJ rH (aB (aA 7) (aB (cN "dict" iZ (aA 1) (aB (aA 4) (aB (aA 7) aE))) aE))) (gD (aA 1) (aA 4))))
    eA))
def zeJ:aI:=
   (cY (jK (aB (aH cJ (bJ cC (aB (aA 0) aE)) (vC (.int 1))) aE)) (bA 3) zeI)
def zeK:aI:=
   (cA (aA 1))
def zeL:aI:=(aL zeG (aL zeH (aL zeJ zeK)))
abbrev zeM:List Str:=["rules","lengths","parts","heads"]
def zeN:aI:=
   (aY 3 (cB (eE (b6 cT (aA 0)) (bA 0) fP (aH aW (aA 0) (vC (.int 0))) [none])))
def zeO:aI:=
   (dJ (bO (aH (rEq true) (cB (eE (b6 cT (aA 2)) (bA 0) (mM (bO (aH (rIn false) (aA 0) (aA 1))) (bO (aH (rIn true) (aA 0) (aA 2)))) (aA 0) [none,some 3,some 1])) (eT aE)))
    (cA (vC .non))
    eA)
def zeP:aI:=
   (cA (bJ yL (aB (cB (eE (b6 cT (aA 2)) (bA 0) fP (cN "dict" iZ (aA 1) (aB (aA 0) (aB (vC (.int 1)) aE))) [none,some 1])) aE)))
def zeQ:aI:=(aL zeN (aL zeO zeP))
abbrev zeR:List Str:=["rules","row","lengths","ends","more","parts","begin","heads","found","here","k","rest","late","some","there","at"]
def zeS:aI:=
   (aY 7 (cB (eE (b6 cT (aA 0)) (bA 0) fP (aH aW (aA 0) (vC (.int 0))) [none])))
def zeT:aI:=
   (aY 8 (fX aE))
def zeU:aI:=
   (aY 9 (eT (aB (aA 6) aE)))
def zeV:aI:=
   (aL (aY 11 (bK vY (aB (aA 0) (aB (aA 2) (aB (vV (aA 5) (nZ (aA 10)) nY) aE)))))
   (aL (dJ (mM (bO (aH (rIn false) (bJ cC (aB (aA 1) aE)) (aA 9))) (bO (aH (lV true) (aA 11) (vC .non))))
    (d6 (cN "list" fN (aA 8) (aB (aA 11) aE)))
    eA)
   (dJ (bO (aH nX (aA 10) (bJ cC (aB (aA 5) aE))))
    (aL (aY 12 (bK vY (aB (aA 0) (aB (aA 2) (aB (vV (aA 5) (nZ (aH cJ (aA 10) (vC (.int 1)))) nY) aE)))))
   (aL (dJ (bO (aH (lV true) (aA 12) (vC .non)))
    (aL (aY 13 (cB (eE (b6 cT (aA 9)) (bA 0) (bO (aH (rIn false) (b5 (aB (aH aW (aA 2) (aA 3)) (aB (aA 0) aE))) (aA 1))) (aH aW (aA 1) (b5 (aB (aH aW (aA 2) (aA 3)) (aB (aA 0) aE)))) [none,some 4,some 5,some 10])))
   (aY 8 (aH qX (aA 8) (cB (eE (b6 cT (aA 13)) (bA 0) fP (aH cJ (aA 0) (aA 1)) [none,some 12])))))
    eA)
   (aL (aY 14 (eT aE))
   (aL (cY (b6 cT (aA 9)) (bA 15)
    (aY 14 (aH cJ (aA 14) (cB (bK vX (aB (aA 1) (aB (aA 3) (aB (aA 7) (aB (aH aW (aA 5) (aA 10)) (aB (aA 15) aE))))))))))
   (aY 9 (vT (aA 14)))))))
    eA)))
def zeW:aI:=
   (cY (jK (aB (aH cJ (bJ cC (aB (aA 5) aE)) (vC (.int 1))) aE)) (bA 10) zeV)
def zeX:aI:=
   (cA (LP (cB (aA 8))))
def zeY:aI:=(aL zeS (aL zeT (aL zeU (aL zeW zeX))))
abbrev zeZ:List Str:=["rules","row","lengths","ends","more","turn","head","parts","cost","begin","new"]
def ze0:aI:=
   (aY 2 (cB (bK L6 (aB (aA 0) aE))))
def ze1:aI:=
   (aY 3 (bK AF (aB (aA 0) (aB (aA 1) aE))))
def ze2:aI:=
   (aY 4 lX)
def ze3:aI:=
   (cY (b6 lY (aA 0)) (jI 3 (d9 (bA 6) (d9 (bA 7) (d9 (bA 8) jH))))
    (cY (jK (aB (aH cJ (bJ cC (aB (aA 1) aE)) (vC (.int 1))) aE)) (bA 9)
    (aL (aY 10 (bK L7 (aB (aA 0) (aB (aA 1) (aB (aA 2) (aB (aA 3) (aB (aA 4) (aB (aA 7) (aB (aA 9) aE)))))))))
   (dJ (bO (aH (lV true) (aA 10) (vC .non)))
    (fY (bJ rH (aB (aA 10) (aB (cN "dict" iZ (aA 4) (aB (b5 (aB (aA 6) (aB (aA 9) aE))) (aB (aA 10) aE))) aE))) (gD (aA 4) (b5 (aB (aA 6) (aB (aA 9) aE)))))
    eA))))
def ze4:aI:=
   (cY (jK (aB (aH cJ (aH n8 (bJ cC (aB (aA 0) aE)) (aH cJ (bJ cC (aB (aA 1) aE)) (vC (.int 1)))) (vC (.int 1))) aE)) (bA 5) ze3)
def ze5:aI:=
   (cA (cN "dict" iZ (aA 4) (aB (b5 (aB (aH aW (aH aW (aA 0) (vC (.int 0))) (vC (.int 0))) (aB (vC (.int 0)) aE))) aE)))
def ze6:aI:=(aL ze0 (aL ze1 (aL ze2 (aL ze4 ze5))))
abbrev ze7:List Str:=["script","deck","rules","row","due","handed","found","again"]
def ze8(C:Cc):aI:=
   (aY 1 (bK LZ (aB (aA 0) aE)))
def ze9(C:Cc):aI:=
   (aY 2 (cB (bK L0 (aB (aA 1) aE))))
def zfa(C:Cc):aI:=
   (aY 3 (cB (bK L5 (aB (aA 1) (aB (aA 2) aE)))))
def zfb(C:Cc):aI:=
   (aY 4 (bK L8 (aB (aA 2) (aB (aA 3) aE))))
def zfc(C:Cc):aI:=
   (aY 5 (b5 (aB (bJ t7 (aB (aA 2) aE)) (aB (bJ t7 (aB (aA 3) aE)) aE))))
def zfd(C:Cc):aI:=
   (aY 6 (bK (AE C) (aB (aH aW (aA 5) (vC (.int 0))) (aB (aH aW (aA 5) (vC (.int 1))) aE))))
def zfe(C:Cc):aI:=
   (dJ (bO (aH (rEq true) (aA 5) (b5 (aB (aA 2) (aB (aA 3) aE)))))
    (cA (vC (.bl false)))
    eA)
def zff(C:Cc):aI:=
   (dJ (bO (aH (lV false) (aA 4) (vC .non)))
    (cA (aH (lV false) (aA 6) (vC .non)))
    eA)
def zfg(C:Cc):aI:=
   (dJ (tR (xG (qW (bJ pL (aB (aA 6) (aB (vC (.ty "list")) aE))))) (tR (bO (aH (rEq true) (t8 (aA 6) nY (nZ (bJ cC (aB (aA 3) aE)))) (aA 3))) (bO (aH (rEq true) (bJ cC (aB (aA 6) aE)) (aH cJ (bJ cC (aB (aA 3) aE)) (aA 4))))))
    (cA (vC (.bl false)))
    eA)
def zfh(C:Cc):aI:=
   (dJ (bO (aH (rIn true) (bJ cC (aB (aA 6) aE)) (cN "dict" iZ (bK AF (aB (aA 2) (aB (aA 6) aE))) (aB (b5 (aB (aH aW (aH aW (aA 2) (vC (.int 0))) (vC (.int 0))) (aB (vC (.int 0)) aE))) (aB (cB n6) aE)))))
    (cA (vC (.bl false)))
    eA)
def zfi(C:Cc):aI:=
   (d6 (cN "list" fN (aA 6) (aB (vC (.str "a")) aE)))
def zfj(C:Cc):aI:=
   (aY 7 (bK (AE C) (aB (aA 2) (aB (aA 3) aE))))
def zfk(C:Cc):aI:=
   (cA (FA (bJ pL (aB (aA 7) (aB (vC (.ty "list")) aE))) (aH (rEq false) (bJ cC (aB (aA 7) aE)) (aH cJ (bJ cC (aB (aA 3) aE)) (aA 4)))))
def zfl(C:Cc):aI:=(aL (ze8 C) (aL (ze9 C) (aL (zfa C) (aL (zfb C) (aL (zfc C) (aL (zfd C) (aL (zfe C) (aL (zff C) (aL (zfg C) (aL (zfh C) (aL (zfi C) (aL (zfj C) (zfk C)))))))))))))
def zfm(h:LV ws M R):zdK (bS R) (bZ zdJ ws) M:=by
 obtain⟨t,b,e,rfl,r⟩:=h;exact xI rfl ⟨z1,_,Sub.refl _,r⟩
def zfn(h:LW ws M R):zdM (bS R) (bZ zdL ws) M:=by
 obtain⟨n,b,a,rfl,e,d,c,r⟩:=h;exact xI rfl ⟨b,a,rfl,e,d,c,nC r⟩
def zfo(h:jX ws M R):zee (bS R) (bZ zec ws) M:=by
 obtain⟨d,n,a,rfl,g,l,dk,r⟩:=h;have rest:∀c,Dq d n c->Oq d n M c->(aL MA (aL MB MC)) (bS R) [some (.ref d),some (.int a),none] c:=λc j k=>by
  obtain⟨dn,ns,v,hd,b⟩:=j;refine xI rfl (.inl ⟨_,_,hd,yI _ _ _,xI rfl ⟨g,xI rfl (.inl ⟨_,_,hd,yI _ _ _,xI rfl ⟨⟨g,Int.lt_of_le_of_lt l (by decide +kernel)⟩,xI rfl (G0 hd (by decide) (show(1:Int)<2 by decide) (xI rfl ⟨_,Sub.refl _,r _ _ (Int.emod_nonneg _ (by lia)) (Int.emod_lt_of_pos _ g) ⟨dn,ns,v/a,aP,by rw[aN (Bw dn)];exact b⟩ λp o f i e=>?_⟩))⟩⟩)⟩⟩);rw[aN f];exact k p o f i e
 obtain⟨dn,ns,v,hd,b⟩:=id dk;refine xI rfl (.inl ⟨_,_,hd,yI _ _ _,xI rfl (cI (λ_=>xI rfl (.inl ⟨_,_,hd,yH _ _,Bk _,sN true 1 (by decide) (K6 b) (λw hw=>?_) (xI rfl (cI (λz=>?_) λ_=>rest _ dk Oq.refl))⟩)) λ_=>rest _ dk Oq.refl)⟩)
 .obtain⟨x,_,rfl⟩:=Ax.mp hw;trivial
 rcases Fd ns with rfl|⟨ns,x,rfl⟩
 .cases z
 .rw[Fe,Bd]at b;refine xI rfl (.inl ⟨_,_,hd,yH _ _,eN b,_,_,b,xI rfl (G0 (ws:=[.ref n,.int v]) (by rw[aN dn];exact hd) (by decide) (show(1:Int)<2 by decide) (rest _ ⟨dn,ns,x,by rw[aP];rfl,by rw[aN (Bw dn),aP]⟩ λp o f i e=>?_))⟩);rw[aN f,aN i];exact e
def zfp{i:Nat}(h:(gO 0 a)[i]? = some w):∃z,a[i]? = some z/\w=.tup [.int (i:Int),z]:=by
 rw[rN]at h;obtain⟨z,hz,rfl⟩:=Bb.mp h;exact⟨z,hz,by simp⟩
def zfq(h:LZ ws M R):zeb (bS R) (bZ zd5 ws) M:=by
 obtain⟨k,rfl,r⟩:=h;refine⟨Bk _,λn C=>xI rfl (xI rfl ?_)⟩;obtain⟨cells,f⟩:∃cells,cells=d5 (k.map W.int) none (some 63):=⟨_,rfl⟩;have u:cells.length<=63:=by
  rw[f]
  by_cases hz:(63:Int)<=(k.map W.int).length
  .rw[GZ (by decide) hz,Cb];exact Nat.min_le_left _ _
  .exact Ar W4 (by lia)
 show rK (gO 0 (d5 (k.map W.int) none (some 63))) (λ_=>True) _ _ _ _ _;rw[<-f];have hc:∀w∈cells,∃i,w=W.int i:=λw hw=>by rw[f]at hw;exact L3.ints_map k w (W2 hw)
 refine mW (λi l p=>∃(ns:List Int) (t q o a b:Option W),l=[some (.sc (k.map W.int)),some (.ref n),t,q,o,a,b]/\p=put M n (.lst (ns.map W.int))/\ns.length<=i) ⟨[],_,_,_,_,xI rfl ⟨rfl,Ai _⟩⟩ ?_ ?_
 .rintro i w l p hw ⟨ns,t,q,o,a,b,rfl,rfl,hl⟩;obtain⟨z,hz,rfl⟩:=zfp hw;obtain⟨c,rfl⟩:=hc z (Bh hz);have D:i<63:=Bn (Ak.mp hz).1 u;have fin:∀(x:Int) (a b:Option W),(d6 (cN "list" fN (aA 1) (aB (aA 4) aE))) {(bS R) with nx:=λA p=>∃s,L3.Sub s p/\∃(ns:List Int) (t q o a b:Option W),A=[some (.sc (k.map W.int)),some (.ref n),t,q,o,a,b]/\s=put M n (.lst (ns.map W.int))/\ns.length<=i+1} [some (.sc (k.map W.int)),some (.ref n),some (.int i),some (.int c),some (.int x),a,b] (put M n (.lst (ns.map W.int))):=λx a b=>
   ⟨_,rfl,eN aP,_,rfl,_,aP,dN (by rw[Ab];lia),_,Sub.refl _,ns++[x],_,_,_,_,_,rfl,by rw[gB,Bd];rfl,by rw[Aj,Bq];lia⟩
  refine⟨rfl,rfl,xI rfl (xI rfl ⟨⟨by decide,by decide,by decide⟩,xI rfl (cI (λ_=>?_) λ_=>fin _ _ _)⟩)⟩;refine xI rfl ⟨by decide,by decide,mW (λj l v=>∃(x:Int) (a b:Option W),l=[some (W.sc (k.map W.int)),some (.ref n),some (.int (i:Int)),some (.int c),some (.int x),a,b]/\v=put M n (.lst (ns.map W.int))) ⟨_,_,xI rfl rfl⟩ ?_ ?_⟩
  .rintro j w l v hw ⟨x,a,b,rfl,rfl⟩;obtain⟨E,rfl⟩:=nE hw;have g:(0:Int)<2305843009213693951:=by decide
   have b1:=λy:Int=>Int.emod_nonneg y (show(2305843009213693951:Int)≠0 by decide);have b2:=λy:Int=>Int.emod_lt_of_pos y g;refine xI rfl (xI rfl ⟨.inl (.inl ⟨by decide,by decide⟩),xI rfl ⟨.inl (.inl ⟨by decide,by decide⟩),g,xI rfl (xI rfl ⟨.inl (.inl ⟨?_,?_⟩),g,xI rfl ⟨.inl (.inr ⟨by decide,by decide⟩),xI rfl ⟨.inl (.inr ⟨by decide,by decide⟩),g,_,Sub.refl _,_,_,xI rfl rfl⟩⟩⟩)⟩⟩)
   .exact Fh (by decide) (b1 _)
   .exact Int.lt_of_lt_of_le (b2 _) (by decide)
  .rintro l v ⟨x,a,b,rfl,rfl⟩;exact fin x a b
 .rintro l p ⟨ns,t,q,o,a,b,rfl,rfl,hl⟩;refine xI rfl ⟨eN aP,_,aP,xI rfl ⟨z2,λd hd=>?_⟩⟩;rw[gB]at hd⊢;have m:d≠n:=λe=>by subst e;rw[aP]at hd;cases hd
  have B:M d=none:=by rw[aN m]at hd;exact hd
  exact⟨_,Sub.refl _,r d n _ ⟨m,ns.reverse,0,aP,by rw[aN (Bw m),aP,List.map_reverse]⟩ ((Sub.new C).trans (Sub.new hd)) B C⟩
abbrev wr(d:Addr)(b a:List Str)(p:Addr)(l:S3):S3:=some (.ref d)::some (.rl (b.map W.str))::some (.rl (a.map W.str))::some (.ref p)::l
def zfr(h:L0 ws M R):zei (bS R) (bZ zef ws) M:=by
 obtain⟨d,n,rfl,dk,r⟩:=h;refine⟨z4,xI rfl ⟨d,n,4,rfl,by decide,by decide,dk,λy M1 c10 c11 dk1 o1=>xI rfl ?_⟩⟩;obtain⟨g,ehs,l1,l4,sh,em⟩:∃g:List Str,d5 (dA.map W.str) none (some (1+y))=g.map W.str/\1<=g.length/\g.length<=4/\(∀t∈g,t∈dA)/\∃v:Int,bW [W.int 5,.int 5,.int 5,.int 4] ((g.length:Int)-1)=some (.int v)/\0<v/\v<=5/\(g.length=4->v=4):=by
  refine⟨dA.take (1+y).toNat,?_,?_,?_,λt ht=>Jh ht,?_⟩
  .rw[GZ (by lia) (by rw[Ab];show 1+y<=4;lia),List.map_take]
  .rw[Cb];show 1<=min _ 4;lia
  .rw[Cb];exact Ni _ _
  .have:y=0\/y=1\/y=2\/y=3:=by lia
   rcases this with rfl|rfl|rfl|rfl
   .exact⟨5,fW (j:=0) rfl,by decide,by decide,λz=>by cases z⟩
   .exact⟨5,fW (j:=1) rfl,by decide,by decide,λz=>by cases z⟩
   .exact⟨5,fW (j:=2) rfl,by decide,by decide,λz=>by cases z⟩
   .exact⟨4,fW (j:=3) rfl,by decide,by decide,λ_=>rfl⟩
 show(aL MD (aL ME (aL AG MF))) (bS R) [some (.ref d),some (.rl (d5 (dA.map W.str) none (some (1+y)))),none,none,none,none,none,none] M1;rw[ehs];obtain⟨X0,eX0,mX0⟩:=qB (ts:=g) (z:=0) (by decide) (by lia);refine xI rfl ⟨_,eX0,z1,xI rfl ⟨d,n,9,rfl,by decide,by decide,dk1,λc2 J c20 c21 dk2 o2=>xI rfl ⟨by lia,by lia,?_⟩⟩⟩;refine zcQ (rest:=[some (.rl (g.map W.str)),some (.ref d)]) (λw=>∃t,t∈g/\w=.str t) (by lia) (λ_=>trivial) dk2 (λo M3 C u c=>?_) λxs M3 b hP u=>?_
 .refine xI rfl (xI rfl (xI rfl ⟨d,n,xI rfl ⟨by rw[Ab];lia,by rw[Ab];lia,u,λz M4 z0 z1 k P=>?_⟩⟩));rw[Ab]at z1;obtain⟨t,et,mt⟩:=qB (ts:=g) z0 z1;exact⟨_,et,c _ _ ⟨t,mt,rfl⟩ k P⟩
 obtain⟨ts,rfl,hts⟩:=AB hP;rw[Ab]at b;refine⟨by rw[Ab];exact gE (by show 1+ts.length<=_;lia),Bk _,λp hp=>?_⟩;obtain⟨I,pn⟩:=u.ne hp;obtain⟨a,hh⟩:∃a,a=X0::ts:=⟨_,rfl⟩;have F:∀t∈a,t∈g:=λt ht=>by
  rw[hh]at ht;rcases Bg.mp ht with rfl|ht
  .exact mX0
  .exact hts t ht
 have hl:1<=a.length/\a.length<=9:=by rw[hh,Bp];lia
 show AG _ [some (.ref d),some (.rl (g.map W.str)),some (.rl ((X0::ts).map W.str)),some (.ref p),none,none,none,none] _;rw[<-hh];obtain⟨v,S,m0,m5,m4⟩:=em;rw[<-Ab (f:=W.str)]at S;refine xI rfl (fS (fQ (λi B Y=>∃(xs:List aM) (P L G m:Option W),B=wr d g a p [P,L,G,m]/\Y p=some (.lst (xs.map eV))/\xs.length=i/\(∀x∈xs,x.name∈a/\(x.parts.length:Int)<v/\∀t∈x.parts,t∈dA\/t∈eI)/\Dq d n Y) ⟨[],_,_,_,xI rfl ⟨aP,rfl,(λ_ h=>nomatch h),u.put hp⟩⟩ ?_ ?_))
 .rintro i w B Y hw ⟨xs,P,L,G,m,rfl,V,l,hok,k⟩ D1 hD1;rw[Av]at hw;obtain⟨hd,T,rfl⟩:=Bb.mp hw;have hil:=(Ak.mp T).1;refine⟨Bk _,λq U=>?_⟩;obtain⟨K,H⟩:=k.ne U;have N:q≠p:=λe=>by rw[e,V]at U;cases U
  refine xI rfl ⟨z4,xI rfl ⟨_,S,d,n,v,rfl,m0,by lia,k.put U,λc3 M3 c30 c31 dk5 L=>xI rfl ⟨by lia,by lia,?_⟩⟩⟩;have mp3:M3 p=some (.lst (xs.map eV)):=L p _ I pn (by rw[aN (Bw N)];exact V);refine fQ (λj B J=>∃(ps:List Str) (G m:Option W),B=wr d g a p [some (.str hd),some (.ref q),G,m]/\J q=some (.lst (ps.map W.str))/\J p=some (.lst (xs.map eV))/\ps.length<=j/\(∀t∈ps,t∈dA\/t∈eI)/\Dq d n J) ⟨[],_,xI rfl ⟨L q _ K H aP,mp3,Ai _,(λ_ h=>nomatch h),dk5⟩⟩ ?_ ?_
  .rintro j w B J hw ⟨ps,G,m,rfl,X,s,Q,D,A⟩ D2 hD2;obtain⟨hj,rfl⟩:=nE hw;refine⟨z4,xI rfl ⟨d,n,4,rfl,by decide,by decide,A,λc4 M4 c40 Z dk7 m=>?_⟩⟩;obtain⟨t1,et1,mt1⟩:=qB (ts:=["b","a","x","aa"]) c40 Z;refine⟨_,et1,xI rfl ⟨eN (m q _ K H X),xI rfl (xI rfl (xI rfl (xI rfl ⟨d,n,xI rfl ⟨by rw[Ab];lia,by rw[Ab];lia,dk7,λc5 M5 c50 O dk8 o8=>?_⟩⟩)))⟩⟩;rw[Ab]at O;obtain⟨t2,et2,mt2⟩:=qB (ts:=a) c50 O;refine⟨_,et2,z2,xI rfl ⟨d,n,2,rfl,by decide,by decide,dk8,λc6 M6 c60 c61 dk9 o9=>?_⟩⟩;obtain⟨t3,et3,E⟩:=qB (ts:=[t1,t2]) c60 c61;have mq6:=o9 q _ K H (o8 q _ K H (m q _ K H X));refine⟨_,et3,_,mq6,dN (by rw[Ab];lia),hD2 _ _ ⟨ps++[t3],_,xI rfl ⟨by rw[aP,Bd];rfl,by rw[aN (Bw N)];exact o9 p _ I pn (o8 p _ I pn (m p _ I pn s)),by rw[Aj,Bq];lia,λt ht=>?_,dk9.pot K H⟩⟩⟩;rcases Bi.mp ht with ht|ht
   .exact D t ht
   .rw[Ao.mp ht];rcases Bg.mp E with rfl|E
    .have:∀t∈(["b","a","x","aa"]:List Str),t∈eI:=by unfold eI;decide +kernel
     exact .inr (this _ mt1)
    .rw[Ao.mp E];exact .inl (sh _ (F _ mt2))
  .rintro B J ⟨ps,G,m,rfl,X,s,Q,D,A⟩;rw[nF]at Q;refine xI rfl ⟨eN s,xI rfl (xI rfl ⟨_,X,z3,_,s,dN (by rw[Ab];lia),hD1 _ _ ⟨xs++[⟨hd,ps,0⟩],_,_,_,xI rfl ⟨by rw[aP,Bd];rfl,by rw[Aj,Bq,l],λx b=>?_,A.pot I pn⟩⟩⟩)⟩;rcases Bi.mp b with b|b
   .exact hok x b
   .rw[Ao.mp b];exact⟨Bh T,by show(ps.length:Int)<v;lia,D⟩
 .rintro B Y ⟨xs,P,L,G,m,rfl,V,l,hok,k⟩;rw[Ab]at l;have nms:(namesOf xs).length<=g.length:=len_sub (zcR xs) λt ht=>by
   obtain⟨x,b,rfl⟩:=uA.mp ht;exact F _ (hok x b).1
  refine xI rfl ⟨_,Sub.refl _,r xs p _ ⟨λz=>by rw[z]at l;exact absurd l (by rw[Lp];lia),by lia,?_,λx b=>sh _ (F _ (hok x b).1),λx b=>(hok x b).2.2⟩ V I pn k⟩
  by_cases h4:g.length=4
  .have:=m4 h4;exact .inl ⟨λx b=>by have:=(hok x b).2.1;lia,by lia⟩
  .exact .inr ⟨λx b=>by have:=(hok x b).2.1;lia,by lia⟩
def zfs{k:Nat}{keep:Mm->Prop}(P:W->Prop)(hk:k<=1000)(b:∀M,keep M)(dk:Dq d n t)(f:∀(o:Option W) M (C:K3),Dq d n M->(∀w e,P w->Dq d n e->Oq d n M e->C w e)->s (o::rest) M C)(r:∀(xs:List W) e,xs.length=k->(∀x∈xs,P x)->a9 xs e R):
  kC (kA 0 k) keep (bA 0) fP s (o::rest) t R:=by
 intro p y;refine⟨λi l acc M=>∃(o:Option W),l=o::rest/\acc.length=i/\(∀x∈acc,P x)/\Dq d n M,⟨o,rfl,rfl,(λ_ h=>nomatch h),dk⟩,λ_ _ _ _ _ _ _ _=>b _,?_,?_⟩
 .rintro vs i w l acc M hw a ⟨o,rfl,hl,j,c⟩;obtain⟨hi,rfl⟩:=nE hw;obtain⟨m,q⟩:=c.ne a;refine f _ _ _ (c.put a) λz e hz g u=>?_;refine⟨u p _ m q aP,dN (by lia),_,Sub.refl _,_,rfl,by rw[Aj,Bq,hl],λx v=>?_,g.del m q⟩;rcases Bi.mp v with z1|z1
  .exact j x z1
  .rw[Ao.mp z1];exact hz
 .rintro l acc M a ⟨o,rfl,hl,j,c⟩;rw[nF]at hl;exact r acc M hl j p a
def MG(t:Str):W->Option W
 | .tup [.str n,ps,.int _]=>if n=t then some ps else none
 | _=>none
def zft(rs:List aM)(t:Str):(rs.map eV).filterMap (MG t)=AA rs t:=by rw[Ij];rfl
def zfu(h:L5 ws M R):zer (bS R) (bZ zej ws) M:=by
 obtain⟨d,n,rs,rfl,dk,g,r⟩:=h;obtain⟨q,qs,e0⟩:∃q qs,rs=q::qs:=by
  cases rs with
  | nil=>exact(g.ne rfl).elim
  | cons q rs=>exact⟨_,_,rfl⟩
 have H:q∈rs:=by rw[e0];exact Be ..
 have e0:bW (rs.map eV) 0=some (eV q):=by rw[e0];exact fW (j:=0) rfl
 have V:=g.few;refine⟨Bk _,λa ha=>xI rfl ⟨_,e0,xI rfl ⟨z1,λp Y=>?_⟩⟩⟩;have K:p≠a:=λe=>by rw[e,aP]at Y;cases Y
 have k:M p=none:=by rw[aN K]at Y;exact Y
 obtain⟨ad,Z⟩:=dk.ne ha;obtain⟨pd,pn⟩:=dk.ne k;refine xI rfl ⟨d,n,7,rfl,by decide,by decide,(dk.put ha).put Y,λc1 M1 c10 c11 dk1 o1=>xI rfl ⟨by decide,by decide,?_⟩⟩;refine fQ (λi τ E=>∃(ps rw:List Str) (l:Addr) (S O N:Option W),τ=[some (.ref d),some (b9 rs),some (.ref a),some (.ref l),some (.int c1),S,O,N]/\E l=some (.lst (ps.map W.str))/\E a=some (.lst (rw.map W.str))/\(∀t∈ps,t∈dA\/t∈eI)/\(rw.length:Int)<=c1/\(∀t∈rw,t∈dA\/t∈eI)/\Dq d n E/\l≠a/\l≠d/\l≠n/\ps.length<=1+4*i)
  ⟨[q.name],[],p,_,_,_,rfl,o1 p _ pd pn aP,o1 a _ ad Z (by rw[aN (Bw K),aP];rfl),(λt ht=>by rw[Ao.mp ht];exact .inl (g.nm q H)),c10,(λ_ h=>nomatch h),dk1,K,pd,pn,Ai _⟩ ?_ ?_
 .rintro i w τ E hw ⟨ps,f,l,S,O,N,rfl,L,U,P,l2,X,A,v,s,m,hl⟩ D1 I;obtain⟨hi,rfl⟩:=nE hw;have skip:∀O N,eA D1 [some (.ref d),some (b9 rs),some (.ref a),some (.ref l),some (.int c1),some (.int (0+(i:Int))),O,N] E:=λO N=>
   I _ _ ⟨ps,f,l,_,_,_,rfl,L,U,P,l2,X,A,v,s,m,by lia⟩
  refine xI rfl ⟨Bk _,sN true 1 (by decide) (K6 L) (vQ λt ht=>qE (P t ht)) (xI rfl (cI (λz0=>xI rfl (.inl ⟨_,U,xI rfl (xI rfl (cI (λz8=>?_) λ_=>skip _ _))⟩)) λ_=>skip _ _))⟩;have z8:=of_decide_eq_true z8;rw[Ab]at z8;rcases Fd ps with rfl|⟨ini,t,rfl⟩
  .cases z0
  rw[Fe]at L P hl;rw[Bd]at L;have st:=P t (by simp);have si:∀t∈ini,t∈dA\/t∈eI:=λu b=>P u (Cd _ b);rw[Aj,Bq]at hl;have J:put E l (.lst (ini.map W.str)) a=some (.lst (f.map W.str)):=by rw[aN (Bw v)];exact U
  have x:Dq d n (put E l (.lst (ini.map W.str))):=A.pot s m;refine xI rfl ⟨eN L,_,_,L,xI rfl (fS (t9 (rest:=[some (.str t)]) (MG t) (gE (by rw[Ab];lia)) (λ_ _=>trivial) (λw hw M C D sb h1 h2=>?_) (a9.frz ?_)))⟩
  .obtain⟨q,H,rfl⟩:=Ax.mp hw;exact xI rfl (xI rfl (xI rfl (xI rfl (cI (λz=>xI rfl (xI rfl (h1 _ (show(if q.name=t then _ else _)=_ by rw[if_pos (of_decide_eq_true z)])))) λz=>h2 (show(if q.name=t then _ else _)=_ by rw[if_neg (of_decide_eq_false z)])))))
  rw[zft];obtain⟨cs,G⟩:∃cs,cs=AA rs t:=⟨_,rfl⟩;have T:∀w∈cs,∃q∈rs,w=.tup (q.parts.map W.str):=λw hw=>zcP (by rw[<-G];exact hw);have hcl:cs.length<=9:=by rw[G];exact Ar (Mu _ _) V
  rw[<-G];refine xI rfl ⟨Bk _,sN false 2 (by decide) rfl (λw hw=>?_) (xI rfl (cI (λ_=>?_) λz=>?_))⟩
  .obtain⟨q,H,rfl⟩:=T w hw;intro y hy;obtain⟨u,b,rfl⟩:=Ax.mp hy;exact qE (g.sp q H u b)
  .refine xI rfl ⟨eN J,xI rfl ⟨_,J,dN (by rw[Ab];lia),I _ _ ⟨ini,f++[t],l,_,_,xI rfl ⟨by rw[aN v,aP],by rw[aP,Bd];rfl,si,by rw[Aj,Bq];lia,λu b=>?_,x.pot ad Z,v,s,m,by lia⟩⟩⟩⟩;rcases Bi.mp b with b|b
   .exact X u b
   .rw[Ao.mp b];exact st
  .have hc0:0<cs.length:=by cases cs with|nil=>cases z|cons _ _=>exact Nat.succ_pos _
   refine xI rfl (xI rfl (xI rfl (xI rfl ⟨d,n,xI rfl ⟨by lia,by lia,x,λc M3 c0 c1' B o4=>?_⟩⟩)));have hc:c.toNat<cs.length:=by lia
   obtain⟨q,H,eq⟩:=T cs[c.toNat] (Jp hc);have ec:bW cs c=some (.tup (q.parts.map W.str)):=by
    have e:bW cs ((c.toNat:Nat):Int)=some cs[c.toNat]:=fW (Bf hc);rwa [show((c.toNat:Nat):Int)=c by lia,eq]at e
   have m13:=o4 l _ s m aP;have Q:=o4 a _ ad Z J;have q4:=g.fp H;refine⟨_,ec,rfl,_,m13,gE (by rw[Ab,Lv,Ab];lia),λp' k=>?_⟩;obtain⟨p'd,p'n⟩:=B.ne k;have F:p'≠a:=λe=>by rw[e,Q]at k;cases k
   refine I _ _ ⟨ini++q.parts.reverse,f,p',_,_,xI rfl ⟨by rw[aP,Bd,List.map_reverse],by rw[aN (Bw F)];exact Q,λu b=>?_,l2,X,B.put k,F,p'd,p'n,by rw[Aj,Lv];lia⟩⟩;rcases Bi.mp b with b|b
   .exact si u b
   .exact g.sp q H u (List.mem_reverse.mp b)
 .rintro τ E ⟨ps,f,l,S,O,N,rfl,L,U,P,l2,X,A,v,s,m,hl⟩;refine xI rfl ⟨d,n,3,rfl,by decide,by decide,A,λc M2 c0 c1' x o3=>xI rfl (cI (λ_=>?_) λ_=>xI rfl ⟨_,Sub.refl _,r f a _ ⟨by lia,X⟩ (o3 a _ ad Z U)⟩)⟩;refine xI rfl (xI rfl ⟨by lia,by lia,zfs (rest:=[some (.ref d)]) (λw=>∃t,t∈eI/\w=.str t) (by lia) (λ_=>trivial) x (λo M3 C B c=>?_) λxs M3 hx hP p3 hp3=>?_⟩)
  .refine⟨(show 5<=An by decide),xI rfl ⟨d,n,5,rfl,by decide,by decide,B,λz M4 z0 z1 dk5 S=>?_⟩⟩;obtain⟨t,et,mt⟩:=qB (ts:=eI) z0 z1;exact⟨_,et,c _ _ ⟨t,mt,rfl⟩ dk5 S⟩
  .obtain⟨ts,rfl,hts⟩:=AB hP;rw[Ab]at hx;exact xI rfl ⟨_,Sub.refl _,r ts p3 _ ⟨by lia,λt ht=>.inr (hts t ht)⟩ aP⟩
def MH(h:kL M x a)(r:R (.int a.length) M):cC [x] M R:=by
 rw[<-Ab (f:=W.str)]at r;rcases h with rfl|⟨p,rfl,e⟩
 .exact r
 .exact .inl ⟨_,e,r⟩
def zfv{i:Int}(h:kL M x a)(b:0<=i)(ht:a[i.toNat]? = some t)(r:R (.str t) M):L3.aW x (.int i) M R:=by
 have e:bW (a.map W.str) i=some (.str t):=by
  have:bW (a.map W.str) ((i.toNat:Nat):Int)=some (.str t):=fW (by rw[Av,ht];rfl);rwa [show((i.toNat:Nat):Int)=i by lia]at this
 rcases h with rfl|⟨p,rfl,m⟩
 .exact⟨_,e,r⟩
 .exact .inl ⟨_,_,m,e,r⟩
def MI:inW (.str t) ((rs.map aM.name).map W.str)=bM rs t:=by
 rw[Z3];unfold bM;rw[Ex,decide_eq_true_eq,decide_eq_true_eq,uA,Ax]
def zfw(t:List Int):(iK t).map (λa=>wK a.1)=t.map W.int:=by unfold iK;rw[Ca];rfl
def zfx(h:vX ws M R):zew (bS R) (bZ zes ws) M:=by
 obtain⟨rs,d,x,M0,a,L,t,b,rfl,g,ct,i,ht,f,hf,j,r⟩:=h;unfold eY at r;refine⟨_,rfl,_,rfl,rfl,IQ _,_,rfl,?_⟩;show if inW (.str t) ((rs.map aM.name).map W.str)=true then _ else _;rw[MI];refine cI (λc=>?_) λc=>?_
 .rw[if_pos c]at r;unfold bH at r;refine⟨_,rfl,.inr ⟨rfl,.inr ⟨_,ct.at_⟩⟩,_,rfl,_,rfl,z2,oY.frz ⟨_,.inr ⟨_,eK (t,b),ct.at_,rfl,rfl⟩,?_⟩⟩;rw[iI i7];cases e:aD L (t,b) with
  | none=>rw[e]at r;exact nC r
  | some y=>
   rw[e]at r;exact .inr ⟨_,(ct.inn _ (oM e)).2.2,by rw[zfw];exact nC r⟩
 .rw[if_neg (by rw[c];exact Am)]at r;refine⟨_,rfl,_,rfl,MH g ⟨_,rfl,cI (λz=>?_) λz=>?_⟩⟩
  .have z:=of_decide_eq_true z;have hb:b.toNat<d.length:=by lia
   have e:=Bf hb;refine⟨_,rfl,_,rfl,zfv g f e ⟨_,rfl,_,rfl,cI (λy=>?_) λy=>?_⟩⟩
   .rw[if_pos ⟨f,by rw[e,of_decide_eq_true y]⟩]at r;exact⟨_,rfl,z1,nC r⟩
   .rw[if_neg (λk=>of_decide_eq_false y (Bz (e.symm.trans k.2)))]at r;exact⟨Bk _,nC r⟩
  .have z:=of_decide_eq_false z;rw[if_neg (λk=>by have:=(Ak.mp k.2).1;lia)]at r;exact⟨Bk _,nC r⟩
def MJ:W->W
 | .tup (x::_)=>x
 | _=>.non
def vZ{keep:Mm->Prop}(hl:rs.length<=100)(hk:∀M,L3.Sub a M->keep M)(r:R (nK rs) a):kC (rs.map eV) keep (bA 0) fP (aH L3.aW (aA 0) (vC (.int 0))) [o] a λw b=>frz w b R:=by
 refine rM (rest:=[]) MJ (gE (by rw[Ab];lia)) hk (λw hw M C sb c=>?_) (a9.frz ?_)
 .obtain⟨q,_,rfl⟩:=Ax.mp hw;exact⟨_,rfl,_,rfl,c⟩
 .rw[show(rs.map eV).map MJ=(rs.map aM.name).map W.str by rw[Ca,Ca];rfl];exact r
def qF(T:LT)(X:Str):a0 (gV T) (Sum.inr X:aF)=(aD T X).map W.int:=by
 unfold gV
 induction T with
 | nil=>rfl
 | cons e T ih=>
  unfold a0 at ih⊢;rw[Aw,Fp,dE]
  by_cases h:e.1=X
  .rw[if_pos h,h];simp
  .rw[if_neg h,decide_eq_false (λz=>h (Sum.inr.inj z)),ih]
def zfy(T:LT)(X:Str)(v:Int):bQ (gV T) (Sum.inr X:aF) (.int v)=gV (bB T X v):=by
 unfold bQ bB;rw[show((gV T).any λkv=>decide (kv.1=(Sum.inr X:aF)))=(a0 (gV T) (Sum.inr X:aF)).isSome from gF _ _,qF,gF,Hn];unfold gV;split
 .rw[Ca,Ca];refine Dv λe _=>?_;simp only[Hc]
  by_cases h:e.1=X
  .rw[if_pos (by rw[h]),if_pos h]
  .rw[if_neg (λz=>h (Sum.inr.inj z)),if_neg h]
 .rw[Bd];rfl
def AH(rs:List aM)(T:LT):W->Option W
 | .str t=>if (bM rs t&&!(aD T t).isSome)=true then some (.str t) else none
 | _=>none
def zfz(ps:List Str):(ps.map W.str).filterMap (AH rs T)=(ps.filter λt=>bM rs t&&!(aD T t).isSome).map W.str:=by
 induction ps with
 | nil=>rfl
 | cons t ps a=>
  rw[Aw,Hf,Dz,a,show AH rs T (.str t)=if (bM rs t&&!(aD T t).isSome)=true then some (.str t) else none from rfl]
  by_cases h:(bM rs t&&!(aD T t).isSome)=true
  .rw[if_pos h,if_pos h];rfl
  .rw[if_neg h,if_neg h]
def MK(ps:List Str):((ps.filter λt=>bM rs t&&!(aD T t).isSome).map W.str).isEmpty = !lackT rs T ps:=by
 rw[List.isEmpty_map];unfold lackT
 induction ps with
 | nil=>rfl
 | cons t ps a=>
  rw[Dz,Gg,Bool.not_or,<-a];cases h:bM rs t<;>cases e:aD T t<;>simp
def ML{rs:List aM}{T:LT}{ps:List Str}{f:W}{keep:Mm->Prop}{o:Option W}{d:Mm}{R:K3}(hl:ps.length<=1000)(a:∀M,L3.Sub d M->keep M)(hk:∀M t (C:K3),L3.Sub d M->C (.bl (!(aD T t).isSome)) M->L3.rIn true (.str t) f M C)(r:R (.rl ((ps.filter λt=>bM rs t&&!(aD T t).isSome).map W.str)) d):kC (ps.map W.str) keep (bA 0) (mM (bO (aH (L3.rIn false) (aA 0) (aA 1))) (bO (aH (L3.rIn true) (aA 0) (aA 2)))) (aA 0) [o,some (nK rs),some f] d λw g=>frz w g R:=by
 refine t9 (rest:=[some (nK rs),some f]) (AH rs T) (gE (by rw[Ab];lia)) a (λw hw M C D sb e c=>?_) (a9.frz ?_)
 .obtain⟨t,_,rfl⟩:=Ax.mp hw;have e:(bM rs t&&!(aD T t).isSome)=true->C (.str t) M:=λz=>e _ (show(if _ then _ else _)=_ by rw[if_pos z]);have c:(bM rs t&&!(aD T t).isSome)=false->D M:=λz=>c (show(if _ then _ else _)=_ by rw[if_neg (by rw[z];exact Am)]);refine⟨_,rfl,_,rfl,rfl,IQ _,_,rfl,?_⟩;show if inW (.str t) ((rs.map aM.name).map W.str)=true then _ else _;rw[MI];refine cI (λb=>⟨_,rfl,_,rfl,hk M t _ sb ⟨_,rfl,cI (λz=>⟨_,rfl,e (by rw[b,z];rfl)⟩) λz=>c (by rw[b,z];rfl)⟩⟩) λb=>?_;exact c (by rw[b];rfl)
 .rw[zfz];exact r
def MM(T:LT):W->W
 | .str t=>.int (g9 T t)
 | _=>.non
def MN{T:LT}{ps:List Str}{c:W}{keep:Mm->Prop}{o:Option W}{b:Mm}{R:K3}(hl:ps.length<=1000)(a:∀M,L3.Sub b M->keep M)(f:∀M t (C:K3),L3.Sub b M->C (.int (g9 T t)) M->cN "dict" iZ (aA 1) (aB (aA 0) (aB (vC (.int 1)) aE)) [some (.str t),some c] M C)(r:R (.rl ((ps.map (g9 T)).map W.int)) b):kC (ps.map W.str) keep (bA 0) fP (cN "dict" iZ (aA 1) (aB (aA 0) (aB (vC (.int 1)) aE))) [o,some c] b λw d=>frz w d R:=by
 refine rM (rest:=[some c]) (MM T) (gE (by rw[Ab];lia)) a (λw hw M C sb e=>?_) (a9.frz ?_)
 .obtain⟨t,_,rfl⟩:=Ax.mp hw;exact f M t C sb e
 .rw[show(ps.map W.str).map (MM T)=(ps.map (g9 T)).map W.int by rw[Ca,Ca];rfl];exact r
def MP:((aD T t).map W.int).getD (.int 1)=.int (g9 T t):=by
 unfold g9;cases aD T t<;>rfl
def MQ{rs:List aM}{T:LT}{ps:List Str}(h:∀t∈ps,t∈dA\/t∈eI):Pl 1 (.rl ((ps.filter λt=>bM rs t&&!(aD T t).isSome).map W.str)):=vQ λt ht=>qE (h t (Dy.mp ht).1)
def zfA{ws:List W}{M:Mm}{R:K3}(h:vY ws M R):zeQ (bS R) (bZ zeM ws) M:=by
 obtain⟨rs,T,ps,rfl,g,hl,a,r⟩:=h;have hf:=g.few;refine⟨_,rfl,fS (vZ (by lia) (λ_ _=>trivial) ⟨_,rfl,sL (ML (T:=T) (by lia) (λ_ _=>trivial) (λM t C _ c=>⟨_,⟨Sum.inr t,rfl,rfl⟩,by rw[qF,Hn];exact c⟩) ⟨Bk _,sN true 1 (by decide) rfl (MQ a) ⟨_,rfl,?_⟩⟩)⟩)⟩;show if (!((ps.filter λt=>bM rs t&&!(aD T t).isSome).map W.str).isEmpty)=true then _ else _;rw[MK,Nn];refine cI (λz=>?_) λz=>?_
 .unfold i8 at r;rw[if_pos z]at r;exact⟨_,Sub.refl _,r⟩
 .unfold i8 at r;rw[if_neg (by rw[z];exact Am)]at r;exact⟨_,rfl,sL (MN (T:=T) (by lia) (λ_ _=>trivial) (λM t C _ c=>⟨_,rfl,rfl,_,rfl,_,⟨Sum.inr t,rfl,rfl⟩,by rw[qF,MP];exact c⟩) ⟨_,rfl,_,Sub.refl _,r⟩)⟩
def AI:∀{qs:List aM} {T:LT},(T.map (·.1)).Nodup->((qs.foldl (eL rs) T).map (·.1)).Nodup
 | [],_,h=>h
 | q::qs,T,h=>by
  rw[Eu];refine AI ?_;unfold eL;split
  .exact h
  .exact p9 h
def MR(rs:List aM):∀k,((iQ rs k).map (·.1)).Nodup
 | 0=>Ee
 | k+1=>AI (MR rs k)
def zfB(g:fL rs T)(nd:(T.map (·.1)).Nodup):T.length<=rs.length:=by
 have:=len_sub (b:=namesOf rs) nd λx c=>by
  obtain⟨v,a⟩:=Dh.mp (f6.mpr c);exact of_decide_eq_true (g.own _ _ a)
 rw[Ab]at this;exact Ar this (sG rs)
def zfC{a J:Type}{f:J->a->J}{l:List a}{b:J}{i:Nat}{x:a}(h:l[i]? = some x):(l.take (i+1)).foldl f b=f ((l.take i).foldl f b) x:=by rw[Eh,h,Gy];rfl
def zfD{ws:List W}{M:Mm}{R:K3}(h:L6 ws M R):zeL (bS R) (bZ zeF ws) M:=by
 obtain⟨rs,rfl,g,r⟩:=h;have hf:=g.few;intro p hp;refine xI rfl (fS (vZ (by lia) (λ_ _=>trivial) (xI rfl (xI rfl ⟨?_,?_,?_⟩))))
 .rw[Ab];lia
 .rw[Ab];lia
 rw[Ab,show((rs.length:Int)+1).toNat=rs.length+1 by lia];refine fQ (λi τ M'=>∃(o3 o4 o5 o6 o7:Option W),τ=[some (b9 rs),some (.ref p),some (nK rs),o3,o4,o5,o6,o7]/\M'=put M p (.dK (gV (iQ rs i)))) ⟨_,_,_,_,xI rfl rfl⟩ ?_ ?_
 .rintro i w τ M' hw ⟨o3,o4,o5,o6,o7,rfl,rfl⟩ D1 hD1;refine xI rfl (pV rfl (fQ (λj τ M'=>∃(o4 o5 o6 o7:Option W),τ=[some (b9 rs),some (.ref p),some (nK rs),some w,o4,o5,o6,o7]/\M'=put M p (.dK (gV ((rs.take j).foldl (eL rs) (iQ rs i))))) ⟨_,_,_,xI rfl rfl⟩ ?_ ?_))
  .rintro j w2 τ M' hw2 ⟨o4,o5,o6,o7,rfl,rfl⟩ D2 hD2;rw[Av]at hw2;obtain⟨q,hq,rfl⟩:=Bb.mp hw2;have hqm:=Bh hq;have hpl:=g.fp hqm;rw[zfC hq]at hD2;obtain⟨T,hT⟩:∃T,T=(rs.take j).foldl (eL rs) (iQ rs i):=⟨_,rfl⟩;have lT:T.length<=rs.length:=zfB (by rw[hT];exact(fL.rounds rs i).steps λx hx=>Jh hx) (by rw[hT];exact AI (MR rs i));rw[<-hT]at hD2⊢;refine⟨rfl,rfl,xI rfl (sL (ML (T:=T) (by lia) (λ_ _=>trivial) (λM2 t C sb c=>.inr ⟨_,.inl ⟨_,Sum.inr t,sb _ _ aP,rfl,rfl⟩,by rw[qF,Hn];exact c⟩) ⟨Bk _,sN false 1 (by decide) rfl (MQ λt ht=>g.sp q hqm t ht) (xI rfl ?_)⟩))⟩;show if ((q.parts.filter λt=>bM rs t&&!(aD T t).isSome).map W.str).isEmpty=true then _ else _;rw[MK];refine cI (λz=>?_) λz=>?_
   .refine xI rfl (sL (MN (T:=T) (by lia) (λ_ _=>trivial) (λM2 t C sb c=>xI rfl ⟨.inr ⟨rfl,.inl ⟨_,sb _ _ aP⟩⟩,xI rfl ⟨_,.inl ⟨_,Sum.inr t,sb _ _ aP,rfl,rfl⟩,by rw[qF,MP];exact c⟩⟩) (xI rfl (xI rfl (xI rfl ⟨.inr ⟨rfl,.inl ⟨_,aP⟩⟩,xI rfl (xI rfl ⟨_,.inl ⟨_,Sum.inr q.name,aP,rfl,rfl⟩,?_⟩)⟩)))));have e:(a0 (gV T) (Sum.inr q.name:aF)).getD (.int (hJ T q.parts))=.int ((aD T q.name).getD (hJ T q.parts)):=by rw[qF];cases aD T q.name<;>rfl
    show rH [.int (hJ T q.parts),(a0 (gV T) (Sum.inr q.name:aF)).getD (.int (hJ T q.parts))] _ _;rw[e];refine xI rfl (xI rfl (yJ aP (by unfold gV;rw[Ab];exact dN (by lia)) (hD2 _ _ ⟨_,_,_,xI rfl ?_⟩)));rw[gB,zfy,show eL rs T q=bB T q.name (kF (hJ T q.parts) ((aD T q.name).getD (hJ T q.parts))) from if_neg (by rw[(Bool.not_eq_true' _).mp z];exact Am)];rfl
   .refine hD2 _ _ ⟨_,_,_,xI rfl ?_⟩;unfold eL;rw[if_pos ((Bool.not_eq_false' _).mp z)]
  .rintro τ M' ⟨o4,o5,o6,o7,rfl,rfl⟩;rw[Ab,Cm];exact hD1 _ _ ⟨_,_,_,_,xI rfl rfl⟩
 .rintro τ M' ⟨o3,o4,o5,o6,o7,rfl,rfl⟩;rw[nF];exact xI rfl ⟨_,Sub.refl _,r p hp⟩
section
variable {U J γ:Type}[DecidableEq U]
def v5(t:List (U×J))(k:U)(v w:J):bB (bB t k v) k w=bB t k w:=by
 have h:bB (bB t k v) k w=(bB t k v).map λe=>if e.1=k then(e.1,w) else e:=by
  generalize ht:bB t k v=t';unfold bB;rw[gF,<-ht,fJ,if_pos rfl];rfl
 rw[h];unfold bB;rw[gF];split
 .rw[Ca];refine Dv λe _=>?_;simp only[Hc]
  by_cases z:e.1=k
  .rw[if_pos z,if_pos z,if_pos z]
  .rw[if_neg z,if_neg z]
 .rename_i z;rw[Bd];congr 1
  .refine(Dv λe a=>?_).trans (List.map_id _);rw[if_neg (λy=>z (f6.mpr (Ax.mpr ⟨e,a,y⟩)))];rfl
  .simp
def MS{t:List (U×J)}(nd:(t.map (·.1)).Nodup){k:U}{v:J}(h:aD t k=some v):bB t k v=t:=by
 unfold bB;rw[gF,h,if_pos (show(some v).isSome=true from rfl)];refine(Dv λe a=>?_).trans (List.map_id _);split
 .rename_i z;have:=KC nd (show(e.1,e.2)∈t from a);rw[z,h]at this;rw[Bz this];rfl
 .rfl
def sP{t:List (U×J)}{k:U}{v:J}{e:U×J}(h:e∈bB t k v):e=(k,v)\/(e∈t/\e.1≠k):=by
 unfold bB at h;split at h
 .obtain⟨x,a,rfl⟩:=Ax.mp h;split
  .rename_i z;exact .inl (by rw[z])
  .rename_i z;exact .inr ⟨a,z⟩
 .rename_i z;rcases Bi.mp h with h|h
  .exact .inr ⟨h,λy=>z (by rw[gF,f6];exact Ax.mpr ⟨e,h,y⟩)⟩
  .exact .inl (Ao.mp h)
def MT{d:Type}{f:d->J}:∀{l:List d},(l.map f).Nodup->∀{x y:d},x∈l->y∈l->f x=f y->x=y
 | [],_,_,_,c,_,_=>nomatch c
 | a::l,nd,x,y,c,b,e=>by
  rw[Aw,Dx]at nd;rcases Bg.mp c with rfl|c
  .rcases Bg.mp b with rfl|b
   .rfl
   .exact absurd (Ax.mpr ⟨y,b,e.symm⟩) nd.1
  .rcases Bg.mp b with b|b
   .exact absurd (by rw[<-b];exact Ax.mpr ⟨x,c,e⟩) nd.1
   .exact MT nd.2 c b e
end
section
variable {M0 M:Mm}{a p q e:Addr}{L:Lo}{key:Str×Int}{t t':List Int}{o:MO}
def dZ.look(h:dZ M0 M a L):a0 (dW eK (λy:Addr×List Int=>W.ref y.1) L) (eK key)=(aD L key).map λy=>.ref y.1:=iI i7 L key
def dZ.told(h:dZ M0 M a L)(b:x∈L):∃u,M x.2.1=some u:=⟨_,(h.inn x b).2.2⟩
def dZ.more(h:dZ M0 M a L)(d:M q=none):dZ M0 (put M q o) a L:=by
 have ne:∀{b:Addr},(∃u,M b=some u)->b≠q:=λ{b} ⟨u,z⟩ y=>by rw[y,d]at z;cases z
 refine⟨eX h.sub (h.sub.non d),h.new,by rw[aN (ne ⟨_,h.at_⟩)];exact h.at_,λx e=>?_,h.inj⟩;obtain⟨g,f,c⟩:=h.inn x e;exact⟨g,f,by rw[aN (ne ⟨_,c⟩)];exact c⟩
def dZ.wr(h:dZ M0 M a L)(nd:(L.map (·.1)).Nodup)(hk:aD L key=some (p,t)):dZ M0 (put M p (.dK (iK t'))) a (bB L key (p,t')):=by
 have hm:(key,p,t)∈L:=oM hk;obtain⟨p1,p2,p3⟩:=h.inn _ hm;refine⟨eX h.sub p2,h.new,?_,λx hx=>?_,?_⟩
 .rw[aN (Bw p1),h.at_,<-pW (f:=λy:Addr×List Int=>W.ref y.1) i7];congr 2;refine(MS (t:=dW eK (λy:Addr×List Int=>W.ref y.1) L) (k:=eK key) (v:=W.ref p) ?_ ?_).symm
  .rw[Ca];rw[show((λx:List aF×W=>x.1) ∘ λe:(Str×Int)×Addr×List Int=>(eK e.1,W.ref e.2.1))=eK ∘ λe=>e.1 from rfl,<-Ca];rw[Jg]at nd⊢;rw[Ko];exact nd.imp λhne z=>hne (i7 _ _ z)
  .have:=h.look (key:=key);rw[hk]at this;exact this
 .rcases sP hx with rfl|⟨hx,hne⟩
  .exact⟨p1,p2,aP⟩
  .obtain⟨h1,h2,h3⟩:=h.inn x hx;refine⟨h1,h2,?_⟩;rw[aN (λz=>hne (congrArg (·.1) (MT h.inj hx hm z)))];exact h3
 .have:(bB L key (p,t')).map (λx=>x.2.1)=L.map λx=>x.2.1:=by
   unfold bB;rw[gF,hk,if_pos (show(some (p,t)).isSome=true from rfl),Ca];refine Dv λx hx=>?_;simp only[Hc];split
   .rename_i z;have:=KC nd (show(x.1,x.2)∈L from hx);rw[z,hk]at this;rw[<-Bz this]
   .rfl
  rw[this];exact h.inj
def dZ.add(h:dZ M0 M a L)(hk:aD L key=none)(g:M q=none):dZ M0 (put (put M q (.dK (iK []))) a (.dT (bQ (dW eK (λy:Addr×List Int=>W.ref y.1) L) (eK key) (.ref q)))) a (bB L key (q,[])):=by
 have ne:∀{b:Addr},(∃u,M b=some u)->b≠q:=λ{b} ⟨u,z⟩ y=>by rw[y,g]at z;cases z
 have e:q≠a:=Bw (ne ⟨_,h.at_⟩);refine⟨eX (eX h.sub (h.sub.non g)) h.new,h.new,?_,λx d=>?_,?_⟩
 .rw[aP,pW (f:=λy:Addr×List Int=>W.ref y.1) (v:=(q,[])) i7]
 .rcases sP d with rfl|⟨d,_⟩
  .exact⟨e,h.sub.non g,by rw[aN e,aP]⟩
  .obtain⟨j,k,i⟩:=h.inn x d;exact⟨j,k,by rw[aN j,aN (ne ⟨_,i⟩)];exact i⟩
 .rw[pX hk,Bd,Ei];refine⟨h.inj,by simp,λb hb c hc z=>?_⟩;rw[Aw,Ii,Ao]at hc;obtain⟨x,d,rfl⟩:=Ax.mp hb;exact ne (h.told d) (z.trans hc)
end
def MU(h:kL M x row)(s:L3.Sub M a):kL a x row:=h.imp id λ⟨p,e,m⟩=>⟨p,e,s _ _ m⟩
def h8(t:List Int)(e:Int):List Int:=if e∈t then t else t++[e]
def AJ(t:List Int)(e:Int):a0 (iK t) (Sum.inl e:aF)=if e∈t then some (.bl true) else none:=by
 unfold iK
 induction t with
 | nil=>rfl
 | cons x t ih=>
  unfold a0 at ih⊢;rw[Aw,Fp]
  by_cases h:x=e
  .rw[h];simp
  .rw[decide_eq_false (λz=>h (Sum.inl.inj z)),ih];have:(e∈x::t)↔e∈t:=⟨λz=>(Bg.mp z).elim (λy=>absurd y.symm h) id,Ap _⟩;simp only[this]
def zfE(t:List Int)(e:Int):bQ (iK t) (Sum.inl e:aF) (.bl true)=iK (h8 t e):=by
 unfold bQ h8;rw[show((iK t).any λkv=>decide (kv.1=(Sum.inl e:aF)))=(a0 (iK t) (Sum.inl e:aF)).isSome from gF _ _,AJ]
 by_cases h:e∈t
 .rw[if_pos h,if_pos h];show(if true=true then _ else _)=_;rw[if_pos rfl];unfold iK;rw[Ca];refine Dv λx _=>?_;simp only[Hc];split
  .rename_i z;rfl
  .rfl
 .rw[if_neg h,if_neg h];show(if false=true then _ else _)=_;rw[if_neg Am];unfold iK;rw[Bd];rfl
def MV(L:Lo)(X:Str)(b:Int)(p:Addr)(t:List Int)(Y:Str)(c:Int):bH (bB L (X,b) (p,t)) Y c=if (X,b)=(Y,c) then t else bH L Y c:=by
 unfold bH;rw[fJ];split<;>rfl
def MW{b:Int}(h:bH L X b=t):bH (bB L (X,b) (p,t))=bH L:=by
 funext Y c;rw[MV];split
 .rename_i z;cases z;exact h.symm
 .rfl
def gW(L:Lo):Nat:=(L.map λx=>x.2.2.length).sum
def zfF(h:aD L key=none):gW (bB L key (p,[]))=gW L:=by unfold gW;rw[pX h];simp
def MX(nd:(L.map (·.1)).Nodup)(h:aD L key=some (p,t)):gW (bB L key (p,t'))+t.length=gW L+t'.length:=by
 unfold gW bB;rw[gF,h,if_pos (show(some (p,t)).isSome=true from rfl)]
 induction L with
 | nil=>cases h
 | cons x L c=>
  rw[Aw,Dx]at nd;rw[dE]at h;rw[Aw,Aw,Aw,Kb,Kb]
  by_cases a:x.1=key
  .rw[if_pos a]at h⊢;have h:x.2=(p,t):=Bz h;rw[h];have:(L.map λe=>if e.1=key then(e.1,p,t') else e)=L:=by
    refine(Dv λy b=>?_).trans (List.map_id _);rw[if_neg (λz=>nd.1 (Ax.mpr ⟨y,b,z.trans a.symm⟩))];rfl
   rw[this];simp only;lia
  .rw[if_neg a]at h⊢;have:=c nd.2 h;lia
def zfG{n:Nat}(h:jA n L):gW L<=4*((n+1)*(n+1)):=by
 have m:L.length<=4*(n+1):=by
  have:=len_sub (b:=dA.flatMap λX=>(b7 n).map λb=>(X,b)) h.nd λx d=>by
   obtain⟨y,g,rfl⟩:=Ax.mp d;obtain⟨_,_,c,a,f⟩:=h.en y g;exact Cu.mpr ⟨_,c,Ax.mpr ⟨_,eF.mpr ⟨a,f⟩,rfl⟩⟩
  rw[jO (k:=n+1) (λX _=>by unfold b7;simp),Ab]at this;exact this
 have o:∀x∈L,x.2.2.length<=n+1:=λx d=>by
  obtain⟨c,a,_⟩:=h.en x d;have:=len_sub (b:=b7 n) c λe j=>eF.mpr (a e j);unfold b7 at this;simpa using this
 have:∀(L:Lo),(∀x∈L,x.2.2.length<=n+1)->gW L<=L.length*(n+1):=λL=>by
  induction L with
  | nil=>intro _;exact Bk _
  | cons x L l=>
   intro h;have c:=h x Be;have a:=l λy g=>h y (Ap _ g);unfold gW at a⊢;rw[Aw,Kb,Bp,Nat.add_mul,Nat.one_mul];lia
 have f:=this L o;have i:=Ek (n+1) m;rw[Nat.mul_assoc]at i;exact Ar f i
def jA.put{n:Nat}{L:Lo}{X:Str}{b:Int}{p:Addr}{t:List Int}(h:jA n L)(c:X∈dA)(hb:b∈b7 n)(nd:t.Nodup)(ht:∀e∈t,0<=e/\e<=n):jA n (bB L (X,b) (p,t)):=by
 refine⟨p9 h.nd,λx a=>?_⟩;rcases sP a with rfl|⟨a,_⟩
 .exact⟨nd,ht,c,eF.mp hb⟩
 .exact h.en x a
def MY{n:Nat}(h:jA n L)(X:Str)(b:Int):(bH L X b).Nodup/\∀e∈bH L X b,0<=e/\e<=n:=by
 unfold bH;cases e:aD L (X,b) with
 | none=>exact⟨Ee,λ_ h=>nomatch h⟩
 | some y=>
  obtain⟨a,c,_⟩:=h.en _ (oM e);exact⟨a,c⟩
def v7(h:jA row.length L){a:Int}(g:0<=a):(eY rs row (bH L) t a).length<=row.length+1/\∀e∈eY rs row (bH L) t a,0<=e/\e<=row.length:=by
 unfold eY;split
 .obtain⟨f,d⟩:=MY h t a;refine⟨?_,d⟩;have:=len_sub (b:=b7 row.length) f λe c=>eF.mpr (d e c);unfold b7 at this;simpa using this
 .split
  .rename_i z;have:=(Ak.mp z.2).1;exact⟨by simp,λe c=>by rw[Ao.mp c];lia⟩
  .exact⟨Bk _,λ_ h=>nomatch h⟩
def MZ{a b:Type}{f:a->List b}{k:Nat}:∀{l:List a},(∀x∈l,(f x).length<=k)->(l.flatMap f).length<=l.length*k
 | [],_=>Bk _
 | x::l,h=>by
  have d:=h x Be;have e:=MZ (l:=l) λy c=>h y (Ap _ c);rw[List.flatMap_cons,Aj,Bp,Nat.add_mul,Nat.one_mul];lia
def v8{e x:Int}:x∈h8 t e↔x∈t\/x=e:=by
 unfold h8;split
 .rename_i h;exact⟨.inl,λz=>z.elim id λy=>y▸h⟩
 .simp
def zfH{e:Int}(h:t.Nodup):(h8 t e).Nodup:=by
 unfold h8;split
 .exact h
 .rename_i z;exact Ei.mpr ⟨h,by simp,λa ha b hb y=>z (by cases Ao.mp hb;rw[<-y];exact ha)⟩
def zfI{K V:Mm}{a p:Addr}{v:Lo}{X:Str}{b:Int}{t g:List Int}{q:Bool}{x F G C B A E i j m f:Option W}{D:D3}(ct:dZ K V a (bB v (X,b) (p,t)))(nd:(v.map (·.1)).Nodup)(tn:t.Nodup)(hl:t.length+g.length<10000000)(hD:∀(t':List Int) (d:Bool) (l:Mm) (f:Option W),dZ K l a (bB v (X,b) (p,t'))->t'.Nodup->(∀e∈t',e∈t\/e∈g)->(∀e∈t,e∈t')->(∀e∈g,e∈t')->(d=false->q=false/\t'=t)->(d=true->q=true\/t.length<t'.length)->t.length<=t'.length->
   D.nx [x,F,G,some (.ref a),some (.bl d),C,B,A,E,some (.rl (g.map W.int)),i,j,m,some (.ref p),f] l):
  (cY (b6 cT (aA 9)) (bA 14) (aL (aY 4 (tS (aA 4) (aH (L3.rIn true) (aA 14) (aA 13)))) (fY (vC (.bl true)) (gD (aA 13) (aA 14))))) D [x,F,G,some (.ref a),some (.bl q),C,B,A,E,some (.rl (g.map W.int)),i,j,m,some (.ref p),f] V:=by
 refine⟨_,rfl,fS (mW (λk T l=>∃(t':List Int) (d:Bool) (f:Option W),T=[x,F,G,some (.ref a),some (.bl d),C,B,A,E,some (.rl (g.map W.int)),i,j,m,some (.ref p),f]/\dZ K l a (bB v (X,b) (p,t'))/\t'.Nodup/\(∀e∈t',e∈t\/e∈g)/\(∀e∈t,e∈t')/\(∀e∈g.take k,e∈t')/\(d=false->q=false/\t'=t)/\(d=true->q=true\/t.length<t'.length)/\t.length<=t'.length/\t'.length<=t.length+k)
  ⟨t,q,_,rfl,ct,tn,(λ_ h=>.inl h),(λ_ h=>h),(λ_ h=>nomatch h),(λh=>⟨h,rfl⟩),.inl,Ai _,Ai _⟩ ?_ ?_)⟩
 .rintro k w T l hw ⟨t',d,f,rfl,r,s,N,S,L,O,U,Y,Z⟩;rw[Av]at hw;obtain⟨e,P,rfl⟩:=Bb.mp hw;have hk:=(Ak.mp P).1;have H:aD (bB v (X,b) (p,t')) (X,b)=some (p,t'):=by rw[fJ,if_pos rfl]
  have J:l p=some (.dK (iK t')):=(r.inn _ (oM H)).2.2;have fin:∀I:Bool,(I=false->d=false/\e∈t')->(I=true->d=true\/e∉t')->(fY (vC (.bl true)) (gD (aA 13) (aA 14))) {D with nx:=λu l=>∃o,L3.Sub o l/\∃(t':List Int) (d:Bool) (f:Option W),u=[x,F,G,some (.ref a),some (.bl d),C,B,A,E,some (.rl (g.map W.int)),i,j,m,some (.ref p),f]/\dZ K o a (bB v (X,b) (p,t'))/\t'.Nodup/\(∀e∈t',e∈t\/e∈g)/\(∀e∈t,e∈t')/\(∀e∈g.take (k+1),e∈t')/\(d=false->q=false/\t'=t)/\(d=true->q=true\/t.length<t'.length)/\t.length<=t'.length/\t'.length<=t.length+(k+1),ct:=λu l=>∃o,L3.Sub o l/\∃(t':List Int) (d:Bool) (f:Option W),u=[x,F,G,some (.ref a),some (.bl d),C,B,A,E,some (.rl (g.map W.int)),i,j,m,some (.ref p),f]/\dZ K o a (bB v (X,b) (p,t'))/\t'.Nodup/\(∀e∈t',e∈t\/e∈g)/\(∀e∈t,e∈t')/\(∀e∈g.take (k+1),e∈t')/\(d=false->q=false/\t'=t)/\(d=true->q=true\/t.length<t'.length)/\t.length<=t'.length/\t'.length<=t.length+(k+1),bk:=D.nx} [x,F,G,some (.ref a),some (.bl I),C,B,A,E,some (.rl (g.map W.int)),i,j,m,some (.ref p),some (.int e)] l:=λI Q R=>by
   refine⟨_,rfl,_,rfl,W7 J (by unfold iK;rw[Ab];exact dN (by lia)) ⟨_,Sub.refl _,h8 t' e,I,_,rfl,?_,zfH s,λy n=>?_,λy n=>v8.mpr (.inl (S y n)),λy n=>?_,λz=>?_,λz=>?_,?_,?_⟩⟩
   .rw[zfE];have:=r.wr (t':=h8 t' e) (p9 nd) H;rwa [v5]at this
   .rcases v8.mp n with n|rfl
    .exact N y n
    .exact .inr (Bh P)
   .rw[Eh,P]at n;rcases Bi.mp n with n|n
    .exact v8.mpr (.inl (L y n))
    .exact v8.mpr (.inr (by simpa using n))
   .obtain⟨z1,z2⟩:=Q z;obtain⟨y1,y2⟩:=O z1;exact⟨y1,by unfold h8;rw[if_pos z2];exact y2⟩
   .have:t'.length<=(h8 t' e).length:=by unfold h8;split<;>simp
    rcases R z with z|z
    .exact(U z).imp id λy=>Bn y this
    .refine .inr ?_;unfold h8;rw[if_neg z];simp;lia
   .have:t'.length<=(h8 t' e).length:=by unfold h8;split<;>simp
    lia
   .have:(h8 t' e).length<=t'.length+1:=by unfold h8;split<;>simp
    lia
  refine⟨_,rfl,_,rfl,cI (λc=>fin true (λz=>nomatch z) λ_=>.inl c) λc=>⟨_,rfl,_,rfl,.inr ⟨_,.inl ⟨_,Sum.inl e,J,rfl,rfl⟩,?_⟩⟩⟩;rw[AJ]
  by_cases M:e∈t'
  .rw[if_pos M];exact fin false (λ_=>⟨c,M⟩) λz=>nomatch z
  .rw[if_neg M];exact fin true (λz=>nomatch z) λ_=>.inr M
 .rintro T l ⟨t',d,f,rfl,r,s,N,S,L,O,U,Y,Z⟩;rw[Ab,Cm]at L;exact hD t' d l _ r s N S L O U Y
def mE{n:Nat}:(b7 n).length=n+1:=by unfold b7;simp
def zfJ{n k j:Nat}(a:n<=3990)(hk:k<=n+1)(b:j<=k*(n+1)):j<=An:=by
 have c:=Ig (Ar hk (Nat.succ_le_succ a)) (Nat.succ_le_succ a);exact Ar b (Ar c (by decide))
def v9{n:Nat}{a:List Int}(nd:a.Nodup)(h:∀y∈a,0<=y/\y<=n):a.length<=n+1:=by
 have:=len_sub (b:=b7 n) nd λe c=>eF.mpr (h e c);rwa [mE]at this
structure qG(rs:List aM)(row:List Str)(E:Str->Int->List Int)(b:Int)(ps:List Str)(hs:List Int):Prop where
 nd:hs.Nodup
 mem:∀y,y∈hs↔y∈gJ rs row E [b] ps
 pl:∀y∈hs,0<=y/\y<=row.length
def qG.next{b:Int}(h:qG rs row (bH L) b ps d)(ok:jA row.length L)(e:∀k,k∈c↔k∈d.flatMap (eY rs row (bH L) t))(f:c.Nodup):qG rs row (bH L) b (ps++[t]) c:=by
 refine⟨f,λy=>?_,λy g=>?_⟩
 .rw[e,Cu,sH];exact⟨λ⟨a,ha,q⟩=>⟨a,(h.mem a).mp ha,q⟩,λ⟨a,ha,q⟩=>⟨a,(h.mem a).mpr ha,q⟩⟩
 .obtain⟨a,ha,q⟩:=Cu.mp ((e y).mp g);exact(v7 ok (h.pl a ha).1).2 y q
def M8{rs:List aM}{row:List Str}{L:Lo}{b:Int}{ps:List Str}{a:List Int}{t:Str}(d:row.length<=3990)(h:qG rs row (bH L) b ps a)(ok:jA row.length L){l:Nat}:((a.take l).flatMap (eY rs row (bH L) t)).length<=An:=by
 refine zfJ d (Ar ?_ (v9 h.nd h.pl)) (MZ λx c=>(v7 ok (h.pl x (Jh c)).1).1);rw[Cb];exact Ni _ _
def zfK{P:Str->Int->Int->Prop}{b:Int}(h:∀X b e,e∈bH L X b->P X b e)(ht:∀e∈t,P X b e):∀Y c e,e∈bH (bB L (X,b) (p,t)) Y c->P Y c e:=λY c e a=>by
 rw[MV]at a;split at a
 .rename_i z;cases z;exact ht e a
 .exact h Y c e a
abbrev wf(rs:List aM)(x:W)(a:Addr)(f:Bool)(l:S3):S3:=some (b9 rs)::some x::some (nK rs)::some (.ref a)::some (.bl f)::l
abbrev wg(r:aM)(l:S3):S3:=some (.str r.name)::some (.tup (r.parts.map W.str))::some (.int r.cost)::l
def zfL{ws:List W}{M:Mm}{R:K3}(h:AF ws M R):zeE (bS R) (bZ zex ws) M:=by
 obtain⟨rs,row,x,P,rfl,g,hx,hn,hw,hcl,r⟩:=h;have hf:=g.few;refine xI rfl (fS (vZ (by lia) (λ_ _=>trivial) λa ha=>?_));have ct0:dZ M (put M a (.dT [])) a []:=⟨Sub.new ha,ha,aP,(λ_ h=>nomatch h),Ee⟩;obtain⟨K,hK⟩:∃K,K=4*((row.length+1)*(row.length+1)):=⟨_,rfl⟩;refine G7 (λm f M'=>∃(L:Lo) (fl:Bool) (o:Option W×Option W×Option W×Option W×Option W×Option W×Option W×Option W×Option W×Option W),f=wf rs x a fl [o.1,o.2.1,o.2.2.1,o.2.2.2.1,o.2.2.2.2.1,o.2.2.2.2.2.1,o.2.2.2.2.2.2.1,o.2.2.2.2.2.2.2.1,o.2.2.2.2.2.2.2.2.1,o.2.2.2.2.2.2.2.2.2]/\dZ M M' a L/\jA row.length L/\(∀X b e,e∈bH L X b->P X b e)/\(fl=false->m8 rs row (bH L))/\m+gW L=K+(if fl=true then 1 else 0))
  ⟨K+1,[],true,(_,_,_,_,_,_,_,_,_,_),rfl,ct0,⟨Ee,λ_ h=>nomatch h⟩,(λ_ _ _ h=>nomatch h),(λh=>nomatch h),rfl⟩ ?_
 rintro m f M' ⟨L,fl,o,rfl,ct,ok,snd,hfix,hm⟩ D0 hD0;refine xI rfl (cI (λZ=>?_) λZ=>xI rfl ⟨_,Sub.refl _,r a M' L ct ok (hfix Z) snd⟩);rw[if_pos Z]at hm;obtain⟨E,hE⟩:∃E,E=bH L:=⟨_,rfl⟩;obtain⟨St,A⟩:∃St:Mm->Lo->Bool->(Nat->Int->Prop)->Prop,St=λM1 B H dn=>dZ M M1 a B/\jA row.length B/\(∀X b e,e∈bH B X b->P X b e)/\(H=false->bH B=E/\∀j ru,rs[j]? = some ru->∀b,dn j b->∀e∈gJ rs row E [b] ru.parts,e∈E ru.name b)/\gW L<=gW B/\(H=true->gW L<gW B):=⟨_,rfl⟩;refine xI rfl (pV rfl (fQ (λi f M1=>∃(B:Lo) (H:Bool) (o:Option W×Option W×Option W×Option W×Option W×Option W×Option W×Option W×Option W×Option W),f=wf rs x a H [o.1,o.2.1,o.2.2.1,o.2.2.2.1,o.2.2.2.2.1,o.2.2.2.2.2.1,o.2.2.2.2.2.2.1,o.2.2.2.2.2.2.2.1,o.2.2.2.2.2.2.2.2.1,o.2.2.2.2.2.2.2.2.2]/\St M1 B H (λj b=>j<i/\b∈b7 row.length)) ⟨L,false,(_,_,_,_,_,_,_,_,_,_),rfl,by rw[A];exact⟨ct,ok,snd,λ_=>⟨hE.symm,λj ru _ b hb=>absurd hb.1 (Kf _)⟩,Ai _,λh=>nomatch h⟩⟩ ?_ ?_))
 .rintro i w f M1 hi ⟨B,H,o,rfl,st⟩ D1 hD1;rw[Av]at hi;obtain⟨ru,hru,rfl⟩:=Bb.mp hi;have I:=Bh hru;have hp4:=g.fp I;have ct1:dZ M M1 a B:=by rw[A]at st;exact st.1
  refine⟨rfl,rfl,xI rfl (MH (MU hx ct1.sub) (xI rfl ⟨by lia,by lia,?_⟩))⟩;rw[show((row.length:Int)+1).toNat=row.length+1 by lia];refine fQ (λc f M2=>∃(L2:Lo) (U:Bool) (u:Option W×Option W×Option W×Option W×Option W×Option W×Option W),f=wf rs x a U (wg ru [u.1,u.2.1,u.2.2.1,u.2.2.2.1,u.2.2.2.2.1,u.2.2.2.2.2.1,u.2.2.2.2.2.2])/\St M2 L2 U (λj b=>(j<i/\b∈b7 row.length)\/(j=i/\0<=b/\b<c))) ⟨B,H,(_,_,_,_,_,_,_),rfl,?_⟩ ?_ ?_
  .rw[A]at st⊢;obtain⟨s1,s2,s3,V,s5⟩:=st;exact⟨s1,s2,s3,λz=>⟨(V z).1,λj ru N b hb=>(V z).2 j ru N b (hb.elim id λy=>by lia)⟩,s5⟩
  .rintro c w f M2 hc ⟨L2,U,u,rfl,st⟩ D2 hD2;obtain⟨hcn,rfl⟩:=nE hc;rw[Im];rw[A]at st;obtain⟨n,d,J,same2,cn2,cm2⟩:=st;have hb:(c:Int)∈b7 row.length:=eF.mpr ⟨by lia,by lia⟩;refine xI rfl ⟨z1,xI rfl (sL (fQ (λk f M3=>∃(O:List Int) (v:Option W×Option W×Option W),f=wf rs x a U (wg ru [some (.int (c:Int)),some (.rl (O.map W.int)),v.1,v.2.1,v.2.2,u.2.2.2.2.2.1,u.2.2.2.2.2.2])/\M3=M2/\qG rs row (bH L2) c (ru.parts.take k) O) ⟨[(c:Int)],(_,_,_),rfl,rfl,by simp,(λy=>Iff.rfl),λy s=>by rw[Ao.mp s];lia⟩ ?_ ?_))⟩
   .rintro k w f M3 hk ⟨O,v,rfl,rfl,C⟩ D3 hD3;rw[Av]at hk;obtain⟨t,ht,rfl⟩:=Bb.mp hk;have htm:=Bh ht;refine⟨Bk _,xI rfl (fS (fQ (λl f F=>∃(Y:Option W),f=wf rs x a U (wg ru [some (.int (c:Int)),some (.rl (O.map W.int)),some (.str t),some (.rl (((O.take l).flatMap (eY rs row (bH L2) t)).map W.int)),Y,u.2.2.2.2.2.1,u.2.2.2.2.2.2])/\F=M3) (xI rfl rfl) ?_ ?_))⟩
    .rintro l w f F hl ⟨Y,rfl,rfl⟩ D4 hD4;rw[Av]at hl;obtain⟨y,s,rfl⟩:=Bb.mp hl;have hy0:=C.pl y (Bh s);have S:(O.take (l+1)).flatMap (eY rs row (bH L2) t)=(O.take l).flatMap (eY rs row (bH L2) t)++eY rs row (bH L2) t y:=by rw[Eh,s,Ox];simp
     have e2:=M8 (t:=t) hn C d (l:=l+1);rw[S,Aj]at e2;refine xI rfl (xI rfl (xI rfl (xI rfl (xI rfl (xI rfl ⟨rs,row,x,M,a,L2,t,y,rfl,MU hx n.sub,n,hw,g.sp ru I t htm,hy0.1,hf,g.nm,a9.frz ⟨by rw[Ab,Ab];exact e2,hD4 _ _ ⟨some (.int y),?_,rfl⟩⟩⟩)))));rw[S,Bd];rfl
    .rintro f F ⟨Y,rfl,rfl⟩;rw[Ab,Cm];refine xI rfl ⟨_,b7 row.length,rfl,λy s=>?_,by rw[mE];lia,λms T h2 h3=>hD3 _ _ ⟨ms,(_,_,_),rfl,rfl,?_⟩⟩
     .obtain⟨z,hz,q⟩:=Cu.mp s;exact eF.mpr ((v7 d (C.pl z hz).1).2 y q)
     .rw[l8 ht];exact C.next d T h3
   .rintro f M3 ⟨O,v,rfl,rfl,C⟩;rw[Ab,Cm]at C;have hP:∀e∈O,P ru.name c e:=λe G=>hcl ru I c hb (bH L2) J e ((C.mem e).mp G);have hhl:=v9 C.nd C.pl;obtain⟨en1,en2⟩:=MY d ru.name c;have enl:=v9 en1 en2;have lL:L2.length<An:=dN (by
     have:=len_sub (b:=dA.flatMap λX=>(b7 row.length).map λb=>(X,b)) d.nd λy s=>by
      obtain⟨z,hz,rfl⟩:=Ax.mp s;obtain⟨_,_,T,h2,h3⟩:=d.en z hz;exact Cu.mpr ⟨_,T,Ax.mpr ⟨_,eF.mpr ⟨h2,h3⟩,rfl⟩⟩
     rw[jO (k:=row.length+1) (λX _=>by rw[Ab,mE]),Ab]at this;have:L2.length<=4*(row.length+1):=this;lia)
    have fin:∀(D:D3),(∀(L4:Lo) (f4:Bool) (F:Mm) (o13 Q:Option W),St F L4 f4 (λj b=>(j<i/\b∈b7 row.length)\/(j=i/\0<=b/\b<((c+1:Nat):Int)))->D.nx (wf rs x a f4 (wg ru [some (.int (c:Int)),some (.rl (O.map W.int)),v.1,v.2.1,v.2.2,o13,Q])) F)->∀(L9:Lo) (p:Addr) (F:Mm),dZ M F a (bB L9 (ru.name,(c:Int)) (p,bH L2 ru.name c))->jA row.length L9->bH L9=bH L2->(∀t',gW (bB L9 (ru.name,(c:Int)) (p,t'))+(bH L2 ru.name c).length=gW L2+t'.length)->
      (cY (b6 cT (aA 9)) (bA 14) (aL (aY 4 (tS (aA 4) (aH (L3.rIn true) (aA 14) (aA 13)))) (fY (vC (.bl true)) (gD (aA 13) (aA 14))))) D (wf rs x a U (wg ru [some (.int (c:Int)),some (.rl (O.map W.int)),v.1,v.2.1,v.2.2,some (.ref p),u.2.2.2.2.2.2])) F:=λD hD L9 p F ct4 t6 en3 cn3=>by
     refine zfI ct4 t6.nd en1 (by lia) λt' f' M5 Q ct5 n5 T h2 h3 h4 h5 h6=>hD (bB L9 (ru.name,(c:Int)) (p,t')) f' M5 _ _ ?_;rw[A];have hc3:=cn3 t';refine⟨ct5,t6.put (g.nm ru I) hb n5 λe G=>(T e G).elim (en2 e) (C.pl e),zfK (by rw[en3];exact J) λe G=>(T e G).elim (J _ _ e) (hP e),λz=>?_,by lia,λz=>?_⟩
     .obtain⟨z1,rfl⟩:=h4 z;obtain⟨y1,y2⟩:=same2 z1;refine⟨by rw[MW (by rw[en3]),en3,y1],λj rv N b hb=>?_⟩;rcases hb with hb|⟨rfl,hb0,hb1⟩
      .exact y2 j rv N b (.inl hb)
      .by_cases hbc:b=c
       .subst hbc;rw[hru]at N;cases N;intro e G;rw[<-y1]at G⊢;exact h3 e ((C.mem e).mpr G)
       .exact y2 j rv N b (.inr ⟨rfl,hb0,by lia⟩)
     .rcases h5 z with z|z
      .have:=cm2 z;lia
      .lia
    refine xI rfl ⟨l9 n.at_,xI rfl (xI rfl ⟨z2,λq hq=>⟨_,eK (ru.name,(c:Int)),(n.more hq).at_,rfl,by rw[Ab];exact lL,λw' hw'=>?_,λhn'=>?_⟩⟩)⟩
    .rw[(n.more (o:=.dK []) hq).look]at hw';obtain⟨y,s,rfl⟩:=Bb.mp hw';have S:bH L2 ru.name c=y.2:=by unfold bH;rw[s];rfl
     refine fin _ ?_ L2 y.1 _ ?_ d rfl λt'=>?_
     .exact λL4 f4 F o13 Q z=>hD2 _ _ ⟨L4,f4,(_,_,_,_,_,_,_),rfl,z⟩
     .rw[S,show((y.1,y.2):Addr×List Int)=y from rfl,MS d.nd s];exact n.more hq
     .rw[S];exact MX d.nd s
    .rw[(n.more (o:=.dK []) hq).look]at hn';have s:aD L2 (ru.name,(c:Int))=none:=Option.map_eq_none_iff.mp hn';have S:bH L2 ru.name c=[]:=by unfold bH;rw[s];rfl
     refine fin _ ?_ (bB L2 (ru.name,(c:Int)) (q,[])) q _ ?_ (d.put (g.nm ru I) hb Ee λ_ h=>nomatch h) (MW S) λt'=>?_
     .exact λL4 f4 F o13 Q z=>hD2 _ _ ⟨L4,f4,(_,_,_,_,_,_,_),rfl,z⟩
     .rw[S,v5];exact n.add s hq
     .rw[S,v5];have:=MX (t':=t') (p9 (k:=(ru.name,(c:Int))) (v:=(q,([]:List Int))) d.nd) (by rw[fJ,if_pos rfl]);rwa [v5,zfF s]at this
  .rintro f M2 ⟨L2,U,u,rfl,st⟩;refine hD1 _ _ ⟨L2,U,(_,_,_,_,_,_,_,_,_,_),rfl,?_⟩;rw[nF]at st;rw[A]at st⊢;obtain⟨s1,s2,s3,V,s5⟩:=st;refine⟨s1,s2,s3,λz=>⟨(V z).1,λj ru N b hb=>(V z).2 j ru N b ?_⟩,s5⟩;obtain⟨T,h2⟩:=eF.mp hb.2
   by_cases h:j<i
   .exact .inl ⟨h,hb.2⟩
   .exact .inr ⟨by have:=hb.1;lia,T,by lia⟩
 .rintro f M1 ⟨B,H,o,rfl,st⟩;rw[A]at st;obtain⟨s1,s2,s3,V,s5,s6⟩:=st;have hc:=zfG s2;rw[<-hK]at hc;refine hD0 (K+(if H=true then 1 else 0)-gW B) _ _ ?_ ⟨B,H,(_,_,_,_,_,_,_,_,_,_),rfl,s1,s2,s3,λz=>?_,by lia⟩
  .cases H with
   | true=>have:=s6 rfl;simp only[if_pos];lia
   | false=>simp only[De,if_false];lia
  .obtain⟨y1,y2⟩:=V z;intro ru C b hb e G;obtain⟨j,N⟩:=List.getElem?_of_mem C;rw[y1]at G⊢;exact y2 j ru N b ⟨by rw[Ab];exact(Ak.mp N).1,hb⟩ e G
def zfM(xs:List Int):(xs.map W.int).all fD=true:=by
 rw[List.all_map];exact Kz.mpr λ_ _=>rfl
def zfN{x:Int}{xs:List Int}:inW (.int x) (xs.map W.int)=decide (x∈xs):=by
 unfold inW;rw[List.any_map,Ex,Jq,decide_eq_true_eq];exact⟨λ⟨y,h,e⟩=>(eq_of_beq (show(y==x)=true from e))▸h,λh=>⟨x,h,beq_self_eq_true x⟩⟩
section
variable (rs:List aM)(row:List Str)(T:LT)(E:Str->Int->List Int)(D:DO)(ps:List Str)(b:Int)
def M9(k:Nat)(v:Int):Prop:=(row.length:Int)∈gJ rs row E [b] (ps.take k)/\i8 rs T (ps.drop k)=some v
def NA(k:Nat)(v:Int):Prop:=∃t a w l,ps[k]? = some t/\a∈gJ rs row E [b] (ps.take k)/\aD D (t,a)=some w/\i8 rs T (ps.drop (k+1))=some l/\v=w+l
def wA(k:Nat)(v:Int):Prop:=∃j,j<k/\(M9 rs row T E ps b j v\/NA rs row T E D ps b j v)
end
def NB(D:DO)(t:Str):W->Option W
 | .int y=>(aD D (t,y)).map W.int
 | _=>none
def NC(l:Int):W->W
 | .int y=>.int (y+l)
 | _=>.non
def zfO(D:DO)(t:Str)(a:List Int):(a.map W.int).filterMap (NB D t)=(a.filterMap λy=>aD D (t,y)).map W.int:=by
 rw[Ij,List.map_filterMap];rfl
def ND(ps:List Str)(k:Nat):d5 (ps.map W.str) (some (k:Int)) none=(ps.drop k).map W.str:=by rw[W6 (by lia),Ci,List.map_drop]
def NF:aI:=aL (aY 14 (eT aE)) (aL (cY (b6 cT (aA 9)) (bA 15) (aY 14 (aH cJ (aA 14) (cB (bK vX (aB (aA 1) (aB (aA 3) (aB (aA 7) (aB (aH L3.aW (aA 5) (aA 10)) (aB (aA 15) aE)))))))))) (aY 9 (vT (aA 14))))
def zfP:aI:=dJ (bO (aH nX (aA 10) (bJ cC (aB (aA 5) aE))))
 (aL (aY 12 (bK vY (aB (aA 0) (aB (aA 2) (aB (vV (aA 5) (nZ (aH cJ (aA 10) (vC (.int 1)))) nY) aE)))))
 (aL (dJ (bO (aH (lV true) (aA 12) (vC .non)))
  (aL (aY 13 (cB (eE (b6 cT (aA 9)) (bA 0) (bO (aH (L3.rIn false) (b5 (aB (aH L3.aW (aA 2) (aA 3)) (aB (aA 0) aE))) (aA 1))) (aH L3.aW (aA 1) (b5 (aB (aH L3.aW (aA 2) (aA 3)) (aB (aA 0) aE)))) [none,some 4,some 5,some 10])))
  (aY 8 (aH L3.qX (aA 8) (cB (eE (b6 cT (aA 13)) (bA 0) fP (aH cJ (aA 0) (aA 1)) [none,some 12])))))
  eA) NF)) eA
abbrev wl(rs:List aM)(row:List Str)(T:LT)(a m:Addr)(ps:List Str)(b:Int)(f:Addr)(c:List Int)(l:S3):S3:=some (b9 rs)::some (jT row)::some (.dk (gV T))::some (.ref a)::some (.ref m)::some (.tup (ps.map W.str))::some (.int b)::some (nK rs)::some (.ref f)::some (.rl (c.map W.int))::l
def zfQ{ws:List W}{M:Mm}{R:K3}(h:L7 ws M R):zeY (bS R) (bZ zeR ws) M:=by
 obtain⟨rs,row,T,M0,a,m,L,D,ps,b,rfl,g,w,ct,ok,mm,hl,hp,hb,r⟩:=h;have hf:=g.few;have hr6:=w.few;refine xI rfl (fS (vZ (by lia) (λ_ _=>trivial) ⟨Bk _,λf hf=>xI rfl ⟨z1,xI rfl (xI rfl ⟨?_,?_,?_⟩)⟩⟩))
 .rw[Ab];lia
 .rw[Ab];lia
 rw[Ab,show((ps.length:Int)+1).toNat=ps.length+1 by lia];obtain⟨E,hE⟩:∃E,E=bH L:=⟨_,rfl⟩;have hb':=eF.mp hb;refine fQ (λk U V=>∃(fs s:List Int) (f:Addr) (o:Option W×Option W×Option W×Option W×Option W×Option W),U=wl rs row T a m ps b f s [o.1,o.2.1,o.2.2.1,o.2.2.2.1,o.2.2.2.2.1,o.2.2.2.2.2]/\L3.Sub M V/\M f=none/\V f=some (.lst (fs.map W.int))/\(∀v,v∈fs↔wA rs row T (bH L) D ps b k v)/\fs.length<=8*k/\(k<=ps.length->qG rs row (bH L) b (ps.take k) s))
  ⟨[],[b],f,(_,_,_,_,_,_),rfl,Sub.new hf,hf,aP,(λv=>⟨(λz=>nomatch z),λ⟨j,S,_⟩=>absurd S (Kf _)⟩),Bk _,λ_=>⟨by simp,(λy=>Iff.rfl),λy B=>by rw[Ao.mp B];exact hb'⟩⟩ ?_ ?_
 .rintro k x U V H ⟨fs,s,f,o,rfl,sub,c,F,hc,I,i⟩ D1 hD1;obtain⟨hk,rfl⟩:=nE H;rw[Im];have i:=i (by lia);have ct1:dZ M0 V a L:=⟨ct.sub.trans sub,ct.new,sub _ _ ct.at_,λx H=>⟨(ct.inn x H).1,(ct.inn x H).2.1,sub _ _ (ct.inn x H).2.2⟩,ct.inj⟩;refine xI rfl (xI rfl (xI rfl (xI rfl (xI rfl ⟨rs,T,ps.drop k,by rw[<-ND],g,by rw[Ft];lia,λt ht=>hp t (Ji ht),?_⟩))));have hhl:=v9 i.nd i.pl;have ctS:∀{d},L3.Sub M d->dZ M0 d a L:=λ{d} sub=>⟨ct.sub.trans sub,ct.new,sub _ _ ct.at_,λx H=>⟨(ct.inn x H).1,(ct.inn x H).2.1,sub _ _ (ct.inn x H).2.2⟩,ct.inj⟩
  have fin:∀(t:Str),ps[k]? = some t->∀(fs:List Int) (f:Addr) (d:Mm) (n Q X Z A:Option W),L3.Sub M d->M f=none->d f=some (.lst (fs.map W.int))->(∀v,v∈fs↔wA rs row T (bH L) D ps b (k+1) v)->fs.length<=8*(k+1)->
    NF D1 (wl rs row T a m ps b f s [some (.int (k:Int)),n,Q,X,Z,A]) d:=λt ht fs f d n Q X Z A sub c F hc I=>by
   have at_:bW (ps.map W.str) (k:Int)=some (.str t):=fW (by rw[Av,ht];rfl);refine⟨Bk _,xI rfl (fS (fQ (λl U M4=>∃(A:Option W),U=wl rs row T a m ps b f s [some (.int (k:Int)),n,Q,X,some (.rl (((s.take l).flatMap (eY rs row (bH L) t)).map W.int)),A]/\M4=d) (xI rfl rfl) ?_ ?_))⟩
   .rintro l w' U M4 hl ⟨A,rfl,rfl⟩ D2 hD2;rw[Av]at hl;obtain⟨y,B,rfl⟩:=Bb.mp hl;have hy0:=i.pl y (Bh B);have e1:(s.take (l+1)).flatMap (eY rs row (bH L) t)=(s.take l).flatMap (eY rs row (bH L) t)++eY rs row (bH L) t y:=by rw[Eh,B,Ox];simp
    have Y:=M8 (t:=t) (by lia) i ok (l:=l+1);rw[e1,Aj]at Y;refine xI rfl (xI rfl (xI rfl (xI rfl (xI rfl (xI rfl ⟨_,at_,xI rfl ⟨rs,row,_,M0,a,L,t,y,rfl,.inl rfl,ctS sub,w.wd,hp t (Bh ht),hy0.1,g.few,g.nm,a9.frz ⟨by rw[Ab,Ab];exact Y,hD2 _ _ ⟨some (.int y),?_,rfl⟩⟩⟩⟩)))));rw[e1,Bd];rfl
   .rintro U M4 ⟨A,rfl,rfl⟩;rw[Ab,Cm];refine xI rfl ⟨_,b7 row.length,rfl,λy B=>?_,by rw[mE];lia,λms N h2 h3=>?_⟩
    .obtain⟨z,hz,q⟩:=Cu.mp B;exact eF.mpr ((v7 ok (i.pl z hz).1).2 y q)
    .exact hD1 _ _ ⟨fs,ms,f,(_,_,_,_,_,_),rfl,sub,c,F,hc,I,λ_=>by rw[l8 ht];exact i.next ok N h3⟩
  have G:∀(fs:List Int) (d:Mm) (n:Option W),L3.Sub M d->d f=some (.lst (fs.map W.int))->(∀v,v∈fs↔wA rs row T (bH L) D ps b k v\/M9 rs row T (bH L) ps b k v)->fs.length<=8*k+1->
    zfP D1 (wl rs row T a m ps b f s [some (.int (k:Int)),n,o.2.2.1,o.2.2.2.1,o.2.2.2.2.1,o.2.2.2.2.2]) d:=λfs d n sub F hc I=>by
   have up:(∀v,¬NA rs row T (bH L) D ps b k v)->∀v,v∈fs↔wA rs row T (bH L) D ps b (k+1) v:=λnb v=>(hc v).trans ⟨λz=>z.elim (λ⟨j,S,z⟩=>⟨j,by lia,z⟩) λz=>⟨k,Fv _,.inl z⟩,λ⟨j,S,z⟩=>by
    by_cases O:j=k
    .subst O;exact z.elim .inr λq=>absurd q (nb v)
    .exact .inl ⟨j,by lia,z⟩⟩
   refine xI rfl (xI rfl (xI rfl (cI (λz=>?_) λz=>?_)))
   .have z:=of_decide_eq_true z;rw[Ab]at z;have hkl:k<ps.length:=by lia
    obtain⟨t,ht⟩:∃t,ps[k]? = some t:=⟨_,Bf hkl⟩;have at_:bW (ps.map W.str) (k:Int)=some (.str t):=fW (by rw[Av,ht];rfl);refine xI rfl (xI rfl (xI rfl (xI rfl (xI rfl ⟨rs,T,ps.drop (k+1),by rw[<-ND];rfl,g,by rw[Ft];lia,λt ht=>hp t (Ji ht),?_⟩))));cases e:i8 rs T (ps.drop (k+1)) with
    | none=>exact⟨_,rfl,_,rfl,fin t ht fs f d _ _ _ _ _ sub c F (up λv ⟨_,_,_,_,_,_,_,q,_⟩=>by rw[e]at q;cases q) (by lia)⟩
    | some l=>
     have mm2:=sub _ _ mm;refine xI rfl (xI rfl (xI rfl (fS (t9 (rest:=[some (.ref m),some (.tup (ps.map W.str)),some (.int (k:Int))]) (NB D t) (gE (by rw[Ab];lia)) (λ_ _=>trivial) (λw' P M3 C D' sb N h2=>?_) (a9.frz ?_)))))
     .obtain⟨y,B,rfl⟩:=Ax.mp P;have mm3:=sb _ _ mm2;refine xI rfl (xI rfl ⟨_,at_,xI rfl ⟨z2,xI rfl (.inr ⟨_,.inr ⟨_,eK (t,y),mm3,rfl,rfl⟩,xI rfl ?_⟩)⟩⟩);rw[iI i7,Hn];cases Y:aD D (t,y) with
      | none=>exact h2 (show(aD D (t,y)).map W.int=none by rw[Y];rfl)
      | some v=>exact⟨_,rfl,_,rfl,_,rfl,_,at_,_,rfl,z2,mZ (k:=eK (t,y)) mm3 (by rw[iI i7,Y];rfl) (N _ (show(aD D (t,y)).map W.int=_ by rw[Y];rfl))⟩
     .rw[zfO];obtain⟨so,J⟩:∃so,so=s.filterMap λy=>aD D (t,y):=⟨_,rfl⟩;have hsl:so.length<=7:=by rw[J];exact Ar (Mu _ _) (by lia)
      rw[<-J];refine xI rfl (xI rfl (fS (rM (rest:=[some (.int l)]) (NC l) (gE (by rw[Ab];lia)) (λ_ _=>trivial) (λw' P M3 C sb N=>?_) (a9.frz ⟨_,F,gE (by rw[Ab,Ab,Ab];lia),λf2 hf2=>?_⟩))))
      .obtain⟨y,B,rfl⟩:=Ax.mp P;exact xI rfl (xI rfl N)
      .have e3:fs.map W.int++(so.map W.int).map (NC l)=(fs++so.map (· + l)).map W.int:=by rw[Bd,Ca,Ca];rfl
       rw[e3];have hM2:M f2=none:=sub.non hf2;refine fin t ht (fs++so.map (· + l)) f2 _ _ _ _ _ _ (sub.trans (Sub.new hf2)) hM2 aP (λv=>?_) (by rw[Aj,Ab];lia);rw[Bi,hc];constructor
       .rintro((⟨j,S,z⟩|z)|z)
        .exact⟨j,by lia,z⟩
        .exact⟨k,Fv _,.inl z⟩
        .obtain⟨u,K,rfl⟩:=Ax.mp z;rw[J]at K;obtain⟨y,B,K⟩:=Hl.mp K;exact⟨k,Fv _,.inr ⟨t,y,u,l,ht,(i.mem y).mp B,K,e,rfl⟩⟩
       .rintro⟨j,S,zz⟩
        by_cases O:j=k
        .subst O;rcases zz with zz|⟨t',y,u,l',ht',B,K,e',rfl⟩
         .exact .inl (.inr zz)
         .obtain rfl:=Bz (ht.symm.trans ht');obtain rfl:=Bz (e.symm.trans e');exact .inr (Ax.mpr ⟨u,by rw[J];exact Hl.mpr ⟨y,(i.mem y).mpr B,K⟩,rfl⟩)
        .exact .inl (.inl ⟨j,by lia,zz⟩)
   .have z:=of_decide_eq_false z;rw[Ab]at z;refine hD1 _ _ ⟨fs,s,f,(_,_,_,_,_,_),rfl,sub,c,F,up (λv ⟨_,_,_,_,q,_⟩=>?_),by lia,λy=>absurd y (by lia)⟩;have:=(Ak.mp q).1;lia
  refine xI rfl (xI rfl ⟨rfl,zfM _,xI rfl ?_⟩);show if inW (.int ((row.map W.str).length:Nat)) (s.map W.int)=true then _ else _;rw[Ab,zfN];refine cI (λz=>xI rfl ?_) λz=>?_
  .have z:=(i.mem _).mp (of_decide_eq_true z);cases e:i8 rs T (ps.drop k) with
   | none=>exact⟨_,rfl,G fs V _ sub F (λv=>(hc v).trans ⟨.inl,λq=>q.elim id λq=>by have:=q.2;rw[e]at this;cases this⟩) (by lia)⟩
   | some v=>
    refine xI rfl (xI rfl ⟨eN F,xI rfl ⟨_,F,dN (by rw[Ab];lia),?_⟩⟩);refine G (fs++[v]) _ _ (eX sub c) (by rw[aP,Bd];rfl) (λu=>?_) (by rw[Aj,Bq];lia);rw[Bi,hc,Ao];exact⟨λq=>q.imp id λq=>by rw[q];exact⟨z,e⟩,λq=>q.imp id λq=>by have:=q.2;rw[e]at this;exact(Bz this).symm⟩
  .have z:=of_decide_eq_false z;exact G fs V _ sub F (λv=>(hc v).trans ⟨.inl,λq=>q.elim id λq=>absurd ((i.mem _).mpr q.1) z⟩) (by lia)
 .rintro U V ⟨fs,s,f,o,rfl,sub,c,F,hc,I,i⟩;rw[nF]at hc;have hc:∀v,v∈fs↔m9 rs row T (bH L) D ps b v:=λv=>(hc v).trans ⟨λ⟨j,S,z⟩=>⟨j,by lia,z⟩,λ⟨j,S,z⟩=>⟨j,by lia,z⟩⟩;refine xI rfl (.inl ⟨_,F,fs,rfl,λz=>⟨_,λp o e=>?_,r none λv hv=>?_⟩,λv N h2=>⟨_,λp o e=>?_,r (some v) ⟨(hc v).mp N,λu K=>h2 u ((hc u).mpr K)⟩⟩⟩)
  .rw[nU (λq=>by rw[q,c]at e;cases e)];exact sub p o e
  .have:=(hc v).mpr hv;rw[z]at this;cases this
  .rw[nU (λq=>by rw[q,c]at e;cases e)];exact sub p o e
def zfR:(o.map W.int).getD .non=vW o:=by cases o<;>rfl
structure jY(rs:List aM)(row:List Str)(i:Nat)(dn:Nat->Int->Prop)(D:DO):Prop where
 nd:(D.map (·.1)).Nodup
 ky:∀x∈D,x.1.1∈dA/\x.1.2∈b7 row.length
 al:∀us B,jS rs us->gR (bD rs row us) B->sJ rs row us D/\kK rs row B i (λ_ _=>True) D/\kK rs row B (i+1) dn D
def jY.few{i:Nat}{dn:Nat->Int->Prop}(h:jY rs row i dn D)(w:nJ row):D.length<=28:=by
 have:=len_sub (b:=dA.flatMap λX=>(b7 row.length).map λb=>(X,b)) h.nd λy a=>by
  obtain⟨z,hz,rfl⟩:=Ax.mp a;obtain⟨c,d⟩:=h.ky z hz;exact Cu.mpr ⟨_,c,Ax.mpr ⟨_,d,rfl⟩⟩
 rw[jO (k:=row.length+1) (λX _=>by rw[Ab,mE]),Ab]at this;have:D.length<=4*(row.length+1):=this;have:=w.few;lia
def jY.imp{i:Nat}{dn dn':Nat->Int->Prop}(h:jY rs row i dn D)(hd:∀n c,dn' n c->dn n c):jY rs row i dn' D:=
 ⟨h.nd,h.ky,λus B b d=>let ⟨h1,h2,h3⟩:=h.al us B b d;⟨h1,h2,λpre e a hb hz hk f=>h3 pre e a hb hz hk (hd _ _ f)⟩⟩
def jY.put{i q:Nat}{dn:Nat->Int->Prop}{b:Int}(g:gU rs)(h:jY rs row i dn D)(s:m8 rs row (bH L))(j:∀X b e,e∈bH L X b->∀us,jS rs us->Cs (bD rs row us) (X,b,e) 0)(o:rs[q]? = some ru)(hb:b∈b7 row.length)(l:p8 (m9 rs row (lC rs) (bH L) D ru.parts b) m):
  jY rs row i (λn c=>dn n c\/(n=q/\c=b)) (oK D (ru.name,b) m):=by
 have a:=Bh o;refine⟨?_,?_,λus B f k=>?_⟩
 .cases m with
  | none=>exact h.nd
  | some v=>exact p9 h.nd
 .cases m with
  | none=>exact h.ky
  | some v=>
   intro x d;rcases sP d with rfl|⟨d,_⟩
   .exact⟨g.nm ru a,hb⟩
   .exact h.ky x d
 .obtain⟨t,p,u⟩:=h.al us B f k;exact⟨t.put f (fL.rounds rs _) (λX b e r=>j X b e r us f) a hb l,p.put,kK.hit k s p u o l⟩
abbrev wm(rs:List aM)(row:List Str)(a m:Addr)(l:S3):S3:=some (b9 rs)::some (jT row)::some (.dk (gV (lC rs)))::some (.ref a)::some (.ref m)::l
def zfS(h:L8 ws M R):ze6 (bS R) (bZ zeZ ws) M:=by
 obtain⟨q,qs,row,rfl,g,w,r⟩:=h;obtain⟨rs,C⟩:∃rs,rs=q::qs:=⟨_,rfl⟩;have e0:bW (rs.map eV) 0=some (eV q):=by rw[C];exact fW (j:=0) rfl
 rw[<-C]at g r⊢;have T:(rs.length:Int)*((row.length:Int)+1)=((rs.length*(row.length+1):Nat):Int):=by rw[Int.natCast_mul];rfl
 have hf:=g.few;have hr6:=w.few;refine xI rfl ⟨rs,rfl,g,oY.frz (xI rfl (xI rfl ⟨rs,row,_,λX b e=>∀us,jS rs us->Cs (bD rs row us) (X,b,e) 0,rfl,g,.inl rfl,by lia,w.wd,λru S b hb E hE e he us s=>zbR ru S b hb E (λX b e h=>hE X b e h us s) e he,λa A L ct ok Z V=>?_⟩))⟩;intro m hm;have J:∀{o},dZ M (put A m o) a L:=λ{o}=>ct.more hm;have d0:jY rs row 0 (λ_ _=>False) []:=⟨Ee,(λ_ h=>nomatch h),λus B s t=>⟨⟨Ee,λ_ _ _ h=>nomatch h⟩,(λ_ _ _ _ _ h=>absurd h (Kf _)),λ_ _ _ _ _ _ h=>h.elim⟩⟩;refine xI rfl (xI rfl ⟨.inl (.inl ⟨by lia,by rw[Ab];lia⟩),xI rfl ⟨?_,?_,?_⟩⟩)
 .rw[Ab,Ab,T];lia
 .have:=Ig hf (show row.length+1<=7 by lia);rw[Ab,Ab,T];lia
 rw[Ab,Ab,show((rs.length:Int)*((row.length:Int)+1)+1).toNat=rs.length*(row.length+1)+1 by rw[T];lia];refine fQ (λi l p=>∃(D:DO) (o:Option W×Option W×Option W×Option W×Option W×Option W),l=wm rs row a m [o.1,o.2.1,o.2.2.1,o.2.2.2.1,o.2.2.2.2.1,o.2.2.2.2.2]/\p=put A m (.dT (dD D))/\jY rs row i (λ_ _=>False) D) ⟨[],(_,_,_,_,_,_),rfl,rfl,d0⟩ ?_ ?_
 .rintro i x l p hx ⟨D,o,rfl,rfl,d⟩ D1 Q;refine xI rfl (pV rfl (fQ (λj l p=>∃(D:DO) (o:Option W×Option W×Option W×Option W×Option W),l=wm rs row a m [some x,o.1,o.2.1,o.2.2.1,o.2.2.2.1,o.2.2.2.2]/\p=put A m (.dT (dD D))/\jY rs row i (λn c=>n<j/\c∈b7 row.length) D) ⟨D,(_,_,_,_,_),rfl,rfl,d.imp λn c z=>absurd z.1 (Kf _)⟩ ?_ ?_))
  .rintro j y l p O ⟨D,o,rfl,rfl,d⟩ D2 U;rw[Av]at O;obtain⟨ru,I,rfl⟩:=Bb.mp O;have F:=Bh I;refine⟨rfl,rfl,xI rfl (xI rfl ⟨by lia,by rw[Ab];lia,?_⟩)⟩;rw[Ab,show((row.length:Int)+1).toNat=row.length+1 by lia];refine fQ (λc l p=>∃(D:DO) (Y u:Option W),l=wm rs row a m (some x::wg ru [Y,u])/\p=put A m (.dT (dD D))/\jY rs row i (λn b=>(n<j/\b∈b7 row.length)\/(n=j/\0<=b/\b<c)) D) ⟨D,_,xI rfl ⟨rfl,d.imp λn b z=>z.elim id λy=>by lia⟩⟩ ?_ ?_
   .rintro c y l p O ⟨D,Y,u,rfl,rfl,d⟩ D3 H;obtain⟨hc,rfl⟩:=nE O;rw[Im];have hb:(c:Int)∈b7 row.length:=eF.mpr ⟨by lia,by lia⟩;refine xI rfl (xI rfl (xI rfl (xI rfl (xI rfl (xI rfl (xI rfl ⟨rs,row,lC rs,M,a,m,L,D,ru.parts,c,rfl,g,w,J,ok,aP,g.fp F,g.sp ru F,hb,λo ho=>?_⟩))))));have N:=(d.put g Z V I hb ho).imp (dn':=λn b=>(n<j/\b∈b7 row.length)\/(n=j/\0<=b/\b<((c+1:Nat):Int))) λn b z=>by
     rcases z with z|⟨z1,z2,z3⟩
     .exact .inl (.inl z)
     .by_cases h:b=c
      .exact .inr ⟨z1,h⟩
      .exact .inl (.inr ⟨z1,z2,by lia⟩)
    cases o with
    | none=>exact⟨_,rfl,_,rfl,H _ _ ⟨D,_,_,rfl,rfl,N⟩⟩
    | some v=>
     refine xI rfl (xI rfl (xI rfl (xI rfl ⟨l9 aP,xI rfl (xI rfl ⟨z2,xI rfl ⟨_,.inr ⟨_,eK (ru.name,(c:Int)),aP,rfl,rfl⟩,?_⟩⟩)⟩)));have e:(a0 (dD D) (eK (ru.name,(c:Int)))).getD (.int v)=.int ((aD D (ru.name,(c:Int))).getD v):=by rw[iI i7];cases aD D (ru.name,(c:Int))<;>rfl
     show rH [.int v,(a0 (dD D) (eK (ru.name,(c:Int)))).getD (.int v)] _ _;rw[e];refine xI rfl (xI rfl (xI rfl ⟨z2,oB (k:=eK (ru.name,(c:Int))) aP (by rw[Ab];exact dN (by have:=d.few w;lia)) (H _ _ ⟨_,_,xI rfl ⟨?_,N⟩⟩)⟩));rw[gB];exact congrArg (λz=>put A m (.dT z)) (pW (f:=W.int) i7 D (ru.name,(c:Int)) _)
   .rintro l p ⟨D,Y,u,rfl,rfl,d⟩;rw[nF]at d;refine U _ _ ⟨D,(_,_,_,_,_),rfl,rfl,d.imp λn b z=>?_⟩;obtain⟨P,h2⟩:=eF.mp z.2
    by_cases h:n<j
    .exact .inl ⟨h,z.2⟩
    .exact .inr ⟨by have:=z.1;lia,P,by lia⟩
  .rintro l p ⟨D,o,rfl,rfl,d⟩;rw[Ab]at d;refine Q _ _ ⟨D,(_,_,_,_,_,_),rfl,rfl,d.nd,d.ky,λus B s t=>?_⟩;obtain⟨P,h2,h3⟩:=d.al us B s t;refine⟨P,λpre e K hb hz hk _=>h3 pre e K hb hz hk ?_,λ_ _ _ _ _ _ h=>h.elim⟩;obtain⟨ru,S,_,hp,_⟩:=sF (G:=bD rs row us) (λ_=>rfl) t hb;exact⟨(Ak.mp S).1,hp⟩
 .rintro l p ⟨D,o,rfl,rfl,d⟩;rw[nF]at d;refine xI rfl ⟨l9 aP,xI rfl ⟨_,e0,xI rfl ⟨z2,_,.inr ⟨_,eK (q.name,0),aP,rfl,rfl⟩,M,(J (o:=.dT (dD D))).sub,?_⟩⟩⟩;rw[iI i7,zfR];exact r _ λus B s t=>zb6 t (d.al us B s t).1 (d.al us B s t).2.1 q.name 0
def zfT(a:List Str):sO (fM a []) (jU a):=by
 intro t p;rw[zcq];unfold fM sD
 by_cases b:p=a.length
 .rw[if_pos b,if_neg (λh=>by have:=(Ak.mp h.2).1;lia)];exact .inl ⟨rfl,rfl⟩
 .rw[if_neg b]
  by_cases h:0<=p/\a[p.toNat]? = some t
  .right;rw[if_pos h,if_pos h];rfl
  .left;rw[if_neg h,if_neg h];exact⟨rfl,rfl⟩
def zfU(h:sO (fM a us) kvs):sO (fM a (us++[t])) (bQ kvs (eK (t,(a.length:Int))) (.rl [.tup [.int a.length,.int 1]])):=by
 intro u p;have e:a0 (bQ kvs (eK (t,(a.length:Int))) (.rl [.tup [.int a.length,.int 1]])) (eK (u,p))=if eK (t,(a.length:Int))=eK (u,p) then some (.rl [.tup [.int a.length,.int 1]]) else a0 kvs (eK (u,p)):=fJ kvs _ _ _;rw[e]
 by_cases hk:eK (t,(a.length:Int))=eK (u,p)
 .rw[if_pos hk];cases i7 _ _ hk;refine .inr ?_;unfold fM;rw[if_pos rfl,if_pos (Cg _ (Ef _))];rfl
 .rw[if_neg hk];have:fM a (us++[t]) u p=fM a us u p:=by
   unfold fM;split
   .rename_i b;have:u≠t:=λz=>hk (by rw[z,b]);simp[this]
   .rfl
  rw[this];exact h u p
def zfV(h:LX ws M R):zdS (bS R) (bZ zdN ws) M:=by
 obtain⟨rs,a,rfl,g,w,r⟩:=h;have hf:=g.few;have o:=w.few;refine xI rfl ⟨a,rfl,by lia,λp m=>xI rfl ⟨rs,dA++eI,rfl,by lia,by decide,λq l t ht _=>Bi.mpr (g.sp q l t ht),λb n nd s=>fS ?_⟩⟩;have j:b.length<=9:=len_sub nd s;refine mW (λi d c=>∃(kvs:List (List aF×W)) (e:Option W),d=[some (b9 rs),some (jT a),some (.ref p),e]/\c=put M p (.dT kvs)/\sO (fM a (b.take i)) kvs/\kvs.length<=6+i) ⟨jU a,xI rfl ⟨rfl,zfT a,by unfold jU;rw[Ab,List.length_zipIdx];lia⟩⟩ ?_ ?_
 .rintro i x d c f ⟨kvs,e,rfl,rfl,st,hl⟩;rw[Av]at f;obtain⟨t,ht,rfl⟩:=Bb.mp f;have hi:=(Ak.mp ht).1;refine xI rfl ⟨z2,z1,xI rfl (xI rfl (xI rfl ⟨z2,oB (k:=eK (t,((a.map W.str).length:Int))) aP (dN (by lia)) ⟨_,Sub.refl _,_,xI rfl ⟨by rw[gB],?_,?_⟩⟩⟩))⟩
  .rw[Ab,l8 ht];exact zfU st
  .exact Ar (rR kvs _ _) (by lia)
 .rintro d c ⟨kvs,e,rfl,rfl,st,hl⟩;rw[Ab,Cm]at st;exact xI rfl ⟨_,Sub.refl _,r b kvs n (by lia) st p m⟩
def zfW(g:gU rs):rW (bD rs d us) (b7 d.length) rs.length 5:=by
 refine⟨λp h=>h,λt p e c i f=>?_,Ai _,λr j=>Nat.succ_le_succ (g.fp j)⟩;obtain⟨a,b⟩:=eF.mp i;have q:=(nA a b f).1;exact eF.mpr ⟨Fh q.lo q.le,q.hi⟩
def zfX:pO (bD rs a us):=by
 refine⟨λn=>Em _,λt p e c h=>?_⟩;have h:(e,c)∈fM a us t p:=h;unfold fM at h;split at h
 .split at h
  .cases Ao.mp h;decide
  .cases h
 .rw[(zR.mp h).2.2.2];exact Em _
def zfY(g:gU rs)(w:nJ a)(c:gR (bD rs a us) B):Wb (bD rs a us) B:=by
 refine⟨λt=>rfl,Ar g.few (by decide),JZ c,?_,λr h=>Ar (g.fp h) (by decide)⟩;have:=len_sub (b:=(namesOf rs).flatMap λX=>(b7 a.length).flatMap λb=>(b7 a.length).map λe=>(X,b,e)) (JY c) λf hf=>by
  obtain⟨_,_,k⟩:=sI c hf;exact Cu.mpr ⟨f.1,vG c hf,Cu.mpr ⟨f.2.1,eF.mpr ⟨k.lo,Fh k.le k.hi⟩,Ax.mpr ⟨f.2.2,eF.mpr ⟨Fh k.lo k.le,k.hi⟩,rfl⟩⟩⟩
 rw[Ab,jO (k:=(a.length+1)*(a.length+1)) λX _=>by rw[jO (k:=a.length+1) λb _=>by rw[Ab,mE],mE]]at this;have d:a.length+1<=7:=by have:=w.few;lia
 have i:=Ig (Ar (sG rs) g.few) (Ig d d);lia
def NG(g:gU rs)(w:nJ a)(d:gR (bD rs a us) B)(h:aD B f=some x):(yT (bD rs a us) B f).length<=3980:=by
 have q:=nB d h;obtain⟨z,hz,e⟩:=q.y;have j:=w.few;have p:(i9 a f.2.1 f.2.2).length<=6:=by unfold i9;rw[Cb,Ft];lia
 rw[e,Aj]
 by_cases hl:f.2.2<a.length
 .have:=q.z hl;lia
 .obtain⟨X,b,o⟩:=f;have n:o=a.length:=by have:=q.hi;simp only at this hl;lia
  subst n;have:x.1.1<=3969:=by
   rcases g.kd with⟨c,i⟩|⟨c,i⟩
   .have k:=KA d (m:=2) c (L:=3 ^ 4) (by decide) (λh=>J9 d c (by decide) i h) i h;have:=Ek (2*3 ^ 4) (Oy 4 j);refine Fh k ?_;have l:3 ^ 4+4*a.length*(2*3 ^ 4)<=3 ^ 4+4*6*(2*3 ^ 4):=Hy this _;exact Fh (Int.ofNat_le.mpr l) (by decide)
   .have k:=KA d (m:=3) c (L:=4 ^ 3) (by decide) (λh=>J9 d c (by decide) i h) i h;have:=Ek (3*4 ^ 3) (Oy 3 j);have l:4 ^ 3+3*a.length*(3*4 ^ 3)<=4 ^ 3+3*6*(3*4 ^ 3):=Hy this _;exact Fh k (Fh (Int.ofNat_le.mpr l) (by decide))
  lia
def zfZ(h:AE C ws M R):zd4 C (bS R) (bZ zd0 ws) M:=by
 obtain⟨q,rs,a,rfl,g,w,r⟩:=h;have hf:=g.few;have k:=w.few;refine xI rfl (xI rfl ⟨a,rfl,by lia,a9.frz (xI rfl (xI rfl ⟨q::rs,a,rfl,g,w,λus kvs o D st=>kU.frz (xI rfl ⟨q::rs,rfl,by lia,a9.frz ?_⟩)⟩))⟩);refine⟨bD (q::rs) a us,⟨q::rs,ownOf (q::rs),kvs⟩,b7 a.length,5,1,?_,by show(q::rs).length<=100;lia,rfl,⟨rfl,vO (q::rs),st⟩,zfX,zfW g,by decide,?_,λt p=>?_,?_,λB d p c=>⟨p,rfl,.inr ⟨_,aP,?_⟩⟩⟩
 .show [_,_,_,_]=[_,_,_,_];congr 2
  .show W.rl _=W.rl (((Dw (a.length+1)).map λ(i:Nat)=>(i:Int)).map W.int);rw[Ca];rfl
  .congr 2;show W.rl ((q::rs).map λ_=>W.int 0)=W.rl ((Dw (q::rs).length).map λn=>W.int 0);rw[List.map_const',List.map_const',Kq]
 .show(b7 a.length).length<=1000;rw[mE];lia
 .show(fM a us t p).length<=1;unfold fM sD;split
  .split<;>simp
  .split<;>simp
 .have A:(kE (bD (q::rs) a us)).length=(q::rs).length*(b7 a.length).length:=zJ (bD (q::rs) a us) (q::rs).length;rw[A,mE];show(q::rs).length*(a.length+1)+(q::rs).length*((5+1)*((a.length+1)*(a.length+1)))*(1+(a.length+1))+(q::rs).length*((5+1)*((a.length+1)*(a.length+1)))+(a.length+1)+1+1<10000000;have b:a.length+1<=7:=by lia
  have s:=Ig b b;have u:=Ig hf (Oy (5+1) s);have F:=Ig u (Hy b 1);have E:=Ig hf b;lia
 rw[mL c];refine xI rfl (xI rfl ⟨q,rs,a,rfl,?_⟩);obtain⟨z,y⟩:=r us B o d;refine xI rfl (xI rfl ⟨_,⟨fK (iS q a),rfl,rfl⟩,xI rfl ?_⟩);show if (a0 (dW fK hZ B) (fK (iS q a))).isSome=true then _ else _;rw[iI m7];cases e:aD B (iS q a) with
 | none=>exact⟨_,Sub.refl _,z e⟩
 | some v=>
  refine xI rfl (xI rfl (xI rfl ⟨bD (q::rs) a us,B,iS q a,rfl,zfY g w d,f6.mp (by rw[e];rfl),λf hf=>?_,λp m c sb j=>⟨_,Sub.refl _,y v e p m c sb j⟩⟩));obtain⟨x,l⟩:=Dh.mp (f6.mpr hf);exact Ar (NG g w d l) (by decide)
structure zf0(yl:a7->List Str)(M0 M:Mm)(p:Addr)(A:List (a7×Addr)):Prop where
 sub:L3.Sub M0 M
 new:M0 p=none
 at_:M p=some (.dT (dW fK W.ref A))
 inn:∀x∈A,x.2≠p/\M0 x.2=none/\M x.2=some (.lst ((yl x.1).map W.str))
abbrev wd(C:Cc)(rs:List aM)(B:bC)(aV:a7)(p:Addr)(l:S3):S3:=some (b9 rs)::some (sM B)::some (eZ aV)::some (.ref C.f)::some (.ref C.g)::some (.dk (ownOf rs))::some (.ref p)::l
def zf1(h:LY C ws M R):zdZ C (bS R) (bZ zdT ws) M:=by
 obtain⟨G,B,aV,rfl,w,ht,hy,r⟩:=h;have Z:G.own=bM G.rs:=funext w.own;have nd:=zcN w.ord;refine xI rfl ⟨G.rs,rfl,(Ar w.few (by decide)),a9.frz ⟨namesOf G.rs,rfl,K0 w.few,λp hp=>xI rfl (xI rfl (xI rfl ⟨G,B,aV,rfl,w,ht,λP hP hcl=>a9.frz (fS ?_)⟩))⟩⟩;obtain⟨F,Q⟩:∃F,F=(B.map (·.1)).filter P:=⟨_,rfl⟩;rw[<-Q];have ndF:F.Nodup:=by rw[Q];exact nd.filter _
 have lF:F.length<=1000:=Ar (by rw[Q];exact Nv _ _) (by rw[Ab];exact w.bl);obtain⟨N,H⟩:∃N,N=yT G B:=⟨_,rfl⟩;refine fQ (λj L i=>∃(A:List (a7×Addr)) (o:Option W×Option W×Option W×Option W×Option W×Option W),L=wd C G.rs B aV p [o.1,o.2.1,o.2.2.1,o.2.2.2.1,o.2.2.2.2.1,o.2.2.2.2.2]/\zf0 N M i p A/\A.map (·.1)=F.take j) ⟨[],(_,_,_,_,_,_),rfl,⟨Sub.new hp,hp,aP,λ_ h=>nomatch h⟩,rfl⟩ ?_ ?_
 .rintro j x L i g ⟨A,o,rfl,d,I⟩ D1 hD1;rw[Av]at g;obtain⟨f,hf,rfl⟩:=Bb.mp g;have hfm:f∈F:=Bh hf;have u:=hfm;rw[Q]at u;obtain⟨hfB,T⟩:=Dy.mp u;obtain⟨v,hv,lv⟩:=K1 hfB;obtain⟨pre,post,sp⟩:=jN hv;obtain⟨ru,E⟩:=w.ord pre _ post sp;obtain⟨ru',h1,h2⟩:=uX (rs:=G.rs) (n:=v.2.1) (Ak.mp E.ru).1;cases (show some ru'=some ru from h1.symm.trans E.ru);have hpl:=w.pl ru (Bh h1);have hcutl:v.2.2.length=ru.parts.length+1:=E.ln;have U:F.take j=(pre.map (·.1)).filter P:=zcO ndF (by rw[Q,sp,Bd,Aw,Mf,Dz,if_pos T]) hf;have V:∀k t,ru.parts[k]? = some t->G.own t=true->∃b,aD A (t,v.2.2.getD k 0,v.2.2.getD (k+1) 0)=some b:=λk t hk s=>by
   have hg:(t,v.2.2.getD k 0,v.2.2.getD (k+1) 0)∈nD G.own ru.parts v.2.2:=Hl.mpr ⟨(t,k),Ha.mpr hk,by rw[if_pos s]⟩;refine Dh.mp (f6.mpr ?_);rw[I,U];refine Dy.mpr ⟨K2 E hg,hcl (f,v) (by rw[sp];simp) T _ ?_⟩;rw[K5 E];exact hg
  have hnf:aD A f=none:=by
   rw[<-Option.not_isSome_iff_eq_none,f6,I,U];intro z;have:=(Dy.mp z).1;rw[<-f6,E.no]at this;cases this
  refine xI rfl (xI rfl ⟨_,⟨fK f,rfl,lv.symm⟩,xI rfl (xI rfl (xI rfl ⟨_,⟨fK f,rfl,lv.symm⟩,xI rfl ⟨Bk _,λq hq=>?_⟩⟩))⟩);have hqp:q≠p:=λe=>by rw[e,d.at_]at hq;cases hq
  have hM2:∀{X:MO} {a:Addr} {o:MO},i a=some o->put i q X a=some o:=λ{X a o} e=>by rw[aN (λz=>by rw[z,hq]at e;cases e)];exact e
  obtain⟨c,hk⟩:∃c:List W,c=ru.parts.zipIdx.map λx=>if G.own x.1=true then(((aD A (x.1,v.2.2.getD x.2 0,v.2.2.getD (x.2+1) 0)).map W.ref).getD .non) else .rl [.str x.1]:=⟨_,rfl⟩;have hkl:c.length=ru.parts.length:=by rw[hk,Ab,List.length_zipIdx]
  have hka:∀k t,ru.parts[k]? = some t->c[k]? = some (if G.own t=true then(((aD A (t,v.2.2.getD k 0,v.2.2.getD (k+1) 0)).map W.ref).getD .non) else .rl [.str t]):=λk t ht=>by
   rw[hk,Av,List.getElem?_zipIdx,ht,Ks];rfl
  refine xI rfl (xI rfl ⟨_,h2,xI rfl (xI rfl ?_)⟩);refine fQ (λk L M2=>∃J K,L=wd C G.rs B aV p [some (eZ f),some (.int v.2.1),some (gH v.2.2),some (.ref q),J,K]/\M2=put i q (.lst (c.take k))) ⟨_,xI rfl rfl⟩ ?_ ?_
  .rintro k x L M2 g ⟨J,K,rfl,rfl⟩ D2 hD2;rw[rN,Av]at g;cases S:ru.parts[k]? with
   | none=>rw[S]at g;cases g
   | some t=>
    rw[S]at g;cases g;have hk1:=(Ak.mp S).1;have s:(a0 (ownOf G.rs) (Sum.inr t:aF)).isSome=G.own t:=by rw[Z];exact vO G.rs t
    have lk:(c.take k).length<An:=dN (by rw[Cb];lia);have c1:bW (v.2.2.map W.int) ((0+k:Nat):Int)=some (.int (v.2.2.getD k 0)):=by rw[Ks];exact vP (by lia)
    have c2:bW (v.2.2.map W.int) (((0+k:Nat):Int)+1)=some (.int (v.2.2.getD (k+1) 0)):=by rw[Ks];exact vP (k:=k+1) (by lia)
    have fin:∀y,c[k]? = some y->put (put i q (.lst (c.take k))) q (.lst (c.take k++[y]))=put i q (.lst (c.take (k+1))):=λy hy=>by rw[gB,Eh,hy];rfl
    refine⟨rfl,rfl,xI rfl (xI rfl ⟨_,⟨Sum.inr t,rfl,rfl⟩,xI rfl (cI (λz=>?_) λz=>?_)⟩)⟩
    .have z:=s.symm.trans z;obtain⟨b,hb⟩:=V k t S z;exact xI rfl ⟨eN aP,xI rfl (xI rfl (xI rfl (xI rfl ⟨_,c1,xI rfl (xI rfl ⟨_,c2,z3,mZ (k:=fK (t,v.2.2.getD k 0,v.2.2.getD (k+1) 0)) (hM2 d.at_) (by rw[iI m7,hb];rfl) ⟨_,aP,lk,hD2 _ _ ⟨_,xI rfl (fin _ (by rw[hka k t S,if_pos z,hb];rfl))⟩⟩⟩)⟩)))⟩
    .have z:=s.symm.trans z;exact xI rfl ⟨eN aP,rfl,xI rfl (xI rfl (xI rfl ⟨_,c1,xI rfl (xI rfl ⟨_,c2,t,_,xI rfl ⟨_,aP,lk,hD2 _ _ ⟨_,xI rfl (fin _ (by rw[hka k t S,if_neg (ne_true_of_eq_false z)]))⟩⟩⟩)⟩))⟩
  .rintro L M2 ⟨J,K,rfl,rfl⟩;rw[mV,Ab,<-hkl,Cm];obtain⟨m,Y⟩:∃m:List (List Str),m=ru.parts.zipIdx.map λx=>if G.own x.1=true then N (x.1,v.2.2.getD x.2 0,v.2.2.getD (x.2+1) 0) else [x.1]:=⟨_,rfl⟩;have ey:m.flatten=N f:=by rw[Y,H];exact(J4 sp E).symm
   have pa:Hr (kL i) c m:=by
    rw[hk,Y];have:∀(l:List (Str×Nat)),(∀x∈l,ru.parts[x.2]? = some x.1)->Hr (kL i) (l.map λx=>if G.own x.1=true then(((aD A (x.1,v.2.2.getD x.2 0,v.2.2.getD (x.2+1) 0)).map W.ref).getD .non) else .rl [.str x.1]) (l.map λx=>if G.own x.1=true then N (x.1,v.2.2.getD x.2 0,v.2.2.getD (x.2+1) 0) else [x.1]):=λl=>by
     induction l with
     | nil=>intro _;exact .nil
     | cons x l ih=>
      intro hl;refine .cons ?_ (ih λy hy=>hl y (Ap _ hy));show kL i (if G.own x.1=true then _ else _) (if G.own x.1=true then _ else _)
      by_cases s:G.own x.1=true
      .obtain⟨b,hb⟩:=V x.2 x.1 (hl x Be) s;rw[if_pos s,if_pos s,hb];exact .inr ⟨b,rfl,(d.inn _ (oM hb)).2.2⟩
      .rw[if_neg s,if_neg s];exact .inl rfl
    exact this _ λx g=>Ha.mp g
   refine⟨rfl,xI rfl (xI rfl (.inl ⟨_,aP,?_⟩))⟩;rw[mL hq];refine⟨v.2.1,c,m,rfl,by lia,pa,by rw[ey,H];exact Ar (hy f hfB) (by decide),λb hb=>?_⟩;rw[ey];have D:b≠p:=λe=>by rw[e,d.at_]at hb;cases hb
   refine xI rfl (xI rfl (oB (k:=fK f) (by rw[aN (Bw D)];exact d.at_) (dN (by rw[Ab,<-Ab (f:=Fo),I,Cb];lia)) (hD1 _ _ ⟨bB A f b,(_,_,_,_,_,_),rfl,⟨eX (eX d.sub (d.sub.non hb)) d.new,d.new,?_,λx g=>?_⟩,?_⟩)))
   .rw[aP,pW (f:=W.ref) m7]
   .rcases sP g with rfl|⟨g,_⟩
    .exact⟨D,d.sub.non hb,by rw[aN D,aP]⟩
    .obtain⟨i1,i2,O⟩:=d.inn x g;exact⟨i1,i2,by rw[aN i1,aN (λz=>by rw[z,hb]at O;cases O)];exact O⟩
   .rw[pX hnf,Bd,I,Eh,hf];rfl
 .rintro L i ⟨A,o,rfl,d,I⟩;rw[Ab,Cm]at I;obtain⟨b,hb⟩:=Dh.mp (f6.mpr (show aV∈A.map (·.1) by rw[I,Q];exact Dy.mpr ⟨ht,hP⟩));obtain⟨_,i2,O⟩:=d.inn _ (oM hb);rw[H]at O;exact xI rfl (xI rfl (mZ (k:=fK aV) d.at_ (by rw[iI m7,hb];rfl) ⟨_,Sub.refl _,r b i i2 d.sub O⟩))
def zf2(g:gU rs):Pl 3 (b9 rs):=λx c=>by
 obtain⟨q,b,rfl⟩:=Ax.mp c;intro y a;rcases Bg.mp a with rfl|a
 .exact qE (.inl (g.nm q b))
 rcases Bg.mp a with rfl|a
 .intro z hz;obtain⟨t,ht,rfl⟩:=Ax.mp hz;exact qE (g.sp q b t ht)
 .rw[Ao.mp a];trivial
def zf3{j:Nat}(h:j<=ws.length):d5 ws none (some (j:Int))=ws.take j:=by
 unfold d5;rw[HT.sIx_none,HT.sIx_nat,Nat.min_eq_left h];simp
def zf4(g:gU rs)(l:gR (bD rs a us) B)(h:aD B f=some x):∀t∈yT (bD rs a us) B f,t∈dA\/t∈eI:=by
 refine vF l (λf v y=>∀t∈y,t∈dA\/t∈eI) (λr j b hb e v y p=>?_) h;have:∀{ts:List Str} {b e v:Int} {y:List Str},PP (PS (bD rs a us) λf v y=>∀t∈y,t∈dA\/t∈eI) ts b e v y->(∀t∈ts,t∈dA\/t∈eI)->∀t∈y,t∈dA\/t∈eI:=λp=>by
  induction p with
  | nil=>intro _ t ht;cases ht
  | @cons t ts b m e u v x y d _ i=>
   intro hl s c;rcases Bi.mp c with k|k
   .rcases d with⟨_,_,rfl⟩|⟨_,d⟩
    .exact hl s (by rw[Ao.mp k];exact Be)
    .exact d s k
   .exact i (λz hz=>hl z (Ap _ hz)) s k
 exact this p (g.sp r j)
def NH(d:gR (bD rs a us) B)(h:aD B (iS q a)=some x):∃z:List Str,(z.length:Int)=x.1.1/\yT (bD rs a us) B (iS q a)=a++z:=by
 obtain⟨z,c,b⟩:=(nB d h).y;refine⟨z,c,?_⟩;rw[b];congr 1;unfold i9 iS;rw[Int.toNat_zero,Kr,Int.sub_zero,Ci,Cm]
def zf5(h:zdI ws M R):zfl C (bS R) (bZ ze7 ws) M:=by
 obtain⟨zs,rfl,hz,_,r⟩:=h;refine xI rfl ⟨zs,rfl,λd n M1 dk _ _ _=>xI rfl ⟨d,n,rfl,dk,λrs a M2 g ma X an N=>.inl ⟨_,ma,?_⟩⟩⟩;refine xI rfl (xI rfl ⟨d,n,rs,rfl,N.del X an,g,λc a3 M3 w m3=>.inl ⟨_,m3,?_⟩⟩);obtain⟨q,rs,rfl⟩:∃q Q,rs=q::Q:=by
  cases rs with
  | nil=>exact(g.ne rfl).elim
  | cons q rs=>exact⟨_,_,rfl⟩
 have e0:bW ((q::rs).map eV) 0=some (eV q):=fW (j:=0) rfl;have F:∀t∈c,oA t:=λt ht=>qE (w.wd t ht);have h6:=w.few;have same:∀{M:Mm} {R:K3},R (.bl false) M->rEq true (.tup [b9 (q::rs),jT c]) (.tup [b9 (q::rs),jT c]) M R:=λh=>GQ (neg:=true) 4 (by decide) (λw1 hw=>by
  rcases Bg.mp hw with rfl|hw
  .exact zf2 g
  .rw[Ao.mp hw];exact(vQ F).mono (by decide)) rfl h
 refine xI rfl (xI rfl ⟨q,rs,c,rfl,g,w,λo J=>?_⟩);refine xI rfl (xI rfl ⟨z2,xI rfl (xI rfl (xI rfl (xI rfl ⟨q,rs,c,rfl,g,w,λus B V m=>⟨λK=>?_,λx H p M4 hp sb l=>?_⟩⟩)))⟩)
 .cases (show o=none by rw[J us B V m,K];rfl);exact xI rfl (xI rfl (xI rfl ⟨z2,same (xI rfl (xI rfl (xI rfl (xI rfl ⟨_,Sub.refl _,r _⟩))))⟩))
 .cases (show o=some x.1.1 by rw[J us B V m,H];rfl);obtain⟨z,z1,T⟩:=NH m H;have u:=NG g w m H;have A:=zf4 g m H;have I:=λ{R:List Str} {E:Str->Int->List Int} (P:m8 (q::rs) R E)=>zbW m P H 0 [];rw[T]at l u A I;have hl:((c++z).map W.str).length=c.length+z.length:=by simp
  refine xI rfl (xI rfl (xI rfl ⟨z2,same (xI rfl ?_)⟩));refine xI rfl (xI rfl (xI rfl (KU (KS l ?_))));refine xI rfl (xI rfl (xI rfl ⟨_,l,xI rfl ?_⟩));rw[Ab,zf3 (by rw[hl];exact Nat.le_add_right _ _),Bd,List.take_left' (Ab _)];refine GQ (neg:=true) 1 (by decide) (vQ F) rfl ?_;refine xI rfl (xI rfl (.inl ⟨_,l,xI rfl (xI rfl ?_)⟩));show ∃k,W.bl (!decide ((((c++z).map W.str).length:Int)=(c.map W.str).length+x.1.1))=W.bl k/\_;rw[hl,decide_eq_true (by rw[Ab];lia)];refine xI rfl (xI rfl (.inl ⟨_,l,xI rfl (xI rfl ⟨q::rs,c++z,.ref p,λ_ _ _=>True,rfl,g,.inr ⟨p,rfl,l⟩,by lia,A,λ_ _ _ _ _ _ _ _=>trivial,λa4 M5 L ct ok P _=>?_⟩)⟩));have e:=I P (Bk _) (by rw[Kr,Ew]);refine⟨l9 ct.at_,xI rfl ⟨_,e0,xI rfl ⟨z2,λb hb=>.inr (.inl ⟨_,aP,?_⟩)⟩⟩⟩;rw[mL hb];refine⟨_,.inr ⟨_,eK (q.name,0),ct.at_,rfl,rfl⟩,?_⟩;rw[ct.look];unfold bH at e;cases S:aD L (q.name,0) with
  | none=>rw[show aD L ((iS q c).1,((0:Nat):Int))=none from S]at e;cases e
  | some y=>
   rw[show aD L ((iS q c).1,((0:Nat):Int))=some y from S]at e;refine .inr ⟨_,.inl ⟨_,Sum.inl (((c++z).map W.str).length:Int),(ct.inn _ (oM S)).2.2,rfl,rfl⟩,?_⟩;rw[AJ];have e:(((c++z).map W.str).length:Int)∈y.2:=by rw[Ab,<-Ks (c++z).length];exact e
   rw[if_pos e];have v:=ct.sub _ _ l;refine xI rfl (xI rfl ⟨eN v,_,v,dN (Kj (by rw[Ab];exact u) (by decide)),?_⟩);refine xI rfl (xI rfl ⟨q,rs,c,rfl,g,w,λG U s i=>⟨λK=>?_,λx2 D p2 Z Y sb2 f=>?_⟩⟩)
   .have:=J G U s i;rw[K]at this;cases this
   .have O:=J G U s i;rw[D]at O;have O:x.1.1=x2.1.1:=Bz O;obtain⟨y2,k1,k2⟩:=NH i D;rw[k2]at f;refine xI rfl (KU (KS f (xI rfl ?_)));refine xI rfl (.inl ⟨_,f,xI rfl (xI rfl ?_)⟩);show(bS R).rt (W.bl (decide ((((c++y2).map W.str).length:Int)=(c.map W.str).length+x.1.1))) Z;rw[decide_eq_true (by simp;lia)];exact⟨_,Sub.refl _,r _⟩
structure Tx(mg:Str->Option Ae):Prop where
 abs_:mg "abs" = none
 dict_:mg "dict" = none
 enumerate_:mg "enumerate" = none
 isinstance_:mg "isinstance" = none
 len_:mg "len" = none
 list_:mg "list" = none
 min_:mg "min" = none
 range_:mg "range" = none
 set_:mg "set" = none
 sorted_:mg "sorted" = none
 sum_:mg "sum" = none
 tuple_:mg "tuple" = none
structure Kc(K:Ac)(mg:Str->Option Ae)(C:Cc):Prop where
 cls_Queue:gX K C.q
 at__Queue:mg "Queue" = some (.ref C.q)
 cls_Search:gX K C.s
 at__Search:mg "Search" = some (.ref C.s)
 na_costs:f9 K C.q "costs"
 na_waiting:f9 K C.q "waiting"
 na_grammar:f9 K C.s "grammar"
 na_own:f9 K C.s "own"
 na_steps:f9 K C.s "steps"
 na_queue:f9 K C.s "queue"
 na_reached:f9 K C.s "reached"
 na_best:f9 K C.s "best"
 na_ends:f9 K C.s "ends"
 na_begun:f9 K C.s "begun"
structure Al(K:Ac)(mg:Str->Option Ae)(C:Cc)(fa:Nat->Addr)(fb:Nat->Bv):Prop extends Tx mg,Kc K mg C where
 x0:Df K mg "names" AK ["grammar"] (fa 0) (fb 0)
 x1:Df K mg "first_name" AL ["grammar"] (fa 1) (fb 1)
 x2:Df K mg "marks" AN ["things"] (fa 2) (fb 2)
 x3:Df K mg "places_of" AQ ["row"] (fa 3) (fb 3)
 x4:Df K mg "row_steps" AR ["row"] (fa 4) (fb 4)
 x5:Df K mg "part_facts" AU ["own","parts","cut"] (fa 5) (fb 5)
 x6:Di K C.q "__init__" "Queue.__init__" AW ["self"] (fa 6) (fb 6)
 x7:Dm K C.q "is_done" "Queue.is_done" AX ["self"] (fa 7) (fb 7)
 x8:Dm K C.q "place_of" "Queue.place_of" AZ ["self","cost"] (fa 8) (fb 8)
 x9:Dm K C.q "put" "Queue.put" AY ["self","cost","thing"] (fa 9) (fb 9)
 x10:Dm K C.q "take" "Queue.take" A0 ["self"] (fa 10) (fb 10)
 x11:Df K mg "added" A1 ["cost","other"] (fa 11) (fb 11)
 x12:Di K C.s "__init__" "Search.__init__" A2 ["self","grammar","steps"] (fa 12) (fb 12)
 x13:Dm K C.s "reach" "Search.reach" A5 ["self","number","cut","cost"] (fa 13) (fb 13)
 x14:Dm K C.s "settle" "Search.settle" A8 ["self","number","cut","cost"] (fa 14) (fb 14)
 x15:Dm K C.s "step_by_name" "Search.step_by_name" A7 ["self","number","cut","cost","key"] (fa 15) (fb 15)
 x16:Dm K C.s "take_next" "Search.take_next" A6 ["self"] (fa 16) (fb 16)
 x17:Df K mg "least_trees" A9 ["grammar","places","steps","weights"] (fa 17) (fb 17)
 x18:Df K mg "facts_within" BA ["grammar","best","top"] (fa 18) (fb 18)
 x19:Df K mg "one_behind_another" BC ["lists"] (fa 19) (fb 19)
 x20:Df K mg "joined" BD ["number","lists"] (fa 20) (fb 20)
 x21:Df K mg "listed" BI ["word","begin","end"] (fa 21) (fb 21)
 x22:Df K mg "made_of_best" BB ["grammar","best","top","of_word","of_rule"] (fa 22) (fb 22)
 x23:Df K mg "no_weights" BE ["grammar"] (fa 23) (fb 23)
 x24:Df K mg "whole_fact" BF ["grammar","row"] (fa 24) (fb 24)
 x25:Df K mg "words_of" BG ["grammar"] (fa 25) (fb 25)
 x26:Df K mg "steps_beyond" BH ["grammar","row"] (fa 26) (fb 26)
 x27:Df K mg "way_on" BJ ["grammar","row"] (fa 27) (fb 27)
 x28:Df K mg "_law_numbers" BK ["script"] (fa 28) (fb 28)
 x29:Df K mg "_law_take" BL ["deck","many"] (fa 29) (fb 29)
 x30:Df K mg "_law_rules" BM ["deck"] (fa 30) (fb 30)
 x31:Df K mg "_law_row" BN ["deck","rules"] (fa 31) (fb 31)
 x32:Df K mg "_law_ends" BO ["row","ends","heads","part","at"] (fa 32) (fb 32)
 x33:Df K mg "_law_facts" BP ["rules","row"] (fa 33) (fb 33)
 x34:Df K mg "_law_lengths" BQ ["rules"] (fa 34) (fb 34)
 x35:Df K mg "_law_rest" BR ["rules","lengths","parts"] (fa 35) (fb 35)
 x36:Df K mg "_law_least" BS ["rules","row","lengths","ends","more","parts","begin"] (fa 36) (fb 36)
 x37:Df K mg "_law_more" BU ["rules","row"] (fa 37) (fb 37)
 x38:Df K mg "law" BV ["script"] (fa 38) (fb 38)
 f_listed:C.f=fa 21
 f_joined:C.g=fa 20
section
variable {P:Bt}{w:Ck}{K:Ac}{mg:Str->Option Ae}{base:Heap}{C:Cc}{fa:Nat->Addr}{fb:Nat->Bv}(Y:Al K mg C fa fb)
seal L2.PE L2.PA L2.PS L2.f7 L2.PT L2.PG L2.PI L2.PO
def wB:=cF P w mg base 0 Y.x0.fn Y.x0.bi cE Z1 λb a nd=>(aO (a8 (i:=1) nd pE)
   (aO (dQ Bl rfl (eD (v 0)) (b8 (i:=2) nd)
    (aS (iW j8 (w_sub a (v 1) (aZ a (v 2) aQ)))))
   (aS (cD (mN (xV rfl) (by rfl) Y.list_ n9 (aC (v 1) aG))))))
def zf6:=cF P w mg base 0 Y.x1.fn Y.x1.bi cE Z2 λb a nd=>(aS (cD (aZ a (aZ a (v 0) aQ) aQ)))
def wC:=cF P w mg base 0 Y.x2.fn Y.x2.bi cE zaQ λb a nd=>(aS (cD (mN (YE rfl) (by rfl) Y.dict_ GV (aC (dX (iY ["thing"] [none] (eD (v 0)) (λB=>(fT (i:=0))) (λB=>jL) (λB=>(cG (aC (v 0) (aC j8 aG)))))) aG))))
def zf7:=cF P w mg base 0 Y.x3.fn Y.x3.bi cE zco λb a nd=>(aS (cD (zbI (by rfl) Y.list_ (by rfl) Y.range_ (bL dC (bY cS (by rfl) Y.len_ cU (aC (v 0) aG)) aQ))))
def zf8:=cF P w mg base 0 Y.x4.fn Y.x4.bi cE zcr λa b nd=>(aS (cD (mN (zbe rfl (YR a)) (by rfl) Y.dict_ GV (aC (dX (iY ["place","word"] [none,none] (G4 (by rfl) Y.enumerate_ (aC (v 0) aG)) (λB=>(lA rfl (eM (fT (i:=0)) (eM (fT (i:=1)) k9)))) (λB=>jL) (λB=>(cG (aC (cG (aC (v 1) (aC (v 0) aG))) (aC (fI (aC (cG (aC (bL dC (v 0) aQ) (aC aQ aG))) aG)) aG)))))) aG))))
def zf9:=cF P w mg base 0 Y.x5.fn Y.x5.bi cE zcJ λb a nd=>(aS (cD (iY ["k","part","own","cut"] [none,none,some 0,some 2] (KN (by rfl) Y.enumerate_ (aC (v 1) aG)) (λB=>(lA rfl (eM (fT (i:=0)) (eM (fT (i:=1)) k9)))) (λB=>(pK (bX (j9 a) (v 1) (v 2)))) (λB=>(cG (aC (v 1) (aC (aZ a (v 3) (v 0)) (aC (aZ a (v 3) (bL dC (v 0) aQ)) aG))))))))
def zga:=cF P w mg base 0 Y.x6.fn Y.x6.bi cE ZO λb a nd=>(aO (lD Y.cls_Queue Y.na_costs (v 0) (gY aG))
   (aS (lD Y.cls_Queue Y.na_waiting (v 0) mS)))
def zgb:=cF P w mg base 0 Y.x7.fn Y.x7.bi cE ZN λa b nd=>(aS (cD (vH (lW a.units) (bY cS (by rfl) Y.len_ cU (aC (dY Y.cls_Queue Y.na_costs (v 0)) aG)) aQ)))
def zgc:=cF P w mg base 0 Y.x8.fn Y.x8.bi cE ZP λb a nd=>(aO (a8 (i:=2) nd aQ)
   (aO (a8 (i:=3) nd (bY cS (by rfl) Y.len_ cU (aC (dY Y.cls_Queue Y.na_costs (v 0)) aG)))
   (aO (tZ Bl (bX rC (v 2) (v 3))
    (aO (a8 (i:=4) nd (bL FH (bL dC (v 2) (v 3)) aQ))
   (aS (d7 (bX (YV a) (aZ a (dY Y.cls_Queue Y.na_costs (v 0)) (v 4)) (v 1))
    (aS (a8 (i:=2) nd (bL dC (v 4) aQ)))
    (aS (a8 (i:=3) nd (v 4)))))))
   (aS (cD (v 2))))))
def zgd:=cF P w mg base 1 Y.x9.fn Y.x9.bi cE ZQ λb a nd=>(aO (d7 (bX (mR a) (v 1) (dY Y.cls_Queue Y.na_waiting (v 0)))
    (aO (iW (gY aG) (w_sub a (dY Y.cls_Queue Y.na_waiting (v 0)) (v 1)))
   (aS (eJ (d4 Cj F.slot_list_insert F.type_list_insert YW (dY Y.cls_Queue Y.na_costs (v 0)) (aC (mY Y.cls_Queue Y.x8.me (zgc Y) (b.mono (by decide)) Y.x8.bi (v 0) (aC (v 1) aG)) (aC (v 1) aG))))))
    eS)
   (aS (eJ (d4 Cj Du Ec jG (aZ a (dY Y.cls_Queue Y.na_waiting (v 0)) (v 1)) (aC (v 2) aG)))))
def zge:=cF P w mg base 0 Y.x10.fn Y.x10.bi cE ZR λb a nd=>(aO (a8 (i:=1) nd (aZ a (dY Y.cls_Queue Y.na_costs (v 0)) (lQ lU aQ)))
   (aO (a8 (i:=2) nd (aZ a (dY Y.cls_Queue Y.na_waiting (v 0)) (v 1)))
   (aO (a8 (i:=3) nd (pC Cj Kk Lz rJ (v 2)))
   (aO (d7 (bX (lW b.units) (bY cS (by rfl) Y.len_ cU (aC (v 2) aG)) aQ)
    (aO (eJ (pC Cj Kk Lz rJ (dY Y.cls_Queue Y.na_costs (v 0))))
   (aS (eJ (d4 Dl F.slot_dict_pop F.type_dict_pop (YN a) (dY Y.cls_Queue Y.na_waiting (v 0)) (aC (v 1) aG)))))
    eS)
   (aS (cD (cG (aC (v 1) (aC (v 3) aG)))))))))
def NI:=cF P w mg base 0 Y.x11.fn Y.x11.bi cE zaR λb a nd=>(aS (cD (cG (aC (bL dC (aZ a (v 0) aQ) (aZ a (v 1) aQ)) (aC (bL dC (aZ a (v 0) aQ) (aZ a (v 1) aQ)) aG)))))
def zgf:=cF P w mg base 2 Y.x12.fn Y.x12.bi cE zaZ λa b nd=>(aO (lD Y.cls_Search Y.na_grammar (v 0) (v 1))
   (aO (lD Y.cls_Search Y.na_own (v 0) (bU (wC Y) Y.x2 a (aC (dX (bU (wB Y) Y.x0 a (aC (v 1) aG))) aG)))
   (aO (lD Y.cls_Search Y.na_steps (v 0) (v 2))
   (aO (lD Y.cls_Search Y.na_queue (v 0) (YH Y.x6.mak (zga Y) (a.mono (by decide)) (by rfl) Y.at__Queue Y.x6.bi))
   (aO (lD Y.cls_Search Y.na_reached (v 0) mS)
   (aO (lD Y.cls_Search Y.na_best (v 0) mS)
   (aO (lD Y.cls_Search Y.na_ends (v 0) mS)
   (aS (lD Y.cls_Search Y.na_begun (v 0) mS)))))))))
def wD:=cF P w mg base 2 Y.x13.fn Y.x13.bi cE zaT λb a nd=>(aO (a8 (i:=4) nd (cG (aC (v 1) (aC (bY cS (by rfl) Y.len_ cU (aC (v 2) aG)) (aC (aZ a (v 2) aQ) (aC (aZ a (v 2) (lQ lU aQ)) aG))))))
   (aS (d7 (PW.pt (xH (bX (mR a) (v 4) (dY Y.cls_Search Y.na_reached (v 0))) (E8 (bX (HU a) (v 3) (aZ a (dY Y.cls_Search Y.na_reached (v 0)) (v 4))))))
    (aO (iW (v 3) (w_sub a (dY Y.cls_Search Y.na_reached (v 0)) (v 4)))
   (aS (eJ (mY Y.cls_Queue Y.x9.me (zgd Y) (b.mono (by decide)) Y.x9.bi (dY Y.cls_Search Y.na_queue (v 0)) (aC (v 3) (aC (cG (aC (v 1) (aC (v 2) aG))) aG))))))
    eS)))
def zgg:=cF P w mg base 3 Y.x14.fn Y.x14.bi cE zaW λb a nd=>(aO (a8 (i:=4) nd (cG (aC (aZ a (aZ a (dY Y.cls_Search Y.na_grammar (v 0)) (v 1)) aQ) (aC (aZ a (v 2) aQ) aG))))
   (aO (a8 (i:=5) nd (bL dC (v 4) (cG (aC (aZ a (v 2) (lQ lU aQ)) aG))))
   (aO (d7 (bX (j9 a) (v 5) (dY Y.cls_Search Y.na_best (v 0)))
    (aS F9)
    eS)
   (aO (iW (cG (aC (v 3) (aC (v 1) (aC (v 2) aG)))) (w_sub a (dY Y.cls_Search Y.na_best (v 0)) (v 5)))
   (aO (eJ (d4 Cj Du Ec jG (d4 Dl Od Oc (yZ a) (dY Y.cls_Search Y.na_ends (v 0)) (aC (v 4) (aC (gY aG) aG))) (aC (cG (aC (aZ a (v 2) (lQ lU aQ)) (aC (v 3) aG))) aG)))
   (aS (dQ Bl rfl (pJ (d4 Dl Gq Gp (lE a) (dY Y.cls_Search Y.na_begun (v 0)) (aC (v 4) (aC (fI aG) aG)))) (lA rfl (eM (b8 (i:=6) nd) (eM (b8 (i:=7) nd) (eM (b8 (i:=8) nd) k9))))
    (aS (eJ (mY Y.cls_Search Y.x13.me (wD Y) (b.mono (by decide)) Y.x13.bi (v 0) (aC (v 6) (aC (bL dC (v 7) (cG (aC (aZ a (v 2) (lQ lU aQ)) aG))) (aC (bU (NI Y) Y.x11 b (aC (v 8) (aC (v 3) aG))) aG)))))))))))))
def zgh:=cF P w mg base 3 Y.x15.fn Y.x15.bi cE zaU λb a nd=>(aO (eJ (d4 Cj Du Ec jG (d4 Dl Od Oc (yZ a) (dY Y.cls_Search Y.na_begun (v 0)) (aC (v 4) (aC (gY aG) aG))) (aC (cG (aC (v 1) (aC (v 2) (aC (v 3) aG)))) aG)))
   (aS (dQ Bl rfl (pJ (d4 Dl Gq Gp (lE a) (dY Y.cls_Search Y.na_ends (v 0)) (aC (v 4) (aC (fI aG) aG)))) (lA rfl (eM (b8 (i:=5) nd) (eM (b8 (i:=6) nd) k9)))
    (aS (eJ (mY Y.cls_Search Y.x13.me (wD Y) (b.mono (by decide)) Y.x13.bi (v 0) (aC (v 1) (aC (bL dC (v 2) (cG (aC (v 5) aG))) (aC (bU (NI Y) Y.x11 b (aC (v 3) (aC (v 6) aG))) aG)))))))))
def zgi:=cF P w mg base 4 Y.x16.fn Y.x16.bi cE zaX λb a nd=>(aO (a8 (i:=1) nd (yY Y.cls_Queue Y.x10.me (zge Y) (b.mono (by decide)) Y.x10.bi (dY Y.cls_Search Y.na_queue (v 0))))
   (aO (a8 (i:=2) nd (aZ a (v 1) aQ))
   (aO (a8 (i:=3) nd (aZ a (aZ a (v 1) aQ) aQ))
   (aO (a8 (i:=4) nd (aZ a (aZ a (v 1) aQ) aQ))
   (aO (d7 (bX (HU a) (aZ a (dY Y.cls_Search Y.na_reached (v 0)) (cG (aC (v 3) (aC (bY cS (by rfl) Y.len_ cU (aC (v 4) aG)) (aC (aZ a (v 4) aQ) (aC (aZ a (v 4) (lQ lU aQ)) aG)))))) (v 2))
    (aS F9)
    eS)
   (aO (a8 (i:=5) nd (aZ a (aZ a (dY Y.cls_Search Y.na_grammar (v 0)) (v 3)) aQ))
   (aS (d7 (bX VN (bY cS (by rfl) Y.len_ cU (aC (v 4) aG)) (bY cS (by rfl) Y.len_ cU (aC (v 5) aG)))
    (aS (eJ (mY Y.cls_Search Y.x14.me (zgg Y) (b.mono (by decide)) Y.x14.bi (v 0) (aC (v 3) (aC (v 4) (aC (v 2) aG))))))
    (aS (d7 (bX (j9 a) (aZ a (v 5) (bL tT (bY cS (by rfl) Y.len_ cU (aC (v 4) aG)) aQ)) (dY Y.cls_Search Y.na_own (v 0)))
    (aS (eJ (mY Y.cls_Search Y.x15.me (zgh Y) (b.mono (by decide)) Y.x15.bi (v 0) (aC (v 3) (aC (v 4) (aC (v 2) (aC (cG (aC (aZ a (v 5) (bL tT (bY cS (by rfl) Y.len_ cU (aC (v 4) aG)) aQ)) (aC (aZ a (v 4) (lQ lU aQ)) aG))) aG)))))))
    (aS (dQ Bl rfl (pJ (d4 Dl Gq Gp (lE a) (dY Y.cls_Search Y.na_steps (v 0)) (aC (cG (aC (aZ a (v 5) (bL tT (bY cS (by rfl) Y.len_ cU (aC (v 4) aG)) aQ)) (aC (aZ a (v 4) (lQ lU aQ)) aG))) (aC (fI aG) aG)))) (lA rfl (eM (b8 (i:=6) nd) (eM (b8 (i:=7) nd) k9)))
    (aS (eJ (mY Y.cls_Search Y.x13.me (wD Y) (b.mono (by decide)) Y.x13.bi (v 0) (aC (v 3) (aC (bL dC (v 4) (cG (aC (v 6) aG))) (aC (cG (aC (bL dC (aZ a (v 2) aQ) (v 7)) (aC (aZ a (v 2) aQ) aG))) aG))))))))))))))))))
def zgj:=cF P w mg base 5 Y.x17.fn Y.x17.bi cE za5 λa b nd=>(aO (a8 (i:=4) nd (YG Y.x12.mak (zgf Y) (a.mono (by decide)) (by rfl) Y.at__Search Y.x12.bi (aC (v 0) (aC (v 2) aG))))
   (aO (dQ Bl rfl (kB (by rfl) Y.range_ (aC (bY cS (by rfl) Y.len_ cU (aC (v 0) aG)) aG)) (b8 (i:=5) nd)
    (aS (dQ Bl rfl (eD (v 1)) (b8 (i:=6) nd)
    (aS (eJ (mY Y.cls_Search Y.x13.me (wD Y) (a.mono (by decide)) Y.x13.bi (v 4) (aC (v 5) (aC (cG (aC (v 6) aG)) (aC (cG (aC (aZ b (v 3) (v 5)) (aC aQ aG))) aG)))))))))
   (aO (tZ Bl (E9 (tQ (yY Y.cls_Queue Y.x7.me (zgb Y) (a.mono (by decide)) Y.x7.bi (dY Y.cls_Search Y.na_queue (v 4)))))
    (aS (eJ (yY Y.cls_Search Y.x16.me (zgi Y) (a.mono (by decide)) Y.x16.bi (v 4)))))
   (aS (cD (dY Y.cls_Search Y.na_best (v 4)))))))
def zgk:=cF P w mg base 1 Y.x18.fn Y.x18.bi cE zcM λb a nd=>(aO (a8 (i:=3) nd (bU (wC Y) Y.x2 b (aC (dX (bU (wB Y) Y.x0 b (aC (v 0) aG))) aG)))
   (aO (a8 (i:=4) nd (zcb a (v 2) j8))
   (aO (a8 (i:=5) nd (gY (aC (v 2) aG)))
   (aO (tZ Bl (tQ (v 5))
    (aO (a8 (i:=6) nd (aZ a (v 1) (pC Cj Kk Lz rJ (v 5))))
   (aS (dQ Bl rfl (eD (dX (bU (zf9 Y) Y.x5 b (aC (v 3) (aC (aZ a (aZ a (v 0) (aZ a (v 6) aQ)) aQ) (aC (aZ a (v 6) aQ) aG)))))) (b8 (i:=7) nd)
    (aS (d7 (bX (mR a) (v 7) (v 4))
    (aO (iW j8 (w_sub a (v 4) (v 7)))
   (aS (eJ (d4 Cj Du Ec jG (v 5) (aC (v 7) aG)))))
    eS))))))
   (aS (cD (iY ["fact","found"] [none,some 4] (zbd (v 1)) (λB=>(fT (i:=0))) (λB=>(pK (bX (j9 a) (v 0) (v 1)))) (λB=>(v 0)))))))))
def zgl:=cF P w mg base 0 Y.x19.fn Y.x19.bi cE zc6 λb a nd=>(aO (a8 (i:=1) nd (gY aG))
   (aO (dQ Bl rfl (eD (v 0)) (b8 (i:=2) nd)
    (aS (eJ (d4 Cj F.slot_list_extend F.type_list_extend V5 (v 1) (aC (v 2) aG)))))
   (aS (cD (v 1)))))
def zgm:=cF P w mg base 1 Y.x20.fn Y.x20.bi cE zfn λa b nd=>(aS (cD (bU (zgl Y) Y.x19 a (aC (v 1) aG))))
def zgn:=cF P w mg base 0 Y.x21.fn Y.x21.bi cE zfm λb a nd=>(aS (cD (fI (aC (v 0) aG))))
def zgo:=cF P w mg base 2 Y.x22.fn Y.x22.bi cE zf1 λb a nd=>(aO (a8 (i:=5) nd (bU (wC Y) Y.x2 b (aC (dX (bU (wB Y) Y.x0 b (aC (v 0) aG))) aG)))
   (aO (a8 (i:=6) nd mS)
   (aO (dQ Bl rfl (eD (dX (bU (zgk Y) Y.x18 b (aC (v 0) (aC (v 1) (aC (v 2) aG)))))) (b8 (i:=7) nd)
    (aO (a8 (i:=8) nd (aZ a (aZ a (v 1) (v 7)) aQ))
   (aO (a8 (i:=9) nd (aZ a (aZ a (v 1) (v 7)) aQ))
   (aO (a8 (i:=10) nd (gY aG))
   (aO (dQ Bl rfl (KN (by rfl) Y.enumerate_ (aC (aZ a (aZ a (v 0) (v 8)) aQ) aG)) (lA rfl (eM (b8 (i:=11) nd) (eM (b8 (i:=12) nd) k9)))
    (aS (d7 (bX (j9 a) (v 12) (v 5))
    (aS (eJ (d4 Cj Du Ec jG (v 10) (aC (aZ a (v 6) (cG (aC (v 12) (aC (aZ a (v 9) (v 11)) (aC (aZ a (v 9) (bL dC (v 11) aQ)) aG))))) aG))))
    (aS (eJ (d4 Cj Du Ec jG (v 10) (aC (KI (i:=3) Y.f_listed (zgn Y) b Y.x21.fn.kp Y.x21.bi (aC (v 12) (aC (aZ a (v 9) (v 11)) (aC (aZ a (v 9) (bL dC (v 11) aQ)) aG)))) aG)))))))
   (aS (iW (KI (i:=4) Y.f_joined (zgm Y) b Y.x20.fn.kp Y.x20.bi (aC (v 8) (aC (dX (v 10)) aG))) (w_sub a (v 6) (v 7)))))))))
   (aS (cD (aZ a (v 6) (v 2)))))))
def zgp:=cF P w mg base 0 Y.x23.fn Y.x23.bi cE zci λb a nd=>(aS (cD (iY ["rule"] [none] (eD (v 0)) (λB=>(fT (i:=0))) (λB=>jL) (λB=>aQ))))
def zgq:=cF P w mg base 1 Y.x24.fn Y.x24.bi cE zcG λa b nd=>(aS (cD (cG (aC (bU (zf6 Y) Y.x1 a (aC (v 0) aG)) (aC aQ (aC (bY cS (by rfl) Y.len_ cU (aC (v 1) aG)) aG))))))
def zgr:=cF P w mg base 1 Y.x25.fn Y.x25.bi cE zc7 λb a nd=>(aO (a8 (i:=1) nd (bU (wC Y) Y.x2 b (aC (dX (bU (wB Y) Y.x0 b (aC (v 0) aG))) aG)))
   (aO (a8 (i:=2) nd pE)
   (aO (dQ Bl rfl (eD (v 0)) (b8 (i:=3) nd)
    (aS (dQ Bl rfl (eD (aZ a (v 3) aQ)) (b8 (i:=4) nd)
    (aS (d7 (bX (mR a) (v 4) (v 1))
    (aS (iW j8 (w_sub a (v 2) (v 4))))
    eS)))))
   (aS (cD (bY (XD rfl) (by rfl) Y.sorted_ W0 (aC (dX (v 2)) aG)))))))
def zgs:=cF P w mg base 2 Y.x26.fn Y.x26.bi cE zfV λa b nd=>(aO (a8 (i:=2) nd (bU (zf8 Y) Y.x4 a (aC (v 1) aG)))
   (aO (dQ Bl rfl (eD (bU (zgr Y) Y.x25 a (aC (v 0) aG))) (b8 (i:=3) nd)
    (aS (iW (fI (aC (cG (aC (bY cS (by rfl) Y.len_ cU (aC (v 1) aG)) (aC aQ aG))) aG)) (w_sub b (v 2) (cG (aC (v 3) (aC (bY cS (by rfl) Y.len_ cU (aC (v 1) aG)) aG)))))))
   (aS (cD (v 2)))))
def NJ:=cF P w mg base 6 Y.x27.fn Y.x27.bi cE zfZ λa b nd=>(aO (a8 (i:=2) nd (za8 (bU (zgj Y) Y.x17 a (aC (v 0) (aC (dX (bU (zf7 Y) Y.x3 a (aC (v 1) aG))) (aC (dX (bU (zgs Y) Y.x26 a (aC (v 0) (aC (v 1) aG)))) (aC (dX (bU (zgp Y) Y.x23 a (aC (v 0) aG))) aG)))))))
   (aO (a8 (i:=3) nd (bU (zgq Y) Y.x24 a (aC (v 0) (aC (v 1) aG))))
   (aS (cD (VD (bX (j9 b) (v 3) (v 2)) (bU (zgo Y) Y.x22 a (aC (v 0) (aC (v 2) (aC (v 3) (aC (KJ Y.f_listed Y.x21) (aC (KJ Y.f_joined Y.x20) aG)))))) nV)))))
def zgt:=cF P w mg base 0 Y.x28.fn Y.x28.bi cE zfq λb a nd=>(aO (a8 (i:=1) nd (gY aG))
   (aO (dQ Bl rfl (G4 (by rfl) Y.enumerate_ (aC (yE (v 0) rF (rG aQ)) aG)) (lA rfl (eM (b8 (i:=2) nd) (eM (b8 (i:=3) nd) k9)))
    (aO (a8 (i:=4) nd (bY W8 (by rfl) Y.abs_ WZ (aC (v 3) aG)))
   (aO (d7 (bX rC (v 4) (bL VJ aQ aQ))
    (aS (dQ Bl rfl (kB (by rfl) Y.range_ (aC aQ aG)) (b8 (i:=5) nd)
    (aO (a8 (i:=6) nd (bL tU (bL dC (bL dC (bL dC (v 4) (bL pM aQ (v 2))) (bL pM aQ (v 5))) aQ) aQ))
   (aO (a8 (i:=6) nd (bL tU (bL pM (v 6) (v 6)) aQ))
   (aS (a8 (i:=4) nd (bL dC (bL pM (v 4) aQ) (bL tU (bL pM (v 6) aQ) aQ))))))))
    eS)
   (aS (eJ (d4 Cj Du Ec jG (v 1) (aC (v 4) aG)))))))
   (aO (eJ (pC Cj F.slot_list_reverse F.type_list_reverse W9 (v 1)))
   (aS (cD (gY (aC (v 1) (aC aQ aG))))))))
def kM:=cF P w mg base 0 Y.x29.fn Y.x29.bi cE zfo λb a nd=>(aO (d7 (PW.pt (pA (bX (lW b.units) (aZ a (v 0) aQ) aQ) (oZ (bX (pD b.units) (aZ a (v 0) aQ) (fI aG)))))
    (aS (iW (pC Cj Kk Lz rJ (aZ a (v 0) aQ)) (w_sub a (v 0) aQ)))
    eS)
   (aO (a8 (i:=2) nd (bL tU (aZ a (v 0) aQ) (v 1)))
   (aO (iW (bL FH (aZ a (v 0) aQ) (v 1)) (w_sub a (v 0) aQ))
   (aS (cD (v 2))))))
def zgu:=cF P w mg base 1 Y.x30.fn Y.x30.bi cE zfr λa b nd=>(aO (a8 (i:=1) nd (yE (fI (aC iP (aC iP (aC iP (aC iP aG))))) rF (rG (bL dC aQ (bU (kM Y) Y.x29 a (aC (v 0) (aC aQ aG)))))))
   (aO (a8 (i:=2) nd (bL dC (fI (aC (aZ b (v 1) aQ) aG)) (dX (iY ["k","some","deck"] [none,some 1,some 0] (kB (by rfl) Y.range_ (aC (bU (kM Y) Y.x29 a (aC (v 0) (aC aQ aG))) aG)) (λB=>(fT (i:=0))) (λB=>jL) (λB=>(aZ b (v 1) (bU (kM Y) Y.x29 a (aC (v 2) (aC (bY cS (by rfl) Y.len_ cU (aC (v 1) aG)) aG)))))))))
   (aO (a8 (i:=3) nd (gY aG))
   (aO (dQ Bl rfl (eD (v 2)) (b8 (i:=4) nd)
    (aO (a8 (i:=5) nd (gY aG))
   (aO (dQ Bl rfl (kB (by rfl) Y.range_ (aC (bU (kM Y) Y.x29 a (aC (v 0) (aC (aZ b (fI (aC aQ (aC aQ (aC aQ (aC aQ aG))))) (bL tT (bY cS (by rfl) Y.len_ cU (aC (v 1) aG)) aQ)) aG))) aG)) (b8 (i:=6) nd)
    (aO (a8 (i:=7) nd (aZ b (fI (aC iP (aC iP (aC iP (aC iP aG))))) (bU (kM Y) Y.x29 a (aC (v 0) (aC aQ aG)))))
   (aS (eJ (d4 Cj Du Ec jG (v 5) (aC (aZ b (fI (aC (v 7) (aC (aZ b (v 2) (bU (kM Y) Y.x29 a (aC (v 0) (aC (bY cS (by rfl) Y.len_ cU (aC (v 2) aG)) aG)))) aG))) (bU (kM Y) Y.x29 a (aC (v 0) (aC aQ aG)))) aG))))))
   (aS (eJ (d4 Cj Du Ec jG (v 3) (aC (cG (aC (v 4) (aC (mN V4 (by rfl) Y.tuple_ WY (aC (v 5) aG)) (aC aQ aG)))) aG)))))))
   (aS (cD (v 3)))))))
def zgv:=cF P w mg base 1 Y.x31.fn Y.x31.bi cE zfu λa b nd=>(aO (a8 (i:=2) nd (gY aG))
   (aO (a8 (i:=3) nd (gY (aC (aZ b (aZ b (v 1) aQ) aQ) aG)))
   (aO (a8 (i:=4) nd (bU (kM Y) Y.x29 a (aC (v 0) (aC aQ aG))))
   (aO (dQ Bl rfl (kB (by rfl) Y.range_ (aC aQ aG)) (b8 (i:=5) nd)
    (aS (d7 (PW.pt (pA (bX (pD a.units) (v 3) (fI aG)) (oZ (bX rC (bY cS (by rfl) Y.len_ cU (aC (v 2) aG)) (v 4)))))
    (aO (a8 (i:=6) nd (pC Cj Kk Lz rJ (v 3)))
   (aO (vI (i:=7) nd ["rule","part"] [none,some 6] (eD (v 1)) (λB=>(fT (i:=0))) (λB=>(pK (bX (lW a.units) (aZ b (v 0) aQ) (v 1)))) (λB=>(aZ b (v 0) aQ)))
   (aS (d7 (bX (lW a.units) (v 7) (fI aG))
    (aS (eJ (d4 Cj Du Ec jG (v 2) (aC (v 6) aG))))
    (aS (a8 (i:=3) nd (bL xK (v 3) (zdF (mN (yD rfl) (by rfl) Y.list_ n9 (aC (aZ b (v 7) (bU (kM Y) Y.x29 a (aC (v 0) (aC (bY cS (by rfl) Y.len_ cU (aC (v 7) aG)) aG)))) aG)) (lQ lU aQ)))))))))
    eS)))
   (aO (d7 (bX (lW a.units) (bU (kM Y) Y.x29 a (aC (v 0) (aC aQ aG))) aQ)
    (aS (zb7 (i:=2) nd ["k","deck"] [none,some 0] (kB (by rfl) Y.range_ (aC (v 4) aG)) (λB=>(fT (i:=0))) (λB=>jL) (λB=>(aZ b (fI (aC iP (aC iP (aC iP (aC iP (aC iP aG)))))) (bU (kM Y) Y.x29 a (aC (v 1) (aC aQ aG)))))))
    eS)
   (aS (cD (v 2))))))))
def NK:=cF P w mg base 0 Y.x32.fn Y.x32.bi cE zfx λb a nd=>(aO (d7 (bX (j9 a) (v 3) (v 2))
    (aS (cD (mN (xV rfl) (by rfl) Y.list_ n9 (aC (d4 Dl Gq Gp (lE a) (v 1) (aC (cG (aC (v 3) (aC (v 4) aG))) (aC (dX pE) aG))) aG))))
    eS)
   (aO (d7 (PW.pt (pA (bX rC (v 4) (bY cS (by rfl) Y.len_ cU (aC (v 0) aG))) (oZ (bX (lW b.units) (aZ a (v 0) (v 4)) (v 3)))))
    (aS (cD (gY (aC (bL dC (v 4) aQ) aG))))
    eS)
   (aS (cD (gY aG)))))
def NL:=cF P w mg base 1 Y.x33.fn Y.x33.bi cE zfL λb a nd=>(aO (vI (i:=2) nd ["rule"] [none] (eD (v 0)) (λB=>(fT (i:=0))) (λB=>jL) (λB=>(aZ a (v 0) aQ)))
   (aO (a8 (i:=3) nd mS)
   (aO (a8 (i:=4) nd j8)
   (aO (tZ Bl (tQ (v 4))
    (aO (a8 (i:=4) nd j8)
   (aS (dQ Bl rfl (pJ (v 0)) (lA rfl (eM (b8 (i:=5) nd) (eM (b8 (i:=6) nd) (eM (b8 (i:=7) nd) k9))))
    (aS (dQ Bl rfl (kB (by rfl) Y.range_ (aC (bL dC (bY cS (by rfl) Y.len_ cU (aC (v 1) aG)) aQ) aG)) (b8 (i:=8) nd)
    (aO (a8 (i:=9) nd (fI (aC (v 8) aG)))
   (aO (dQ Bl rfl (eD (v 6)) (b8 (i:=10) nd)
    (aO (a8 (i:=11) nd (fI aG))
   (aO (dQ Bl rfl (eD (v 9)) (b8 (i:=12) nd)
    (aS (a8 (i:=11) nd (bL dC (v 11) (dX (bU (NK Y) Y.x32 b (aC (v 1) (aC (v 3) (aC (v 2) (aC (v 10) (aC (v 12) aG)))))))))))
   (aS (a8 (i:=9) nd (LM (by rfl) Y.sorted_ (by rfl) Y.set_ (v 11)))))))
   (aO (a8 (i:=13) nd (d4 Dl Od Oc (yZ a) (v 3) (aC (cG (aC (v 5) (aC (v 8) aG))) (aC pE aG))))
   (aS (dQ Bl rfl (eD (v 9)) (b8 (i:=14) nd)
    (aO (a8 (i:=4) nd (v_or (v 4) (FC (vH (mR a) (v 14) (v 13)))))
   (aS (iW j8 (w_sub a (v 13) (v 14))))))))))))))))
   (aS (cD (v 3)))))))
def zgw:=cF P w mg base 0 Y.x34.fn Y.x34.bi cE zfD λb a nd=>(aO (a8 (i:=1) nd pE)
   (aO (a8 (i:=2) nd (dX (iY ["rule"] [none] (eD (v 0)) (λB=>(fT (i:=0))) (λB=>jL) (λB=>(aZ a (v 0) aQ)))))
   (aO (dQ Bl rfl (kB (by rfl) Y.range_ (aC (bL dC (bY cS (by rfl) Y.len_ cU (aC (v 0) aG)) aQ) aG)) (b8 (i:=3) nd)
    (aS (dQ Bl rfl (pJ (v 0)) (lA rfl (eM (b8 (i:=4) nd) (eM (b8 (i:=5) nd) (eM (b8 (i:=6) nd) k9))))
    (aS (d7 (bX (lW b.units) (dX (iY ["part","heads","lengths"] [none,some 2,some 1] (eD (v 5)) (λB=>(fT (i:=0))) (λB=>(pK (PW.pt (pA (bX (j9 a) (v 0) (v 1)) (oZ (bX (mR a) (v 0) (v 2))))))) (λB=>(v 0)))) (fI aG))
    (aO (a8 (i:=7) nd (bY (G5 rfl) (by rfl) Y.sum_ GX (aC (dX (iY ["part","lengths"] [none,some 1] (eD (v 5)) (λB=>(fT (i:=0))) (λB=>jL) (λB=>(d4 Dl Gq Gp (lE a) (v 1) (aC (v 0) (aC aQ aG)))))) aG)))
   (aS (iW (bY (F5 rfl) (by rfl) Y.min_ GY (aC (v 7) (aC (d4 Dl Gq Gp (lE a) (v 1) (aC (v 4) (aC (v 7) aG))) aG))) (w_sub a (v 1) (v 4)))))
    eS)))))
   (aS (cD (v 1))))))
def NM:=cF P w mg base 0 Y.x35.fn Y.x35.bi cE zfA λb a nd=>(aO (a8 (i:=3) nd (dX (iY ["rule"] [none] (eD (v 0)) (λB=>(fT (i:=0))) (λB=>jL) (λB=>(aZ a (v 0) aQ)))))
   (aO (d7 (bX (pD b.units) (dX (iY ["part","heads","lengths"] [none,some 3,some 1] (eD (v 2)) (λB=>(fT (i:=0))) (λB=>(pK (PW.pt (pA (bX (j9 a) (v 0) (v 1)) (oZ (bX (mR a) (v 0) (v 2))))))) (λB=>(v 0)))) (fI aG))
    (aS (cD nV))
    eS)
   (aS (cD (bY (G5 rfl) (by rfl) Y.sum_ GX (aC (dX (iY ["part","lengths"] [none,some 1] (eD (v 2)) (λB=>(fT (i:=0))) (λB=>jL) (λB=>(d4 Dl Gq Gp (lE a) (v 1) (aC (v 0) (aC aQ aG)))))) aG))))))
def zgx:=cF P w mg base 1 Y.x36.fn Y.x36.bi cE zfQ λb a nd=>(aO (vI (i:=7) nd ["rule"] [none] (eD (v 0)) (λB=>(fT (i:=0))) (λB=>jL) (λB=>(aZ a (v 0) aQ)))
   (aO (a8 (i:=8) nd (gY aG))
   (aO (a8 (i:=9) nd (fI (aC (v 6) aG)))
   (aO (dQ Bl rfl (kB (by rfl) Y.range_ (aC (bL dC (bY cS (by rfl) Y.len_ cU (aC (v 5) aG)) aQ) aG)) (b8 (i:=10) nd)
    (aO (a8 (i:=11) nd (bU (NM Y) Y.x35 b (aC (v 0) (aC (v 2) (aC (LU (v 5) (rG (v 10)) rF) aG)))))
   (aO (d7 (PW.pt (pA (bX (j9 a) (bY cS (by rfl) Y.len_ cU (aC (v 1) aG)) (v 9)) (oZ (bX xP (v 11) nV))))
    (aS (eJ (d4 Cj Du Ec jG (v 8) (aC (v 11) aG))))
    eS)
   (aS (d7 (bX rC (v 10) (bY cS (by rfl) Y.len_ cU (aC (v 5) aG)))
    (aO (a8 (i:=12) nd (bU (NM Y) Y.x35 b (aC (v 0) (aC (v 2) (aC (LU (v 5) (rG (bL dC (v 10) aQ)) rF) aG)))))
   (aO (d7 (bX xP (v 12) nV)
    (aO (vI (i:=13) nd ["at","more","parts","k"] [none,some 4,some 5,some 10] (eD (v 9)) (λB=>(fT (i:=0))) (λB=>(pK (bX (j9 a) (cG (aC (aZ a (v 2) (v 3)) (aC (v 0) aG))) (v 1)))) (λB=>(aZ a (v 1) (cG (aC (aZ a (v 2) (v 3)) (aC (v 0) aG))))))
   (aS (a8 (i:=8) nd (bL xK (v 8) (dX (iY ["words","late"] [none,some 12] (eD (v 13)) (λB=>(fT (i:=0))) (λB=>jL) (λB=>(bL dC (v 0) (v 1)))))))))
    eS)
   (aO (a8 (i:=14) nd (fI aG))
   (aO (dQ Bl rfl (eD (v 9)) (b8 (i:=15) nd)
    (aS (a8 (i:=14) nd (bL dC (v 14) (dX (bU (NK Y) Y.x32 b (aC (v 1) (aC (v 3) (aC (v 7) (aC (aZ a (v 5) (v 10)) (aC (v 15) aG)))))))))))
   (aS (a8 (i:=9) nd (LM (by rfl) Y.sorted_ (by rfl) Y.set_ (v 14))))))))
    eS)))))
   (aS (cD (zdA (by rfl) Y.min_ (dX (v 8)))))))))
def zgy:=cF P w mg base 2 Y.x37.fn Y.x37.bi cE zfS λb a nd=>(aO (a8 (i:=2) nd (dX (bU (zgw Y) Y.x34 b (aC (v 0) aG))))
   (aO (a8 (i:=3) nd (bU (NL Y) Y.x33 b (aC (v 0) (aC (v 1) aG))))
   (aO (a8 (i:=4) nd mS)
   (aO (dQ Bl rfl (kB (by rfl) Y.range_ (aC (bL dC (bL pM (bY cS (by rfl) Y.len_ cU (aC (v 0) aG)) (bL dC (bY cS (by rfl) Y.len_ cU (aC (v 1) aG)) aQ)) aQ) aG)) (b8 (i:=5) nd)
    (aS (dQ Bl rfl (pJ (v 0)) (lA rfl (eM (b8 (i:=6) nd) (eM (b8 (i:=7) nd) (eM (b8 (i:=8) nd) k9))))
    (aS (dQ Bl rfl (kB (by rfl) Y.range_ (aC (bL dC (bY cS (by rfl) Y.len_ cU (aC (v 1) aG)) aQ) aG)) (b8 (i:=9) nd)
    (aO (a8 (i:=10) nd (bU (zgx Y) Y.x36 b (aC (v 0) (aC (v 1) (aC (v 2) (aC (v 3) (aC (v 4) (aC (v 7) (aC (v 9) aG)))))))))
   (aS (d7 (bX xP (v 10) nV)
    (aS (iW (bY (F5 rfl) (by rfl) Y.min_ GY (aC (v 10) (aC (d4 Dl Gq Gp (lE a) (v 4) (aC (cG (aC (v 6) (aC (v 9) aG))) (aC (v 10) aG))) aG))) (w_sub a (v 4) (cG (aC (v 6) (aC (v 9) aG))))))
    eS))))))))
   (aS (cD (d4 Dl Gq Gp (lE a) (v 4) (aC (cG (aC (aZ a (aZ a (v 0) aQ) aQ) (aC aQ aG))) aG))))))))
def zgz:=cF P w mg base 7 Y.x38.fn Y.x38.bi cE zf5 λa b nd=>(aO (a8 (i:=1) nd (bU (zgt Y) Y.x28 a (aC (v 0) aG)))
   (aO (a8 (i:=2) nd (dX (bU (zgu Y) Y.x30 a (aC (v 1) aG))))
   (aO (a8 (i:=3) nd (dX (bU (zgv Y) Y.x31 a (aC (v 1) (aC (v 2) aG)))))
   (aO (a8 (i:=4) nd (bU (zgy Y) Y.x37 a (aC (v 2) (aC (v 3) aG))))
   (aO (a8 (i:=5) nd (cG (aC (mN (yD rfl) (by rfl) Y.list_ n9 (aC (v 2) aG)) (aC (mN (yD rfl) (by rfl) Y.list_ n9 (aC (v 3) aG)) aG))))
   (aO (a8 (i:=6) nd (bU (NJ Y) Y.x27 a (aC (aZ b (v 5) aQ) (aC (aZ b (v 5) aQ) aG))))
   (aO (d7 (bX (pD a.units) (v 5) (cG (aC (v 2) (aC (v 3) aG))))
    (aS (cD j8))
    eS)
   (aO (d7 (bX FN (v 4) nV)
    (aS (cD (vH FN (v 6) nV)))
    eS)
   (aO (d7 (PW.pt (xH (E9 (tQ (bY GH (by rfl) Y.isinstance_ GW (aC (v 6) (aC (E7 (by rfl) Y.list_ n9 (y:=.ty "list") rfl (λ_ _=>.ty _)) aG))))) (xH (bX (pD a.units) (yE (v 6) rF (rG (bY cS (by rfl) Y.len_ cU (aC (v 3) aG)))) (v 3)) (E8 (bX (pD a.units) (bY cS (by rfl) Y.len_ cU (aC (v 6) aG)) (bL dC (bY cS (by rfl) Y.len_ cU (aC (v 3) aG)) (v 4)))))))
    (aS (cD j8))
    eS)
   (aO (d7 (bX (mR b) (bY cS (by rfl) Y.len_ cU (aC (v 6) aG)) (d4 Dl Gq Gp (lE b) (bU (NL Y) Y.x33 a (aC (v 2) (aC (v 6) aG))) (aC (cG (aC (aZ b (aZ b (v 2) aQ) aQ) (aC aQ aG))) (aC (dX pE) aG))))
    (aS (cD j8))
    eS)
   (aO (eJ (d4 Cj Du Ec jG (v 6) (aC iP aG)))
   (aO (a8 (i:=7) nd (bU (NJ Y) Y.x27 a (aC (v 2) (aC (v 3) aG))))
   (aS (cD (v_and (bY GH (by rfl) Y.isinstance_ GW (aC (v 7) (aC (E7 (by rfl) Y.list_ n9 (y:=.ty "list") rfl (λ_ _=>.ty _)) aG))) (FC (vH (lW a.units) (bY cS (by rfl) Y.len_ cU (aC (v 7) aG)) (bL dC (bY cS (by rfl) Y.len_ cU (aC (v 3) aG)) (v 4)))))))))))))))))))
end
section
variable {w:Ck}{h:Heap}{mg:Str->Option Ae}
def mn(X:(hpK w.params).In h)(G:h.Ns Fi mg)(e:PySem.W.nsIn (hpK w.params) Fi x=some none:=by kernel_rfl):mg x=none:=PySem.W.mg_none_of X G e
def zgA(X:(hpK w.params).In h)(G:h.Ns Fi mg):Tx mg:=⟨mn X G,mn X G,mn X G,mn X G,mn X G,mn X G,mn X G,mn X G,mn X G,mn X G,mn X G,mn X G⟩
def zgB(X:(hpK w.params).In h)(G:h.Ns Fi mg):Kc (hpK w.params) mg ⟨95,151,221,188,0⟩:=⟨⟨by kernel_rfl,by kernel_rfl,by kernel_rfl,by kernel_rfl⟩,Of (v:=.ref 95) X G (by kernel_rfl),⟨by kernel_rfl,by kernel_rfl,by kernel_rfl,by kernel_rfl⟩,Of (v:=.ref 151) X G (by kernel_rfl),(show Cq (hpK w.params) (.ref 95) "costs" = some none by kernel_rfl),(show Cq (hpK w.params) (.ref 95) "waiting" = some none by kernel_rfl),(show Cq (hpK w.params) (.ref 151) "grammar" = some none by kernel_rfl),(show Cq (hpK w.params) (.ref 151) "own" = some none by kernel_rfl),(show Cq (hpK w.params) (.ref 151) "steps" = some none by kernel_rfl),(show Cq (hpK w.params) (.ref 151) "queue" = some none by kernel_rfl),(show Cq (hpK w.params) (.ref 151) "reached" = some none by kernel_rfl),(show Cq (hpK w.params) (.ref 151) "best" = some none by kernel_rfl),(show Cq (hpK w.params) (.ref 151) "ends" = some none by kernel_rfl),(show Cq (hpK w.params) (.ref 151) "begun" = some none by kernel_rfl)⟩
def zgC(i:Nat):Addr:=([21,28,33,40,45,50,64,71,85,78,92,106,120,127,148,141,134,162,167,181,188,221,174,193,200,207,214,228,235,242,247,252,259,264,269,274,279,286,293]:List Addr).getD i 0
def zgD(i:Nat):Bv:=[BW,BX,BY,BZ,B0,B1,B3,B4,B6,B5,B7,B8,B9,CA,CD,CC,CB,CF,CG,CI,CJ,CO,CH,CK,CL,CM,CN,CP,CQ,CS,CT,CU,CV,CW,CY,CZ,C0,C1,sQ].getD i sQ
def zgE(X:(hpK w.params).In h)(G:h.Ns Fi mg):Al (hpK w.params) mg ⟨95,151,221,188,0⟩ zgC zgD:=⟨zgA X G,zgB X G,dF X G,dF X G,dF X G,dF X G,dF X G,dF X G,dI,dM,dM,dM,dM,dF X G,dI,dM,dM,dM,dM,dF X G,dF X G,dF X G,dF X G,dF X G,dF X G,dF X G,dF X G,dF X G,dF X G,dF X G,dF X G,dF X G,dF X G,dF X G,dF X G,dF X G,dF X G,dF X G,dF X G,dF X G,dF X G,rfl,rfl⟩
end
def zgF{l:PySem.W.OpenLaw}{w:Ck}{h:Heap}{mg:Str->Option Ae}{fa:Addr}(X:(hpK w.params).In h)(G:h.Ns Fi mg)(a:mg "law" = some (.ref fa)):
  ∃fd:Bv,(∀(s:Ag) (v:Ae),BindsTo s fd ⟨[v],[]⟩ [("script",v)])/\∀base:Heap,(hpK w.params).In base->base.Ns Fi mg->e9 l.prog w (hpK w.params) mg base gL 8 fa fd ["script"] (gZ (hpK w.params) rL):=by
 have e:=a.symm.trans (Of (v:=.ref 293) X G (by kernel_rfl));cases e;exact⟨sQ,λs v=>.of_eq rfl,λbase _ _=>zgz (zgE X G)⟩
def zgG{l:PySem.W.OpenLaw}{q:Bt}{loose:List Str}{XP:(Str->Option Ae)->Heap->Prop}{YP:Ck->Heap->Prop}{d:DefRec}{K:Params->Ac}(g:l.most=some 63)(b:d.params.defaults=[])(c:∀(w:Ck) (h:Heap),YP w h->(K w.params).In h)(F:∀(w:Ck) (mg:Str->Option Ae) (fa:Addr) (h:Heap),(K w.params).In h->h.Ns Fi mg->mg d.name=some (.ref fa)->
   ∃fd:Bv,(∀(s:Ag) (u:Ae),BindsTo s fd ⟨[u],[]⟩ [("script",u)])/\∀base:Heap,(K w.params).In base->base.Ns Fi mg->e9 l.prog w (K w.params) mg base gL 8 fa fd ["script"] (gZ (K w.params) rL)):
  PySem.W.WalkO q loose XP YP l.row.toRowW d [] (λf vs=>PySem.call f vs):=
 L2.UB (n:=63) (k:=8) (x:="script") (CX:=λ_=>gL) (sp:=λw=>gZ (K w.params) rL) g (by decide) b ⟨rfl,by decide,by decide⟩ c F (λ_ _ a ns hl i e=>WL hl i e) λ_ _ _ _ _ z=>z
end Rg
open PySem PySem.W PyProof.Rows
set_option maxRecDepth 100000 in
set_option maxHeartbeats 0 in
theorem PySem.Challenge.cw_readgrove_k41_ways_on_holds : PySem.Challenge.rw_readgrove_k41_ways_on.Holds := by
 w_on; refine PySem.W.holds_law Rg.NP λsaid => ?_
 refine PySem.W.holds_open (r := PySem.Challenge.rw_readgrove_k41_ways_on.row) (q := Rg.qv) (loose := []) (N := 3486)
  (Xt := λs => xlAt Rg.qv [] s&&recOk (RowW.records (OpenRow.toRowW PySem.Challenge.rw_readgrove_k41_ways_on.row)) s)
  (XP := XL Rg.qv []) (Yf := Rg.hk.obs) (Ya := Rg.hk.val) (YP := Rg.hk.says) ?hl Rg.hk.of Rg.hk.keeps
  (λs e => xl_of s (Lj.mp e).1) XL.keeps (by rfl) (by rfl) (by rfl) (λs e => recFacts_of (Lj.mp e).2)
  (by rfl) (by assumption) (by decide +kernel) ⟨rfl, rfl, rfl, rfl, rfl, by decide +kernel⟩ ?hw ?hc
 case hw => w_witness2
 case hc => exact Rg.zgG (l := PySem.Challenge.rw_readgrove_k41_ways_on) rfl rfl (λw h Y => PySem.W.kIn_of Y) (λw mg fa h KX G hmg => Rg.zgF KX G hmg)
 case hl => exact Rg.NQ
