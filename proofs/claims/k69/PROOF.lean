import PyProof.Rows.All
import Wide.All
import OpenK.AllK
import Wide.FinOn
import Lean
import PyProof.EqAt
import PyProof.EqKinds
import PyProof.TupleCall
import PySem.Challenge.RW_readgrove_k69_both_let_by
open PySem renaming wpAny_bind->Aa,Value->Ae,Shared->Ag,wpAny_pure->Ah,sizeLine->Ao,wpAny->Be,starEach->Bj,FuncData->Bk,model->Bn,Program->Bt,compareOp->Cb,Around->Ck,World->Cm,bootBuiltins->Ct,wpAny_holding->Cv,mainGlobals->Dh,wpAny_newObj_type->Du,wpAny_seqItems->Ek,wpAny_Call_Name_kw->El,cLine->Ez,tupleKind_room_in1->Fb,wpAny_field->Fe,wpAny_call_entry->Ff,wpAny_callSpecial?_slot->Fg,mem_of_lookup->Fh,binaryOp->Fl,Paired->Fs,tupleKind->Fz,sysModules->Ga,wpAny_letGo->Gg,plainId_quiet->Gh,assignEach->Gm,wpAny_truthy_bool->Gs,foldedSetIterable->Gu,backTo->Gx,IsPair->Gz,wpAny_tryCatch->Hb,wpAny_typeNameOfWhole_keyiter->Hg,Scope->Hh,wpAny_setField_rec->Hk,wpAny_rule->Hl,wpAny_pyIter_tuple->Hm,wpAny_mono->Hn,holding->Ho,codeAny->Hq,wpAny_passesOwn->Hu,NameKind->Hv,behindInMarks->Hw,DictEntry->Ia,wpAny_dictEntries->Ib,pyNext->Im,PyData->Iu,wpAny_typeNameOf_keyiter->Iz,attributeBase->Ja,wpAny_updateSeq->Jb,codeAny_builtin->Jc,swapsWith->Jg,wpAny_pyIter_list->Jm,rawInt->Jn,wpAny_notOrdered_dict->Jw,wpAny_eqBool_int->Jy,call_meets->Jz,sliceBounds->Kd,sizeLine_eq->Ke,call_meetsIn->Ko,wpAny_tupleItemsOf->Ku,Expr->Kz,wpAny_pyIter_enum->Ld,keywordEach->Lf,assign->Li,wpAny_pyIter_zip->Ls,wpAny_isInstance->Lu,atKey->Lv,codeAny_mono->Mb,builtinsNs->Mf,Builtin->Mh,wpAny_execs_nil->Mi,size_of_entries->Mj,letOwnedTupleGo->Ml,wpAny_updateSeq_pair->Ms,wpAny_setField->Mu,firstArgMember->Mv,IsZip->Mw,updateSeq->Mx,storedH->My,standAt->Mz,seqItems?->Na,getMethod->Nb,wpAny_standAt->Nd,wpAny_onRaise->Nf,wpAny_attempt->Ng
open List renaming length_map->Ab,mem_cons->Aj,length_append->Ak,mem_singleton->Am,getElem?_eq_some_iff->An,mem_cons_of_mem->Ap,getElem?_eq_getElem->Au,mem_cons_self->Aw,getElem?_map->Ax,mem_map->Ay,map_cons->Bb,map_append->Bc,size_toArray->Bd,mem_of_getElem?->Bg,map_map->Bh,length_singleton->Bl,mem_append->Bo,length_take->Bq,length_cons->Br,take_length->Bw,replicate->Bz,take_add_one->Cd,lookup->Ce,mem_append_right->Cf,mem_append_left->Ci,nodup_nil->Cq,mem_nil_iff->Cr,nodup_cons->Cs,map_congr_left->Cw,lookup_cons->Cy,foldl_append->Cz,foldl_cons->Dl,mem_of_mem_take->Ds,take_of_length_le->Dv,mem_flatMap->Dz,eq_nil_or_concat->Ea,concat_eq_append->Eb,range->Eg,length->Eh,getD_eq_getElem?_getD->Ei,mem_filter->Ej,mem_map_of_mem->Em,any_cons->Er,length_eq_zero_iff->Ex,filter_cons->Ey,nodup_append->Fi,find?_cons->Fj,mem_filterMap->Fp,map_nil->Fu,append_nil->Fw,replicate_succ->Fx,length_pos_iff->Fy,getLastD_eq_getLast?->Gj,flatten_cons->Gn,filterMap_cons->Gv,getElem?_cons_succ->Gw,mem_zipIdx_iff_getElem?->Hd,length_filter_le->Hi,getElem?_eq_none->Hj,append_assoc->Hr,mem_range->Hy,mem_iff_getElem->Hz,length_drop->Ic,getElem?_eq_none_iff->Ih,filterMap_map->Il,length_range->Jd,take_append_drop->Jh,not_mem_nil->Jl,map->Jt,getElem?_zipIdx->Ju,length_nil->Jx,flatten_append->Kb,nodup_iff_pairwise_ne->Ki,pairwise_iff_getElem->Km,drop_eq_getElem_cons->Kn,reverse_cons->Ks,zipIdx_cons->Kx,all_eq_true->Ky,nil_append->Lm,forIn_cons->Lo,sum_cons->Mo,map_take->Mq,all_cons->Mr
open PySem.W renaming Frag->Ac,findIn->Cg,kia_one->Eo,fnOf->Ep,keepIn->Fc,emptyDict->Fd,tabObj->Fq,instObj->Gi,kitOne->Ip,codeIn->Iq,callWith_K->Ka,mg_of->Kk,plainGet->Kq,codeHdIn->Kr,isFn->Kv,kla_obj->Kw,lookIn->Lj,plainGet_of->Lw
open PySem.Heap renaming get?_push_of_some->Af,lt_size->Av,get?_push_size->Ba,get?_update_other->Dc,size_push->Dn,SameBut->Eu,get?_update_self->Gf,ExtBut->Lx
open Nat renaming le_refl->Ai,le_trans->Az,ne_of_lt->Bs,lt_of_lt_of_le->Bu,zero_le->Ca,ne_of_gt->Dk,lt_of_le_of_lt->Ft,le_of_eq->Gb,zero_add->Gp,le_of_lt->Hc,lt_succ_self->Ig,add_le_add_left->Ij,mul_le_mul->Jf,lt_irrefl->Js,le_succ->Kt,not_lt->Ll,strongRecOn->Lr
open Bool renaming false_ne_true->Ar,and_eq_true->Co,false_eq_true->Dw,eq_iff_iff->Dy,eq_false_iff->Je,not_true->Jr,not_not->Lg,not_false->Ma
open Option renaming map_eq_some_iff->Bf,isSome_iff_exists->Cj,isSome_map->Iv,not_isSome_iff_eq_none->Jk,map_some->La
open Ne renaming symm->Bi
open PySem.PassesOwn renaming never->Bp
open PySem.F renaming plainAttrs_list->Bv,slot_list_append->Cp,type_list_append->Cu,plainAttrs_dict->Ee,slot_dict_keyiterator_next->Es,plain_min_loop->Gy,slot_tuple_iterator_next->Ii,entry_dict_get->Ir,type_dict_get->Iw,slot_dict_get->Iy,type_dict_setdefault->Ji,slot_dict_setdefault->Jj,slot_list_pop->Kg,slot_list_getattribute->Lc,type_list_pop->Ly,slot_zip_next->Lz
open Option.some renaming inj->Bx,injEq->Ge
open Prod.mk renaming injEq->De
open Int renaming toNat_natCast->Dg,le_refl->Ha,zero_add->Kf,eq_ofNat_of_zero_le->Lb
open PySem.Builtin.SmallTypes renaming nextOf->Dj,ownedTupleIsFree->Fo
open Prod renaming fst->Dr,snd->Fm
open PyProof.Rows renaming callWith_type1->Dx,slot_tuple_getitem->Ik,envOfC->Jo,AllBare->Lh,IntsAre->Nc
open PySem.Str renaming ofString->Ec
open List.cons renaming injEq->Ed
open PySem.Paired renaming length->Ef
open PySem.Heap.SameBut renaming update->Ew
open Function renaming comp->Fn
open False renaming elim->Fv
open PySem.PyData renaming eqv->Gd,depth->Hx,eqvAll->Mg
open PySem.Around renaming under_plainId->Gk
open PySem.Builtin.Builtins renaming bindParams->Gq
open Array renaming length_toList->Gr,getElem?_toList->Hf
open PySem.Builtin.Slice renaming slicePlaces->He,sliceAdjust->Jq
open PySem.Builtin.Tuple renaming tupleExact->Hs
open PySem.Builtin.List renaming listTooLong->Ht
open PySem.AutoSeq1 renaming wpAny_loadPart'->Ie
open PySem.Obj renaming mapSeq->Jp,data_mapDictKeys->Jv,data_mapFields->Kl
open PySem.Builtin.Str renaming occurrences->Kh
open Sum.inl renaming injEq->Kj
set_option Elab.async false
set_option compiler.extract_closed false
set_option bootstrap.genMatcherCode false
set_option linter.all false
noncomputable section
set_option genSizeOf false
set_option maxRecDepth 100000
namespace L2
open PySem Spec PyProof.Rows
def kI(s:Stmt)(j:Nat):Stmt:=match s with
 | .ClassDef _ _ _ body _ _ _ _ _ _ _=>body.getD j (.Pass ⟨0,0,0,0⟩)
 | _=>.Pass ⟨0,0,0,0⟩
def jB(s:Stmt):Arguments:=match s with
 | .FunctionDef _ a _ _ _ _ _ _ _ _=>a
 | _=>{posonlyargs:=[],args:=[],vararg:=none,kwonlyargs:=[],kw_defaults:=[],kwarg:=none,defaults:=[]}
def gO(s:Stmt):List Stmt:=match s with
 | .FunctionDef _ _ b _ _ _ _ _ _ _=>b
 | _=>[]
def dW(s:Stmt):Hh:=match s with
 | .FunctionDef _ _ _ _ _ _ sc _ _ _=>sc
 | _=>{kind:=.function,names:=[],isGenerator:=false,isCoroutine:=false}
end L2
namespace M69
open PySem Spec PyProof.Rows L2
def aQ(i:Nat):Stmt:=PySem.Challenge.pw_readgrove_k69_both_let_by.main.body.getD i (.Pass ⟨0,0,0,0⟩)
abbrev BZ:Stmt:=aQ 1
abbrev B0:Stmt:=aQ 2
abbrev B1:Stmt:=aQ 4
abbrev B3:Stmt:=aQ 5
abbrev B4:Stmt:=kI (aQ 7) 0
abbrev B5:Stmt:=kI (aQ 7) 1
abbrev B6:Stmt:=kI (aQ 7) 2
abbrev B7:Stmt:=kI (aQ 7) 3
abbrev B8:Stmt:=kI (aQ 7) 4
abbrev B9:Stmt:=aQ 9
abbrev CA:Stmt:=kI (aQ 10) 0
abbrev CB:Stmt:=kI (aQ 10) 1
abbrev CC:Stmt:=kI (aQ 10) 2
abbrev CD:Stmt:=kI (aQ 10) 3
abbrev CF:Stmt:=kI (aQ 10) 4
abbrev CG:Stmt:=aQ 11
abbrev CH:Stmt:=aQ 12
abbrev CI:Stmt:=aQ 13
abbrev CJ:Stmt:=aQ 14
abbrev CK:Stmt:=aQ 15
abbrev CL:Stmt:=aQ 16
abbrev CM:Stmt:=aQ 17
abbrev CN:Stmt:=aQ 18
abbrev CO:Stmt:=aQ 20
abbrev CP:Stmt:=aQ 22
abbrev CQ:Stmt:=aQ 24
abbrev CS:Stmt:=aQ 25
abbrev CT:Stmt:=aQ 26
abbrev CU:Stmt:=aQ 27
abbrev CV:Stmt:=aQ 28
abbrev CW:Stmt:=aQ 29
abbrev CY:Stmt:=aQ 31
abbrev CZ:Stmt:=aQ 32
abbrev C0:Stmt:=aQ 33
abbrev C1:Stmt:=aQ 34
abbrev C2:Stmt:=aQ 35
abbrev C3:Stmt:=aQ 36
abbrev C4:Stmt:=aQ 37
abbrev C5:Stmt:=aQ 38
abbrev C6:Stmt:=aQ 39
def en(P:Params)(x:String)(t:Tok)(v:Ae):Ia:=⟨PyData.keyHash P (Ec x),.str (Ec x) t,v⟩
abbrev sT(x:String)(t:Tok):Ae:=.str (Ec x) t
abbrev cO(x:String)(a:Tok)(q:String)(b c:Tok)(l n:Int)(r:Addr)(u v w y z:Ae)(k:Int)(d:Tok):Obj:=⟨.type "code",none,.fields #[sT x a,sT q b,sT "/claim/cut.py" c,.int l 0,.int n 0,.int 0 0,.int 0 0,.int 3 0,.ref r,.bool true,.int 181 0,u,v,w,y,z,.int k 0,.int l 0,sT "/claim/cut.py" d],#[]⟩
abbrev fO(x q:Str)(s:Stmt)(m c:Ae):Bk:=Ep x q (jB s) (gO s) (dW s) .none .none .none m none c .none
abbrev C7:Bk:=fO "names" "names" BZ (sT "readgrove.grammars" 187) (.ref 20)
abbrev C8:Bk:=fO "first_name" "first_name" B0 (sT "readgrove.grammars" 187) (.ref 27)
abbrev C9:Bk:=fO "marks" "marks" B1 (sT "readgrove.covers" 205) (.ref 32)
abbrev DA:Bk:=fO "part_facts" "part_facts" B3 (sT "readgrove.covers" 205) (.ref 37)
abbrev DB:Bk:=fO "__init__" "Queue.__init__" B4 (sT "readgrove.queues" 219) (.ref 51)
abbrev DC:Bk:=fO "is_done" "Queue.is_done" B5 (sT "readgrove.queues" 219) (.ref 58)
abbrev DD:Bk:=fO "put" "Queue.put" B6 (sT "readgrove.queues" 219) (.ref 65)
abbrev DE:Bk:=fO "place_of" "Queue.place_of" B7 (sT "readgrove.queues" 219) (.ref 72)
abbrev DF:Bk:=fO "take" "Queue.take" B8 (sT "readgrove.queues" 219) (.ref 79)
abbrev DG:Bk:=fO "added" "added" B9 (sT "readgrove.leasts" 287) (.ref 93)
abbrev DH:Bk:=fO "__init__" "Search.__init__" CA (sT "readgrove.leasts" 287) (.ref 107)
abbrev DJ:Bk:=fO "reach" "Search.reach" CB (sT "readgrove.leasts" 287) (.ref 114)
abbrev DK:Bk:=fO "take_next" "Search.take_next" CC (sT "readgrove.leasts" 287) (.ref 121)
abbrev DL:Bk:=fO "step_by_name" "Search.step_by_name" CD (sT "readgrove.leasts" 287) (.ref 128)
abbrev DM:Bk:=fO "settle" "Search.settle" CF (sT "readgrove.leasts" 287) (.ref 135)
abbrev DN:Bk:=fO "least_trees" "least_trees" CG (sT "readgrove.leasts" 287) (.ref 149)
abbrev DO:Bk:=fO "facts_within" "facts_within" CH (sT "readgrove.leasts" 287) (.ref 154)
abbrev DP:Bk:=fO "made_of_best" "made_of_best" CI (sT "readgrove.leasts" 287) (.ref 161)
abbrev DQ:Bk:=fO "same_word" "same_word" CJ (sT "readgrove.leasts" 287) (.ref 168)
abbrev DR:Bk:=fO "knot_of" "knot_of" CK (sT "readgrove.leasts" 287) (.ref 175)
abbrev DS:Bk:=fO "best_tree" "best_tree" CL (sT "readgrove.leasts" 287) (.ref 182)
abbrev DT:Bk:=fO "one_behind_another" "one_behind_another" CM (sT "readgrove.leasts" 287) (.ref 189)
abbrev DU:Bk:=fO "joined" "joined" CN (sT "readgrove.leasts" 287) (.ref 196)
abbrev DV:Bk:=fO "no_weights" "no_weights" CO (sT "readgrove.spans" 468) (.ref 201)
abbrev DW:Bk:=fO "listed" "listed" CP (sT "readgrove.nexts" 476) (.ref 208)
abbrev DX:Bk:=fO "rooms_of" "rooms_of" CQ (sT "readgrove.machines" 487) (.ref 215)
abbrev DY:Bk:=fO "arrow_steps" "arrow_steps" CS (sT "readgrove.machines" 487) (.ref 222)
abbrev DZ:Bk:=fO "machine_trees" "machine_trees" CT (sT "readgrove.machines" 487) (.ref 229)
abbrev D4:Bk:=fO "common_facts" "common_facts" CU (sT "readgrove.machines" 487) (.ref 234)
abbrev D5:Bk:=fO "room_reached" "room_reached" CV (sT "readgrove.machines" 487) (.ref 241)
abbrev D6:Bk:=fO "both_let" "both_let" CW (sT "readgrove.machines" 487) (.ref 248)
abbrev D7:Bk:=fO "_law_numbers" "_law_numbers" CY (sT "law_readgrove_k69_both_let_by" 541) (.ref 255)
abbrev D8:Bk:=fO "_law_take" "_law_take" CZ (sT "law_readgrove_k69_both_let_by" 541) (.ref 262)
abbrev D9:Bk:=fO "_law_rules" "_law_rules" C0 (sT "law_readgrove_k69_both_let_by" 541) (.ref 267)
abbrev EA:Bk:=fO "_law_machine" "_law_machine" C1 (sT "law_readgrove_k69_both_let_by" 541) (.ref 272)
abbrev EB:Bk:=fO "_law_through" "_law_through" C2 (sT "law_readgrove_k69_both_let_by" 541) (.ref 279)
abbrev EC:Bk:=fO "_law_fewest" "_law_fewest" C3 (sT "law_readgrove_k69_both_let_by" 541) (.ref 284)
abbrev ED:Bk:=fO "_law_walked" "_law_walked" C4 (sT "law_readgrove_k69_both_let_by" 541) (.ref 289)
abbrev EE:Bk:=fO "_law_walks" "_law_walks" C5 (sT "law_readgrove_k69_both_let_by" 541) (.ref 294)
abbrev sZ:Bk:=fO "law" "law" C6 (sT "law_readgrove_k69_both_let_by" 541) (.ref 301)
def hpK:Params->Ac:=λP=>[(nat_lit 3,⟨(.type "dict"),none,.dict [en P "__name__" 165 (sT "law_readgrove_k69_both_let_by" 541),en P "__doc__" 166 .none,en P "__package__" 167 .none,en P "__loader__" 168 (.builtin "__main__.__loader__#opaque"),en P "__spec__" 169 .none,en P "__annotations__" 170 (.ref 6),en P "__builtins__" 171 (.ref 4),en P "__file__" 173 (sT "/claim/cut.py" 172),en P "__cached__" 174 .none,en P "names" 197 (.ref 21),en P "first_name" 204 (.ref 28),en P "marks" 212 (.ref 33),en P "part_facts" 218 (.ref 38),en P "Queue" 286 (.ref 83),en P "added" 296 (.ref 94),en P "Search" 386 (.ref 139),en P "least_trees" 399 (.ref 150),en P "facts_within" 405 (.ref 155),en P "made_of_best" 424 (.ref 162),en P "same_word" 433 (.ref 169),en P "knot_of" 441 (.ref 176),en P "best_tree" 450 (.ref 183),en P "one_behind_another" 459 (.ref 190),en P "joined" 467 (.ref 197),en P "no_weights" 475 (.ref 202),en P "listed" 486 (.ref 209),en P "rooms_of" 495 (.ref 216),en P "arrow_steps" 504 (.ref 223),en P "machine_trees" 512 (.ref 230),en P "common_facts" 518 (.ref 235),en P "room_reached" 527 (.ref 242),en P "both_let" 540 (.ref 249),en P "_law_numbers" 555 (.ref 256),en P "_law_take" 564 (.ref 263),en P "_law_rules" 570 (.ref 268),en P "_law_machine" 576 (.ref 273),en P "_law_through" 595 (.ref 280),en P "_law_fewest" 601 (.ref 285),en P "_law_walked" 607 (.ref 290),en P "_law_walks" 613 (.ref 295),en P "law" 627 (.ref 302)].toArray 41,#[]⟩),
 (nat_lit 4,⟨(.type "module"),(some 0),.plain,#[]⟩),
 (nat_lit 20,cO "names" 189 "names" 190 191 2 1 15 (.ref 16) .none (.ref 17) (.ref 18) (.ref 19) 195 196),
 (nat_lit 21,⟨(.type "function"),none,.func C7,#[]⟩),
 (nat_lit 27,cO "first_name" 198 "first_name" 199 200 7 1 22 (.ref 23) .none (.ref 24) (.ref 25) (.ref 26) 202 203),
 (nat_lit 28,⟨(.type "function"),none,.func C8,#[]⟩),
 (nat_lit 32,cO "marks" 207 "marks" 208 209 10 1 29 (.ref 30) .none .none .none (.ref 31) 210 211),
 (nat_lit 33,⟨(.type "function"),none,.func C9,#[]⟩),
 (nat_lit 37,cO "part_facts" 213 "part_facts" 214 215 12 3 34 (.ref 35) .none .none .none (.ref 36) 216 217),
 (nat_lit 38,⟨(.type "function"),none,.func DA,#[]⟩),
 (nat_lit 51,cO "__init__" 233 "Queue.__init__" 234 235 17 1 46 (.ref 47) .none (.ref 48) (.ref 49) (.ref 50) 237 238),
 (nat_lit 52,⟨(.type "function"),none,.func DB,#[]⟩),
 (nat_lit 58,cO "is_done" 240 "Queue.is_done" 241 242 21 1 53 (.ref 54) .none (.ref 55) (.ref 56) (.ref 57) 244 245),
 (nat_lit 59,⟨(.type "function"),none,.func DC,#[]⟩),
 (nat_lit 65,cO "put" 247 "Queue.put" 248 249 24 3 60 (.ref 61) .none (.ref 62) (.ref 63) (.ref 64) 253 254),
 (nat_lit 66,⟨(.type "function"),none,.func DD,#[]⟩),
 (nat_lit 72,cO "place_of" 256 "Queue.place_of" 257 258 30 2 67 (.ref 68) .none (.ref 69) (.ref 70) (.ref 71) 264 265),
 (nat_lit 73,⟨(.type "function"),none,.func DE,#[]⟩),
 (nat_lit 79,cO "take" 267 "Queue.take" 268 269 41 1 74 (.ref 75) .none (.ref 76) (.ref 77) (.ref 78) 274 275),
 (nat_lit 80,⟨(.type "function"),none,.func DF,#[]⟩),
 (nat_lit 82,⟨(.type "dict"),none,.dict [en P "__module__" 228 (sT "readgrove.queues" 219),en P "__firstlineno__" 232 (.int 15 231),en P "__init__" 239 (.ref 52),en P "is_done" 246 (.ref 59),en P "put" 255 (.ref 66),en P "place_of" 266 (.ref 73),en P "take" 276 (.ref 80),en P "__static_attributes__" 279 (.ref 81),en P "__dict__" 281 (.ref 84),en P "__weakref__" 283 (.ref 85),en P "__doc__" 284 .none].toArray 4,#[]⟩),
 (nat_lit 83,⟨(.type "type"),none,.cls ⟨(Ec "Queue"),[(.type "object")],[(.ref 83),(.type "object")],82,(Ec "Queue"),true,[],[],false,none,false⟩,#[none,none,some (sT "Queue" 221),some (sT "Queue" 229),some (.builtin "object.__new__"),some (.bool true)]⟩),
 (nat_lit 93,cO "added" 289 "added" 290 291 50 2 88 (.ref 89) .none (.ref 90) (.ref 91) (.ref 92) 294 295),
 (nat_lit 94,⟨(.type "function"),none,.func DG,#[]⟩),
 (nat_lit 107,cO "__init__" 309 "Search.__init__" 310 311 54 3 102 (.ref 103) .none (.ref 104) (.ref 105) (.ref 106) 315 316),
 (nat_lit 108,⟨(.type "function"),none,.func DH,#[]⟩),
 (nat_lit 114,cO "reach" 318 "Search.reach" 319 320 64 4 109 (.ref 110) .none (.ref 111) (.ref 112) (.ref 113) 326 327),
 (nat_lit 115,⟨(.type "function"),none,.func DJ,#[]⟩),
 (nat_lit 121,cO "take_next" 329 "Search.take_next" 330 331 70 1 116 (.ref 117) .none (.ref 118) (.ref 119) (.ref 120) 340 341),
 (nat_lit 122,⟨(.type "function"),none,.func DK,#[]⟩),
 (nat_lit 128,cO "step_by_name" 343 "Search.step_by_name" 344 345 86 5 123 (.ref 124) .none (.ref 125) (.ref 126) (.ref 127) 353 354),
 (nat_lit 129,⟨(.type "function"),none,.func DL,#[]⟩),
 (nat_lit 135,cO "settle" 356 "Search.settle" 357 358 91 4 130 (.ref 131) .none (.ref 132) (.ref 133) (.ref 134) 368 369),
 (nat_lit 136,⟨(.type "function"),none,.func DM,#[]⟩),
 (nat_lit 138,⟨(.type "dict"),none,.dict [en P "__module__" 304 (sT "readgrove.leasts" 287),en P "__firstlineno__" 308 (.int 52 307),en P "__init__" 317 (.ref 108),en P "reach" 328 (.ref 115),en P "take_next" 342 (.ref 122),en P "step_by_name" 355 (.ref 129),en P "settle" 370 (.ref 136),en P "__static_attributes__" 379 (.ref 137),en P "__dict__" 381 (.ref 140),en P "__weakref__" 383 (.ref 141),en P "__doc__" 384 .none].toArray 4,#[]⟩),
 (nat_lit 139,⟨(.type "type"),none,.cls ⟨(Ec "Search"),[(.type "object")],[(.ref 139),(.type "object")],138,(Ec "Search"),true,[],[],false,none,false⟩,#[none,none,some (sT "Search" 297),some (sT "Search" 305),some (.builtin "object.__new__"),some (.bool true)]⟩),
 (nat_lit 149,cO "least_trees" 387 "least_trees" 388 389 100 4 144 (.ref 145) .none (.ref 146) (.ref 147) (.ref 148) 397 398),
 (nat_lit 150,⟨(.type "function"),none,.func DN,#[]⟩),
 (nat_lit 154,cO "facts_within" 400 "facts_within" 401 402 108 3 151 (.ref 152) .none .none .none (.ref 153) 403 404),
 (nat_lit 155,⟨(.type "function"),none,.func DO,#[]⟩),
 (nat_lit 161,cO "made_of_best" 406 "made_of_best" 407 408 119 5 156 (.ref 157) .none (.ref 158) (.ref 159) (.ref 160) 422 423),
 (nat_lit 162,⟨(.type "function"),none,.func DP,#[]⟩),
 (nat_lit 168,cO "same_word" 425 "same_word" 426 427 133 3 163 (.ref 164) .none (.ref 165) (.ref 166) (.ref 167) 431 432),
 (nat_lit 169,⟨(.type "function"),none,.func DQ,#[]⟩),
 (nat_lit 175,cO "knot_of" 434 "knot_of" 435 436 135 2 170 (.ref 171) .none (.ref 172) (.ref 173) (.ref 174) 439 440),
 (nat_lit 176,⟨(.type "function"),none,.func DR,#[]⟩),
 (nat_lit 182,cO "best_tree" 442 "best_tree" 443 444 137 3 177 (.ref 178) .none (.ref 179) (.ref 180) (.ref 181) 448 449),
 (nat_lit 183,⟨(.type "function"),none,.func DS,#[]⟩),
 (nat_lit 189,cO "one_behind_another" 451 "one_behind_another" 452 453 139 1 184 (.ref 185) .none (.ref 186) (.ref 187) (.ref 188) 457 458),
 (nat_lit 190,⟨(.type "function"),none,.func DT,#[]⟩),
 (nat_lit 196,cO "joined" 460 "joined" 461 462 144 2 191 (.ref 192) .none (.ref 193) (.ref 194) (.ref 195) 465 466),
 (nat_lit 197,⟨(.type "function"),none,.func DU,#[]⟩),
 (nat_lit 201,cO "no_weights" 470 "no_weights" 471 472 147 1 198 (.ref 199) .none .none .none (.ref 200) 473 474),
 (nat_lit 202,⟨(.type "function"),none,.func DV,#[]⟩),
 (nat_lit 208,cO "listed" 478 "listed" 479 480 150 3 203 (.ref 204) .none (.ref 205) (.ref 206) (.ref 207) 484 485),
 (nat_lit 209,⟨(.type "function"),none,.func DW,#[]⟩),
 (nat_lit 215,cO "rooms_of" 489 "rooms_of" 490 491 153 1 210 (.ref 211) .none (.ref 212) (.ref 213) (.ref 214) 493 494),
 (nat_lit 216,⟨(.type "function"),none,.func DX,#[]⟩),
 (nat_lit 222,cO "arrow_steps" 496 "arrow_steps" 497 498 155 1 217 (.ref 218) .none (.ref 219) (.ref 220) (.ref 221) 502 503),
 (nat_lit 223,⟨(.type "function"),none,.func DY,#[]⟩),
 (nat_lit 229,cO "machine_trees" 505 "machine_trees" 506 507 160 2 224 (.ref 225) .none (.ref 226) (.ref 227) (.ref 228) 510 511),
 (nat_lit 230,⟨(.type "function"),none,.func DZ,#[]⟩),
 (nat_lit 234,cO "common_facts" 513 "common_facts" 514 515 162 3 231 (.ref 232) .none .none .none (.ref 233) 516 517),
 (nat_lit 235,⟨(.type "function"),none,.func D4,#[]⟩),
 (nat_lit 241,cO "room_reached" 519 "room_reached" 520 521 165 3 236 (.ref 237) .none (.ref 238) (.ref 239) (.ref 240) 525 526),
 (nat_lit 242,⟨(.type "function"),none,.func D5,#[]⟩),
 (nat_lit 248,cO "both_let" 528 "both_let" 529 530 167 2 243 (.ref 244) .none (.ref 245) (.ref 246) (.ref 247) 538 539),
 (nat_lit 249,⟨(.type "function"),none,.func D6,#[]⟩),
 (nat_lit 255,cO "_law_numbers" 543 "_law_numbers" 544 545 177 1 250 (.ref 251) .none (.ref 252) (.ref 253) (.ref 254) 553 554),
 (nat_lit 256,⟨(.type "function"),none,.func D7,#[]⟩),
 (nat_lit 262,cO "_law_take" 556 "_law_take" 557 558 189 2 257 (.ref 258) .none (.ref 259) (.ref 260) (.ref 261) 562 563),
 (nat_lit 263,⟨(.type "function"),none,.func D8,#[]⟩),
 (nat_lit 267,cO "_law_rules" 565 "_law_rules" 566 567 195 1 264 (.ref 265) .none .none .none (.ref 266) 568 569),
 (nat_lit 268,⟨(.type "function"),none,.func D9,#[]⟩),
 (nat_lit 272,cO "_law_machine" 571 "_law_machine" 572 573 206 1 269 (.ref 270) .none .none .none (.ref 271) 574 575),
 (nat_lit 273,⟨(.type "function"),none,.func EA,#[]⟩),
 (nat_lit 279,cO "_law_through" 577 "_law_through" 578 579 214 5 274 (.ref 275) .none (.ref 276) (.ref 277) (.ref 278) 593 594),
 (nat_lit 280,⟨(.type "function"),none,.func EB,#[]⟩),
 (nat_lit 284,cO "_law_fewest" 596 "_law_fewest" 597 598 230 2 281 (.ref 282) .none .none .none (.ref 283) 599 600),
 (nat_lit 285,⟨(.type "function"),none,.func EC,#[]⟩),
 (nat_lit 289,cO "_law_walked" 602 "_law_walked" 603 604 246 2 286 (.ref 287) .none .none .none (.ref 288) 605 606),
 (nat_lit 290,⟨(.type "function"),none,.func ED,#[]⟩),
 (nat_lit 294,cO "_law_walks" 608 "_law_walks" 609 610 267 3 291 (.ref 292) .none .none .none (.ref 293) 611 612),
 (nat_lit 295,⟨(.type "function"),none,.func EE,#[]⟩),
 (nat_lit 301,cO "law" 614 "law" 615 616 276 1 296 (.ref 297) .none (.ref 298) (.ref 299) (.ref 300) 625 626),
 (nat_lit 302,⟨(.type "function"),none,.func sZ,#[]⟩)]
def OM:List Addr:=[nat_lit 3,nat_lit 4,nat_lit 20,nat_lit 21,nat_lit 27,nat_lit 28,nat_lit 32,nat_lit 33,nat_lit 37,nat_lit 38,nat_lit 51,nat_lit 52,nat_lit 58,nat_lit 59,nat_lit 65,nat_lit 66,nat_lit 72,nat_lit 73,nat_lit 79,nat_lit 80,nat_lit 82,nat_lit 83,nat_lit 93,nat_lit 94,nat_lit 107,nat_lit 108,nat_lit 114,nat_lit 115,nat_lit 121,nat_lit 122,nat_lit 128,nat_lit 129,nat_lit 135,nat_lit 136,nat_lit 138,nat_lit 139,nat_lit 149,nat_lit 150,nat_lit 154,nat_lit 155,nat_lit 161,nat_lit 162,nat_lit 168,nat_lit 169,nat_lit 175,nat_lit 176,nat_lit 182,nat_lit 183,nat_lit 189,nat_lit 190,nat_lit 196,nat_lit 197,nat_lit 201,nat_lit 202,nat_lit 208,nat_lit 209,nat_lit 215,nat_lit 216,nat_lit 222,nat_lit 223,nat_lit 229,nat_lit 230,nat_lit 234,nat_lit 235,nat_lit 241,nat_lit 242,nat_lit 248,nat_lit 249,nat_lit 255,nat_lit 256,nat_lit 262,nat_lit 263,nat_lit 267,nat_lit 268,nat_lit 272,nat_lit 273,nat_lit 279,nat_lit 280,nat_lit 284,nat_lit 285,nat_lit 289,nat_lit 290,nat_lit 294,nat_lit 295,nat_lit 301,nat_lit 302]
def qv:Bt:={PySem.Challenge.pw_readgrove_k69_both_let_by with main:={PySem.Challenge.pw_readgrove_k69_both_let_by.main with body:=[aQ 1,aQ 2,aQ 4,aQ 5,aQ 7,aQ 9,aQ 10,aQ 11,aQ 12,aQ 13,aQ 14,aQ 15,aQ 16,aQ 17,aQ 18,aQ 20,aQ 22,aQ 24,aQ 25,aQ 26,aQ 27,aQ 28,aQ 29,aQ 31,aQ 32,aQ 33,aQ 34,aQ 35,aQ 36,aQ 37,aQ 38,aQ 39]}}
def hk:PySem.W.Hook:=PySem.W.kmHook hpK OM (λ_=>by kernel_rfl) [244]
def ON{Z O J:Type}{o:Option Z}{f:Z->O}{g:Z->J}{a:O}{b:J}(h:o.map f=some a)(k:o.map g=some b):o.map (λs=>(f s,g s))=some (a,b):=by
 cases o with
 | none=>cases h
 | some s=>cases h;cases k;rfl
set_option maxHeartbeats 0 in
open PySem.W in
theorem lK(w:Cm):(openEnds treeTable PySem.Challenge.rw_readgrove_k69_both_let_by.row.prog w 3556).map hk.obs=some (hk.val w):=by kernel_rfl
set_option maxHeartbeats 0 in
open PySem.W in
theorem qI(w:Cm):(openEnds treeTable PySem.Challenge.rw_readgrove_k69_both_let_by.row.prog w 3556).map (λs=>openSeen qv [] (importedModules PySem.Challenge.rw_readgrove_k69_both_let_by.row.prog.main.body) (λs=>xlAt qv [] s&&recOk (RowW.records (OpenRow.toRowW PySem.Challenge.rw_readgrove_k69_both_let_by.row)) s) true s)=some (openGood qv []):=by kernel_rfl
set_option maxHeartbeats 0 in
theorem hws:PySem.Challenge.rw_readgrove_k69_both_let_by.wellSaid=true:=by kernel_rfl
open PySem.W in
theorem hlx:LeftO PySem.Challenge.rw_readgrove_k69_both_let_by.row.prog qv [] (λs=>xlAt qv [] s&&recOk (RowW.records (OpenRow.toRowW PySem.Challenge.rw_readgrove_k69_both_let_by.row)) s) hk.obs hk.val 3556:=λw=>ON (qI w) (lK w)
end M69
namespace L2
open PySem Spec PyProof.Rows
abbrev aE:=Sum Int Str
def nU:aE->Ae->Bool
 | .inl k,v=>Value.isInt k v
 | .inr x,v=>Value.isStrOf x v
def OO(w:Cm):aE->Int
 | .inl k=>hashInt k
 | .inr x=>hashStr w x
def kJ:∀{k:aE} {v:Ae},nU k v=true->(∃i t,k=Sum.inl i/\v=Value.int i t)\/(∃x t,k=Sum.inr x/\v=Value.str x t)
 | .inl i,v,h=>by
  obtain⟨t,e⟩:=Value.isInt_shape (k:=i) (v:=v) h;exact .inl ⟨i,t,rfl,e⟩
 | .inr x,v,h=>by
  obtain⟨t,e⟩:=Value.isStrOf_shape (x:=x) (v:=v) h;exact .inr ⟨x,t,rfl,e⟩
def OP(i:Int)(t:Tok):nU (.inl i) (.int i t)=true:=by simp[nU,Value.isInt]
def OQ(x:Str)(t:Tok):nU (.inr x) (.str x t)=true:=by simp[nU,Value.isStrOf]
def OR(a b:Int):decide ((Sum.inl a:aE)=Sum.inl b)=(a==b):=by
 by_cases e:a=b
 .subst e;simp
 .have h:¬(Sum.inl a:aE)=Sum.inl b:=λq=>e (Sum.inl.inj q);rw[decide_eq_false h];exact(beq_eq_false_iff_ne.mpr e).symm
def OS(a b:Str):decide ((Sum.inr a:aE)=Sum.inr b)=decide (a=b):=by
 by_cases e:a=b
 .subst e;simp
 .have h:¬(Sum.inr a:aE)=Sum.inr b:=λq=>e (Sum.inr.inj q);rw[decide_eq_false h,decide_eq_false e]
def OT(a:Int)(b:Str):decide ((Sum.inl a:aE)=Sum.inr b)=false:=decide_eq_false (λq=>nomatch q)
def OU(a:Str)(b:Int):decide ((Sum.inr a:aE)=Sum.inl b)=false:=decide_eq_false (λq=>nomatch q)
def dO(prog:Bt)(w:Cm):PySem.KeyKind prog w aE where
 is:=nU
 hash:=OO w
 inj:=λv a b ha hb=>by
  rcases kJ ha with⟨i,t,rfl,rfl⟩|⟨x,t,rfl,rfl⟩
  .rcases kJ hb with⟨j,u,rfl,e⟩|⟨y,u,rfl,e⟩
   .injection e with e1 _;rw[e1]
   .exact nomatch e
  .rcases kJ hb with⟨j,u,rfl,e⟩|⟨y,u,rfl,e⟩
   .exact nomatch e
   .injection e with e1 _;rw[e1]
 byValue:=λk v h=>by
  rcases kJ h with⟨i,t,rfl,rfl⟩|⟨x,t,rfl,rfl⟩<;>rfl
 pyHash:=λhv h=>by
  rcases kJ hv with⟨i,t,rfl,rfl⟩|⟨x,t,rfl,rfl⟩
  .exact wpAny_pyHash_int h
  .exact wpAny_pyHash_str h
 eqBool:=λhu hv h=>by
  rcases kJ hu with⟨i,t,rfl,rfl⟩|⟨x,t,rfl,rfl⟩
  .rcases kJ hv with⟨j,u,rfl,rfl⟩|⟨y,u,rfl,rfl⟩
   .rw[OR]at h;exact Jy h
   .rw[OT]at h;exact SeqAt.EqAt.int_str i t y u _ _ _ _ h
  .rcases kJ hv with⟨j,u,rfl,rfl⟩|⟨y,u,rfl,rfl⟩
   .rw[OU]at h;exact SeqAt.EqAt.str_int x t j u _ _ _ _ h
   .rw[OS]at h;exact wpAny_eqBool_str h
 «strs»:=λk x t v h=>by
  rcases kJ h with⟨i,u,rfl,e⟩|⟨y,u,rfl,e⟩
  .exact nomatch e
  .injection e with e1 _;subst e1;cases v<;>rfl
def OV(prog:Bt)(w:Cm)(i:Int)(t:Tok):(dO prog w).is (.inl i) (.int i t)=true:=OP i t
def OW(prog:Bt)(w:Cm)(x:Str)(t:Tok):(dO prog w).is (.inr x) (.str x t)=true:=OQ x t
inductive V where
 | non|bl (b:Bool)|int (i:Int)|str (x:Str)|byt (b:Array UInt8)|flt (b:UInt64)|ref (a:Addr)|ty (n:String)
 deriving DecidableEq
def RelV:V->Ae->Prop
 | .non,u=>u=Value.none
 | .bl b,u=>u=Value.bool b
 | .int i,u=>∃t,u=Value.int i t
 | .str x,u=>∃t,u=Value.str x t
 | .byt b,u=>∃t,u=Value.bytes b t
 | .flt b,u=>∃t,u=Value.float b t
 | .ref a,u=>u=Value.ref a
 | .ty n,u=>u=Value.type n
abbrev a8:List V->List Ae->Prop:=Fs RelV
def a8.length{xs:List V}{us:List Ae}(r:a8 xs us):xs.length=us.length:=Ef r
def a8.get:∀{xs:List V} {us:List Ae} {i:Nat} {x:V},a8 xs us->xs[i]? = some x->∃u,us[i]? = some u/\RelV x u
 | _,_,_,_,.nil,e=>by simp at e
 | _,_,0,_,.cons r _,e=>by simp at e;subst e;exact⟨_,rfl,r⟩
 | _,_,i+1,x,.cons _ t,e=>by
  obtain⟨u,h1,h2⟩:=a8.get (i:=i) (x:=x) t (by simpa using e);exact⟨u,by simpa using h1,h2⟩
def a8.set{x:V}{u:Ae}(r:RelV x u):∀{xs:List V} {us:List Ae} (i:Nat),a8 xs us->a8 (xs.set i x) (us.set i u)
 | _,_,_,.nil=>.nil
 | _,_,0,.cons _ t=>.cons r t
 | _,_,i+1,.cons q t=>.cons q (a8.set r i t)
def a8.append:∀{xs ys:List V} {us ws:List Ae},a8 xs us->a8 ys ws->a8 (xs++ys) (us++ws)
 | _,_,_,_,.nil,s=>s
 | _,_,_,_,.cons r t,s=>.cons r (a8.append t s)
def a8.take:∀{xs:List V} {us:List Ae} (n:Nat),a8 xs us->a8 (xs.take n) (us.take n)
 | _,_,0,_=>.nil
 | _,_,_+1,.nil=>.nil
 | _,_,n+1,.cons r t=>.cons r (a8.take n t)
def a8.drop:∀{xs:List V} {us:List Ae} (n:Nat),a8 xs us->a8 (xs.drop n) (us.drop n)
 | _,_,0,r=>r
 | _,_,_+1,.nil=>.nil
 | _,_,n+1,.cons _ t=>a8.drop n t
def fX:Option V->Option Ae->Prop
 | some v,some u=>RelV v u
 | none,none=>True
 | _,_=>False
def KV{U:Type}:List (U×V)->List (U×Ae)->Prop:=Fs λ(p:U×V) (q:U×Ae)=>p.1=q.1/\RelV p.2 q.2
def kV:aE->V
 | .inl i=>.int i
 | .inr x=>.str x
inductive HO where
 | lst (xs:List V)
 | tup (xs:List V)
 | dK (kvs:List (aE×V))|dT (kvs:List (List aE×V))
 | set (S:Int->Bool) (n:Nat)
 | ins (C dx:Addr) (fs:List (Str×V))
 | own (x:Addr)
 | xd (fs:List (Str×V))
 | met (f x:Addr)
 | rng (lo hi:Int)
 | frz (o:Obj) (u:HO)
 | tbl (ps:Array Ae)
 | ext (φ:Heap->Prop)
abbrev Hp:=Addr->Option HO
def aY(H:Hp)(a:Addr)(o:HO):Hp:=λb=>if b=a then some o else H b
def cQ{H:Hp}{a:Addr}{o:HO}:aY H a o a=some o:=by unfold aY;rw[if_pos rfl]
def bF{H:Hp}{a b:Addr}{o:HO}(h:b≠a):aY H a o b=H b:=by unfold aY;rw[if_neg h]
def tB{H:Hp}{a b:Addr}{o u:HO}(h:H a=some o)(h':H b=some u)(d:o≠u):a≠b:=by
 intro e;subst e;rw[h]at h';exact d (Bx h')
def eR{H:Hp}{a b:Addr}{o:HO}(h:H a=some o)(h':H b=none):a≠b:=by
 intro e;subst e;rw[h]at h';cases h'
section
variable (P:Bt)(w:Cm)
def cZ(H:Hp)(h:Heap)(a:Addr):HO->Prop
 | .lst xs=>xs.length<=Ao/\∃(its:List Ae) (n:Nat),a8 xs its/\h.get? a=some {cls:=.type "list",data:=.seq its.toArray n}
 | .tup xs=>xs.length<=Ao/\∃its:List Ae,a8 xs its/\IsTup h a its.toArray
 | .dK kvs=>kvs.length<=Ao/\(a==Ga)=false/\∃vs,KV kvs vs/\h.DictOf (dO P w) a vs
 | .dT kvs=>kvs.length<=Ao/\(a==Ga)=false/\∃xs:List (List aE×Addr×Ae),
   Fs (λ(p:List aE×V) (q:List aE×Addr×Ae)=>p.1=q.1/\H q.2.1=some (.tup (p.1.map kV))/\RelV p.2 q.2.2) kvs xs/\
   ∃o es ep,h.get? a=some o/\o.ExactDict/\o.data=.dict es ep/\es.toList=xs.map (entryOfKey (Fz (dO P w)))/\(xs.map (·.1)).Nodup
 | .set S n=>h.SetOf (intKind P w) a S n
 | .ins C dx fs=>H dx=some (.own a)/\fs.length<=1000/\dx≠a/\h.get? a=some (Gi C dx)/\
   ∃mA,h.Ns1 dx mA/\(∀f,fX (fs.lookup f) (mA f))/\PySem.Within mA (fs.map (·.1))
 | .own _=>∃o,h.get? a=some o
 | .xd fs=>∃mA,h.Ns1 a mA/\∀f,fX (fs.lookup f) (mA f)
 | .rng lo hi=>∃t u v,h.get? a=some {cls:=.type "range",data:=.fields #[.int lo t,.int hi u,.int 1 v]}
 | .frz o u=>h.get? a=some o/\cZ H h a u
 | .tbl ps=>h.get? a=some {cls:=.none,data:=.fields ps}
 | .met f x=>h.get? a=some (PySem.W.methodObj (.ref f) (.ref x))
 | .ext φ=>φ h/\(∃o,h.get? a=some o)/\∀h1 h2:Heap,φ h1->(∀o,h1.get? a=some o->h2.get? a=some o)->φ h2
def cR(H:Hp)(h:Heap):Prop:=∀a o,H a=some o->cZ P w H h a o
end
section
variable {P:Bt}{w:Cm}{H H':Hp}{h h':Heap}{a:Addr}{o:HO}
def cZ.lt(x:cZ P w H h a o):a<h.objs.size:=by
 cases o with
 | lst xs=>obtain⟨_,_,_,_,e⟩:=x;exact Av e
 | tup xs=>obtain⟨_,_,_,p⟩:=x;exact p.lt
 | dK kvs=>obtain⟨_,_,_,_,o,_,_,e,_⟩:=x;exact Av e
 | dT kvs=>obtain⟨_,_,_,_,o,_,_,e,_⟩:=x;exact Av e
 | set S n=>obtain⟨o,_,_,_,e,_⟩:=x;exact Av e
 | ins C dx fs=>obtain⟨_,_,_,e,_⟩:=x;exact Av e
 | own y=>obtain⟨_,e⟩:=x;exact Av e
 | xd fs=>obtain⟨_,⟨_,_,_,e,_⟩,_⟩:=x;exact Av e
 | rng lo hi=>obtain⟨_,_,_,e⟩:=x;exact Av e
 | frz ob u=>obtain⟨e,_⟩:=x;exact Av e
 | tbl ps=>exact Av (show h.get? a=some _ from x)
 | met f y=>exact Av (show h.get? a=some _ from x)
 | ext φ=>obtain⟨_,⟨_,e⟩,_⟩:=x;exact Av e
def Paired.mapP{O J:Type}{F G:O->J->Prop}:∀{l1:List O} {l2:List J},Fs F l1 l2->(∀a b,F a b->G a b)->Fs G l1 l2
 | _,_,.nil,_=>.nil
 | _,_,.cons r t,f=>.cons (f _ _ r) (Paired.mapP t f)
def cZ.stay(x:cZ P w H h a o)(k:∀b u,(b=a\/H b=some (.own a))->h.get? b=some u->h'.get? b=some u)(ho:∀b,H b=some (.own a)->H' b=some (.own a))(ht:∀b xs,H b=some (.tup xs)->H' b=some (.tup xs)):cZ P w H' h' a o:=by
 induction o with
 | lst xs=>obtain⟨z,its,n,r,e⟩:=x;exact⟨z,its,n,r,k _ _ (.inl rfl) e⟩
 | tup xs=>obtain⟨z,its,r,ob,e,c⟩:=x;exact⟨z,its,r,ob,k _ _ (.inl rfl) e,c⟩
 | dK kvs=>obtain⟨z,y,vs,r,ob,es,ep,e,c⟩:=x;exact⟨z,y,vs,r,ob,es,ep,k _ _ (.inl rfl) e,c⟩
 | dT kvs=>
  obtain⟨z,y,xs,r,ob,es,ep,e,c⟩:=x;exact⟨z,y,xs,Paired.mapP r λp q z=>⟨z.1,ht _ _ z.2.1,z.2.2⟩,ob,es,ep,k _ _ (.inl rfl) e,c⟩
 | set S n=>obtain⟨ob,es,ep,t,e,c⟩:=x;exact⟨ob,es,ep,t,k _ _ (.inl rfl) e,c⟩
 | ins C dx fs=>
  obtain⟨d,z,ne,e,mA,⟨od,es,ep,e2,c⟩,r⟩:=x;exact⟨ho _ d,z,ne,k _ _ (.inl rfl) e,mA,⟨od,es,ep,k _ _ (.inr d) e2,c⟩,r⟩
 | own y=>obtain⟨ob,e⟩:=x;exact⟨ob,k _ _ (.inl rfl) e⟩
 | xd fs=>obtain⟨mA,⟨od,es,ep,e,c⟩,r⟩:=x;exact⟨mA,⟨od,es,ep,k _ _ (.inl rfl) e,c⟩,r⟩
 | rng lo hi=>obtain⟨t,u,v,e⟩:=x;exact⟨t,u,v,k _ _ (.inl rfl) e⟩
 | frz ob u ih=>obtain⟨e,q⟩:=x;exact⟨k _ _ (.inl rfl) e,ih q⟩
 | tbl ps=>
  have e:h.get? a=some {cls:=.none,data:=.fields ps}:=x;show h'.get? a=some {cls:=.none,data:=.fields ps};exact k a _ (.inl rfl) e
 | met f y=>
  have e:h.get? a=some (PySem.W.methodObj (.ref f) (.ref y)):=x;show h'.get? a=some (PySem.W.methodObj (.ref f) (.ref y));exact k a _ (.inl rfl) e
 | ext φ=>obtain⟨p,⟨o,e⟩,st⟩:=x;exact⟨st _ _ p λo q=>k _ _ (.inl rfl) q,⟨o,k _ _ (.inl rfl) e⟩,st⟩
def cR.lt(x:cR P w H h)(e:H a=some o):a<h.objs.size:=(x a o e).lt
def cR.fresh(x:cR P w H h)(e:h.objs.size<=a):H a=none:=by
 cases q:H a with
 | none=>rfl
 | some u=>exact absurd (Bu (x.lt q) e) (Js _)
def cR.kept(x:cR P w H h)(k:∀b u,h.get? b=some u->h'.get? b=some u):cR P w H h':=λa o e=>
 (x a o e).stay (λb u _ q=>k b u q) (λ_ q=>q) λ_ _ q=>q
def cR.laid(x:cR P w H h)(k:∀b u,h.get? b=some u->h'.get? b=some u)(hp:h.objs.size<=a)(new:cZ P w (aY H a o) h' a o):cR P w (aY H a o) h':=λb u e=>by
 have hn:=x.fresh hp
 by_cases hb:b=a
 .subst hb;rw[cQ]at e;cases e;exact new
 .rw[bF hb]at e;exact(x b u e).stay (λc v _ q=>k c v q) (λc q=>by rw[bF (eR q hn)];exact q) λc xs q=>by rw[bF (eR q hn)];exact q
end
def Rd(H:Hp)(a:Addr)(u:HO):Prop:=H a=some u\/∃o,H a=some (.frz o u)
def Rd.ok{P:Bt}{w:Cm}{H:Hp}{h:Heap}{a:Addr}{u:HO}(r:Rd H a u)(x:cR P w H h):cZ P w H h a u:=by
 rcases r with r|⟨o,r⟩
 .exact x a u r
 .obtain⟨_,q⟩:=x a _ r;exact q
def qJ:Option HO->Prop
 | some (.lst _)=>True
 | some (.dK _)=>True
 | some (.dT _)=>True
 | some (.set _ _)=>True
 | some (.ins _ _ _)=>True
 | some (.ext _)=>True
 | _=>False
section
variable {P:Bt}{w:Cm}{H:Hp}{h h':Heap}{x e:Addr}{o':HO}
def cR.write(ok:cR P w H h)(mu:qJ (H x))(he:e=x\/H e=some (.own x))(k:∀b u,b≠e->h.get? b=some u->h'.get? b=some u)(heo:∃u,h'.get? e=some u)(new:cZ P w (aY H x o') h' x o'):cR P w (aY H x o') h':=λb u q=>by
 have nown:∀c y,H c=some (.own y)->c≠x:=λc y r z=>by subst z;rw[r]at mu;exact mu
 have ntup:∀c xs,H c=some (.tup xs)->c≠x:=λc xs r z=>by subst z;rw[r]at mu;exact mu
 by_cases hb:b=x
 .subst hb;rw[cQ]at q;cases q;exact new
 .rw[bF hb]at q
  by_cases hbe:b=e
  .have q':H b=some (.own x):=by
    rcases he with z|z
    .exact absurd (hbe.trans z) hb
    .rw[hbe];exact z
   rw[q]at q';cases q';obtain⟨v,hv⟩:=heo;exact⟨v,by rw[hbe];exact hv⟩
  .refine(ok b u q).stay (λc v hc r=>k c v ?_ r) (λc r=>by rw[bF (nown c b r)];exact r) λc xs r=>by rw[bF (ntup c xs r)];exact r
   rcases hc with rfl|hc
   .exact hbe
   .rintro rfl;rcases he with z|z
    .exact nown c b hc z
    .rw[hc]at z;cases z;exact hb rfl
end
structure Un(fs ex:List Addr)(H H':Hp)(h h':Heap):Prop where
 keep:∀b o,h.get? b=some o->H b=none->b∉fs->b∉ex->h'.get? b=some o
 slot:∀b o,h.get? b=some o->H b=none->b∈fs->b∉ex->∃sl,h'.get? b=some {o with slots:=sl}
 free:∀b o,h.get? b=some o->H b=none->b∉ex->H' b=none
 there:∀b o,h.get? b=some o->b∉ex->∃o',h'.get? b=some o'
 tups:∀b xs,H b=some (.tup xs)->H' b=some (.tup xs)
 frzs:∀b o u,H b=some (.frz o u)->H' b=some (.frz o u)
 tbls:∀b ps,H b=some (.tbl ps)->∃more,H' b=some (.tbl (ps++more))
section
variable {fs fs' ex ex':List Addr}{H H1 H2:Hp}{h h1 h2 h':Heap}{a x e:Addr}{o:HO}
def Un.any(u:Un fs ex H H1 h h1){b:Addr}{ob:Obj}(q:h.get? b=some ob)(n:H b=none)(hx:b∉ex):∃sl,h1.get? b=some {ob with slots:=sl}:=by
 by_cases hb:b∈fs
 .exact u.slot b ob q n hb hx
 .exact⟨ob.slots,u.keep b ob q n hb hx⟩
def Un.trans(a:Un fs ex H H1 h h1)(b:Un fs ex H1 H2 h1 h2):Un fs ex H H2 h h2 where
 keep:=λc ob q n hc hx=>b.keep c ob (a.keep c ob q n hc hx) (a.free c ob q n hx) hc hx
 slot:=λc ob q n hc hx=>by
  obtain⟨sl,e1⟩:=a.slot c ob q n hc hx;obtain⟨sl',e2⟩:=b.slot c _ e1 (a.free c ob q n hx) hc hx;exact⟨sl',e2⟩
 free:=λc ob q n hx=>by
  obtain⟨o',e1⟩:=a.there c ob q hx;exact b.free c o' e1 (a.free c ob q n hx) hx
 there:=λc ob q hx=>by
  obtain⟨o',e1⟩:=a.there c ob q hx;exact b.there c o' e1 hx
 tups:=λc xs q=>b.tups c xs (a.tups c xs q)
 frzs:=λc ob xs q=>b.frzs c ob xs (a.frzs c ob xs q)
 tbls:=λc ps q=>by
  obtain⟨m1,e1⟩:=a.tbls c ps q;obtain⟨m2,e2⟩:=b.tbls c _ e1;exact⟨m1++m2,by rw[e2,Array.append_assoc]⟩
def Un.kept(k:∀b u,h.get? b=some u->h'.get? b=some u):Un fs ex H H h h':=
 ⟨λb ob q _ _ _=>k b ob q,λb ob q _ _ _=>⟨ob.slots,k b ob q⟩,λ_ _ _ n _=>n,λb ob q _=>⟨ob,k b ob q⟩,λ_ _ q=>q,λ_ _ _ q=>q,λ_ ps q=>⟨#[],by rw[q];simp⟩⟩
def Un.refl:Un fs ex H H h h:=Un.kept λ_ _ q=>q
def Un.laid(k:∀b u,h.get? b=some u->h'.get? b=some u)(hp:h.objs.size<=a)(hn:H a=none):Un fs ex H (aY H a o) h h' where
 keep:=λb u q _ _ _=>k b u q
 slot:=λb u q _ _ _=>⟨u.slots,k b u q⟩
 free:=λb u q n _=>by rw[bF (Bs (Bu (Av q) hp))];exact n
 there:=λb u q _=>⟨u,k b u q⟩
 tups:=λb xs q=>by rw[bF (eR q hn)];exact q
 frzs:=λb u xs q=>by rw[bF (eR q hn)];exact q
 tbls:=λb ps q=>⟨#[],by rw[bF (eR q hn),q];simp⟩
def Un.write(mu:qJ (H x))(he:e=x\/H e=some (.own x))(k:∀b u,b≠e->h.get? b=some u->h'.get? b=some u)(heo:∃u,h'.get? e=some u):Un fs ex H (aY H x o) h h':=by
 have hx:∀b,H b=none->b≠x:=λb n z=>by subst z;rw[n]at mu;exact mu
 have hb:∀b,H b=none->b≠e:=λb n z=>by
  subst z;rcases he with r|r
  .exact hx b n r
  .rw[n]at r;cases r
 have hm:∀b u,H b=some u->¬qJ (some u)->b≠x:=λb u q nm z=>by subst z;rw[q]at mu;exact nm mu
 refine⟨λb u q n _ _=>k b u (hb b n) q,λb u q n _ _=>⟨u.slots,k b u (hb b n) q⟩,λb u q n _=>by rw[bF (hx b n)];exact n,λb u q _=>?_,
  λb xs q=>by rw[bF (hm b _ q λz=>z)];exact q,λb u xs q=>by rw[bF (hm b _ q λz=>z)];exact q,λb ps q=>⟨#[],by rw[bF (hm b _ q λz=>z),q];simp⟩⟩
 by_cases hbe:b=e
 .subst hbe;exact heo
 .exact⟨u,k b u hbe q⟩
def Un.mono(u:Un fs ex H H1 h h1)(hs:∀b∈fs,b∈fs')(hx:∀b∈ex,b∈ex'):Un fs' ex' H H1 h h1:=
 ⟨λb ob q n hb he=>u.keep b ob q n (λz=>hb (hs b z)) λz=>he (hx b z),λ_ _ q n _ he=>u.any q n λz=>he (hx _ z),λb ob q n he=>u.free b ob q n λz=>he (hx b z),λb ob q he=>u.there b ob q λz=>he (hx b z),u.tups,u.frzs,u.tbls⟩
end
def tD(h:Heap)(H:Hp):List Addr:=(Eg h.objs.size).filter λa=>(H a).isSome
def lM(h:Heap)(H:Hp):Heap:=PySem.W.hideAll h (tD h H)
def OX(h:Heap)(H:Hp):(lM h H).objs.size=h.objs.size:=PySem.W.hideAll_size _ _
def OY{h:Heap}{H:Hp}{b:Addr}{o:Obj}(e:h.get? b=some o)(n:H b=none):(lM h H).get? b=some o:=
 PySem.W.hideAll_get _ e λhm=>by
  have q:(H b).isSome=true:=(Ej.mp hm).2;rw[n]at q;simp at q
def OZ{h:Heap}{H:Hp}{b:Addr}{o:Obj}(e:(lM h H).get? b=some o):h.get? b=some o/\H b=none:=by
 have e':h.get? b=some o:=PySem.W.of_hideAll (tD h H) e;refine⟨e',?_⟩;cases q:H b with
 | none=>rfl
 | some x=>
  have hm:b∈tD h H:=Ej.mpr ⟨Hy.mpr (Av e'),by simp[q]⟩;have z:(lM h H).get? b=none:=PySem.W.hideAll_none (tD h H) hm;rw[z]at e;cases e
structure Mod(K:Ac)(mg:Str->Option Ae)(base:Heap):Prop where
 kin:K.In base
 glob:base.Ns Dh mg
 blt:∃mb,base.Ns Mf mb/\∀x:Str,x≠"__name__"->mb x=Ct x
 nolimit:base.NoLimit
structure Cx where
 prog:Bt
 w:Cm
 K:Ac
 mg:Str->Option Ae
 base:Heap
 A:Ck
 N:List Str
 s₀:Ag
 H₀:Hp
 env:Env
 outer:List Env
 stack:List Env
 ex:List Addr
 fn:Str->Bool
 calm:Bool
 pn:List (Addr×Obj)
 xe:Ae->Ag->Prop
def fP(l:List Env):List Addr:=l.filterMap (·.frame)
abbrev Cx.fs(X:Cx):List Addr:=fP X.outer
def tE(sc:Hh)(x:Str):Prop:=sc.names.lookup x=some .local\/sc.names.lookup x=some .cell\/sc.names.lookup x=some .free
def Loc(sc:Hh)(x:Str):Prop:=sc.names.lookup x=some .local\/sc.names.lookup x=some .cell
def Look(env:Env)(h:Heap)(m:Str->Option Ae)(x:Str)(u:Ae):Prop:=
 (env.kindOf x=some .local/\m x=some u)\/((env.kindOf x=some .cell\/env.kindOf x=some .free)/\∃c,env.cells.lookup x=some c/\h.IsCell c (some u))
structure Cx.Ok(X:Cx):Prop where
 mod:Mod X.K X.mg X.base
 kind:X.env.scope.kind=.function
 glob:X.env.globals=Dh
 blt:X.env.builtins=Mf
 above:X.s₀.heap.objs.size<=X.env.locals
 inj:∀x y c,X.env.cells.lookup x=some c->X.env.cells.lookup y=some c->x=y
 has:∀x,(X.env.kindOf x=some .cell\/X.env.kindOf x=some .free)->∃c,X.env.cells.lookup x=some c
 cab:∀x c,X.fn x=true->X.env.cells.lookup x=some c->X.s₀.heap.objs.size<=c
 hd:X.calm=true->X.A.handled=none
 frames:X.A.frames=some X.stack
 stk:X.stack=X.outer\/(X.stack=X.env::X.outer/\X.env.frame=some X.env.locals)
 exf:∀b∈X.ex,b≠X.env.locals/\∀x c,X.env.cells.lookup x=some c->c≠b
 bs:∀b o,X.base.get? b=some o->X.s₀.heap.get? b=some o/\X.H₀ b=none
 bsz:X.base.objs.size<=X.s₀.heap.objs.size
 noex:∀b o,X.base.get? b=some o->b∉X.ex
 exfs:∀b∈X.ex,b∉X.fs
 funs:X.s₀.heap.FunFrames X.base X.outer
 frf:∀b∈X.fs,X.H₀ b=none
structure Inv(X:Cx)(pins:List (Addr×Obj))(Z:List (Option V))(H:Hp)(s:Ag):Prop where
 ok:X.Ok
 os:s.os=X.s₀.os
 bare:Lh s.gens
 base:Un X.fs X.ex X.H₀ H X.s₀.heap s.heap
 loc:∃m,s.heap.Ns X.env.locals m/\∀(i:Nat) (x:Str) (v:V),X.N[i]? = some x->Z[i]? = some (some v)->tE X.env.scope x->∃u,RelV v u/\Look X.env s.heap m x u
 cell:∀x c,X.env.cells.lookup x=some c->∃v,s.heap.IsCell c v
 free:H X.env.locals=none
 freeC:∀x c,X.env.cells.lookup x=some c->H c=none
 pin:∀p∈X.pn++pins,s.heap.get? p.1=some p.2/\H p.1=none/\p.1≠X.env.locals/\p.1∉X.fs/\∀v,p.2.data≠.cell v
 hok:cR X.prog X.w H s.heap
 len:Z.length=X.N.length
section
variable {X:Cx}{pins:List (Addr×Obj)}{Z:List (Option V)}{H H':Hp}{s:Ag}{h':Heap}
def Cx.Ok.nofr(ok:X.Ok){b:Addr}{o:Obj}(e:X.base.get? b=some o):b∉X.fs:=λhb=>by
 have:=(ok.funs.mem hb).1;rw[e]at this;cases this
def Inv.bs(I:Inv X pins Z H s):∀b o,X.base.get? b=some o->s.heap.get? b=some o/\H b=none:=λb o e=>
 ⟨I.base.keep b o (I.ok.bs b o e).1 (I.ok.bs b o e).2 (I.ok.nofr e) (I.ok.noex b o e),I.base.free b o (I.ok.bs b o e).1 (I.ok.bs b o e).2 (I.ok.noex b o e)⟩
def Inv.bk(I:Inv X pins Z H s):∀b o,X.base.get? b=some o->s.heap.get? b=some o:=λb o e=>(I.bs b o e).1
def Inv.mod(I:Inv X pins Z H s):Mod X.K X.mg X.base:=I.ok.mod
def Inv.kIn(I:Inv X pins Z H s):X.K.In s.heap:=I.ok.mod.kin.keeps I.bk
def Inv.nolimit(I:Inv X pins Z H s):s.heap.NoLimit:=I.ok.mod.nolimit.keeps I.bk
def Inv.lt(I:Inv X pins Z H s):X.env.locals<s.heap.objs.size:=let ⟨_,hn,_⟩:=I.loc;hn.lt
def Inv.sz(I:Inv X pins Z H s):X.s₀.heap.objs.size<=s.heap.objs.size:=Az I.ok.above (Hc I.lt)
def Inv.nofs(I:Inv X pins Z H s){a:Addr}(h:s.heap.objs.size<=a):a∉X.fs:=λhb=>by
 obtain⟨_,o,ho,_⟩:=I.ok.funs.mem hb;exact absurd (Bu (Av ho) (Az I.sz h)) (Js _)
def Inv.cne(I:Inv X pins Z H s):∀x c,X.env.cells.lookup x=some c->c≠X.env.locals:=λx c e z=>by
 obtain⟨v,o,ho,hd⟩:=I.cell x c e;obtain⟨m,⟨o',es,ep,ho',hd',_⟩,_⟩:=I.loc;rw[z,ho']at ho;cases ho;rw[hd']at hd;cases hd
def Inv.funs(I:Inv X pins Z H s):s.heap.FunFrames X.base X.outer:=by
 have all:∀(l:List Env),(∀b∈fP l,b∈X.fs)->X.s₀.heap.FunFrames X.base l->s.heap.FunFrames X.base l:=by
  intro l
  induction l with
  | nil=>intro _ _;trivial
  | cons env r ih=>
   intro hs hl;obtain⟨hk,⟨L,o,hf,hn,ho,hd⟩,hr⟩:=hl;have hL:L∈X.fs:=hs L (by unfold fP;rw[Gv,hf];exact Aw);obtain⟨sl,e⟩:=I.base.slot L o ho (I.ok.frf L hL) hL λz=>I.ok.exfs L z hL;exact⟨hk,⟨L,_,hf,hn,e,hd⟩,ih (λb hb=>hs b (by unfold fP;rw[Gv,hf];exact Ap _ hb)) hr⟩
 exact all X.outer (λ_ hb=>hb) I.ok.funs
def Inv.stack(I:Inv X pins Z H s):s.heap.FunFrames X.base X.stack:=by
 rcases I.ok.stk with e|⟨e,hf⟩
 .rw[e];exact I.funs
 .rw[e];obtain⟨m,hn,_⟩:=I.loc;refine .cons (by rw[I.ok.kind];decide) hf hn ?_ I.funs;exact Heap.get?_none_of_le (Az I.ok.bsz I.ok.above)
def Inv.stkSub(I:Inv X pins Z H s):∀b∈fP X.stack,b∈X.env.locals::X.fs:=λb hb=>by
 rcases I.ok.stk with e|⟨e,hf⟩
 .rw[e]at hb;exact Ap _ hb
 .rw[e]at hb;unfold fP at hb;rw[Gv,hf]at hb;exact hb
def Inv.stkFree(I:Inv X pins Z H s):∀b∈fP X.stack,H b=none:=λb hb=>by
 rcases Aj.mp (I.stkSub b hb) with e|hb
 .rw[e];exact I.free
 .obtain⟨_,o,ho,_⟩:=I.ok.funs.mem hb;exact I.base.free b o ho (I.ok.frf b hb) λz=>I.ok.exfs b z hb
def Inv.step{g':Array GenState}{t':Nat}{d':Drawn}{ch:List Addr}(I:Inv X pins Z H s)(hch:∀b∈ch,(b∈X.ex\/X.s₀.heap.objs.size<=b)/\b≠X.env.locals/\(∀x c,X.env.cells.lookup x=some c->c≠b)/\∀p∈X.pn++pins,p.1≠b)(keep:∀b o,b≠X.env.locals->b∉X.fs->b∉ch->s.heap.get? b=some o->H b=none->h'.get? b=some o)(slot:∀b o,b≠X.env.locals->b∈X.fs->b∉ch->s.heap.get? b=some o->H b=none->∃sl,h'.get? b=some {o with slots:=sl})(free:∀b o,b∉ch->s.heap.get? b=some o->H b=none->H' b=none)(there:∀b o,b∉ch->s.heap.get? b=some o->∃o',h'.get? b=some o')(tups:∀b xs,H b=some (.tup xs)->H' b=some (.tup xs))(frzs:∀b o u,H b=some (.frz o u)->H' b=some (.frz o u))(tbls:∀b ps,H b=some (.tbl ps)->∃more,H' b=some (.tbl (ps++more)))(ns:∀m,s.heap.Ns X.env.locals m->h'.Ns X.env.locals m)(hok:cR X.prog X.w H' h')(hg:Lh g'):
  Inv X pins Z H' {s with heap:=h',gens:=g',drawn:=d',toks:=t'}:=by
 have neL:∀b o,X.s₀.heap.get? b=some o->b≠X.env.locals:=λb o e=>Bs (Bu (Av e) I.ok.above);have neC:∀b o,X.s₀.heap.get? b=some o->b∉X.ex->b∉ch:=λb o e hx hb=>by
  rcases(hch b hb).1 with z|z
  .exact hx z
  .exact absurd (Bu (Av e) z) (Js _)
 have cellK:∀x c,X.env.cells.lookup x=some c->∀v,s.heap.IsCell c v->h'.IsCell c v:=λx c e v ⟨o,ho,hd⟩=>by
  have nch:c∉ch:=λz=>(hch c z).2.2.1 x c e rfl
  by_cases hc:c∈X.fs
  .obtain⟨sl,q⟩:=slot c o (I.cne x c e) hc nch ho (I.freeC x c e);exact⟨_,q,hd⟩
  .exact⟨o,keep c o (I.cne x c e) hc nch ho (I.freeC x c e),hd⟩
 refine⟨I.ok,I.os,hg,⟨λb o e n hb hx=>?_,λb o e n hb hx=>?_,λb o e n hx=>?_,λb o e hx=>?_,λb xs e=>tups b xs (I.base.tups b xs e),λb o xs e=>frzs b o xs (I.base.frzs b o xs e),λb ps e=>?_⟩,?_,λx c e=>?_,?_,λx c e=>?_,λp hp=>?_,hok,I.len⟩
 .exact keep b o (neL b o e) hb (neC b o e hx) (I.base.keep b o e n hb hx) (I.base.free b o e n hx)
 .obtain⟨sl,e1⟩:=I.base.slot b o e n hb hx;obtain⟨sl',e2⟩:=slot b _ (neL b o e) hb (neC b o e hx) e1 (I.base.free b o e n hx);exact⟨sl',e2⟩
 .obtain⟨o',e1⟩:=I.base.there b o e hx;exact free b o' (neC b o e hx) e1 (I.base.free b o e n hx)
 .obtain⟨o',e1⟩:=I.base.there b o e hx;exact there b o' (neC b o e hx) e1
 .obtain⟨m1,e1⟩:=I.base.tbls b ps e;obtain⟨m2,e2⟩:=tbls b _ e1;exact⟨m1++m2,by rw[e2,Array.append_assoc]⟩
 .obtain⟨m,hn,hl⟩:=I.loc;refine⟨m,ns m hn,λi x v e1 e2 e3=>?_⟩;obtain⟨u,r,l⟩:=hl i x v e1 e2 e3;refine⟨u,r,?_⟩;rcases l with l|⟨k,c,e,z⟩
  .exact .inl l
  .exact .inr ⟨k,c,e,cellK x c e _ z⟩
 .obtain⟨v,z⟩:=I.cell x c e;exact⟨v,cellK x c e v z⟩
 .obtain⟨m,⟨o,_,_,ho,_⟩,_⟩:=I.loc;exact free _ o (λz=>(hch _ z).2.1 rfl) ho I.free
 .obtain⟨v,o,ho,hd⟩:=I.cell x c e;exact free c o (λz=>(hch c z).2.2.1 x c e rfl) ho (I.freeC x c e)
 .obtain⟨e,n,ne,nf,d⟩:=I.pin p hp;have nch:p.1∉ch:=λz=>(hch p.1 z).2.2.2 p hp rfl;exact⟨keep p.1 p.2 ne nf nch e n,free p.1 p.2 nch e n,ne,nf,d⟩
def Inv.un{t':Nat}(I:Inv X pins Z H s)(u:Un X.fs [] H H' s.heap h')(hok:cR X.prog X.w H' h'):Inv X pins Z H' {s with heap:=h',toks:=t'}:=by
 obtain⟨m,⟨o,es,ep,ho,r⟩,_⟩:=id I.loc;obtain⟨sl,hL⟩:=u.any ho I.free (by simp);exact I.step (g':=s.gens) (d':=s.drawn) (ch:=[]) (λ_ z=>nomatch z) (λb o _ hb _ e n=>u.keep b o e n hb (by simp)) (λb o _ hb _ e n=>u.slot b o e n hb (by simp)) (λb o _ e n=>u.free b o e n (by simp)) (λb o _ e=>u.there b o e (by simp)) u.tups u.frzs u.tbls (λm' hm=>by
  obtain⟨o',es',ep',ho',r'⟩:=hm;rw[ho]at ho';cases ho';exact⟨_,es',ep',hL,r'⟩) hok I.bare
def Inv.call{g':Array GenState}{t':Nat}{d':Drawn}{ch:List Addr}(I:Inv X pins Z H s)(u:Un (fP X.stack) ch H H' s.heap h')(hok:cR X.prog X.w H' h')(hg:Lh g')(hch:∀b∈ch,(b∈X.ex\/X.s₀.heap.objs.size<=b)/\b≠X.env.locals/\(∀x c,X.env.cells.lookup x=some c->c≠b)/\∀p∈X.pn++pins,p.1≠b):
  Inv X pins Z H' {s with heap:=h',gens:=g',drawn:=d',toks:=t'}:=by
 obtain⟨m,⟨o,es,ep,ho,r⟩,_⟩:=id I.loc;obtain⟨sl,hL⟩:=u.any ho I.free λz=>(hch _ z).2.1 rfl;exact I.step (ch:=ch) hch (λb o hL hb hc e n=>u.keep b o e n (λz=>(Aj.mp (I.stkSub b z)).elim hL hb) hc) (λb o _ _ hc e n=>u.any e n hc) (λb o hc e n=>u.free b o e n hc) (λb o hc e=>u.there b o e hc) u.tups u.frzs u.tbls (λm' hm=>by
  obtain⟨o',es',ep',ho',r'⟩:=hm;rw[ho]at ho';cases ho';exact⟨_,es',ep',hL,r'⟩) hok hg
def Inv.turned{t':Nat}{it:Addr}(I:Inv X pins Z H s)(k:∀b o,b≠it->s.heap.get? b=some o->h'.get? b=some o)(hn:H it=none)(hL:it≠X.env.locals)(h1:it∈X.ex\/X.s₀.heap.objs.size<=it)(h2:∀x c,X.env.cells.lookup x=some c->c≠it)(h3:∀p∈X.pn++pins,p.1≠it):Inv X pins Z H {s with heap:=h',toks:=t'}:=by
 have nit:∀b u,H b=some u->b≠it:=λb u e z=>by rw[z,hn]at e;cases e
 refine I.step (g':=s.gens) (d':=s.drawn) (ch:=[it]) (λb hb=>?_) (λb o _ _ hc e _=>k b o (λz=>hc (by simp[z])) e) (λb o _ _ hc e _=>⟨o.slots,k b o (λz=>hc (by simp[z])) e⟩) (λ_ _ _ _ n=>n)
  (λb o hc e=>⟨o,k b o (λz=>hc (by simp[z])) e⟩) (λ_ _ e=>e) (λ_ _ _ e=>e) (λb ps e=>⟨#[],by rw[e];simp⟩) (λm hm=>?_) (λb u e=>?_) I.bare
 .have e:b=it:=by simpa using hb
  subst e;exact⟨h1,hL,h2,h3⟩
 .obtain⟨o,es,ep,ho,r⟩:=hm;exact⟨o,es,ep,k _ o (Bi hL) ho,r⟩
 .refine(I.hok b u e).stay (λc v hc q=>k c v ?_ q) (λ_ q=>q) λ_ _ q=>q;rcases hc with z|z
  .rw[z];exact nit b u e
  .exact nit c _ z
def Inv.tok(I:Inv X pins Z H s)(t:Nat):Inv X pins Z H {s with toks:=t}:=I.un (h':=s.heap) (t':=t) Un.refl I.hok
def Inv.kept{t':Nat}(I:Inv X pins Z H s)(k:∀b u,s.heap.get? b=some u->h'.get? b=some u):Inv X pins Z H {s with heap:=h',toks:=t'}:=I.un (Un.kept k) (I.hok.kept k)
def Inv.laid{a:Addr}{o:HO}{t':Nat}(I:Inv X pins Z H s)(k:∀b u,s.heap.get? b=some u->h'.get? b=some u)(hp:s.heap.objs.size<=a)(new:cZ X.prog X.w (aY H a o) h' a o):
  Inv X pins Z (aY H a o) {s with heap:=h',toks:=t'}:=I.un (Un.laid k hp (I.hok.fresh hp)) (I.hok.laid k hp new)
def Inv.write{x e:Addr}{o:HO}{t':Nat}(I:Inv X pins Z H s)(mu:qJ (H x))(he:e=x\/H e=some (.own x))(k:∀b u,b≠e->s.heap.get? b=some u->h'.get? b=some u)(heo:∃u,h'.get? e=some u)(new:cZ X.prog X.w (aY H x o) h' x o):Inv X pins Z (aY H x o) {s with heap:=h',toks:=t'}:=I.un (Un.write mu he k heo) (I.hok.write mu he k heo new)
def Inv.pins_of{pins':List (Addr×Obj)}(I:Inv X pins Z H s)(h:∀p∈pins',s.heap.get? p.1=some p.2/\H p.1=none/\p.1≠X.env.locals/\p.1∉X.fs/\∀v,p.2.data≠.cell v):Inv X pins' Z H s:=
 ⟨I.ok,I.os,I.bare,I.base,I.loc,I.cell,I.free,I.freeC,λp hp=>(Bo.mp hp).elim (λz=>I.pin p (Ci _ z)) (h p),I.hok,I.len⟩
def EF{N:List Str}(hN:N.Nodup){i j:Nat}{x:Str}(a:N[i]? = some x)(b:N[j]? = some x):i=j:=by
 obtain⟨h1,e1⟩:=An.mp a;obtain⟨h2,e2⟩:=An.mp b;exact(List.getElem_inj hN).mp (e1.trans e2.symm)
def EG{M:Model}{A:Ck}{E:Ae->Ag->Prop}{i:Nat}{x:Str}{v:V}{u:Ae}{Q:Unit->Ag->Prop}(I:Inv X pins Z H s)(hN:X.N.Nodup)(hi:X.N[i]? = some x)(hx:Loc X.env.scope x)(r:RelV v u)(h:∀s',Inv X pins (Z.set i (some v)) H s'->(∃a,Eu a s.heap s'.heap/\(a=X.env.locals\/X.env.cells.lookup x=some a))->Q () s')(hf:X.fn x=true\/X.env.scope.names.lookup x=some .local:=by first|exact .inl rfl|exact .inr rfl|assumption):Be M A (storeName X.env x u) Q E s:=by
 obtain⟨m,hn,hl⟩:=id I.loc;have hcls:(X.env.scope.kind==.class||(X.env.scope.kind==.module&&X.env.locals !=X.env.globals))=false:=by rw[I.ok.kind];rfl
 have hiσ:i<Z.length:=by rw[I.len];exact(An.mp hi).1
 have cne:=I.cne;have tracked:∀{a:Addr} {h':Heap},(∃o,s.heap.get? a=some o/\H a=none)->Eu a s.heap h'->cR X.prog X.w H h':=λ{a h'} ha hs b ob e=>by
  obtain⟨_,_,hfree⟩:=ha;refine(I.hok b ob e).stay (λc w' hc q=>(hs.2 c ?_).trans q) (λ_ q=>q) λ_ _ q=>q;rintro rfl;rcases hc with rfl|hc
  .rw[hfree]at e;cases e
  .rw[hfree]at hc;cases hc
 rcases hx with hk|hk
 .refine wpAny_storeName_local hk hn (λh' hn' hs=>?_) hcls;obtain⟨oL,_,_,hoL,_⟩:=id hn;refine h _ ⟨I.ok,I.os,I.bare,⟨λb o e n hb hx=>?_,λb o e n hb hx=>?_,I.base.free,λb o e hx=>?_,I.base.tups,I.base.frzs,I.base.tbls⟩,⟨_,hn',λj y v' e1 e2 e3=>?_⟩,λy c e=>?_,I.free,I.freeC,λp hp=>?_,tracked ⟨oL,hoL,I.free⟩ hs,by simpa using I.len⟩ ⟨_,hs,.inl rfl⟩
  .exact(hs.2 b (Bs (Bu (Av e) I.ok.above))).trans (I.base.keep b o e n hb hx)
  .obtain⟨sl,e1⟩:=I.base.slot b o e n hb hx;exact⟨sl,(hs.2 b (Bs (Bu (Av e) I.ok.above))).trans e1⟩
  .obtain⟨o',e1⟩:=I.base.there b o e hx;exact⟨o',(hs.2 b (Bs (Bu (Av e) I.ok.above))).trans e1⟩
  .by_cases hj:j=i
   .subst hj;rw[hi]at e1;cases e1;rw[List.getElem?_set_self hiσ]at e2;cases e2;exact⟨u,r,.inl ⟨hk,by simp⟩⟩
   .rw[List.getElem?_set_ne (Bi hj)]at e2;obtain⟨u',r',q⟩:=hl j y v' e1 e2 e3;refine⟨u',r',?_⟩;rcases q with⟨k,e⟩|⟨k,c,e,z⟩
    .refine .inl ⟨k,?_⟩;have:y≠x:=λe=>hj (EF hN e1 (e▸hi));simp[this,e]
    .exact .inr ⟨k,c,e,z.sameBut hs (cne y c e)⟩
  .obtain⟨w',z⟩:=I.cell y c e;exact⟨w',z.sameBut hs (cne y c e)⟩
  .obtain⟨e,n,ne,nf,d⟩:=I.pin p hp;exact⟨(hs.2 p.1 ne).trans e,n,ne,nf,d⟩
 .have hfn:X.fn x=true:=by
   rcases hf with z|z
   .exact z
   .rw[z]at hk;cases hk
  obtain⟨c,hc⟩:=I.ok.has x (.inl hk);obtain⟨w',z⟩:=I.cell x c hc;refine wpAny_storeName_cell I.ok.kind hk hc z (λh' hc' hs=>?_);obtain⟨oc,hoc,hocd⟩:=id z;refine h {s with heap:=h'} ⟨I.ok,I.os,I.bare,⟨λb o e n hb hx=>?_,λb o e n hb hx=>?_,I.base.free,λb o e hx=>?_,I.base.tups,I.base.frzs,I.base.tbls⟩,⟨m,hn.sameBut hs (Bi (cne x c hc)),λj y v' e1 e2 e3=>?_⟩,λy c' e=>?_,I.free,I.freeC,λp hp=>?_,tracked ⟨oc,hoc,I.freeC x c hc⟩ hs,by simpa using I.len⟩ ⟨c,hs,.inr hc⟩
  .exact(hs.2 b (Bs (Bu (Av e) (I.ok.cab x c hfn hc)))).trans (I.base.keep b o e n hb hx)
  .obtain⟨sl,e1⟩:=I.base.slot b o e n hb hx;exact⟨sl,(hs.2 b (Bs (Bu (Av e) (I.ok.cab x c hfn hc)))).trans e1⟩
  .obtain⟨o',e1⟩:=I.base.there b o e hx;exact⟨o',(hs.2 b (Bs (Bu (Av e) (I.ok.cab x c hfn hc)))).trans e1⟩
  .by_cases hj:j=i
   .subst hj;rw[hi]at e1;cases e1;rw[List.getElem?_set_self hiσ]at e2;cases e2;exact⟨u,r,.inr ⟨.inl hk,c,hc,hc'⟩⟩
   .rw[List.getElem?_set_ne (Bi hj)]at e2;obtain⟨u',r',q⟩:=hl j y v' e1 e2 e3;refine⟨u',r',?_⟩;rcases q with q|⟨k,c',e,z'⟩
    .exact .inl q
    .refine .inr ⟨k,c',e,z'.sameBut hs ?_⟩;rintro rfl;exact hj (EF hN e1 (I.ok.inj _ _ _ e hc▸hi))
  .by_cases hcc:c'=c
   .subst hcc;exact⟨_,hc'⟩
   .obtain⟨w2,z2⟩:=I.cell y c' e;exact⟨w2,z2.sameBut hs hcc⟩
  .obtain⟨e,n,ne,nf,d⟩:=I.pin p hp;refine⟨(hs.2 p.1 ?_).trans e,n,ne,nf,d⟩;intro q;rw[q,hoc]at e;have q':oc=p.2:=Bx e;exact d w' (by rw[<-q'];exact hocd)
def EH{M:Model}{A:Ck}{E:Ae->Ag->Prop}{i:Nat}{x:Str}{v:V}{u:Ae}{Q:Unit->Ag->Prop}(I:Inv X pins Z H s)(hN:X.N.Nodup)(hi:X.N[i]? = some x)(hx:Loc X.env.scope x)(r:RelV v u)(h:∀s',Inv X pins (Z.set i (some v)) H s'->Q () s')(hf:X.fn x=true\/X.env.scope.names.lookup x=some .local:=by first|exact .inl rfl|exact .inr rfl|assumption):Be M A (storeName X.env x u) Q E s:=
 EG I hN hi hx r (λs' I' _=>h s' I') hf
def Inv.call'{s':Ag}{ch:List Addr}(I:Inv X pins Z H s)(ho:s'.os=s.os)(u:Un (fP X.stack) ch H H' s.heap s'.heap)(hok:cR X.prog X.w H' s'.heap)(hg:Lh s'.gens)(hch:∀b∈ch,(b∈X.ex\/X.s₀.heap.objs.size<=b)/\b≠X.env.locals/\(∀x c,X.env.cells.lookup x=some c->c≠b)/\∀p∈X.pn++pins,p.1≠b):Inv X pins Z H' s':=by
 obtain⟨h',g',d',t',o'⟩:=s';have e:o'=s.os:=ho;subst e;exact I.call (g':=g') (t':=t') (d':=d') u hok hg hch
end
abbrev XK:=Ae->Option Addr->Hp->Prop
abbrev St:=List (Option V)
abbrev VK:=V->Hp->Prop
abbrev TE:=St->Hp->VK->Prop
abbrev TT:=St->Hp->(Bool->Hp->Prop)->Prop
abbrev TA:=St->Hp->(List V->Hp->Prop)->Prop
structure lN where
 nx:St->Hp->Prop
 rt:VK
 bk:St->Hp->Prop:=λ_ _=>False
 ct:St->Hp->Prop:=λ_ _=>False
abbrev TS:=lN->St->Hp->Prop
def EP(X:Cx)(pins:List (Addr×Obj))(Z:St)(Q:VK)(u:Ae)(s':Ag):Prop:=∃v H',Inv X pins Z H' s'/\RelV v u/\Q v H'
def TP(X:Cx)(pins:List (Addr×Obj))(Z:St)(Q:Bool->Hp->Prop)(b:Bool)(s':Ag):Prop:=∃H',Inv X pins Z H' s'/\Q b H'
def AP(X:Cx)(pins:List (Addr×Obj))(Z:St)(Q:List V->Hp->Prop)(us:List Ae)(s':Ag):Prop:=∃vs H',Inv X pins Z H' s'/\a8 vs us/\Q vs H'
def SP(X:Cx)(pins:List (Addr×Obj))(D:lN)(f:Flow)(s':Ag):Prop:=
 match f with
 | .next=>∃σ' H',Inv X pins σ' H' s'/\D.nx σ' H'
 | .brk=>∃σ' H',Inv X pins σ' H' s'/\D.bk σ' H'
 | .cont=>∃σ' H',Inv X pins σ' H' s'/\D.ct σ' H'
 | .ret u=>∃v σ' H',Inv X pins σ' H' s'/\RelV v u/\D.rt v H'
def PE(X:Cx)(e:Expr)(t:TE):Prop:=
 ∀(pins:List (Addr×Obj)) (s:Ag) (Z:St) (H:Hp) (Q:VK),Inv X pins Z H s->t Z H Q->Be (Bn X.prog X.w) X.A (eval e X.env) (EP X pins Z Q) X.xe s
def PT(X:Cx)(e:Expr)(t:TT):Prop:=
 ∀(pins:List (Addr×Obj)) (s:Ag) (Z:St) (H:Hp) (Q:Bool->Hp->Prop),Inv X pins Z H s->t Z H Q->Be (Bn X.prog X.w) X.A (isTrue e X.env (eval e X.env)) (TP X pins Z Q) X.xe s
def PW(X:Cx)(e:Expr)(t:TT):Prop:=
 ∀(whole:Sem Ae) (pins:List (Addr×Obj)) (s:Ag) (Z:St) (H:Hp) (Q:Bool->Hp->Prop),Inv X pins Z H s->t Z H Q->Be (Bn X.prog X.w) X.A (isTrue e X.env whole) (TP X pins Z Q) X.xe s
def PW.pt{X:Cx}{e:Expr}{t:TT}(h:PW X e t):PT X e t:=h _
def PA(X:Cx)(es:List Expr)(t:TA):Prop:=
 ∀(pos:Pos) (pins:List (Addr×Obj)) (s:Ag) (Z:St) (H:Hp) (Q:List V->Hp->Prop),Inv X pins Z H s->t Z H Q->Be (Bn X.prog X.w) X.A (spliced (Gx pos (Bj es X.env))) (AP X pins Z Q) X.xe s
def PS(X:Cx)(st:Stmt)(t:TS):Prop:=
 ∀(pins:List (Addr×Obj)) (s:Ag) (Z:St) (H:Hp) (D:lN),Inv X pins Z H s->t D Z H->Be (Bn X.prog X.w) X.A (exec st X.env) (SP X pins D) X.xe s
def gC(X:Cx)(st:List Stmt)(t:TS):Prop:=
 ∀(pins:List (Addr×Obj)) (s:Ag) (Z:St) (H:Hp) (D:lN),Inv X pins Z H s->t D Z H->Be (Bn X.prog X.w) X.A (execs st X.env) (SP X pins D) X.xe s
def bA{O:Type}{t:Sem O}{Q Q':O->Ag->Prop}{M:Model}{A:Ck}{E:Ae->Ag->Prop}{s:Ag}(h:Be M A t Q E s)(hQ:∀a s,Q a s->Q' a s):Be M A t Q' E s:=Hn h hQ λ_ _ x=>x
section
variable {X:Cx}
def O0(i:Nat):TE:=λZ H Q=>∃v,Z[i]? = some (some v)/\Q v H
def tC(v:V):TE:=λ_ H Q=>Q v H
def EI{i:Nat}{x:Str}{pos:Pos}(hN:X.N[i]? = some x)(hv:tE X.env.scope x)(hd:(x==("__debug__" : Str))=false:=by decide)(hcd:(x==("__classdict__" : Str))=false:=by decide):PE X (.Name x pos) (O0 i):=by
 intro pins s Z H Q I h;obtain⟨v,e,h⟩:=h;obtain⟨m,hn,hl⟩:=I.loc;obtain⟨u,r,l⟩:=hl i x v hN e hv;have fin:EP X pins Z Q u s:=⟨v,H,I,r,h⟩;rcases l with⟨hk,hm⟩|⟨hk,c,hc,hcell⟩
 .exact wpAny_Name (wpAny_loadName_local I.ok.kind hk hn hm fin) hd
 .rcases hk with hk|hk
  .exact wpAny_Name (wpAny_loadName_cell I.ok.kind hk hc hcell fin) hd
  .exact wpAny_Name (wpAny_loadName_free I.ok.kind hk hc hcell fin hcd) hd
def O3{i j pos}:PE X (.Constant (.int i) j pos) (tC (.int i)):=λ_ _ _ H _ I h=>wpAny_Constant_int ⟨.int i,H,I.tok _,⟨_,rfl⟩,h⟩
def O4{b j pos}:PE X (.Constant (.bool b) j pos) (tC (.bl b)):=λ_ _ _ H _ I h=>Constant_bool ⟨.bl b,H,I,rfl,h⟩
def O5{j pos}:PE X (.Constant .none j pos) (tC .non):=λ_ _ _ H _ I h=>Constant_none ⟨.non,H,I,rfl,h⟩
def O6{x j pos}:PE X (.Constant (.str x) j pos) (tC (.str x)):=λ_ _ _ H _ I h=>Calls.Constant_str ⟨.str x,H,I.tok _,⟨_,rfl⟩,h⟩
def Gl(X:Cx)(x:Str):Prop:=X.env.kindOf x=some .globalImplicit
def tF{E:Ae->Ag->Prop}{pins:List (Addr×Obj)}{s:Ag}{Z:St}{H:Hp}{x:Str}{u:Ae}{pos:Pos}{Q:Ae->Ag->Prop}(I:Inv X pins Z H s)(hg:Gl X x)(hm:X.mg x=some u)(h:Q u s)(hd:(x==("__debug__" : Str))=false:=by decide):Be (Bn X.prog X.w) X.A (eval (.Name x pos) X.env) Q E s:=
 Calls.Name_function_global I.ok.kind hg (Calls.loadGlobal_global (by rw[I.ok.glob];exact I.mod.glob.keeps I.bk) hm h) hd
def jX{E:Ae->Ag->Prop}{pins:List (Addr×Obj)}{s:Ag}{Z:St}{H:Hp}{x:Str}{u:Ae}{pos:Pos}{Q:Ae->Ag->Prop}(I:Inv X pins Z H s)(hg:Gl X x)(hm:X.mg x=none)(hv:Ct x=some u)(h:Q u s)(hn:x≠"__name__":=by decide)(hd:(x==("__debug__" : Str))=false:=by decide):Be (Bn X.prog X.w) X.A (eval (.Name x pos) X.env) Q E s:=by
 obtain⟨mb,h1,h2⟩:=I.mod.blt;exact Calls.Name_function_global I.ok.kind hg (Calls.loadGlobal_builtin (by rw[I.ok.glob];exact I.mod.glob.keeps I.bk) hm (by rw[I.ok.blt];exact h1.keeps I.bk) ((h2 x hn).trans hv) h) hd
def O7{x:Str}{v:V}{u:Ae}{pos:Pos}(hg:Gl X x)(hm:X.mg x=some u)(r:RelV v u)(hd:(x==("__debug__" : Str))=false:=by decide):PE X (.Name x pos) (tC v):=
 λ_ _ _ H _ I h=>tF I hg hm ⟨v,H,I,r,h⟩ hd
def O8{x:Str}{v:V}{u:Ae}{pos:Pos}(hg:Gl X x)(hm:X.mg x=none)(hv:Ct x=some u)(r:RelV v u)(hn:x≠"__name__":=by decide)(hd:(x==("__debug__" : Str))=false:=by decide):PE X (.Name x pos) (tC v):=
 λ_ _ _ H _ I h=>jX I hg hm hv ⟨v,H,I,r,h⟩ hn hd
variable {a b:Expr}{ta tb:TE}{pos:Pos}
variable {tA tB':TT}{rest:List Expr}
def O9(t u:TT):TT:=λZ H Q=>t Z H λc H1=>if c=true then u Z H1 Q else Q false H1
def PB(t u:TT):TT:=λZ H Q=>t Z H λc H1=>if c=true then Q true H1 else u Z H1 Q
def PC(t:TT):TT:=λZ H Q=>t Z H λc H1=>Q (!c) H1
def PD(ha:PT X a tA):PW X (.BoolOp .And [a] pos) tA:=by
 intro wh pins s Z H Q I h;refine isTrue_and (bA (ha pins s Z H Q I h) λc s1 e=>?_);cases c with
 | true=>exact isTrue_and_nil e
 | false=>exact e
def PF(ha:PT X a tA):PW X (.BoolOp .Or [a] pos) tA:=by
 intro wh pins s Z H Q I h;refine isTrue_or (bA (ha pins s Z H Q I h) λc s1 e=>?_);cases c with
 | false=>exact isTrue_or_nil e
 | true=>exact e
def PH(ha:PT X a tA)(hb:PW X (.BoolOp .And (b::rest) pos) tB'):PW X (.BoolOp .And (a::b::rest) pos) (O9 tA tB'):=by
 intro wh pins s Z H Q I h;refine isTrue_and (bA (ha pins s Z H _ I h) λc s1 ⟨H1,I1,q1⟩=>?_);cases c with
 | true=>exact hb wh pins s1 Z H1 Q I1 q1
 | false=>exact⟨H1,I1,q1⟩
def PJ(ha:PT X a tA)(hb:PW X (.BoolOp .Or (b::rest) pos) tB'):PW X (.BoolOp .Or (a::b::rest) pos) (PB tA tB'):=by
 intro wh pins s Z H Q I h;refine isTrue_or (bA (ha pins s Z H _ I h) λc s1 ⟨H1,I1,q1⟩=>?_);cases c with
 | true=>exact⟨H1,I1,q1⟩
 | false=>exact hb wh pins s1 Z H1 Q I1 q1
def PK(ha:PT X a tA):PT X (.UnaryOp .Not a pos) (PC tA):=by
 intro pins s Z H Q I h;exact isTrue_not (ha pins s Z H (λc H1=>Q (!c) H1) I h)
def PL(ta tb:TE):TE:=λZ H Q=>ta Z H λx H1=>∃c,x=.bl c/\if c=true then tb Z H1 Q else Q (.bl false) H1
def PM{op}{t:TE}(h:PE X a t):PE X (.BoolOp op [a] pos) t:=λpins s Z H Q I hw=>BoolOp_one (h pins s Z H Q I hw)
def PN(ha:PE X a ta)(hb:PE X (.BoolOp .And (b::rest) pos) tb):PE X (.BoolOp .And (a::b::rest) pos) (PL ta tb):=by
 intro pins s Z H Q I h;refine BoolOp_and (bA (ha pins s Z H _ I h) λv s1 ⟨x,H1,I1,r1,q1⟩=>?_);obtain⟨c,rfl,q1⟩:=q1;cases r1;refine Gs ?_;cases c with
 | true=>exact hb pins s1 Z H1 Q I1 q1
 | false=>exact⟨.bl false,H1,I1,rfl,q1⟩
end
def bK(K:Ac)(H:Hp)(a:Addr)(xs:List V):Prop:=
 Rd H a (.lst xs)\/
  ∃(o:Obj) (its:Array Ae) (n:Nat),K.lookup a=some o/\o.cls=.type "list"/\o.dict=none/\o.data=.seq its n/\its.size<=Ao/\a8 xs its.toList
def bS(K:Ac)(H:Hp)(a:Addr)(xs:List V):Prop:=
 Rd H a (.tup xs)\/
  ∃(o:Obj) (its:Array Ae) (n:Nat),K.lookup a=some o/\o.cls=.type "tuple"/\o.data=.seq its n/\its.size<=Ao/\a8 xs its.toList
def PQ:Ae->Option V
 | .none=>some .non
 | .bool b=>some (.bl b)
 | .int i _=>some (.int i)
 | .str x _=>some (.str x)
 | .bytes b _=>some (.byt b)
 | .float b _=>some (.flt b)
 | .ref a=>some (.ref a)
 | .type n=>some (.ty n)
 | _=>none
def RelV.abs{x:V}{u:Ae}(r:RelV x u):PQ u=some x:=by
 cases x with
 | non=>cases r;rfl
 | bl _=>cases r;rfl
 | int _=>obtain⟨t,rfl⟩:=r;rfl
 | str _=>obtain⟨t,rfl⟩:=r;rfl
 | byt _=>obtain⟨t,rfl⟩:=r;rfl
 | flt _=>obtain⟨t,rfl⟩:=r;rfl
 | ref _=>cases r;rfl
 | ty _=>cases r;rfl
def RelV.inj{x y:V}{u:Ae}(r:RelV x u)(q:RelV y u):x=y:=Bx (r.abs.symm.trans q.abs)
def a8.inj:∀{xs ys:List V} {us:List Ae},a8 xs us->a8 ys us->xs=ys
 | _,_,_,.nil,.nil=>rfl
 | _,_,_,.cons r t,.cons r' t'=>by rw[r.inj r',a8.inj t t']
section
variable {X:Cx}{pins:List (Addr×Obj)}{Z:St}{H:Hp}{s:Ag}{a:Addr}{xs ys:List V}
def bK.of{K:Ac}(h:H a=some (.lst xs)):bK K H a xs:=.inl (.inl h)
def bS.of{K:Ac}(h:H a=some (.tup xs)):bS K H a xs:=.inl (.inl h)
def Inv.list(I:Inv X pins Z H s)(h:bK X.K H a xs):∃its:List Ae,a8 xs its/\PlainL s.heap a its.toArray/\xs.length<=Ao:=by
 rcases h with h|⟨o,its,n,hk,hc,hd,hs,hz,r⟩
 .obtain⟨z,its,n,r,e⟩:=h.ok I.hok;exact⟨its,r,⟨_,n,e,rfl,rfl,rfl⟩,z⟩
 .refine⟨its.toList,r,⟨o,n,I.kIn a o hk,hc,hd,by simpa using hs⟩,?_⟩;have e:=r.length;simp only[Gr]at e;lia
def Inv.tuple(I:Inv X pins Z H s)(h:bS X.K H a xs):∃its:List Ae,a8 xs its/\IsTup s.heap a its.toArray/\xs.length<=Ao:=by
 rcases h with h|⟨o,its,n,hk,hc,hs,hz,r⟩
 .obtain⟨z,its,r,p⟩:=h.ok I.hok;exact⟨its,r,p,z⟩
 .refine⟨its.toList,r,⟨o,I.kIn a o hk,hc,n,by simpa using hs⟩,?_⟩;have e:=r.length;simp only[Gr]at e;lia
def Inv.list_inj(I:Inv X pins Z H s)(h:bK X.K H a xs)(h':bK X.K H a ys):xs=ys:=by
 obtain⟨its,r,⟨o,n,e,_,_,d⟩,_⟩:=I.list h;obtain⟨its',r',⟨o',n',e',_,_,d'⟩,_⟩:=I.list h';rw[e]at e';cases e';rw[d]at d';injection d' with d1 _;have:its=its':=by simpa using congrArg Array.toList d1
 subst this;exact r.inj r'
def Inv.tuple_inj(I:Inv X pins Z H s)(h:bS X.K H a xs)(h':bS X.K H a ys):xs=ys:=by
 obtain⟨its,r,⟨o,e,_,n,d⟩,_⟩:=I.tuple h;obtain⟨its',r',⟨o',e',_,n',d'⟩,_⟩:=I.tuple h';rw[e]at e';cases e';rw[d]at d';injection d' with d1 _;have:its=its':=by simpa using congrArg Array.toList d1
 subst this;exact r.inj r'
end
abbrev Cx.wish(X:Cx)(E:Ae->Ag->Prop):Cx:={X with xe:=E}
abbrev Cx.nox(X:Cx):Cx:=X.wish λ_ _=>False
def Cx.Ok.wish{X:Cx}(ok:X.Ok)(E:Ae->Ag->Prop):(X.wish E).Ok:=
 ⟨ok.mod,ok.kind,ok.glob,ok.blt,ok.above,ok.inj,ok.has,ok.cab,ok.hd,ok.frames,ok.stk,ok.exf,ok.bs,ok.bsz,ok.noex,ok.exfs,ok.funs,ok.frf⟩
def Cx.Ok.unwish{X:Cx}{E:Ae->Ag->Prop}(ok:(X.wish E).Ok):X.Ok:=
 ⟨ok.mod,ok.kind,ok.glob,ok.blt,ok.above,ok.inj,ok.has,ok.cab,ok.hd,ok.frames,ok.stk,ok.exf,ok.bs,ok.bsz,ok.noex,ok.exfs,ok.funs,ok.frf⟩
section
variable {X:Cx}{pins:List (Addr×Obj)}{Z:St}{H:Hp}{s:Ag}{E:Ae->Ag->Prop}
def Inv.wish(I:Inv X pins Z H s)(E:Ae->Ag->Prop):Inv (X.wish E) pins Z H s:=⟨I.ok.wish E,I.os,I.bare,I.base,I.loc,I.cell,I.free,I.freeC,I.pin,I.hok,I.len⟩
def Inv.unwish(I:Inv (X.wish E) pins Z H s):Inv X pins Z H s:=⟨I.ok.unwish,I.os,I.bare,I.base,I.loc,I.cell,I.free,I.freeC,I.pin,I.hok,I.len⟩
def SP.unwish{D:lN}{f:Flow}{s':Ag}(h:SP (X.wish E) pins D f s'):SP X pins D f s':=by
 cases f with
 | next=>obtain⟨σ',H',I,q⟩:=h;exact⟨σ',H',I.unwish,q⟩
 | brk=>obtain⟨σ',H',I,q⟩:=h;exact⟨σ',H',I.unwish,q⟩
 | cont=>obtain⟨σ',H',I,q⟩:=h;exact⟨σ',H',I.unwish,q⟩
 | ret u=>obtain⟨v,σ',H',I,r,q⟩:=h;exact⟨v,σ',H',I.unwish,r,q⟩
def gC.nox{st:List Stmt}{t:TS}(h:gC X.nox st t):gC X st t:=λpins s Z H D I hw=>
 Hn (h pins s Z H D (I.wish _) hw) (λ_ _ q=>q.unwish) λ_ _ z=>Fv z
end
section
variable {X:Cx}{st:Stmt}{rest:List Stmt}{t u:TS}{e:Expr}{te:TE}{pos:Pos}
def PR:TS:=λD Z H=>D.nx Z H
def PU(t u:TS):TS:=λD Z H=>t {D with nx:=u D} Z H
def PV:gC X [] PR:=λ_ _ Z H _ I h=>Mi ⟨Z,H,I,h⟩
def PX(h1:PS X st t)(h2:gC X rest u):gC X (st::rest) (PU t u):=by
 intro pins s Z H D I h;refine wpAny_execs_cons (bA (h1 pins s Z H {D with nx:=u D} I h) λf s1 q=>?_);cases f with
 | next=>
  obtain⟨σ',H',I',q⟩:=q;exact h2 pins s1 σ' H' D I' q
 | ret v=>exact q
 | brk=>exact q
 | cont=>exact q
def PY(h1:PS X st t):gC X [st] t:=by
 intro pins s Z H D I h;refine wpAny_execs_cons (bA (h1 pins s Z H D I h) λf s1 q=>?_);cases f with
 | next=>exact Mi q
 | ret v=>exact q
 | brk=>exact q
 | cont=>exact q
def Inv.quiet{pins:List (Addr×Obj)}{Z:St}{H:Hp}{s:Ag}(I:Inv X pins Z H s):interactive X.env=false:=by simp[interactive,I.ok.kind]
def PZ(te:TE):TS:=λD Z H=>te Z H λ_ H1=>D.nx Z H1
def P0(he:PE X e te)(hs:Jg e none pos.line X.env=pure false:=by rfl):PS X (.Expr e pos) (PZ te):=by
 intro pins s Z H D I h;exact wpAny_Expr_any (bA (he pins s Z H _ I h) λv s1 ⟨x,H1,I1,r1,q1⟩=>⟨Z,H1,I1,q1⟩) I.quiet hs
def P1(te:TE):TS:=λD Z H=>te Z H D.rt
def P2(he:PE X e te):PS X (.Return (some e) pos) (P1 te):=by
 intro pins s Z H D I h;exact wpAny_Return_some (bA (he pins s Z H _ I h) λv s1 ⟨x,H1,I1,r1,q1⟩=>⟨x,Z,H1,I1,r1,q1⟩)
def P4:TS:=λD _ H=>D.rt .non H
def P5:PS X (.Return none pos) P4:=λ_ _ Z H _ I h=>wpAny_Return_none ⟨.non,Z,H,I,rfl,h⟩
def P6(c:TT)(t u:TS):TS:=λD Z H=>c Z H λb H1=>if b=true then t D Z H1 else u D Z H1
def P7{c:Expr}{a b:List Stmt}{tc:TT}(hc:PT X c tc)(ha:gC X a t)(hb:gC X b u):PS X (.If c a b pos) (P6 tc t u):=by
 intro pins s Z H D I h;refine wpAny_If (bA (hc pins s Z H _ I h) λd s1 ⟨H1,I1,q1⟩=>?_);cases d with
 | true=>exact ha pins s1 Z H1 D I1 q1
 | false=>exact hb pins s1 Z H1 D I1 q1
end
abbrev TG:=V->St->Hp->(St->Hp->Prop)->Prop
abbrev jY:=List V->St->Hp->(St->Hp->Prop)->Prop
def PG(X:Cx)(target:Expr)(t:TG):Prop:=
 ∀(pins:List (Addr×Obj)) (s:Ag) (Z:St) (H:Hp) (v:V) (u:Ae) (Q:St->Hp->Prop),Inv X pins Z H s->RelV v u->t v Z H Q->
  Be (Bn X.prog X.w) X.A (Li target X.env u) (λ_ s'=>∃σ' H',Inv X pins σ' H' s'/\Q σ' H') X.xe s
def jC(X:Cx)(ts:List Expr)(t:jY):Prop:=
 ∀(pins:List (Addr×Obj)) (s:Ag) (Z:St) (H:Hp) (vs:List V) (us:List Ae) (Q:St->Hp->Prop),Inv X pins Z H s->a8 vs us->t vs Z H Q->
  Be (Bn X.prog X.w) X.A (assignInOrder ((Gm ts X.env).map (·.2)) us) (λ_ s'=>∃σ' H',Inv X pins σ' H' s'/\Q σ' H') X.xe s
abbrev tG:=V->V->V->Hp->(Hp->Prop)->Prop
def tH(X:Cx)(t:tG):Prop:=
 ∀(pins:List (Addr×Obj)) (s:Ag) (Z:St) (H:Hp) (o i v:V) (ov iv u:Ae) (Q:Hp->Prop),Inv X pins Z H s->RelV o ov->RelV i iv->RelV v u->t o i v H Q->
  Be (Bn X.prog X.w) X.A (setItem ov iv u) (λ_ s'=>∃H',Inv X pins Z H' s'/\Q H') X.xe s
section
variable {X:Cx}{pos:Pos}
def xB(i:Nat):TG:=λv Z H Q=>Q (Z.set i (some v)) H
def P8{i:Nat}{x:Str}(hN:X.N.Nodup)(hi:X.N[i]? = some x)(hx:Loc X.env.scope x)(hf:X.fn x=true\/X.env.scope.names.lookup x=some .local:=by first|exact .inl rfl|exact .inr rfl|assumption):PG X (.Name x pos) (xB i):=by
 intro pins s Z H v u Q I r h;exact wpAny_assign_Name (EH I hN hi hx r (λs' I'=>⟨_,H,I',h⟩) hf)
def P9:jY:=λvs Z H Q=>vs=[]/\Q Z H
def QA(t:TG)(u:jY):jY:=λvs Z H Q=>∃v r,vs=v::r/\t v Z H λσ' H'=>u r σ' H' Q
def QB:jC X [] P9:=by
 intro pins s Z H vs us Q I r h;obtain⟨e,h⟩:=h;subst e;cases r;exact assignInOrder_nil ⟨Z,H,I,h⟩
def QC{e:Expr}{es:List Expr}{t:TG}{u:jY}(h1:PG X e t)(h2:jC X es u)(hs:(Gm (e::es) X.env).map (·.2)=Li e X.env::(Gm es X.env).map (·.2):=by rfl):jC X (e::es) (QA t u):=by
 intro pins s Z H vs us Q I r h;obtain⟨v,vr,e1,h⟩:=h;subst e1;cases r with
 | cons r rr=>
  rw[hs];refine assignInOrder_cons (bA (h1 pins s Z H _ _ _ I r h) λ_ s1 ⟨σ1,H1,I1,q1⟩=>?_);exact h2 pins s1 σ1 H1 _ _ Q I1 rr q1
def QD(K:Ac)(n:Nat)(t:jY):TG:=λv Z H Q=>∃a xs,v=.ref a/\bS K H a xs/\xs.length=n/\t xs Z H Q
def QE{es:List Expr}{k:Nat}{t:jY}{n:Nat}(hc:X.calm=true)(h:jC X es t)(hn:(Gm es X.env).length=n:=by rfl)(hst:(Gm es X.env).findIdx? (·.1)=none:=by rfl):PG X (.Tuple es k pos) (QD X.K n t):=by
 intro pins s Z H v u Q I r hw;obtain⟨a,xs,e1,hq,hl,hw⟩:=hw;subst e1;cases r;obtain⟨its,rv,ht,hz⟩:=I.tuple hq;refine assign_Tuple_tuple (I.ok.hd hc) ht (by simp[hn,<-hl,rv.length]) hst λh' hx=>?_;have I1:Inv X pins Z H {s with heap:=h'}:=I.kept (t':=s.toks) λb o e=>hx b o (Bs (Av e)) e;exact h pins _ Z H xs _ Q I1 (by simpa using rv) hw
def QF(to ti:TE)(t:tG):TG:=λv Z H Q=>to Z H λo H1=>ti Z H1 λi H2=>t o i v H2 λH3=>Q Z H3
def QG{o i:Expr}{to ti:TE}{t:tG}(ho:PE X o to)(hi:PE X i ti)(hs:tH X t)(ha:∀v,Li (.Subscript o i pos) X.env v=(do
   let ov <-Ho [v] (eval o X.env)
   let iv <-Ho [v,ov] (eval i X.env)
   Mz pos
   Ho [v,ov,iv] (setItem ov iv v)
   release [v,ov,iv] []):=by intro _;rfl):PG X (.Subscript o i pos) (QF to ti t):=by
 intro pins s Z H v u Q I r h;rw[ha];refine Aa (Cv (bA (ho pins s Z H _ I h) λov s1 ⟨x,H1,I1,r1,q1⟩=>?_));refine Aa (Cv (bA (hi pins s1 Z H1 _ I1 q1) λiv s2 ⟨y,H2,I2,r2,q2⟩=>?_));refine Aa (Nd (Aa (Cv (bA (hs pins s2 Z H2 x y v ov iv u _ I2 r1 r2 r q2) λ_ s3 ⟨H3,I3,q3⟩=>?_))));exact wpAny_release ⟨Z,H3,I3,q3⟩
def tI(te:TE)(g:TG):TS:=λD Z H=>te Z H λx H1=>g x Z H1 D.nx
def QH{tg e:Expr}{te:TE}{g:TG}(he:PE X e te)(hg:PG X tg g)(hs:swapsWithSole [tg] e pos.line X.env=pure false:=by rfl)(hw:swappedStores [tg] e X.env=pure none:=by rfl)(h1:(Gm [tg] X.env).map (·.2)=[Li tg X.env]:=by rfl):PS X (.Assign [tg] e pos) (tI te g):=by
 intro pins s Z H D I h;refine wpAny_Assign_stores (bA (he pins s Z H _ I h) λv s1 ⟨x,H1,I1,r1,q1⟩=>?_) hs hw;rw[h1];exact bA (hg pins s1 Z H1 x v _ I1 r1 q1) λ_ s2 q=>q
def QI{i:Nat}{x:Str}{e:Expr}{te:TE}{pos':Pos}(hN:X.N.Nodup)(hi:X.N[i]? = some x)(hx:Loc X.env.scope x)(he:PE X e te)(hs:Jg e (some (.Name x pos')) pos.line X.env=pure false:=by rfl)(hf:X.fn x=true\/X.env.scope.names.lookup x=some .local:=by first|exact .inl rfl|exact .inr rfl|assumption):
  PS X (.Assign [.Name x pos'] e pos) (tI te (xB i)):=by
 intro pins s Z H D I h;refine wpAny_Assign_Name (bA (he pins s Z H _ I h) λv s1 ⟨y,H1,I1,r1,q1⟩=>?_) hs;exact EH I1 hN hi hx r1 (λs2 I2=>⟨_,H1,I2,q1⟩) hf
end
section
variable {X:Cx}{pos:Pos}
def QJ(c:TT)(tb:TS):TS:=λD Z H=>∃W:Nat->St->Hp->Prop,(∃m,W m Z H)/\∀m Z H,W m Z H->
 c Z H λb H1=>if b=true then ∃N:St->Hp->Prop,(∀σ' H',N σ' H'->∃m',m'<m/\W m' σ' H')/\tb {D with nx:=N,ct:=N,bk:=D.nx} Z H1 else D.nx Z H1
def QK{c:Expr}{body:List Stmt}{tc:TT}{tb:TS}(hp:PassesOwn (Bn X.prog X.w) X.A X.env X.xe)(hc:PT X c tc)(hb:gC X body tb):PS X (.While c body [] pos) (QJ tc tb):=by
 intro pins s Z H D I h;obtain⟨W,⟨m0,w0⟩,turn⟩:=h;refine wpAny_While (codeAny_whileLoop (λn s'=>∃σ' H',Inv X pins σ' H' s'/\W n σ' H') ?_ m0 ⟨Z,H,I,w0⟩);rintro n s1 ⟨σ1,H1,I1,w1⟩;refine Hu hp (bA (hc pins s1 σ1 H1 _ I1 (turn n σ1 H1 w1)) λb s2 ⟨H2,I2,q2⟩=>?_);cases b with
 | true=>
  obtain⟨N,hN,q2⟩:=q2;rw[if_pos rfl];refine Hu hp (bA (hb pins s2 σ1 H2 _ I2 q2) λf s3 q3=>?_);cases f with
  | next=>
   obtain⟨σ3,H3,I3,n3⟩:=q3;obtain⟨m',hm,w3⟩:=hN σ3 H3 n3;exact⟨m',hm,σ3,H3,I3,w3⟩
  | cont=>
   obtain⟨σ3,H3,I3,n3⟩:=q3;obtain⟨m',hm,w3⟩:=hN σ3 H3 n3;exact⟨m',hm,σ3,H3,I3,w3⟩
  | brk=>exact q3
  | ret v=>exact q3
 | false=>
  rw[if_neg Ar];exact Mi ⟨σ1,H2,I2,q2⟩
end
structure It where
 go:Nat->Hp->Prop
 yld:Nat->Hp->V->Hp->Prop
 stop:Nat->Hp->Prop
def hW(X:Cx)(pins:List (Addr×Obj))(H:Hp)(b:Addr):Prop:=
 H b=none/\b≠X.env.locals/\b∉X.fs/\(b∈X.ex\/X.s₀.heap.objs.size<=b)/\(∀x c,X.env.cells.lookup x=some c->c≠b)/\∀p∈X.pn++pins,p.1≠b
def Inv.fpOk{X:Cx}{pins:List (Addr×Obj)}{Z:St}{H H':Hp}{s:Ag}{b:Addr}(I:Inv X pins Z H s)(hb:s.heap.objs.size<=b)(hn:H' b=none):hW X pins H' b:=by
 refine⟨hn,Dk (Bu I.lt hb),I.nofs hb,.inr (Az I.sz hb),λx c e z=>?_,λp hp z=>?_⟩
 .obtain⟨v,q⟩:=I.cell x c e;exact absurd (Bu q.lt (by rw[z];exact hb)) (Js _)
 .exact absurd (Bu (Av (I.pin p hp).1) (by rw[z];exact hb)) (Js _)
structure jZ(P:Bt)(w:Cm)(K:Ac)(tg:Expr)(J:It)(fp:List Addr)(it:Addr)(tn:Nat->Heap->Prop):Prop where
 mem:it∈fp
 obj:∀i h,tn i h->∀b∈fp,∃o,h.get? b=some o/\∀v,o.data≠.cell v
 keep:∀i h h',tn i h->(∀b∈fp,∀o,h.get? b=some o->h'.get? b=some o)->tn i h'
 item:∀(X:Cx),X.prog=P->X.w=w->X.K=K->X.calm=true->∀(i:Nat) (pins:List (Addr×Obj)) (s:Ag) (Z:St) (H:Hp) (E:Ae->Ag->Prop),Inv X pins Z H s->(∀b∈fp,hW X pins H b)->tn i s.heap->J.go i H->
  Be (Bn P w) X.A (Im (.ref it)) (λr s1=>∃u,r=some u/\
   Be (Bn P w) X.A (Ml tg (.ref it) u) (λ_ s2=>∃x H',Inv X pins Z H' s2/\RelV x u/\J.yld i H x H'/\tn (i+1) s2.heap/\∀b∈fp,H' b=none) E s1) E s
 done:∀(X:Cx),X.prog=P->X.w=w->X.K=K->X.calm=true->∀(i:Nat) (pins:List (Addr×Obj)) (s:Ag) (Z:St) (H:Hp) (E:Ae->Ag->Prop),Inv X pins Z H s->(∀b∈fp,hW X pins H b)->tn i s.heap->J.stop i H->
  Be (Bn P w) X.A (Im (.ref it)) (λr s1=>r=none/\Inv X pins Z H s1) E s
 self:∀(A:Ck) (i:Nat) (s:Ag) (Q:Ae->Ag->Prop) (E:Ae->Ag->Prop),tn i s.heap->Q (.ref it) s->Be (Bn P w) A (pyIter (.ref it)) Q E s
abbrev TI:=St->Hp->(It->Hp->Prop)->Prop
def qK(X:Cx)(pins:List (Addr×Obj))(Z:St)(tg:Expr)(R:It->Hp->Prop)(itv:Ae)(s2:Ag):Prop:=
 ∃(it:Addr) (fp:List Addr) (tn:Nat->Heap->Prop) (J:It) (H':Hp),itv=.ref it/\Inv X pins Z H' s2/\jZ X.prog X.w X.K tg J fp it tn/\tn 0 s2.heap/\(∀b∈fp,hW X pins H' b)/\R J H'
def PI(X:Cx)(tg iter:Expr)(wi:TI):Prop:=
 ∀(pins:List (Addr×Obj)) (s:Ag) (Z:St) (H:Hp) (R:It->Hp->Prop),Inv X pins Z H s->wi Z H R->
  Be (Bn X.prog X.w) X.A (eval iter X.env) (λv s1=>Be (Bn X.prog X.w) X.A (pyIter v) (qK X pins Z tg R) X.xe s1) X.xe s
def tJ{M:Model}{A:Ck}{E:Ae->Ag->Prop}{s:Ag}{tg:Expr}{it:Addr}{u:Ae}{o:Obj}{n:String}{vs:Array Ae}{Q:Unit->Ag->Prop}(ho:s.heap.get? it=some o)(hc:o.cls=.type n)(hd:o.data=.fields vs)(hn : ["enumerate","zip","dict_itemiterator","dict_reverseitemiterator","odict_iterator","itertools.zip_longest","itertools.pairwise"].contains n=false)(hQ:Q () s):Be M A (Ml tg (.ref it) u) Q E s:=by
 unfold Ml;cases tg<;>first
  | exact Ah hQ
  | (cases u<;>first
    | exact Ah hQ
    | (refine Aa (wpAny_load ho ?_)
       rw[hc,hd];show Be M A (if (["enumerate","zip","dict_itemiterator","dict_reverseitemiterator","odict_iterator","itertools.zip_longest","itertools.pairwise"].contains n&&vs[0]?==some (Jn _))=true then _ else _) Q E s;rw[if_neg (by intro h;rw[hn,Bool.false_and]at h;cases h)];exact Ah hQ))
def oZ(K:Ac)(a:Addr):It:=
 ⟨λi H=>∃xs x,bK K H a xs/\xs[i]? = some x,λi H x H'=>H'=H/\∀xs,bK K H a xs->xs[i]? = some x,λi H=>∃xs,bK K H a xs/\xs.length<=i⟩
def xC(K:Ac)(a:Addr):It:=
 ⟨λi H=>∃xs x,bS K H a xs/\xs[i]? = some x,λi H x H'=>H'=H/\∀xs,bS K H a xs->xs[i]? = some x,λi H=>∃xs,bS K H a xs/\xs.length<=i⟩
def tK(lo:Int)(n:Nat):It:=⟨λi _=>i<n,λi H x H'=>H'=H/\x=.int (lo+i),λi _=>n<=i⟩
def QL{P:Bt}{w:Cm}{K:Ac}{tg:Expr}(a it:Addr):jZ P w K tg (oZ K a) [it] it (λi h=>h.IsListIter it a i) where
 mem:=by simp
 obj:=λi h st b hb=>by
  have e:b=it:=by simpa using hb
  subst e;obtain⟨o,e,c,d⟩:=st;exact⟨o,e,λv z=>by rw[d]at z;cases z⟩
 keep:=λi h h' st k=>st.at λo e=>k it (by simp) o e
 item:=by
  intro X hP hw hK hc i pins s Z H E I hf st hg;subst hP hw hK;obtain⟨xs,x,hq,hx⟩:=hg;obtain⟨its,rv,p,hz⟩:=I.list hq;obtain⟨u,hu,ru⟩:=rv.get hx;obtain⟨f0,f1,f2,f3,f4,f5⟩:=hf it (by simp);refine wpAny_pyNext_list_item st p.isList (x:=u) (by simpa using hu) λh' st' sb=>?_;have I1:Inv X pins Z H {s with heap:=h'}:=I.turned (t':=s.toks) (λb o hb e=>(sb.2 b hb).trans e) f0 f1 f3 f4 f5;obtain⟨o,e,c,d⟩:=id st';exact⟨u,rfl,tJ (s:={s with heap:=h'}) e c d (by decide) ⟨x,H,I1,ru,⟨rfl,λys hy=>by rw[I.list_inj hy hq];exact hx⟩,st',λb hb=>(hf b hb).1⟩⟩
 done:=by
  intro X hP hw hK hc i pins s Z H E I hf st hg;subst hP hw hK;obtain⟨xs,hq,hx⟩:=hg;obtain⟨its,rv,p,hz⟩:=I.list hq;obtain⟨f0,f1,f2,f3,f4,f5⟩:=hf it (by simp);have hl:=rv.length;exact wpAny_pyNext_list_end (I.ok.hd hc) st p.isList (by simp;lia) λh' eb=>⟨rfl,I.turned (t':=s.toks) (λb o hb e=>eb b o hb e) f0 f1 f3 f4 f5⟩
 self:=λ_ _ _ _ _ st h=>wpAny_pyIter_listiter st h
def QM{P:Bt}{w:Cm}{K:Ac}{tg:Expr}(a it:Addr):jZ P w K tg (xC K a) [it] it (λi h=>h.IsTupleIter it a i) where
 mem:=by simp
 obj:=λi h st b hb=>by
  have e:b=it:=by simpa using hb
  subst e;obtain⟨o,e,c,d⟩:=st;exact⟨o,e,λv z=>by rw[d]at z;cases z⟩
 keep:=λi h h' st k=>st.at λo e=>k it (by simp) o e
 item:=by
  intro X hP hw hK hc i pins s Z H E I hf st hg;subst hP hw hK;obtain⟨xs,x,hq,hx⟩:=hg;obtain⟨its,rv,p,hz⟩:=I.tuple hq;obtain⟨u,hu,ru⟩:=rv.get hx;obtain⟨f0,f1,f2,f3,f4,f5⟩:=hf it (by simp);refine wpAny_pyNext_tuple_item st (show s.heap.IsTuple a its.toArray from p) (x:=u) (by simpa using hu) λh' st' sb=>?_;have I1:Inv X pins Z H {s with heap:=h'}:=I.turned (t':=s.toks) (λb o hb e=>(sb.2 b hb).trans e) f0 f1 f3 f4 f5;obtain⟨o,e,c,d⟩:=id st';exact⟨u,rfl,tJ (s:={s with heap:=h'}) e c d (by decide) ⟨x,H,I1,ru,⟨rfl,λys hy=>by rw[I.tuple_inj hy hq];exact hx⟩,st',λb hb=>(hf b hb).1⟩⟩
 done:=by
  intro X hP hw hK hc i pins s Z H E I hf st hg;subst hP hw hK;obtain⟨xs,hq,hx⟩:=hg;obtain⟨its,rv,p,hz⟩:=I.tuple hq;obtain⟨f0,f1,f2,f3,f4,f5⟩:=hf it (by simp);have hl:=rv.length;exact wpAny_pyNext_tuple_end (I.ok.hd hc) st (show s.heap.IsTuple a its.toArray from p) (by simp;lia) λh' eb=>⟨rfl,I.turned (t':=s.toks) (λb o hb e=>eb b o hb e) f0 f1 f3 f4 f5⟩
 self:=λ_ _ _ _ _ st h=>wpAny_pyIter_tupleiter st h
def QN{P:Bt}{w:Cm}{K:Ac}{tg:Expr}(it:Addr)(lo:Int)(n:Nat):jZ P w K tg (tK lo n) [it] it (λi h=>IsRangeIter h it (lo+(i:Nat)*1) ((n:Int)-(i:Nat)) 1) where
 mem:=by simp
 obj:=λi h st b hb=>by
  have e:b=it:=by simpa using hb
  subst e;exact⟨_,st,λv z=>by
   have z':Data.fields _=Data.cell v:=z;cases z'⟩
 keep:=λi h h' st k=>k it (by simp) _ st
 item:=by
  intro X hP hw hK hc i pins s Z H E I hf st hg;subst hP hw hK;obtain⟨f0,f1,f2,f3,f4,f5⟩:=hf it (by simp);have W:=Walks.range (prog:=X.prog) (w:=X.w) (I.ok.hd hc) it lo 1 n;refine W.item i s _ _ hg st λv h' tk hv st' kk=>?_;obtain⟨t,rfl⟩:=hv;have I1:Inv X pins Z H {s with heap:=h',toks:=tk}:=I.turned (λb o hb e=>kk b o (by simpa using hb) e) f0 f1 f3 f4 f5;refine⟨_,rfl,tJ (s:={s with heap:=h',toks:=tk}) (n:="range_iterator") st' rfl rfl (by decide) ⟨.int (lo+i),H,I1,⟨t,?_⟩,⟨rfl,rfl⟩,st',λb hb=>(hf b hb).1⟩⟩;rw[Int.mul_one]
 done:=by
  intro X hP hw hK hc i pins s Z H E I hf st hg;subst hP hw hK;obtain⟨f0,f1,f2,f3,f4,f5⟩:=hf it (by simp);exact wpAny_pyNext_range_end (I.ok.hd hc) st (by have:n<=i:=hg;lia) λh' eb=>⟨rfl,I.turned (t':=s.toks) (λb o hb e=>eb b o hb e) f0 f1 f3 f4 f5⟩
 self:=λ_ _ _ _ _ st h=>wpAny_pyIter_rangeiter st h
section
variable {X:Cx}{tg:Expr}
def QO{pins:List (Addr×Obj)}{Z:St}{H:Hp}{s:Ag}{R:It->Hp->Prop}{E:Ae->Ag->Prop}{lo hi:Int}{t u v:Tok}{tk:Nat}(I:Inv X pins Z H s)(h1 : -(2 ^ 62)<=lo)(h2:lo<2 ^ 62)(h3 : -(2 ^ 62)<=hi)(h4:hi<2 ^ 62)(q:R (tK lo (hi-lo).toNat) H):Be (Bn X.prog X.w) X.A (pyIter (.ref s.heap.objs.size)) (qK X pins Z tg R) E {s with heap:=s.heap.push {cls:=.type "range",data:=.fields #[.int lo t,.int hi u,.int 1 v]},toks:=tk}:=by
 refine wpAny_pyIter_range (IsRange.new ..) (small_one h1 h2 h3 h4) ?_;have I1:Inv X pins Z H {s with heap:=s.heap.push {cls:=.type "range",data:=.fields #[.int lo t,.int hi u,.int 1 v]},toks:=tk}:=I.kept λb o e=>Af _ e;refine⟨(s.heap.push {cls:=.type "range",data:=.fields #[.int lo t,.int hi u,.int 1 v]}).objs.size,[(s.heap.push {cls:=.type "range",data:=.fields #[.int lo t,.int hi u,.int 1 v]}).objs.size],_,_,H,rfl,
  I1.kept (t':=tk) λb o e=>Af _ e,QN _ lo (hi-lo).toNat,?_,λb hb=>?_,q⟩
 .have e1:lo+((0:Nat):Int)*1=lo:=by simp
  have e2:(((hi-lo).toNat:Nat):Int)-((0:Nat):Int)=Builtin.Range.rangeSize lo hi 1:=by rw[rangeSize_one];split<;>lia
  show IsRangeIter _ _ (lo+((0:Nat):Int)*1) ((((hi-lo).toNat:Nat):Int)-((0:Nat):Int)) 1;rw[e1,e2];exact Ba _ rfl
 .have e:b=(s.heap.push {cls:=.type "range",data:=.fields #[.int lo t,.int hi u,.int 1 v]}).objs.size:=by simpa using hb
  subst e;exact I1.fpOk (Ai _) (I1.hok.fresh (Ai _))
def QP(ta:TA):TI:=λZ H R=>ta Z H λvs H1=>∃j:Int,vs=[.int j]/\-(2 ^ 62)<=j/\j<2 ^ 62/\R (tK 0 j.toNat) H1
def QQ{a:Expr}{ta:TA}{p pos:Pos}(hg:Gl X "range")(hm:X.mg "range" = none)(ha:PA X [a] ta)(hs:Bj [a] X.env=[(false,eval a X.env)]:=by rfl):PI X tg (.Call (.Name "range" p) [a] [] pos) (QP ta):=by
 intro pins s Z H R I h;refine Call_ (jX I hg hm boot_range (Dx (bA (ha pos pins s Z H _ I h) λus s1 ⟨vs,H1,I1,r1,q1⟩=>?_) hs rfl));obtain⟨j,e,q1,q2,q⟩:=q1;subst e;cases r1 with
 | cons r rr=>
  cases rr;obtain⟨t,rfl⟩:=r;exact call_range_1 (QO I1 (by lia) (by lia) q1 q2 (by simpa using q))
def QS(wi:TI)(g:TG)(tb:TS):TS:=λD Z H=>wi Z H λJ H1=>∃W:Nat->Nat->St->Hp->Prop,(∃m,W 0 m Z H1)/\∀i m Z H,W i m Z H->
 (J.stop i H/\D.nx Z H)\/(J.go i H/\∃N:St->Hp->Prop,(∀σ' H',N σ' H'->∃m',m'<m/\W (i+1) m' σ' H')/\∀x H',J.yld i H x H'->g x Z H' λσ2 H2=>tb {D with nx:=N,ct:=N,bk:=D.nx} σ2 H2)
def qL(fp:List Addr)(h:Heap):List (Addr×Obj):=fp.filterMap λb=>(h.get? b).map λo=>(b,o)
def tL{fp:List Addr}{h:Heap}{b:Addr}{o:Obj}(hb:b∈fp)(e:h.get? b=some o):(b,o)∈qL fp h:=Fp.mpr ⟨b,hb,by rw[e];rfl⟩
def QT{fp:List Addr}{h:Heap}{p:Addr×Obj}(hp:p∈qL fp h):p.1∈fp/\h.get? p.1=some p.2:=by
 obtain⟨b,hb,e⟩:=Fp.mp hp;cases q:h.get? b with
 | none=>rw[q]at e;cases e
 | some o=>
  rw[q]at e;have e':(b,o)=p:=Bx e;subst e';exact⟨hb,q⟩
def Inv.pinned{pins:List (Addr×Obj)}{Z:St}{H:Hp}{s:Ag}{fp:List Addr}(I:Inv X pins Z H s)(hf:∀b∈fp,hW X pins H b)(ho:∀b∈fp,∃o,s.heap.get? b=some o/\∀v,o.data≠.cell v):Inv X (pins++qL fp s.heap) Z H s:=
 I.pins_of λp hp=>(Bo.mp hp).elim (λz=>I.pin p (Cf _ z)) λz=>by
  obtain⟨hb,e⟩:=QT z;obtain⟨f0,f1,f2,_⟩:=hf p.1 hb;obtain⟨o,e',d⟩:=ho p.1 hb;rw[e]at e';cases e';exact⟨e,f0,f1,f2,d⟩
def Inv.unpinned{pins pl:List (Addr×Obj)}{Z:St}{H:Hp}{s:Ag}(I:Inv X (pins++pl) Z H s):Inv X pins Z H s:=I.pins_of λp hp=>I.pin p (Cf _ (Ci _ hp))
def QU{iter:Expr}{body:List Stmt}{wi:TI}{g:TG}{tb:TS}{pos:Pos}(hp:PassesOwn (Bn X.prog X.w) X.A X.env X.xe)(hc:X.calm=true)(hi:PI X tg iter wi)(hg:PG X tg g)(hb:gC X body tb)(hs:∀x,Gu iter X.env x=pure x:=by intro _;rfl):PS X (.For tg iter body [] pos) (QS wi g tb):=by
 intro pins s Z H D I h;refine wpAny_For (bA (hi pins s Z H _ I h) λv s1 h1=>bA h1 λitv s2 h2=>?_) hs;obtain⟨it,fp,tn,J,H2,e,I2,T,st2,f2,W,⟨m0,w0⟩,turn⟩:=h2;subst e;have stat:∀{H':Hp},(∀b∈fp,H' b=none)->∀b∈fp,hW X pins H' b:=λhn b hb=>⟨hn b hb,(f2 b hb).2⟩
 refine codeAny_forLoop_any (λn s'=>∃i σ' H',Inv X pins σ' H' s'/\tn i s'.heap/\(∀b∈fp,H' b=none)/\W i n σ' H') ?_ m0 ⟨0,Z,H2,I2,st2,λb hb=>(f2 b hb).1,w0⟩;rintro n s3 ⟨i,σ3,H3,I3,st3,fr3,w3⟩;rcases turn i n σ3 H3 w3 with⟨stop,qn⟩|⟨go,N,hN,step⟩
 .refine Hu hp (bA (T.done X rfl rfl rfl hc i pins s3 σ3 H3 X.xe I3 (stat fr3) st3 stop) λr s4 ⟨hr,I4⟩=>?_);subst hr;exact Mi ⟨σ3,H3,I4,qn⟩
 .refine Hu hp (bA (T.item X rfl rfl rfl hc i pins s3 σ3 H3 X.xe I3 (stat fr3) st3 go) λr s4 ⟨u,hr,h4⟩=>?_);subst hr;refine Hu hp (bA h4 λ_ s5 ⟨x,H5,I5,r5,y5,st5,fr5⟩=>?_);have I5':=I5.pinned (stat fr5) (T.obj _ _ st5);refine Hu hp (bA (hg _ s5 σ3 H5 x u _ I5' r5 (step x H5 y5)) λ_ s6 ⟨σ6,H6,I6,q6⟩=>?_);refine Hu hp (bA (hb _ s6 σ6 H6 _ I6 q6) λf s7 q7=>?_);have again:∀{σ7:St} {H7:Hp},Inv X (pins++qL fp s5.heap) σ7 H7 s7->N σ7 H7->∃m,m<n/\∃i σ' H',Inv X pins σ' H' s7/\tn i s7.heap/\(∀b∈fp,H' b=none)/\W i m σ' H':=λ{σ7 H7} I7 n7=>by
   obtain⟨m',hm,w7⟩:=hN σ7 H7 n7;refine⟨m',hm,i+1,σ7,H7,I7.unpinned,T.keep _ _ _ st5 λb hb o e=>(I7.pin (b,o) (Cf _ (Cf _ (tL hb e)))).1,λb hb=>?_,w7⟩;obtain⟨o,e,d⟩:=T.obj _ _ st5 b hb;exact(I7.pin (b,o) (Cf _ (Cf _ (tL hb e)))).2.1
  cases f with
  | next=>obtain⟨σ7,H7,I7,n7⟩:=q7;exact again I7 n7
  | cont=>obtain⟨σ7,H7,I7,n7⟩:=q7;exact again I7 n7
  | brk=>obtain⟨σ7,H7,I7,q7⟩:=q7;exact⟨σ7,H7,I7.unpinned,q7⟩
  | ret v=>obtain⟨x7,σ7,H7,I7,r7,q7⟩:=q7;exact⟨x7,σ7,H7,I7.unpinned,r7,q7⟩
end
abbrev R2:=V->V->Hp->VK->Prop
def bG(X:Cx)(f:Ae->Ae->Sem Ae)(r:R2):Prop:=
 ∀(pins:List (Addr×Obj)) (s:Ag) (Z:St) (H:Hp) (x y:V) (v u:Ae) (Q:VK),Inv X pins Z H s->RelV x v->RelV y u->r x y H Q->
  Be (Bn X.prog X.w) X.A (f v u) (EP X pins Z Q) X.xe s
def qN(X:Cx)(f:Ae->Sem Ae)(r:V->Hp->VK->Prop):Prop:=
 ∀(pins:List (Addr×Obj)) (s:Ag) (Z:St) (H:Hp) (x:V) (v:Ae) (Q:VK),Inv X pins Z H s->RelV x v->r x H Q->
  Be (Bn X.prog X.w) X.A (f v) (EP X pins Z Q) X.xe s
def dX(X:Cx)(f:Ae)(r:List V->Hp->VK->Prop):Prop:=
 ∀(pins:List (Addr×Obj)) (s:Ag) (Z:St) (H:Hp) (xs:List V) (us:List Ae) (Q:VK),Inv X pins Z H s->a8 xs us->r xs H Q->
  Be (Bn X.prog X.w) X.A (call f us) (EP X pins Z Q) X.xe s
def QV(X:Cx)(r:V->Hp->(Bool->Hp->Prop)->Prop):Prop:=
 ∀(pins:List (Addr×Obj)) (s:Ag) (Z:St) (H:Hp) (x:V) (v:Ae) (Q:Bool->Hp->Prop),Inv X pins Z H s->RelV x v->r x H Q->
  Be (Bn X.prog X.w) X.A (truthy v) (TP X pins Z Q) X.xe s
def qO(r:R2)(ta tb:TE):TE:=λZ H Q=>ta Z H λx H1=>tb Z H1 λy H2=>r x y H2 Q
def QW(r:V->Hp->VK->Prop)(ta:TE):TE:=λZ H Q=>ta Z H λx H1=>r x H1 Q
def rI(C:Int->Int->Prop)(g:Int->Int->V):R2:=λx y H Q=>∃i j,x=.int i/\y=.int j/\C i j/\Q (g i j) H
def mT(g:Int->Int->V):R2:=λx y H Q=>∃i j,x=.int i/\y=.int j/\Q (g i j) H
def rU(g:Int->V):V->Hp->VK->Prop:=λx H Q=>∃i,x=.int i/\Q (g i) H
section
variable {X:Cx}{a b c:Expr}{ta tb tc:TE}{pos:Pos}
def xD(ha:PE X a ta)(hb:PE X b tb){pins:List (Addr×Obj)}{s:Ag}{Z:St}{H:Hp}{R:V->V->Hp->Prop}(I:Inv X pins Z H s)(h:ta Z H λx H1=>tb Z H1 λy H2=>R x y H2){Q:Ae->Ag->Prop}{f:Ae->Ae->Sem Ae}(hf:∀v u s2 x y H2,Inv X pins Z H2 s2->RelV x v->RelV y u->R x y H2->Be (Bn X.prog X.w) X.A (f v u) Q X.xe s2):
  Be (Bn X.prog X.w) X.A (eval a X.env) (λv s₁=>Be (Bn X.prog X.w) X.A (eval b X.env) (λu s₂=>Be (Bn X.prog X.w) X.A (f v u) Q X.xe s₂) X.xe s₁) X.xe s:=by
 refine bA (ha pins s Z H _ I h) λv s1 ⟨x,H1,I1,r1,q1⟩=>?_;refine bA (hb pins s1 Z H1 _ I1 q1) λu s2 ⟨y,H2,I2,r2,q2⟩=>?_;exact hf v u s2 x y H2 I2 r1 r2 q2
def QX{op:Operator}{r:R2}(ho:bG X (Fl op) r)(ha:PE X a ta)(hb:PE X b tb):PE X (.BinOp a op b pos) (qO r ta tb):=by
 intro pins s Z H Q I h;exact wpAny_BinOp (xD ha hb I h λv u s2 x y H2 I2 rx ry q=>ho pins s2 Z H2 x y v u Q I2 rx ry q)
def QY{op:UnaryOp}{r:V->Hp->VK->Prop}(ho:qN X (unaryOp op) r)(ha:PE X a ta):PE X (.UnaryOp op a pos) (QW r ta):=by
 intro pins s Z H Q I h;exact UnaryOp_ (bA (ha pins s Z H _ I h) λv s1 ⟨x,H1,I1,r1,q1⟩=>ho pins s1 Z H1 x v Q I1 r1 q1)
def qQ{f:Ae->Ae->Sem Ae}{C:Int->Int->Prop}{g:Int->Int->Int}(rule:∀(i j:Int) (t u:Tok) (s:Ag) (Q:Ae->Ag->Prop) (E:Ae->Ag->Prop),C i j->Q (.int (g i j) s.toks) {s with toks:=s.toks+1}->Be (Bn X.prog X.w) X.A (f (.int i t) (.int j u)) Q E s):
  bG X f (rI C λi j=>.int (g i j)):=by
 intro pins s Z H x y v u Q I rx ry h;obtain⟨i,j,rfl,rfl,hc,q⟩:=h;obtain⟨t,rfl⟩:=rx;obtain⟨t',rfl⟩:=ry;exact rule i j t t' s _ _ hc ⟨.int (g i j),H,I.tok _,⟨_,rfl⟩,q⟩
def EJ{f:Ae->Ae->Sem Ae}{g:Int->Int->Int}(rule:∀(i j:Int) (t u:Tok) (s:Ag) (Q:Ae->Ag->Prop) (E:Ae->Ag->Prop),Q (.int (g i j) s.toks) {s with toks:=s.toks+1}->Be (Bn X.prog X.w) X.A (f (.int i t) (.int j u)) Q E s):
  bG X f (mT λi j=>.int (g i j)):=by
 intro pins s Z H x y v u Q I rx ry h;obtain⟨i,j,rfl,rfl,q⟩:=h;obtain⟨t,rfl⟩:=rx;obtain⟨t',rfl⟩:=ry;exact rule i j t t' s _ _ ⟨.int (g i j),H,I.tok _,⟨_,rfl⟩,q⟩
def xE{f:Ae->Ae->Sem Ae}{g:Int->Int->Bool}(rule:∀(i j:Int) (t u:Tok) (s:Ag) (Q:Ae->Ag->Prop) (E:Ae->Ag->Prop),Q (.bool (g i j)) s->Be (Bn X.prog X.w) X.A (f (.int i t) (.int j u)) Q E s):
  bG X f (mT λi j=>.bl (g i j)):=by
 intro pins s Z H x y v u Q I rx ry h;obtain⟨i,j,rfl,rfl,q⟩:=h;obtain⟨t,rfl⟩:=rx;obtain⟨t',rfl⟩:=ry;exact rule i j t t' s _ _ ⟨.bl (g i j),H,I,rfl,q⟩
def EK(i j:Int):Prop:=0<=j/\j<=1000000/\i.natAbs<2 ^ 64
def pA(i j:Int):Prop:=(-(2 ^ 64)<i/\i<2 ^ 64)\/(-(2 ^ 64)<j/\j<2 ^ 64)
def pA.ok{i j:Int}(h:pA i j):IntMulOk i j:=by
 rcases h with⟨h1,h2⟩|⟨h1,h2⟩
 .exact .of_left (intBits_le_64 h1 h2)
 .exact .of_right (intBits_le_64 h1 h2)
def QZ:bG X (Fl .Add) (mT λi j=>.int (i+j)):=EJ λ_ _ _ _ _ _ _ q=>add_int q
def Q0:bG X (Fl .Sub) (mT λi j=>.int (i-j)):=EJ λ_ _ _ _ _ _ _ q=>sub_int q
def Q1:bG X (Fl .Mult) (rI pA λi j=>.int (i*j)):=qQ λ_ _ _ _ _ _ _ hc q=>mul_int q hc.ok
def Q2:bG X (Fl .Mod) (rI (λ_ j=>0<j) λi j=>.int (i % j)):=qQ λi j _ _ _ _ _ hc q=>by
 have h1:(0:Int)<j:=hc;exact mod_int' (by lia) (by rw[Int.fmod_eq_emod_of_nonneg i (by lia)];exact q)
def Q3:bG X (Fl .Pow) (rI EK λi j=>.int (i ^ j.toNat)):=qQ λ_ _ _ _ _ _ _ hc q=>pow_int_small hc.1 hc.2.1 hc.2.2 q
def Q4{f:Ae->Sem Ae}{g:Int->Int}(rule:∀(i:Int) (t:Tok) (s:Ag) (Q:Ae->Ag->Prop) (E:Ae->Ag->Prop),Q (.int (g i) s.toks) {s with toks:=s.toks+1}->Be (Bn X.prog X.w) X.A (f (.int i t)) Q E s):
  qN X f (rU λi=>.int (g i)):=by
 intro pins s Z H x v Q I rx h;obtain⟨i,rfl,q⟩:=h;obtain⟨t,rfl⟩:=rx;exact rule i t s _ _ ⟨.int (g i),H,I.tok _,⟨_,rfl⟩,q⟩
def Q5:qN X (unaryOp .USub) (rU λi=>.int (-i)):=Q4 λ_ _ _ _ _ q=>neg_int q
end
def tM:V->V->Bool
 | .non,.non=>true|.non,.int _=>true|.int _,.non=>true|.non,.bl _=>true|.bl _,.non=>true|.non,.str _=>true|.str _,.non=>true
 | .int _,.int _=>true|.bl _,.bl _=>true|.str _,.str _=>true|.byt _,.byt _=>true
 | .int _,.str _=>true|.str _,.int _=>true|.bl _,.str _=>true|.str _,.bl _=>true
 | _,_=>false
def rEq:R2:=λx y H Q=>tM x y=true/\Q (.bl (decide (x=y))) H
def Q6:R2:=λx y H Q=>tM x y=true/\Q (.bl (!decide (x=y))) H
def EL{i j:Int}:decide (V.int i=V.int j)=(i==j):=by
 rw[Dy];simp
def EM{i j:Bool}:decide (V.bl i=V.bl j)=(i==j):=by
 rw[Dy];simp
def EN{i j:Str}:decide (V.str i=V.str j)=(i==j):=by
 rw[Dy];simp
def EO{i j:Array UInt8}:decide (V.byt i=V.byt j)=(i.toList==j.toList):=by
 rw[Dy];cases i;cases j;simp
section
variable {X:Cx}{a b c:Expr}{ta tb tc:TE}{pos:Pos}
def dD{pins:List (Addr×Obj)}{Z:St}{H:Hp}{s:Ag}{Q:VK}{k k':Bool}(I:Inv X pins Z H s)(q:Q (.bl k) H)(e:k=k'):EP X pins Z Q (.bool k') s:=by
 subst e;exact⟨.bl k,H,I,rfl,q⟩
def Q7:bG X (Cb .Eq) rEq:=by
 intro pins s Z H x y v u Q I rx ry h;obtain⟨hs,q⟩:=h;cases x with
 | non=>
  cases rx;cases y with
  | non=>cases ry;exact PySem.EqNone.eq_none_none (dD I q (by simp))
  | bl j=>cases ry;exact PySem.EqNone.eq_none_bool (dD I q (by simp))
  | int j=>obtain⟨t',rfl⟩:=ry;exact PySem.EqNone.eq_none_int (dD I q (by simp))
  | str j=>obtain⟨t',rfl⟩:=ry;exact PySem.EqNone.eq_none_str (dD I q (by simp))
  | _=>exact absurd (show false=true from hs) Ar
 | bl i=>
  cases rx;cases y with
  | non=>cases ry;exact PySem.EqNone.eq_bool_none (dD I q (by simp))
  | bl j=>cases ry;exact eq_bool (dD I q EM)
  | str j=>obtain⟨t',rfl⟩:=ry;exact PySem.EqMixed.eq_bool_str (dD I q (by simp))
  | _=>exact absurd (show false=true from hs) Ar
 | int i=>
  obtain⟨t,rfl⟩:=rx;cases y with
  | non=>cases ry;exact PySem.EqNone.eq_int_none (dD I q (by simp))
  | int j=>obtain⟨t',rfl⟩:=ry;exact eq_int (dD I q EL)
  | str j=>obtain⟨t',rfl⟩:=ry;exact PySem.EqMixed.eq_int_str (dD I q (by simp))
  | _=>exact absurd (show false=true from hs) Ar
 | str i=>
  obtain⟨t,rfl⟩:=rx;cases y with
  | non=>cases ry;exact PySem.EqNone.eq_str_none (dD I q (by simp))
  | bl j=>cases ry;exact PySem.EqMixed.eq_str_bool (dD I q (by simp))
  | int j=>obtain⟨t',rfl⟩:=ry;exact PySem.EqMixed.eq_str_int (dD I q (by simp))
  | str j=>obtain⟨t',rfl⟩:=ry;exact eq_str (dD I q EN)
  | _=>exact absurd (show false=true from hs) Ar
 | byt i=>
  obtain⟨t,rfl⟩:=rx;cases y with
  | byt j=>obtain⟨t',rfl⟩:=ry;exact PySem.W.eq_bytes (dD I q EO)
  | _=>exact absurd (show false=true from hs) Ar
 | _=>cases y<;>exact absurd (show false=true from hs) Ar
def Q8:bG X (Cb .NotEq) Q6:=by
 intro pins s Z H x y v u Q I rx ry h;obtain⟨hs,q⟩:=h;cases x with
 | non=>
  cases rx;cases y with
  | non=>cases ry;exact PySem.EqNone.ne_none_none (dD I q (by simp))
  | bl j=>cases ry;exact PySem.EqNone.ne_none_bool (dD I q (by simp))
  | int j=>obtain⟨t',rfl⟩:=ry;exact PySem.EqNone.ne_none_int (dD I q (by simp))
  | str j=>obtain⟨t',rfl⟩:=ry;exact PySem.EqNone.ne_none_str (dD I q (by simp))
  | _=>exact absurd (show false=true from hs) Ar
 | bl i=>
  cases rx;cases y with
  | non=>cases ry;exact PySem.EqNone.ne_bool_none (dD I q (by simp))
  | bl j=>cases ry;exact ne_bool (dD I q (congrArg not EM))
  | str j=>obtain⟨t',rfl⟩:=ry;exact PySem.EqMixed.ne_bool_str (dD I q (by simp))
  | _=>exact absurd (show false=true from hs) Ar
 | int i=>
  obtain⟨t,rfl⟩:=rx;cases y with
  | non=>cases ry;exact PySem.EqNone.ne_int_none (dD I q (by simp))
  | int j=>obtain⟨t',rfl⟩:=ry;exact ne_int (dD I q (congrArg not EL))
  | str j=>obtain⟨t',rfl⟩:=ry;exact PySem.EqMixed.ne_int_str (dD I q (by simp))
  | _=>exact absurd (show false=true from hs) Ar
 | str i=>
  obtain⟨t,rfl⟩:=rx;cases y with
  | non=>cases ry;exact PySem.EqNone.ne_str_none (dD I q (by simp))
  | bl j=>cases ry;exact PySem.EqMixed.ne_str_bool (dD I q (by simp))
  | int j=>obtain⟨t',rfl⟩:=ry;exact PySem.EqMixed.ne_str_int (dD I q (by simp))
  | str j=>obtain⟨t',rfl⟩:=ry;exact ne_str (dD I q (congrArg not EN))
  | _=>exact absurd (show false=true from hs) Ar
 | byt i=>
  obtain⟨t,rfl⟩:=rx;cases y with
  | byt j=>obtain⟨t',rfl⟩:=ry;exact PySem.W.ne_bytes (dD I q (congrArg not EO))
  | _=>exact absurd (show false=true from hs) Ar
 | _=>cases y<;>exact absurd (show false=true from hs) Ar
def Q9:bG X (Cb .Lt) (mT λi j=>.bl (decide (i<j))):=xE λ_ _ _ _ _ _ _ q=>lt_int q
def RA:bG X (Cb .LtE) (mT λi j=>.bl (decide (i<=j))):=xE λ_ _ _ _ _ _ _ q=>le_int q
def RB:bG X (Cb .Gt) (mT λi j=>.bl (decide (j<i))):=xE λ_ _ _ _ _ _ _ q=>gt_int q
def RC:bG X (Cb .In) (λx y H Q=>∃i j,x=.str i/\y=.str j/\Q (.bl (!(Kh j i 0 j.length 1).isEmpty)) H):=by
 intro pins s Z H x y v u Q I rx ry h;obtain⟨i,j,rfl,rfl,q⟩:=h;obtain⟨t,rfl⟩:=rx;obtain⟨t',rfl⟩:=ry;exact in_str (dD I q rfl)
def RD:bG X (Cb .Is) (λx y H Q=>y=.non/\Q (.bl (decide (x=.non))) H):=by
 intro pins s Z H x y v u Q I rx ry h;obtain⟨rfl,q⟩:=h;cases ry;refine is_none_gen (dD I q ?_);cases x<;>first
  | (cases rx;rfl)
  | (obtain⟨t,rfl⟩:=rx;rfl)
def RE:bG X (Cb .IsNot) (λx y H Q=>y=.non/\Q (.bl (!decide (x=.non))) H):=by
 intro pins s Z H x y v u Q I rx ry h;obtain⟨rfl,q⟩:=h;cases ry;refine isnot_none_gen (dD I q ?_);cases x<;>first
  | (cases rx;rfl)
  | (obtain⟨t,rfl⟩:=rx;rfl)
def RF:bG X (Cb .NotIn) (λx y H Q=>∃i j,x=.str i/\y=.str j/\Q (.bl (!(!(Kh j i 0 j.length 1).isEmpty))) H):=by
 intro pins s Z H x y v u Q I rx ry h;obtain⟨i,j,rfl,rfl,q⟩:=h;obtain⟨t,rfl⟩:=rx;obtain⟨t',rfl⟩:=ry;exact notIn_str (dD I q rfl)
def bG.or{f:Ae->Ae->Sem Ae}{r r':R2}(h:bG X f r)(h':bG X f r'):bG X f (λx y H Q=>r x y H Q\/r' x y H Q):=by
 intro pins s Z H x y v u Q I rx ry q;rcases q with q|q
 .exact h pins s Z H x y v u Q I rx ry q
 .exact h' pins s Z H x y v u Q I rx ry q
def ER(b:Expr){op:CmpOp}(h:op≠.In:=by decide)(h2:op≠.NotIn:=by decide):Hw op b=false:=by
 have e1:(op==CmpOp.In)=false:=by cases op<;>first|rfl|exact absurd rfl h
 have e2:(op==CmpOp.NotIn)=false:=by cases op<;>first|rfl|exact absurd rfl h2
 cases b<;>simp[Hw,e1,e2]
def RG{op:CmpOp}{r:R2}(ho:bG X (Cb op) r)(ha:PE X a ta)(hb:PE X b tb)(hm:Hw op b=false):PE X (.Compare a [op] [b] pos) (qO r ta tb):=by
 intro pins s Z H Q I h;exact wpAny_Compare1 (xD ha hb I h λv u s2 x y H2 I2 rx ry q=>ho pins s2 Z H2 x y v u Q I2 rx ry q) hm
def ES(t:TE):TT:=λZ H Q=>t Z H λx H'=>∃k,x=.bl k/\Q k H'
def RH{op:CmpOp}{r:R2}(ho:bG X (Cb op) r)(ha:PE X a ta)(hb:PE X b tb)(hm:Hw op b=false):PT X (.Compare a [op] [b] pos) (ES (qO r ta tb)):=by
 intro pins s Z H Q I h;refine wpAny_isTrue_Compare1 (bA (ha pins s Z H _ I h) λv s1 ⟨x,H1,I1,r1,q1⟩=>bA (hb pins s1 Z H1 _ I1 q1) λu s2 ⟨y,H2,I2,r2,q2⟩=>
  bA (ho pins s2 Z H2 x y v u _ I2 r1 r2 q2) λc s3 ⟨z,H3,I3,r3,k,e,q3⟩=>?_) hm
 subst e;cases r3;exact Gs ⟨H3,I3,q3⟩
def ET(r r':R2)(ta tb tc:TE):TE:=λZ H Q=>ta Z H λx H1=>tb Z H1 λy H2=>r x y H2 λz H3=>∃k,z=.bl k/\
 (if k=true then tc Z H3 λw' H4=>r' y w' H4 Q else Q (.bl false) H3)
def RI{op op':CmpOp}{r r':R2}(ho:bG X (Cb op) r)(ho':bG X (Cb op') r')(ha:PE X a ta)(hb:PE X b tb)(hc:PE X c tc)(hm:lastMarks [op,op'] [b,c]=false:=by with_unfolding_all rfl):PT X (.Compare a [op,op'] [b,c] pos) (ES (ET r r' ta tb tc)):=by
 intro pins s Z H Q I h;refine isTrue_chain (bA (ha pins s Z H _ I h) λv s1 ⟨x,H1,I1,r1,q1⟩=>test_link (bA (hb pins s1 Z H1 _ I1 q1) λu s2 ⟨y,H2,I2,r2,q2⟩=>
  bA (ho pins s2 Z H2 x y v u _ I2 r1 r2 q2) λd s3 ⟨z,H3,I3,r3,k,e,q3⟩=>?_)) hm
 subst e;cases r3;refine Gs ?_;cases k with
 | false=>
  obtain⟨k',e',q'⟩:=q3;cases e';exact ite_ff ⟨H3,I3,q'⟩
 | true=>
  refine ite_tt (test_last (bA (hc pins s3 Z H3 _ I3 q3) λw' s4 ⟨z',H4,I4,r4,q4⟩=>bA (ho' pins s4 Z H4 y z' u w' _ I4 r2 r4 q4) λd' s5 ⟨z2,H5,I5,r5,k2,e2,q5⟩=>?_));subst e2;cases r5;exact Gs ⟨H5,I5,q5⟩
def EU(K:Ac)(x:V)(H:Hp)(k:Bool):Prop:=
 match x with
 | .non=>k=false
 | .bl b=>k=b
 | .int i=>k=(i !=0)
 | .str y=>y.length<=Ao/\k=((y.length:Int) !=0)
 | .byt y=>y.size<=Ao/\k=((y.size:Int) !=0)
 | .ref p=>(∃xs,bK K H p xs/\k = !xs.isEmpty)\/(∃xs,bS K H p xs/\k = !xs.isEmpty)\/∃kvs,H p=some (.dK kvs)/\k = !kvs.isEmpty
 | _=>False
def RJ{U:Type}{kvs:List (U×V)}{vs:List (U×Ae)}(r:KV kvs vs):(!vs.isEmpty) = !kvs.isEmpty:=by
 cases r<;>rfl
def EV{xs:List V}{its:List Ae}(r:a8 xs its):(!its.toArray.isEmpty) = !xs.isEmpty:=by
 cases r<;>simp
def nV:(Ao:Nat)<2 ^ 63:=by rw[Ke];decide
def RK:QV X (λx H Q=>∃k,EU X.K x H k/\Q k H):=by
 intro pins s Z H x v Q I rx h;obtain⟨k,e,q⟩:=h;have hl:=nV;have hs:Ao=16777216:=Ke;cases x with
 | non=>
  cases rx;have e':k=false:=e;subst e';exact truthy_none ⟨H,I,q⟩
 | bl b=>
  cases rx;have e':k=b:=e;subst e';exact Gs ⟨H,I,q⟩
 | int i=>
  obtain⟨t,rfl⟩:=rx;have e':k=(i !=0):=e;subst e';exact PySem.P.truthy_int ⟨H,I,q⟩
 | str y=>
  obtain⟨t,rfl⟩:=rx;obtain⟨hy,e'⟩:y.length<=Ao/\k=((y.length:Int) !=0):=e;subst e';exact PySem.P.truthy_str (by lia) ⟨H,I.tok _,q⟩
 | byt y=>
  obtain⟨t,rfl⟩:=rx;obtain⟨hy,e'⟩:y.size<=Ao/\k=((y.size:Int) !=0):=e;subst e';exact PySem.W.truthy_bytes (by lia) ⟨H,I.tok _,q⟩
 | ref p=>
  cases rx;have e':(∃xs,bK X.K H p xs/\k = !xs.isEmpty)\/(∃xs,bS X.K H p xs/\k = !xs.isEmpty)\/∃kvs,H p=some (.dK kvs)/\k = !kvs.isEmpty:=e;rcases e' with⟨xs,hx,e'⟩|⟨xs,hx,e'⟩|⟨kvs,hx,e'⟩
  .subst e';obtain⟨its,r,pl,hz⟩:=I.list hx;have hlen:=r.length;exact wpAny_truthy_list pl.isList (by simp only[Bd];lia) ⟨H,I.tok _,by rw[EV r];exact q⟩
  .subst e';obtain⟨its,r,pl,hz⟩:=I.tuple hx;have hlen:=r.length;exact truthy_tuple pl (by simp only[Bd];lia) ⟨H,I.tok _,by rw[EV r];exact q⟩
  .subst e';obtain⟨hz,hS,vs,r,m⟩:kvs.length<=Ao/\(p==Ga)=false/\∃vs,KV kvs vs/\s.heap.DictOf (dO X.prog X.w) p vs:=I.hok p _ hx;have hlen:kvs.length=vs.length:=Ef r;exact wpAny_truthy_dict hS m (by lia) ⟨H,I.tok _,by rw[RJ r];exact q⟩
 | _=>exact(show False from e).elim
def RL(ha:PE X a ta)(he:∀whole,isTrue a X.env whole=(do let v <-whole;Mz a.pos;Ho [v] (truthy v))):
  PT X a (λZ H Q=>ta Z H λx H'=>∃k,EU X.K x H' k/\Q k H'):=by
 intro pins s Z H Q I h;exact isTrue_plain (bA (ha pins s Z H _ I h) λv s1 ⟨x,H1,I1,r1,q1⟩=>RK pins s1 Z H1 x v Q I1 r1 q1) (he _)
def vals1{x:V}{us:List Ae}(r:a8 [x] us):∃u,us=[u]/\RelV x u:=by
 cases r with
 | cons r1 r2=>cases r2;exact⟨_,rfl,r1⟩
def vals2{x y:V}{us:List Ae}(r:a8 [x,y] us):∃u w',us=[u,w']/\RelV x u/\RelV y w':=by
 cases r with
 | cons r1 r2=>
  cases r2 with
  | cons r3 r4=>cases r4;exact⟨_,_,rfl,r1,r3⟩
def RM:dX X (.builtin "abs") (λxs H Q=>∃i,xs=[.int i]/\Q (.int (if i<0 then -i else i)) H):=by
 intro pins s Z H xs us Q I r h;obtain⟨i,rfl,q⟩:=h;obtain⟨u,rfl,t,rfl⟩:=vals1 r;exact call_abs_int λu tk=>⟨.int (if i<0 then -i else i),H,I.tok _,⟨_,rfl⟩,q⟩
def RN(hc:X.calm=true):dX X (.builtin "min") (λxs H Q=>∃i j,xs=[.int i,.int j]/\Q (.int (if j<i then j else i)) H):=by
 intro pins s Z H xs us Q I r h;obtain⟨i,j,rfl,q⟩:=h;obtain⟨u,w',rfl,⟨t,rfl⟩,⟨t',rfl⟩⟩:=vals2 r;refine min_two_ints (I.ok.hd hc) λh' tk k=>⟨_,H,I.kept k,?_,q⟩
 by_cases hj:j<i
 .rw[if_pos hj,if_pos hj];exact⟨_,rfl⟩
 .rw[if_neg hj,if_neg hj];exact⟨_,rfl⟩
end
structure nW(h:Heap)(x dx C:Addr)(mA:Str->Option Ae):Prop where
 obj:h.get? x=some (Gi C dx)
 ns:h.Ns1 dx mA
 ne:dx≠x
def RO{h:Heap}{dx:Addr}{mA:Str->Option Ae}(n:h.Ns1 dx mA):∃od,h.get? dx=some od/\∀name,Lj name od=some (mA name):=by
 obtain⟨o,es,ep,ho,hd,hk,_,hm⟩:=n;refine⟨o,ho,λname=>?_⟩;have e:=hm name;unfold nsFind findBy at e;rw[<-Array.find?_toList]at e;unfold Lj;rw[hd];dsimp only;split
 .rename_i y q;rw[q]at e;exact congrArg some e
 .rename_i q;rw[q]at e;have a:es.toList.any (·.refKey)=false:=by
   rw[List.any_eq_false];intro y hy;obtain⟨z,t,hkey⟩:=hk y (Array.mem_toList_iff.mp hy);simp[DictEntry.refKey,hkey]
  have a':¬es.toList.any (·.refKey)=true:=by rw[a];exact Ar
  rw[if_neg a'];exact congrArg some e
def nW.look{h:Heap}{x dx C:Addr}{mA:Str->Option Ae}(I:nW h x dx C mA):∃od,PySem.W.InstAt h x (Gi C dx) C (some od)/\∀name,Lj name od=some (mA name):=
 let ⟨od,ho,hl⟩:=RO I.ns
 ⟨od,⟨I.obj,rfl,rfl,ho⟩,hl⟩
section
variable {prog:Bt}{w:Cm}{A:Ck}{E:Ae->Ag->Prop}{s:Ag}{K:Ac}{x dx C f:Addr}{mA:Str->Option Ae}{name:Str}{v:Ae}
def RP{expr:Bool}{Q:Ae->Ag->Prop}(X:K.In s.heap)(I:nW s.heap x dx C mA)(hg:Kq K C name=true)(hh:PySem.W.hasDictIn K C=true)(ha:Cg K (.ref C) name=some none)(hv:mA name=some v)(hv':PySem.W.handedIn v=true)(h:Q v {s with toks:=s.toks+1}):
  Be (Bn prog w) A (getAttr (.ref x) name expr) Q E s:=by
 obtain⟨od,J,hl⟩:=I.look;exact PySem.W.get_value X J (Lw hg).1 (PySem.W.findObj_own hh ha rfl (by rw[hl,hv])) hv' h
def RQ{pl:Sem Bool}{Q:Ae×List Ae->Ag->Prop}(X:K.In s.heap)(I:nW s.heap x dx C mA)(hg:Kq K C name=true)(hf:Cg K (.ref C) name=some (some (.ref f)))(ht:Kv K (.ref f)=true)(hv:mA name=none)(h:Q (.ref f,[.ref x]) s):
  Be (Bn prog w) A (Nb (.ref x) name pl) Q E s:=by
 obtain⟨od,J,hl⟩:=I.look;exact PySem.W.method_fn X J (Lw hg).1 (Lw hg).2 hf (beq_iff_eq.mp ht) (by show(Lj name od).map (·.isSome)=some false;rw[hl,hv];rfl) h
def RS{ns:List Str}{Q:Unit->Ag->Prop}(X:K.In s.heap)(I:nW s.heap x dx C mA)(hs:Cg K (.ref C) "__setattr__" = some (some (.builtin "object.__setattr__")))(hp:PySem.W.plainOver K C=true)(ht:PySem.W.takerIn K C name=some none)(hh:PySem.W.hasDictIn K C=true)(hw:PySem.Within mA ns)(hsz:ns.length<=Ao)(h:∀h',nW h' x dx C (λy=>if y=name then some v else mA y)->Eu dx s.heap h'->Q () {s with heap:=h',toks:=s.toks+2}):
  Be (Bn prog w) A (setAttr (.ref x) name v) Q E s:=by
 obtain⟨od,J,hl⟩:=I.look;refine PySem.W.set_plain X J hs (PySem.W.osa_open (s:={s with toks:=s.toks+1}) (r:=none) X J hp ht λb=>?_);obtain⟨cd,hc,hd'⟩:=PySem.W.any_some hh;have hx:s.heap.get? x=some ⟨.ref C,some dx,.plain,#[]⟩:=I.obj;refine Aa (Ah (Aa (Aa (wpAny_loadPart hx (Aa (PySem.W.Looks.here (s:={s with toks:=s.toks+1}) (PySem.W.looks_clsIn X hc) ?_))))));rw[hd'];refine Ah (a:=some dx) (Aa (Ah (Aa ?_)));refine wpAny_nsSet1 (s:={s with toks:=s.toks+1}) I.ns λh' hn2 hs2=>?_;obtain⟨oD,esD,epD,hoD,hdD,hcD⟩:=hn2.count (PySem.Within.cons name v hw);refine Aa (wpAny_lookBehind hoD (by rw[hdD];exact pastItsLine_dict (Az hcD (by rw[Br];lia))) ?_);exact Ah (h _ ⟨(hs2.2 _ (Bi I.ne)).trans I.obj,hn2,I.ne⟩ hs2)
def RT{R:Result->Ag->Prop}{vs:List Ae}{kw:List (Str×Ae)}(X:K.In s.heap)(hm:PySem.W.makesIn K C=true)(hi:Cg K (.ref C) "__init__" = some (some (.ref f)))(hf:PySem.W.typeIn K (.ref f)=some (.type "function"))(h:Hq (Bn prog w) (A.under (.builtin "type.__call__" ⟨.ref C::vs,kw⟩)) (.call (.ref f) ⟨.ref (s.heap.objs.size+1)::vs,kw⟩) (PySem.W.InitBack (s.heap.objs.size+1) R)
   {s with heap:=(s.heap.push Fd).push (Gi C s.heap.objs.size)}):
  Hq (Bn prog w) A (.call (.ref C) ⟨vs,kw⟩) R s:=by
 obtain⟨hh,g,d,t,os⟩:=s;exact PySem.W.make_core (PySem.W.makes_of X hm) (PySem.W.looks_findIn X hi) (λself=>PySem.W.bind_fn X self hf) (.inl rfl) h
end
def putF(f:Str)(v:V):List (Str×V)->List (Str×V)
 | []=>[(f,v)]
 | (g,x)::r=>if g=f then(g,v)::r else(g,x)::putF f v r
def EW(f g:Str)(v:V):∀fs:List (Str×V),(putF f v fs).lookup g=if g=f then some v else fs.lookup g
 | []=>by
  show Ce g [(f,v)]=_
  by_cases h:g=f
  .have hb:(g==f)=true:=beq_iff_eq.mpr h;simp only[Ce,hb,if_pos h]
  .have hb:(g==f)=false:=beq_eq_false_iff_ne.mpr h;simp only[Ce,hb,if_neg h]
 | (k,x)::r=>by
  have ih:=EW f g v r;rw[show putF f v ((k,x)::r)=(if k=f then(k,v)::r else(k,x)::putF f v r) from rfl]
  by_cases hk:k=f
  .rw[if_pos hk]
   by_cases h:g=k
   .have hb:(g==k)=true:=beq_iff_eq.mpr h;simp only[Ce,hb,if_pos (h.trans hk)]
   .have hb:(g==k)=false:=beq_eq_false_iff_ne.mpr h;simp only[Ce,hb,if_neg (λe:g=f=>h (e.trans hk.symm))]
  .rw[if_neg hk]
   by_cases h:g=k
   .have hb:(g==k)=true:=beq_iff_eq.mpr h;simp only[Ce,hb,if_neg (λe:g=f=>hk (h.symm.trans e))]
   .have hb:(g==k)=false:=beq_eq_false_iff_ne.mpr h;simp only[Ce,hb];exact ih
def xF(f:Str)(v:V):∀fs:List (Str×V),f∈(putF f v fs).map (·.1)/\∀g,g∈fs.map (·.1)->g∈(putF f v fs).map (·.1)
 | []=>⟨by simp[putF],λg h=>by simp at h⟩
 | (k,x)::r=>by
  obtain⟨i1,i2⟩:=xF f v r;rw[show putF f v ((k,x)::r)=(if k=f then(k,v)::r else(k,x)::putF f v r) from rfl]
  by_cases hk:k=f
  .rw[if_pos hk];subst hk;exact⟨by simp,λg h=>by simpa using h⟩
  .rw[if_neg hk];refine⟨?_,λg h=>?_⟩
   .rw[Bb];exact Ap _ i1
   .rw[Bb]at h⊢;rcases Aj.mp h with e|e
    .exact Aj.mpr (.inl e)
    .exact Ap _ (i2 g e)
def EX(f:Str)(v:V):∀fs:List (Str×V),(putF f v fs).length<=fs.length+1
 | []=>by simp[putF]
 | (k,x)::r=>by
  have ih:=EX f v r;rw[show putF f v ((k,x)::r)=(if k=f then(k,v)::r else(k,x)::putF f v r) from rfl]
  by_cases hk:k=f
  .rw[if_pos hk,Br,Br];lia
  .rw[if_neg hk,Br,Br];lia
def fX.some_of{v:V}{o:Option Ae}(r:fX (some v) o):∃u,o=some u/\RelV v u:=by
 cases o with
 | none=>exact(show False from r).elim
 | some u=>exact⟨u,rfl,r⟩
def fX.none_of{o:Option Ae}(r:fX none o):o=none:=by
 cases o with
 | none=>rfl
 | some u=>exact(show False from r).elim
def RU{v:V}{u:Ae}(r:RelV v u):PySem.W.handedIn u=true:=by
 cases v with
 | non=>cases (show u=Value.none from r);rfl
 | bl b=>cases (show u=Value.bool b from r);rfl
 | int i=>obtain⟨t,e⟩:=(show ∃t,u=Value.int i t from r);cases e;rfl
 | str x=>obtain⟨t,e⟩:=(show ∃t,u=Value.str x t from r);cases e;rfl
 | byt b=>obtain⟨t,e⟩:=(show ∃t,u=Value.bytes b t from r);cases e;rfl
 | flt b=>obtain⟨t,e⟩:=(show ∃t,u=Value.float b t from r);cases e;rfl
 | ref a=>cases (show u=Value.ref a from r);rfl
 | ty n=>cases (show u=Value.type n from r);rfl
section
variable {P:Bt}{w:Cm}{H H':Hp}{h h':Heap}{a C dx:Addr}{fs fs':List (Str×V)}
def tN(hok:cR P w H h)(e:H a=some (.ins C dx fs)):∃mA,nW h a dx C mA/\(∀f,fX (fs.lookup f) (mA f))/\PySem.Within mA (fs.map (·.1))/\fs.length<=1000/\H dx=some (.own a):=by
 obtain⟨d,z,ne,ob,mA,n,r,q⟩:=(show cZ P w H h a (.ins C dx fs) from hok a _ e);exact⟨mA,⟨ob,n,ne⟩,r,q,z,d⟩
end
structure gZ(K:Ac)(C:Addr):Prop where
 pg:Kq K C Str.empty=true
 hd:PySem.W.hasDictIn K C=true
 po:PySem.W.plainOver K C=true
 sa:Cg K (.ref C) "__setattr__" = some (some (.builtin "object.__setattr__"))
def gZ.get{K:Ac}{C:Addr}(c:gZ K C)(f:Str):Kq K C f=true:=c.pg
def gD(K:Ac)(C:Addr)(f:Str):Prop:=Cg K (.ref C) f=some none
def gD.taker{K:Ac}{C:Addr}{f:Str}(n:gD K C f):PySem.W.takerIn K C f=some none:=by
 unfold PySem.W.takerIn;rw[show Cg K (.ref C) f=some none from n];rfl
structure pB(K:Ac)(C:Addr)(m:Str)(f:Addr):Prop where
 at_:Cg K (.ref C) m=some (some (.ref f))
 fn:Kv K (.ref f)=true
 kp:Fc K (.ref f)=true
section
variable {X:Cx}{pins:List (Addr×Obj)}{Z:St}{H:Hp}{s:Ag}{a C dx:Addr}{fs:List (Str×V)}{f:Str}{v:V}{A:Ck}{E:Ae->Ag->Prop}
def RV{b:Bool}{Q:Ae->Ag->Prop}(I:Inv X pins Z H s)(e:H a=some (.ins C dx fs))(c:gZ X.K C)(n:gD X.K C f)(l:fs.lookup f=some v)(h:∀u s',Inv X pins Z H s'->RelV v u->Q u s'):Be (Bn X.prog X.w) A (getAttr (.ref a) f b) Q E s:=by
 obtain⟨mA,O,r,_,_,_⟩:=tN I.hok e;obtain⟨u,hu,ru⟩:=fX.some_of (v:=v) (o:=mA f) (by rw[<-l];exact r f);exact RP I.kIn O (c.get f) c.hd n hu (RU ru) (h u _ (I.tok _) ru)
def EY{m:Str}{g:Addr}{pl:Sem Bool}{Q:Ae×List Ae->Ag->Prop}(I:Inv X pins Z H s)(e:H a=some (.ins C dx fs))(c:gZ X.K C)(k:pB X.K C m g)(l:fs.lookup m=none)(h:Q (.ref g,[.ref a]) s):Be (Bn X.prog X.w) A (Nb (.ref a) m pl) Q E s:=by
 obtain⟨mA,O,r,_,_,_⟩:=tN I.hok e;have hn:mA m=none:=fX.none_of (by rw[<-l];exact r m);exact RQ I.kIn O (c.get m) k.at_ k.fn hn h
def RW{y:V}{u:Ae}{Q:Unit->Ag->Prop}(I:Inv X pins Z H s)(e:H a=some (.ins C dx fs))(c:gZ X.K C)(n:gD X.K C f)(hl:fs.length<1000)(ry:RelV y u)(h:∀s',Inv X pins Z (aY H a (.ins C dx (putF f y fs))) s'->Q () s'):Be (Bn X.prog X.w) A (setAttr (.ref a) f u) Q E s:=by
 obtain⟨mA,O,r,wi,_,ho⟩:=tN I.hok e;have hz:(fs.map (·.1)).length<=Ao:=by rw[Ab,Ke];lia
 refine RS I.kIn O c.sa c.po n.taker c.hd wi hz λh' O' sb=>h _ ?_;have hd:∃o,h'.get? dx=some o:=let ⟨o,_,_,e',_⟩:=O'.ns;⟨o,e'⟩;refine I.write (x:=a) (e:=dx) (by rw[e];exact True.intro) (.inr ho) (λb q hb z=>(sb.2 b hb).trans z) hd ?_;refine⟨by rw[bF O.ne];exact ho,?_,O.ne,O'.obj,_,O'.ns,λg=>?_,λg hg=>?_⟩
 .have:=EX f y fs;lia
 .show fX ((putF f y fs).lookup g) (if g=f then some u else mA g);rw[EW]
  by_cases q:g=f
  .rw[if_pos q,if_pos q];exact ry
  .rw[if_neg q,if_neg q];exact r g
 .by_cases q:g=f
  .rw[q];exact(xF f y fs).1
  .refine(xF f y fs).2 g (wi g λz=>hg ?_);show(if g=f then some u else mA g)=none;rw[if_neg q];exact z
def Inv.made(I:Inv X pins Z H s):Inv X pins Z (aY (aY H s.heap.objs.size (.own (s.heap.objs.size+1))) (s.heap.objs.size+1) (.ins C s.heap.objs.size []))
  {s with heap:=(s.heap.push Fd).push (Gi C s.heap.objs.size)}:=by
 have e1:(s.heap.push Fd).get? s.heap.objs.size=some Fd:=Ba s.heap rfl;have e2:((s.heap.push Fd).push (Gi C s.heap.objs.size)).get? (s.heap.objs.size+1)=some (Gi C s.heap.objs.size):=by
  have:=Ba (s.heap.push Fd) (o:=Gi C s.heap.objs.size) rfl;rwa [Dn]at this
 have e3:(s.heap.push Fd).Ns s.heap.objs.size (λ_=>none):=⟨Fd,#[],_,e1,rfl,(λe he=>absurd he (by simp)),λ_=>rfl⟩;have I1:=I.laid (a:=s.heap.objs.size) (o:=.own (s.heap.objs.size+1)) (h':=s.heap.push Fd) (t':=s.toks) (λb u q=>Af _ q) (Ai _) ⟨_,e1⟩;refine I1.laid (a:=s.heap.objs.size+1) (o:=.ins C s.heap.objs.size []) (t':=s.toks) (λb u q=>Af _ q) (Gb (Dn _ _)) ?_;have ne:s.heap.objs.size≠s.heap.objs.size+1:=Bs (Ig _);refine⟨by rw[bF ne,cQ],Ca _,ne,e2,λ_=>none,(Heap.Ns1.of_empty e3).at λo q=>Af _ q,λ_=>True.intro,λy hy=>absurd rfl hy⟩
def RX{prog:Bt}{w:Cm}{env:Env}{e:Expr}{f:Str}{pos:Pos}{s:Ag}{Q:Ae->Ag->Prop}(hb:Ja e f env (eval e env)=eval e env)(h:Be (Bn prog w) A (eval e env) (λo s1=>Be (Bn prog w) A (getAttr o f true) Q E s1) E s):Be (Bn prog w) A (eval (.Attribute e f pos) env) Q E s:=
 Attribute_any_ h (by rw[arm_eval_Attribute,hb])
end
def RY(K:Ac)(ta:TE)(f:Str):TE:=λZ H Q=>ta Z H λx H1=>∃a C dx fs v,x=.ref a/\H1 a=some (.ins C dx fs)/\gZ K C/\gD K C f/\fs.lookup f=some v/\Q v H1
def RZ(K:Ac)(ta tv:TE)(f:Str):TS:=λD Z H=>tv Z H λy H1=>ta Z H1 λx H2=>∃a C dx fs,x=.ref a/\H2 a=some (.ins C dx fs)/\gZ K C/\gD K C f/\fs.length<1000/\
 D.nx Z (aY H2 a (.ins C dx (putF f y fs)))
section
variable {X:Cx}{o e value:Expr}{f:Str}{pos pos' tpos:Pos}{ta tv:TE}
def R0(he:PE X e ta)(hb:Ja e f X.env (eval e X.env)=eval e X.env):PE X (.Attribute e f pos) (RY X.K ta f):=by
 intro pins s Z H Q I h;refine RX hb (bA (he pins s Z H _ I h) λu s1 ⟨x,H1,I1,rx,a,C,dx,fs,v,ex,ea,c,n,l,q⟩=>?_);subst ex;obtain rfl:u=Value.ref a:=rx;exact RV I1 ea c n l λu' s2 I2 ru=>⟨v,H1,I2,ru,q⟩
def R1(ha:PE X o ta)(hv:PE X value tv)(hs:Jg value (some (.Attribute o f pos')) pos.line X.env=pure false):PS X (.Assign [.Attribute o f pos'] value pos) (RZ X.K ta tv f):=by
 intro pins s Z H D I h;refine plainObj_wpAny_Assign_Attribute (bA (hv pins s Z H _ I h) λu s1 ⟨y,H1,I1,ry,q⟩=>bA (ha pins s1 Z H1 _ I1 q) λov s2 ⟨x,H2,I2,rx,a,C,dx,fs,ex,ea,c,n,l,q2⟩=>?_) hs;subst ex;obtain rfl:ov=Value.ref a:=rx;exact RW I2 ea c n l ry λs3 I3=>⟨Z,_,I3,q2⟩
end
section
variable {X:Cx}{pins:List (Addr×Obj)}{Z:St}{H:Hp}{s:Ag}{A:Ck}{E:Ae->Ag->Prop}{Q:Ae->Ag->Prop}{c:Ae}{b:Bool}
inductive iM(K:Ac)(H:Hp):V->Ae->Prop where
 | non:iM K H .non (.type "NoneType")
 | bl (x:Bool):iM K H (.bl x) (.type "bool")
 | int (i:Int):iM K H (.int i) (.type "int")
 | str (x:Str):iM K H (.str x) (.type "str")
 | flt (x:UInt64):iM K H (.flt x) (.type "float")
 | lst {a:Addr} {xs:List V} (e:H a=some (.lst xs)):iM K H (.ref a) (.type "list")
 | frz {a:Addr} {o:Obj} {xs:List V} (e:H a=some (.frz o (.lst xs))):iM K H (.ref a) (.type "list")
 | tup {a:Addr} {xs:List V} (e:H a=some (.tup xs)):iM K H (.ref a) (.type "tuple")
 | dK {a:Addr} {kvs:List (aE×V)} (e:H a=some (.dK kvs)):iM K H (.ref a) (.type "dict")
 | dT {a:Addr} {kvs:List (List aE×V)} (e:H a=some (.dT kvs)):iM K H (.ref a) (.type "dict")
 | ins {a C dx:Addr} {fs:List (Str×V)} (e:H a=some (.ins C dx fs)) (cl:gZ K C) (ha:Cg K (.ref C) "__class__" = some (some (.builtin "object.__class__")))
   (hn:PySem.W.specialIn K (.builtin "object.__class__") "__get__" = some (some (.builtin "getset_descriptor.__get__"))) (htk:PySem.W.takesIn K (.builtin "object.__class__")=some true)
   (hm:PySem.W.mroIn K C (.type "object")=some true):iM K H (.ref a) (.ref C)
def R4{x:V}{u t:Ae}(I:Inv X pins Z H s)(rx:RelV x u)(ty:iM X.K H x t)(e:Ip X.K t c=some b)(h:∀tk,Q (.bool b) {s with toks:=tk}):
  Be (Bn X.prog X.w) A (call (.builtin "isinstance") [u,c]) Q E s:=by
 cases ty with
 | non=>cases (show u=Value.none from rx);exact Eo PySem.W.kitx_none I.kIn True.intro e (λz=>nomatch z) h
 | bl y=>cases (show u=Value.bool y from rx);exact Eo PySem.W.kitx_bool I.kIn True.intro e (λz=>nomatch z) h
 | int i=>obtain⟨t,q⟩:=(show ∃t,u=Value.int i t from rx);cases q;exact Eo PySem.W.kitx_int I.kIn True.intro e (λz=>nomatch z) h
 | str y=>obtain⟨t,q⟩:=(show ∃t,u=Value.str y t from rx);cases q;exact Eo PySem.W.kitx_str I.kIn True.intro e (λz=>nomatch z) h
 | flt y=>obtain⟨t,q⟩:=(show ∃t,u=Value.float y t from rx);cases q;exact Eo PySem.W.kitx_float I.kIn True.intro e (λz=>nomatch z) h
 | @lst a xs ea=>
  cases (show u=Value.ref a from rx);obtain⟨_,_,n,_,h1⟩:=(show cZ X.prog X.w H s.heap a (.lst xs) from I.hok a _ ea);exact Eo PySem.W.kitx_list I.kIn ⟨_,h1,rfl⟩ e (λz=>nomatch z) h
 | @frz a ob xs ea=>
  cases (show u=Value.ref a from rx);obtain⟨_,_,_,n,_,h1⟩:=(show cZ X.prog X.w H s.heap a (.frz ob (.lst xs)) from I.hok a _ ea);exact Eo PySem.W.kitx_list I.kIn ⟨_,h1,rfl⟩ e (λz=>nomatch z) h
 | @tup a xs ea=>
  cases (show u=Value.ref a from rx);obtain⟨_,_,_,p⟩:=(show cZ X.prog X.w H s.heap a (.tup xs) from I.hok a _ ea);obtain⟨o,h1,h2,_⟩:=p;exact Eo PySem.W.kitx_tuple I.kIn ⟨o,h1,h2⟩ e (λz=>nomatch z) h
 | @dK a kvs ea=>
  cases (show u=Value.ref a from rx);obtain⟨_,_,vs,_,p⟩:=(show cZ X.prog X.w H s.heap a (.dK kvs) from I.hok a _ ea);obtain⟨o,es,ep,h1,h2,_⟩:=p;exact Eo PySem.W.kitx_dict I.kIn ⟨o,h1,h2.1⟩ e (λz=>nomatch z) h
 | @dT a kvs ea=>
  cases (show u=Value.ref a from rx);obtain⟨_,_,xs,_,o,es,ep,h1,h2,_⟩:=(show cZ X.prog X.w H s.heap a (.dT kvs) from I.hok a _ ea);exact Eo PySem.W.kitx_dict I.kIn ⟨o,h1,h2.1⟩ e (λz=>nomatch z) h
 | @ins a C dx fs ea cl ha hn htk hm=>
  cases (show u=Value.ref a from rx);obtain⟨mA,O,_⟩:=tN I.hok ea;obtain⟨od,J,_⟩:=O.look;exact Eo (PySem.W.kitx_own (cl.get _) cl.hd ha hn htk hm) I.kIn J e (λz=>nomatch z) h
end
structure cE(k:Nat)(A:Ck):Prop where
 hd:A.handled=none
 dp:A.depth+3*k+5<recursionLimit
 un:A.units+16*k+200<Ez
def cE.mono{j k:Nat}{A:Ck}(r:cE k A)(h:j<=k):cE j A:=⟨r.hd,by have:=r.dp;lia,by have:=r.un;lia⟩
def cE.deeper{k:Nat}{A:Ck}(r:cE (k+1) A)(env:Env):cE k (A.deeper env):=
 ⟨r.hd,by have:=r.dp;show A.depth+1+3*k+5<_;lia,by have:=r.un;show A.units+3+16*k+200<_;lia⟩
def cE.in1{k:Nat}{A:Ck}(r:cE (k+1) A):cE k A.in1:=
 ⟨r.hd,by have:=r.dp;show A.depth+3*k+5<_;lia,by have:=r.un;show A.units+1+16*k+200<_;lia⟩
def R5{A:Ck}{C:Addr}{us:List Ae}{kw:List (Str×Ae)}:(A.under (.builtin "type.__call__" ⟨.ref C::us,kw⟩)).depth=A.depth+1:=by
 first|rfl|simp[Around.under,Code.weight,Code.isCreation,Code.isGuard,Code.isCaller,Code.frames,Code.isFrame,guardIds]
def R6{A:Ck}{C:Addr}{us:List Ae}{kw:List (Str×Ae)}:(A.under (.builtin "type.__call__" ⟨.ref C::us,kw⟩)).units=A.units+1:=by
 first|rfl|simp[Around.under,Code.cUnits,Code.frames,Code.isFrame]
def cE.make{k:Nat}{A:Ck}(r:cE (k+1) A)(C:Addr)(us:List Ae)(kw:List (Str×Ae)):cE k (A.under (.builtin "type.__call__" ⟨.ref C::us,kw⟩)):=
 ⟨r.hd,by have:=r.dp;rw[R5];lia,by have:=r.un;rw[R6];lia⟩
def cE.depth{k:Nat}{A:Ck}(r:cE k A):A.depth<recursionLimit:=by have:=r.dp;lia
def cE.units{k:Nat}{A:Ck}(r:cE k A):A.units+64<Ez:=by have:=r.un;lia
def xG:TA:=λ_ H Q=>Q [] H
def R7(ta:TE)(tr:TA):TA:=λZ H Q=>ta Z H λx H1=>tr Z H1 λxs H2=>Q (x::xs) H2
section
variable {X:Cx}{e:Expr}{es:List Expr}{te:TE}{t:TA}{pos:Pos}
def R8:PA X [] xG:=λ_ _ _ _ H Q I h=>Calls.spliced_nil ⟨[],H,I,.nil,h⟩
def R9(ha:PE X e te)(hr:PA X es t)(hs:Bj (e::es) X.env=(false,eval e X.env)::Bj es X.env:=by rfl):PA X (e::es) (R7 te t):=by
 intro pos pins s Z H Q I h;rw[hs];show Be _ _ (spliced ((false,eval e X.env)::Gx pos (Bj es X.env))) _ _ s;refine Calls.spliced_cons (bA (ha pins s Z H _ I h) λu s1 ⟨x,H1,I1,r1,q1⟩=>?_);exact bA (hr pos pins s1 Z H1 _ I1 q1) λus s2 ⟨xs,H2,I2,r2,q2⟩=>⟨x::xs,H2,I2,.cons r1 r2,q2⟩
def SA(t:TA):TE:=λZ H Q=>t Z H λxs H1=>xs.length<=Ao/\∀p,H1 p=none->Q (.ref p) (aY H1 p (.tup xs))
def SD(t:TA):TE:=λZ H Q=>t Z H λxs H1=>xs.length<=Ao/\∀p,H1 p=none->Q (.ref p) (aY H1 p (.lst xs))
def SE{x1}(h:PA X es t):PE X (.Tuple es x1 pos) (SA t):=by
 intro pins s Z H Q I hq;refine wpAny_Tuple_spliced (bA (h pos pins s Z H _ I hq) λus s1 ⟨xs,H1,I1,r,z,q⟩=>⟨by rw[<-r.length];exact z,?_⟩);have hf:H1 s1.heap.objs.size=none:=I1.hok.fresh (Ai _);refine⟨.ref s1.heap.objs.size,aY H1 s1.heap.objs.size (.tup xs),I1.laid (t':=s1.toks) (λb u e=>Af _ e) (Ai _) ?_,rfl,q _ hf⟩;exact⟨z,us,r,⟨_,Ba _ rfl,rfl,_,rfl⟩⟩
def EZ(h:PA X es t):PE X (.List es pos) (SD t):=by
 intro pins s Z H Q I hq;refine wpAny_List_spliced (bA (h pos pins s Z H _ I hq) λus s1 ⟨xs,H1,I1,r,z,q⟩=>⟨by rw[<-r.length];exact z,?_⟩);have hf:H1 s1.heap.objs.size=none:=I1.hok.fresh (Ai _);refine⟨.ref s1.heap.objs.size,aY H1 s1.heap.objs.size (.lst xs),I1.laid (t':=s1.toks) (λb u e=>Af _ e) (Ai _) ?_,rfl,q _ hf⟩;exact⟨z,us,0,r,Ba _ rfl⟩
end
abbrev Sp:=List V->Hp->VK->XK->Prop
abbrev mU:=List Env->Hp->Ag->XK->Ae->Ag->Prop
structure nX(P:Bt)(w:Cm)(K:Ac)(mg:Str->Option Ae)(base:Heap)(A:Ck)(outer:List Env)(s:Ag)(H:Hp):Prop where
 frames:A.frames=some outer
 mod:Mod K mg base
 bs:∀b o,base.get? b=some o->s.heap.get? b=some o/\H b=none
 bsz:base.objs.size<=s.heap.objs.size
 funs:s.heap.FunFrames base outer
 frf:∀b∈fP outer,H b=none
 hok:cR P w H s.heap
 bare:Lh s.gens
def CE(outer:List Env)(P:Bt)(w:Cm)(H:Hp)(s:Ag)(Q:VK)(u:Ae)(s':Ag):Prop:=
 ∃v H',s'.os=s.os/\Lh s'.gens/\Un (fP outer) [] H H' s.heap s'.heap/\cR P w H' s'.heap/\RelV v u/\Q v H'
def CR(CX:mU)(outer:List Env)(P:Bt)(w:Cm)(H:Hp)(s:Ag)(Q:VK)(E:XK)(r:Result)(s':Ag):Prop:=
 match r with
 | .ok (.ret u)=>CE outer P w H s Q u s'
 | .ok _=>False
 | .error e=>CX outer H s E e s'
structure eV(P:Bt)(w:Cm)(K:Ac)(mg:Str->Option Ae)(base:Heap)(CX:mU)(k:Nat)(f:Addr)(fd:Bk)(ps:List Str)(sp:Sp):Prop where
 len:∀vs H Q E,sp vs H Q E->vs.length=ps.length
 run:∀(A:Ck) (outer:List Env) (s:Ag) (H:Hp) (args:Args) (us:List Ae) (vs:List V) (Q:VK) (E:XK),cE k A->nX P w K mg base A outer s H->BindsTo s fd args (ps.zip us)->a8 vs us->sp vs H Q E->
  Hq (Bn P w) A (.call (.ref f) args) (CR CX outer P w H s Q E) s
def nX.make{P:Bt}{w:Cm}{K:Ac}{mg:Str->Option Ae}{base:Heap}{A:Ck}{outer:List Env}{s:Ag}{H:Hp}(e:nX P w K mg base A outer s H)(C:Addr)(us:List Ae)(kw:List (Str×Ae)):
  nX P w K mg base (A.under (.builtin "type.__call__" ⟨.ref C::us,kw⟩)) outer s H:=⟨by first|exact e.frames|(simpa [Around.under,Code.envs,Code.isFrame,pushEnvs] using e.frames),e.mod,e.bs,e.bsz,e.funs,e.frf,e.hok,e.bare⟩
section
variable {X:Cx}{pins:List (Addr×Obj)}{Z:St}{H:Hp}{s s':Ag}
def Inv.env0(I:Inv X pins Z H s):nX X.prog X.w X.K X.mg X.base X.A X.stack s H:=
 ⟨I.ok.frames,I.ok.mod,I.bs,Az I.ok.bsz I.sz,I.stack,I.stkFree,I.hok,I.bare⟩
def Inv.after{Q:VK}{u:Ae}(I:Inv X pins Z H s)(h:CE X.stack X.prog X.w H s Q u s'):EP X pins Z Q u s':=by
 obtain⟨v,H',os,bare,un,hok,r,q⟩:=h;obtain⟨hh,g,d,t,os'⟩:=s';obtain rfl:os'=s.os:=os;exact⟨v,H',I.call (h':=hh) (g':=g) (d':=d) (t':=t) (ch:=[]) un hok bare (λb z=>absurd z (by simp)),r,q⟩
end
def E1(sp:Sp)(dvs:List V)(E:XK)(t:TA):TE:=λZ H Q=>t Z H λvs H1=>sp (vs++dvs) H1 Q E
def xH(C:Addr)(m:Str)(sp:Sp)(dvs:List V)(E:XK)(ta:TE)(t:TA):TE:=λZ H Q=>ta Z H λx H1=>∃a dx fs,x=.ref a/\H1 a=some (.ins C dx fs)/\fs.lookup m=none/\
 t Z H1 λvs H2=>sp (x::(vs++dvs)) H2 Q E
def E2(C:Addr)(sp:Sp)(dvs:List V)(E:XK)(t:TA):TE:=λZ H Q=>t Z H λvs H1=>∀x dx,H1 x=none->H1 dx=none->dx≠x->
 sp (.ref x::(vs++dvs)) (aY (aY H1 dx (.own x)) x (.ins C dx [])) (λv H2=>v=.non/\Q (.ref x) H2) E
def Binds(K:Ac)(fd:Bk)(ps:List Str)(ds:List Ae):Prop:=
 ∀(s:Ag) (us:List Ae),K.In s.heap->(us++ds).length=ps.length->BindsTo s fd ⟨us,[]⟩ (ps.zip (us++ds))
def Binds.all{K:Ac}{fd:Bk}{ps:List Str}(h:∀us:List Ae,us.length=ps.length->bindArgs fd ⟨us,[]⟩=pure (ps.zip us)):Binds K fd ps []:=λs us _ hl=>by
 rw[Fw]at hl⊢;exact .of_eq (h us hl)
def mV(CX:mU)(X:Cx)(E:XK):Prop:=∀(pins:List (Addr×Obj)) (Z:St) (H:Hp) (s:Ag) (e:Ae) (s':Ag),Inv X pins Z H s->CX X.stack H s E e s'->X.xe e s'
section
variable {X:Cx}{CX:mU}{k:Nat}{f C:Addr}{fd:Bk}{ps:List Str}{sp:Sp}{dvs:List V}{ds:List Ae}{E:XK}{x m:Str}{p pos apos:Pos}{e o:Expr}{es:List Expr}{ta:TE}{t:TA}
def tO{pins:List (Addr×Obj)}{Z:St}{H:Hp}{s:Ag}{Q:VK}{us:List Ae}{vs:List V}(F:eV X.prog X.w X.K X.mg X.base CX k f fd ps sp)(hr:cE k X.A)(hb:Binds X.K fd ps ds)(hd:a8 dvs ds)(hx:mV CX X E)(I:Inv X pins Z H s)(r:a8 vs us)(h:sp (vs++dvs) H Q E):Be (Bn X.prog X.w) X.A (call (.ref f) us) (EP X pins Z Q) X.xe s:=by
 have r2:a8 (vs++dvs) (us++ds):=r.append hd;have hl:(us++ds).length=ps.length:=by rw[<-r2.length];exact F.len _ _ _ _ h
 refine wpAny_call (Mb (F.run X.A X.stack s H ⟨us,[]⟩ (us++ds) (vs++dvs) Q E hr I.env0 (hb s us I.kIn hl) r2 h) λr s' hq=>?_);cases r with
 | error e=>exact hx pins Z H s e s' I hq
 | ok fl=>
  cases fl with
  | ret u=>exact I.after hq
  | next=>exact Fv hq
  | brk=>exact Fv hq
  | cont=>exact Fv hq
def SF(F:eV X.prog X.w X.K X.mg X.base CX k f fd ps sp)(hr:cE k X.A)(hg:Gl X x)(hm:X.mg x=some (.ref f))(hk:Fc X.K (.ref f)=true)(hb:Binds X.K fd ps ds)(hd:a8 dvs ds)(hx:mV CX X E)(ha:PA X (e::es) t)(hdb:(x==("__debug__" : Str))=false:=by decide)(he:Bj (e::es) X.env=(false,eval e X.env)::Bj es X.env:=by rfl)(hpl:(Gx pos (Bj es X.env)).any (·.1)=false:=by rfl):
  PE X (.Call (.Name x p) (e::es) [] pos) (E1 sp dvs E t):=by
 intro pins s Z H Q I h;refine El (tF I hg hm ?_ hdb);refine Ka (h₀:=X.base) I.ok.mod.kin hk (bA (ha pos pins s Z H _ I h) λus s1 ⟨vs,H1,I1,r,q⟩=>⟨I1.kIn,?_⟩) he hpl;exact tO F hr hb hd hx I1 r q
def SG{pl:Sem Bool}(he:PE X o ta)(c:gZ X.K C)(hm:pB X.K C m f)(F:eV X.prog X.w X.K X.mg X.base CX k f fd ps sp)(hr:cE k X.A)(hb:Binds X.K fd ps ds)(hd:a8 dvs ds)(hx:mV CX X E)(ha:PA X (e::es) t)(hst:Bj (e::es) X.env=(false,eval e X.env)::Bj es X.env:=by rfl)(hpl:(Gx pos (Bj es X.env)).any (·.1)=false:=by rfl)(ht:eval (.Call (.Attribute o m apos) (e::es) [] pos) X.env=(do
   let ov <-eval o X.env
   Mz apos.atName
   let (f,first) <-Ho [ov] (Nb ov m pl)
   callWith pos f first (Gx pos (Bj (e::es) X.env)) (backToKw pos (Lf [] X.env))):=by rfl):
  PE X (.Call (.Attribute o m apos) (e::es) [] pos) (xH C m sp dvs E ta t):=by
 intro pins s Z H Q I h;refine PySem.W.methodCall_KW (pl:=pl) (bA (he pins s Z H _ I h) λu s1 ⟨x,H1,I1,rx,a,dx,fs,ex,ea,l,q⟩=>?_) ht;subst ex;obtain rfl:u=Value.ref a:=rx;refine EY I1 ea c hm l ?_;refine Ka (first:=[.ref a]) (h₀:=X.base) I.ok.mod.kin hm.kp (bA (ha pos pins s1 Z H1 _ I1 q) λus s2 ⟨vs,H2,I2,r,q2⟩=>⟨I2.kIn,?_⟩) hst hpl;exact tO (us:=.ref a::us) (vs:=.ref a::vs) F hr hb hd hx I2 (.cons rfl r) q2
def SH{pl:Sem Bool}(he:PE X o ta)(c:gZ X.K C)(hm:pB X.K C m f)(F:eV X.prog X.w X.K X.mg X.base CX k f fd ps sp)(hr:cE k X.A)(hb:Binds X.K fd ps ds)(hd:a8 dvs ds)(hx:mV CX X E)(ht:eval (.Call (.Attribute o m apos) [] [] pos) X.env=(do
   let ov <-eval o X.env
   Mz apos.atName
   let (f,first) <-Ho [ov] (Nb ov m pl)
   callWith pos f first (Gx pos (Bj [] X.env)) (backToKw pos (Lf [] X.env))):=by rfl):
  PE X (.Call (.Attribute o m apos) [] [] pos) (xH C m sp dvs E ta xG):=by
 intro pins s Z H Q I h;refine PySem.W.methodCall_KW (pl:=pl) (bA (he pins s Z H _ I h) λu s1 ⟨x,H1,I1,rx,a,dx,fs,ex,ea,l,q⟩=>?_) ht;subst ex;obtain rfl:u=Value.ref a:=rx;refine EY I1 ea c hm l ?_;exact PySem.W.callWith_K0 (first:=[.ref a]) I1.kIn hm.kp (tO (us:=[.ref a]) (vs:=[.ref a]) F hr hb hd hx I1 (.cons rfl .nil) q)
structure Mk(K:Ac)(C f:Addr):Prop where
 makes:PySem.W.makesIn K C=true
 init:Cg K (.ref C) "__init__" = some (some (.ref f))
 fn:Kv K (.ref f)=true
 kp:Fc K (.ref C)=true
def E4{pins:List (Addr×Obj)}{Z:St}{H:Hp}{s:Ag}{Q:VK}{us:List Ae}{vs:List V}(M:Mk X.K C f)(F:eV X.prog X.w X.K X.mg X.base CX k f fd ps sp)(hr:cE (k+1) X.A)(hb:Binds X.K fd ps ds)(hd:a8 dvs ds)(hx:mV CX X E)(I:Inv X pins Z H s)(r:a8 vs us)(h:∀x dx,H x=none->H dx=none->dx≠x->sp (.ref x::(vs++dvs)) (aY (aY H dx (.own x)) x (.ins C dx [])) (λv H2=>v=.non/\Q (.ref x) H2) E):
  Be (Bn X.prog X.w) X.A (call (.ref C) us) (EP X pins Z Q) X.xe s:=by
 have hq:=h (s.heap.objs.size+1) s.heap.objs.size (I.hok.fresh (Kt _)) (I.hok.fresh (Ai _)) (Bs (Ig _));have I2:=Inv.made (C:=C) I;have r2:a8 (V.ref (s.heap.objs.size+1)::(vs++dvs)) (Value.ref (s.heap.objs.size+1)::(us++ds)):=.cons rfl (r.append hd);have hl:(Value.ref (s.heap.objs.size+1)::us++ds).length=ps.length:=by
  have e:=r2.length;rw[F.len _ _ _ _ hq]at e;exact e.symm
 refine wpAny_call (RT (f:=f) I.kIn M.makes M.init (beq_iff_eq.mp M.fn) (Mb (F.run _ X.stack _ _ ⟨Value.ref (s.heap.objs.size+1)::us,[]⟩ (Value.ref (s.heap.objs.size+1)::(us++ds)) _ _ E (hr.make C us [])
  (I2.env0.make C us []) (hb _ (Value.ref (s.heap.objs.size+1)::us) I2.kIn hl) r2 hq) λr s' hq'=>?_))
 cases r with
 | error e=>exact hx pins Z _ _ e s' I2 hq'
 | ok fl=>
  cases fl with
  | ret u=>
   obtain⟨v,H',I3,rv,ev,q3⟩:=I2.after hq';subst ev;exact⟨rv,⟨V.ref (s.heap.objs.size+1),H',I3,rfl,q3⟩⟩
  | next=>exact Fv hq'
  | brk=>exact Fv hq'
  | cont=>exact Fv hq'
def SJ(M:Mk X.K C f)(F:eV X.prog X.w X.K X.mg X.base CX k f fd ps sp)(hr:cE (k+1) X.A)(hg:Gl X x)(hm:X.mg x=some (.ref C))(hb:Binds X.K fd ps ds)(hd:a8 dvs ds)(hx:mV CX X E)(ha:PA X (e::es) t)(hdb:(x==("__debug__" : Str))=false:=by decide)(he:Bj (e::es) X.env=(false,eval e X.env)::Bj es X.env:=by rfl)(hpl:(Gx pos (Bj es X.env)).any (·.1)=false:=by rfl):
  PE X (.Call (.Name x p) (e::es) [] pos) (E2 C sp dvs E t):=by
 intro pins s Z H Q I h;refine El (tF I hg hm ?_ hdb);refine Ka (h₀:=X.base) I.ok.mod.kin M.kp (bA (ha pos pins s Z H _ I h) λus s1 ⟨vs,H1,I1,r,q⟩=>⟨I1.kIn,?_⟩) he hpl;exact E4 M F hr hb hd hx I1 r q
def SM(M:Mk X.K C f)(F:eV X.prog X.w X.K X.mg X.base CX k f fd ps sp)(hr:cE (k+1) X.A)(hg:Gl X x)(hm:X.mg x=some (.ref C))(hb:Binds X.K fd ps ds)(hd:a8 dvs ds)(hx:mV CX X E)(hdb:(x==("__debug__" : Str))=false:=by decide):PE X (.Call (.Name x p) [] [] pos) (E2 C sp dvs E xG):=by
 intro pins s Z H Q I h;refine El (tF I hg hm ?_ hdb);exact PySem.W.callWith_K0 I.kIn M.kp (E4 (us:=[]) M F hr hb hd hx I .nil h)
end
structure mW(N P:List Str)(sc:Hh):Prop where
 kind:sc.kind=.function
 co:sc.isCoroutine=false
 gen:sc.isGenerator=false
 nd:N.Nodup
 pre:N.take P.length=P
 par:∀x∈P,sc.names.lookup x=some .local\/sc.names.lookup x=some .cell
 nofree:∀y∈sc.names,y.2≠.free
def E5{kindOf:Str->Option Hv}{x:Str}:∀{binds:List (Str×Ae)} {m:Str->Option Ae},(∀v,(x,v)∉binds)->bindL kindOf binds m x=m x
 | [],_,_=>rfl
 | (n,v)::r,m,h=>by
  unfold bindL;rw[E5 λw hw=>h w (Ap _ hw)];split
  .have:x≠n:=by rintro rfl;exact h v Aw
   simp[this]
  .rfl
def E6{kindOf:Str->Option Hv}{x:Str}:∀{binds:List (Str×Ae)} {m:Str->Option Ae},(∀v,(x,v)∉binds)->bindC kindOf binds m x=m x
 | [],_,_=>rfl
 | (n,v)::r,m,h=>by
  unfold bindC;rw[E6 λw hw=>h w (Ap _ hw)];split
  .rfl
  .have:x≠n:=by rintro rfl;exact h v Aw
   simp[this]
def E7{kindOf:Str->Option Hv}{x:Str}{v:Ae}:∀{P:List Str} {vs:List Ae} {i:Nat} {m:Str->Option Ae},P.Nodup->P[i]? = some x->vs[i]? = some v->kindOf x=some .local->
  bindL kindOf (P.zip vs) m x=some v
 | [],_,_,_,_,h,_,_=>by simp at h
 | _::_,[],_,_,_,_,h,_=>by simp at h
 | p::P,w::vs,0,m,nd,h1,h2,hk=>by
  simp at h1 h2;subst h1;subst h2;show bindL kindOf ((p,w)::P.zip vs) m p=_;unfold bindL;rw[E5 λv hv=>(Cs.mp nd).1 (List.of_mem_zip hv).1,if_pos hk];simp
 | p::P,w::vs,i+1,m,nd,h1,h2,hk=>by
  show bindL kindOf ((p,w)::P.zip vs) m x=_;unfold bindL;exact E7 (i:=i) (Cs.mp nd).2 (by simpa using h1) (by simpa using h2) hk
def E8{kindOf:Str->Option Hv}{x:Str}{v:Ae}:∀{P:List Str} {vs:List Ae} {i:Nat} {m:Str->Option Ae},P.Nodup->P[i]? = some x->vs[i]? = some v->kindOf x≠some .local->
  bindC kindOf (P.zip vs) m x=some v
 | [],_,_,_,_,h,_,_=>by simp at h
 | _::_,[],_,_,_,_,h,_=>by simp at h
 | p::P,w::vs,0,m,nd,h1,h2,hk=>by
  simp at h1 h2;subst h1;subst h2;show bindC kindOf ((p,w)::P.zip vs) m p=_;unfold bindC;rw[E6 λv hv=>(Cs.mp nd).1 (List.of_mem_zip hv).1,if_neg hk];simp
 | p::P,w::vs,i+1,m,nd,h1,h2,hk=>by
  show bindC kindOf ((p,w)::P.zip vs) m x=_;unfold bindC;exact E8 (i:=i) (Cs.mp nd).2 (by simpa using h1) (by simpa using h2) hk
def start(N:List Str)(vs:List V):St:=vs.map some++Bz (N.length-vs.length) none
def kK(CX:mU)(P:Bt)(w:Cm)(K:Ac)(mg:Str->Option Ae)(base:Heap)(N:List Str)(qual:Str)(scope:Hh)(f:Addr)(cd:Ae)(A:Ck)(outer:List Env)(s:Ag)(H:Hp)(E:XK):Cx where
 prog:=P
 w:=w
 K:=K
 mg:=mg
 base:=base
 A:=A.deeper (Jo qual scope s.heap.objs.size f cd)
 N:=N
 s₀:=s
 H₀:=H
 env:=Jo qual scope s.heap.objs.size f cd
 outer:=outer
 stack:=Jo qual scope s.heap.objs.size f cd::outer
 ex:=[]
 calm:=true
 fn:=λ_=>true
 pn:=[]
 xe:=λe s'=>Be (Bn P w) (A.deeper (Jo qual scope s.heap.objs.size f cd)) (leaving (Jo qual scope s.heap.objs.size f cd) e) (λ_ s''=>CX outer H s E e s'') (λe' s''=>CX outer H s E e' s'') s'
def E9{sc:Hh}{n:Nat}{x:Str}(h:sc.names.lookup x=some .cell):∃c,(cellsFrom n sc.names []).lookup x=some c:=by
 have q:=PySem.W.cellsFrom_some sc.names n [] (.inl h);exact Cj.mp q
def SN{CX:mU}{P:Bt}{w:Cm}{K:Ac}{mg:Str->Option Ae}{base:Heap}{N ps:List Str}{qual:Str}{scope:Hh}{f:Addr}{cd:Ae}{A:Ck}{outer:List Env}{s s1:Ag}{H:Hp}{E:XK}{us:List Ae}{vs:List V}(S:mW N ps scope)(hd:A.handled=none)(e0:nX P w K mg base A outer s H)(hl:vs.length=ps.length)(r:a8 vs us)(x:InCallC s s.heap.objs.size (bindL (Jo qual scope s.heap.objs.size f cd).kindOf (ps.zip us) λ_=>none) (cellsFrom (s.heap.objs.size+1) scope.names []) (bindC (Jo qual scope s.heap.objs.size f cd).kindOf (ps.zip us) λ_=>none) s1):
  Inv (kK CX P w K mg base N qual scope f cd A outer s H E) [] (start N vs) H s1:=by
 have hpl:ps.length<=N.length:=by have:=congrArg Eh S.pre;rw[Bq]at this;lia
 obtain⟨h1,tk,rfl,hk⟩:=x.done;have noA:∀b:Addr,b∉(kK CX P w K mg base N qual scope f cd A outer s H E).ex:=λb z=>absurd (show b∈([]:List Addr) from z) (by simp);refine⟨⟨e0.mod,S.kind,rfl,rfl,Ai _,λy z c h1 h2=>?_,λy hy=>?_,λy c _ h=>?_,λ_=>hd,Around.frames_deeper e0.frames,.inr ⟨rfl,rfl⟩,λb z=>absurd z (noA b),e0.bs,e0.bsz,λb _ _=>noA b,λb z=>absurd z (noA b),e0.funs,e0.frf⟩,
  rfl,e0.bare,Un.kept hk,⟨_,x.toInCall.ns,λi y v h1 h2 h3=>?_⟩,λy c h=>⟨_,x.cell y c h⟩,e0.hok.fresh (Ai _),λy c h=>?_,λp hp=>absurd (show p∈([]:List (Addr×Obj)) from hp) (by simp),e0.hok.kept hk,?_⟩
 .exact name_of_addr x.apart (Fh h1) (Fh h2)
 .have hy:scope.names.lookup y=some .cell\/scope.names.lookup y=some .free:=hy;rcases hy with hy|hy
  .exact E9 hy
  .exact absurd rfl (S.nofree _ (Fh hy))
 .exact Hc (x.above y c (Fh h))
 .have hi:i<vs.length:=by
   unfold start at h2
   by_cases hi:i<vs.length
   .exact hi
   .rw[List.getElem?_append_right (by simpa using hi)]at h2;rw[List.getElem?_replicate]at h2;split at h2<;>cases h2
  have ha:vs[i]? = some v:=by
   unfold start at h2;rw[List.getElem?_append_left (by simpa using hi),Ax]at h2;cases e:vs[i]? with
   | none=>rw[e]at h2;cases h2
   | some a=>rw[e]at h2;cases h2;rfl
  obtain⟨u,hu,rv⟩:=r.get ha;have hp:ps[i]? = some y:=by
   rw[<-S.pre,List.getElem?_take_of_lt (by lia)];exact h1
  have ndP:ps.Nodup:=by rw[<-S.pre];exact S.nd.sublist (List.take_sublist _ _)
  refine⟨u,rv,?_⟩;rcases S.par y (Bg hp) with k|k
  .exact .inl ⟨k,E7 ndP hp hu k⟩
  .obtain⟨c,e⟩:=E9 (n:=s.heap.objs.size+1) k;refine .inr ⟨.inl k,c,e,?_⟩;have q:=x.cell y c e;rw[E8 ndP hp hu (by show scope.names.lookup y≠_;rw[k];decide)]at q;exact q
 .exact e0.hok.fresh (Hc (x.above y c (Fh h)))
 .unfold start;show _=N.length;rw[Ak,Ab,List.length_replicate];lia
def FA{CX:mU}{P:Bt}{w:Cm}{K:Ac}{mg:Str->Option Ae}{base:Heap}{k:Nat}{f:Addr}{name qual:Str}{params:Arguments}{body:List Stmt}{scope:Hh}{dV kV doc pm cdv ct oc:Ae}{an od:Option Addr}{osl:Array (Option Ae)}{N ps:List Str}{sp:Sp}(lk:K.lookup f=some ⟨oc,od,.func (Ep name qual params body scope dV kV doc pm an cdv ct),osl⟩)(hcd:Iq K cdv qual=true)(S:mW N ps scope)(len:∀vs H Q E,sp vs H Q E->vs.length=ps.length)(hbody:∀(A:Ck) (outer:List Env) (s:Ag) (H:Hp) (vs:List V) (Q:VK) (E:XK),cE k (A.deeper (Jo qual scope s.heap.objs.size f cdv))->sp vs H Q E->
   ∃t,gC (kK CX P w K mg base N qual scope f cdv A outer s H E) body t/\t {nx:=λ_ H'=>Q .non H',rt:=Q} (start N vs) H):
  eV P w K mg base CX (k+1) f (Ep name qual params body scope dV kV doc pm an cdv ct) ps sp:=by
 refine⟨len,λA outer s H args us vs Q E hr e0 hb r hsp=>?_⟩;have hl:=len _ _ _ _ hsp;have KX:K.In s.heap:=e0.mod.kin.keeps λb o e=>(e0.bs b o e).1;have lim:s.heap.NoLimit:=e0.mod.nolimit.keeps λb o e=>(e0.bs b o e).1;have hkind:∀y∈ps.zip us,scope.names.lookup y.1=some .local\/(scope.names.lookup y.1=some .cell/\((cellsFrom (s.heap.objs.size+1) scope.names []).lookup y.1).isSome=true):=λ⟨n,v⟩ hy=>by
  rcases S.par n (List.of_mem_zip hy).1 with q|q
  .exact .inl q
  .exact .inr ⟨q,PySem.W.cellsFrom_some _ _ _ (.inl q)⟩
 refine codeAny_call_function hr.depth (KX _ _ lk) rfl S.co S.gen rfl (PySem.W.codeRec_of KX hcd) (hb _ _ _ _ ?_);refine wpAny_newFunctionEnv_cells S.kind hkind λenv he s1 x=>?_;subst he;refine⟨lim.keeps x.toInCall.keep,codeAny_func ?_⟩;obtain⟨t,ht,hq⟩:=hbody A outer s H vs Q E (hr.deeper _) hsp;have I:Inv (kK CX P w K mg base N qual scope f cdv A outer s H E) [] (start N vs) H s1:=SN S hr.hd e0 hl r x;refine Hn (ht [] s1 (start N vs) H _ I hq) (λfl s' hs=>?_) λe s' hs=>hs;have fin:∀{σ':St} {H':Hp} {v:V} {u:Ae},Inv (kK CX P w K mg base N qual scope f cdv A outer s H E) [] σ' H' s'->RelV v u->Q v H'->CE outer P w H s Q u s':=
  λ{σ' H' v u} J rv q=>⟨v,H',J.os,J.bare,J.base,J.hok,rv,q⟩
 cases fl with
 | ret u=>
  obtain⟨v,σ',H',J,rv,q⟩:=hs;exact fin J rv q
 | next=>
  obtain⟨σ',H',J,q⟩:=hs;exact fin (v:=V.non) (u:=Value.none) J rfl q
 | brk=>
  obtain⟨_,_,_,q⟩:=hs;exact Fv q
 | cont=>
  obtain⟨_,_,_,q⟩:=hs;exact Fv q
section
variable {X:Cx}{x:Str}{p pos:Pos}{e:Expr}{es:List Expr}{t:TA}{id T:String}{r:List V->Hp->VK->Prop}
def xJ(r:List V->Hp->VK->Prop)(t:TA):TE:=λZ H Q=>t Z H λvs H1=>r vs H1 Q
def SO(hc:dX X (.builtin id) r)(hg:Gl X x)(hm:X.mg x=none)(hv:Ct x=some (.builtin id))(ha:PA X (e::es) t)(hn:x≠"__name__":=by decide)(hdb:(x==("__debug__" : Str))=false:=by decide)(he:Bj (e::es) X.env=(false,eval e X.env)::Bj es X.env:=by rfl)(hpl:(Gx pos (Bj es X.env)).any (·.1)=false:=by rfl):PE X (.Call (.Name x p) (e::es) [] pos) (xJ r t):=by
 intro pins s Z H Q I h;refine El (jX I hg hm hv ?_ hn hdb);exact PyProof.Rows.callWith_builtin1 (bA (ha pos pins s Z H _ I h) λus s1 ⟨vs,H1,I1,r1,q1⟩=>hc pins s1 Z H1 vs us Q I1 r1 q1) he hpl
def SQ(hc:dX X (.type T) r)(hg:Gl X x)(hm:X.mg x=none)(hv:Ct x=some (.type T))(ha:PA X (e::es) t)(hn:x≠"__name__":=by decide)(hdb:(x==("__debug__" : Str))=false:=by decide)(he:Bj (e::es) X.env=(false,eval e X.env)::Bj es X.env:=by rfl)(hpl:(Gx pos (Bj es X.env)).any (·.1)=false:=by rfl):PE X (.Call (.Name x p) (e::es) [] pos) (xJ r t):=by
 intro pins s Z H Q I h;refine El (jX I hg hm hv ?_ hn hdb);exact Dx (bA (ha pos pins s Z H _ I h) λus s1 ⟨vs,H1,I1,r1,q1⟩=>hc pins s1 Z H1 vs us Q I1 r1 q1) he hpl
end
end L2
namespace HT
open PySem PyProof.Rows
section
variable {prog:Bt}{w:Cm}{A:Ck}{E:Ae->Ag->Prop}{s:Ag}
def cat_tup{t b:Addr}{vs ws:List Ae}{Q:Ae->Ag->Prop}(ht:IsTup s.heap t vs.toArray)(hb:IsTup s.heap b ws.toArray)(hv:vs≠[])(h1:ws=[]->Q (.ref t) s)(h2:ws≠[]->Q (.ref s.heap.objs.size) {s with heap:=s.heap.push {cls:=.type "tuple",data:=.seq (vs++ws).toArray}})(hsz:vs.length+ws.length<=Ao):Be (Bn prog w) A (Fl .Add (.ref t) (.ref b)) Q E s:=by
 obtain⟨⟨cls,dd,data,sl⟩,ho,hc,n,hd⟩:=id ht;obtain⟨⟨cls2,dd2,data2,sl2⟩,ho2,hc2,n2,hd2⟩:=id hb;simp only at hc hd hc2 hd2;subst hc hd hc2 hd2;have e:vs.toArray++ws.toArray=(vs++ws).toArray:=by simp
 by_cases hw:ws=[]
 .exact concat_meets ⟨_,ho,rfl⟩ ⟨_,ho2,rfl⟩ noFill_tuple_add seq_tuple_add PySem.F.slot_tuple_add PySem.F.entry_tuple_add (PySem.F.args_tuple_add_2 _ _)
   (tuple_addW1 t b vs.toArray ws.toArray n n2 dd dd2 sl sl2 (by simpa using hv) (by simp[hw])) ⟨ho,ho2,h1 hw⟩
 .refine concat_meets ⟨_,ho,rfl⟩ ⟨_,ho2,rfl⟩ noFill_tuple_add seq_tuple_add PySem.F.slot_tuple_add PySem.F.entry_tuple_add (PySem.F.args_tuple_add_2 _ _)
   (tuple_addW2 t b vs.toArray ws.toArray n n2 dd dd2 sl sl2 (by simpa using hv) (by simpa using hw) (by rw[Bd,Bd];exact hsz)) ⟨ho,ho2,?_⟩
  rw[e];exact h2 hw
def sIx(n d:Nat):Option Int->Nat
 | none=>d
 | some v=>if v<0 then(v+(n:Int)).toNat else min v.toNat n
def sIx_none(n d:Nat):sIx n d none=d:=rfl
def sIx_nat(n d k:Nat):sIx n d (some (k:Int))=min k n:=by
 show(if (k:Int)<0 then((k:Int)+(n:Int)).toNat else min (k:Int).toNat n)=min k n;rw[if_neg (by lia),Dg]
def SU(n d:Nat)(hd:d<=n)(o:Option Int):sIx n d o<=n:=by
 cases o with
 | none=>exact hd
 | some v=>
  show(if v<0 then(v+(n:Int)).toNat else min v.toNat n)<=n
  by_cases hv:v<0
  .rw[if_pos hv];lia
  .rw[if_neg hv];exact Nat.min_le_right _ _
def FC(v:Int)(n d:Nat):(if v<0 then max (v+(n:Int)) 0 else min v (n:Int))=((sIx n d (some v):Nat):Int):=by
 show(if v<0 then max (v+(n:Int)) 0 else min v (n:Int))=(((if v<0 then(v+(n:Int)).toNat else min v.toNat n):Nat):Int)
 by_cases hv:v<0
 .simp only[if_pos hv];lia
 .simp only[if_neg hv];lia
def SW(lo hi:Option Int)(n:Nat):Jq lo hi 1 (n:Int)=(((sIx n 0 lo:Nat):Int),((sIx n n hi:Nat):Int)):=by
 have h1:¬((1:Int)<0):=by lia
 unfold Jq;simp only[h1,if_false];refine Prod.ext ?_ ?_
 .cases lo with
  | none=>rfl
  | some v=>exact FC v n 0
 .cases hi with
  | none=>rfl
  | some v=>exact FC v n n
def SX(i j:Nat):He (i:Int) (j:Int) 1=j-i:=by
 unfold He;have h1:(1:Int) > 0:=by lia
 simp only[h1,if_true,Int.ediv_one];split<;>lia
def FD{v:Ae}{o:Option Int}{Q:Option Int->Ag->Prop}(p:IsPart v o)(h:Q o s):Be (Bn prog w) A (Builtin.Slice.slicePartIndex v) Q E s:=by
 cases p with
 | none=>exact slicePart_none h
 | int i t=>exact slicePart_int h
def SY{sl:Addr}{vl vu:Ae}{lo hi:Option Int}{n:Nat}{Q:Int×Int×Nat->Ag->Prop}(hs:s.heap.IsSliceOf sl vl vu .none)(pl:IsPart vl lo)(pu:IsPart vu hi)(h:Q (((sIx n 0 lo:Nat):Int),1,sIx n n hi-sIx n 0 lo) s):Be (Bn prog w) A (Builtin.Slice.sliceApplied (.ref sl) (pure (n:Int))) Q E s:=by
 obtain⟨os,hos,hcs,hds⟩:=id hs;unfold Builtin.Slice.sliceApplied Builtin.Slice.sliceFields;refine Aa (Aa (Fe hos hds (x:=vl) rfl (Aa (Fe hos hds (x:=vu) rfl (Aa (Fe hos hds (x:=.none) rfl (Ah ?_)))))));refine Aa (slicePart_none ?_);show Be _ _ (if ((1:Int)==0)=true then _ else _) _ _ s;rw[if_neg (by decide)];refine Aa (FD pl (Aa (FD pu (Aa (Ah ?_)))));show Be _ _ (match Jq lo hi 1 (n:Int) with|(lo,hi)=>pure (lo,(1:Int),He lo hi 1)) _ _ s;rw[SW lo hi n];show Be _ _ (pure (((sIx n 0 lo:Nat):Int),(1:Int),He ((sIx n 0 lo:Nat):Int) ((sIx n n hi:Nat):Int) 1)) _ _ s;rw[SX];exact Ah h
def S4(xs:Array Ae)(i k:Nat):((Eg k).filterMap λ(m:Nat)=>xs[((i:Int)+(m:Int)*1).toNat]?).toArray=((xs.toList.drop i).take k).toArray:=by
 have e:(λ(m:Nat)=>xs[((i:Int)+(m:Int)*1).toNat]?)=λm=>xs[i+m]?:=by
  funext m;have:((i:Int)+(m:Int)*1).toNat=i+m:=by lia
  rw[this]
 rw[e];have:=pick_run xs i k;rw[Il]at this;have e2:((λx=>xs[x]?) ∘ λx=>i+x)=λm=>xs[i+m]?:=rfl;rw[e2]at this;rw[this]
def getItem_tuple_cut{t sl:Addr}{items:Array Ae}{vl vu:Ae}{lo hi:Option Int}{Q:Ae->Ag->Prop}(ht:IsTup s.heap t items)(hs:s.heap.IsSliceOf sl vl vu .none)(pl:IsPart vl lo)(pu:IsPart vu hi)(hw:¬(sIx items.size 0 lo=0/\sIx items.size items.size hi=items.size))(h:Q (.ref s.heap.objs.size) {s with heap:=s.heap.push {cls:=.type "tuple",data:=.seq ((items.toList.drop (sIx items.size 0 lo)).take (sIx items.size items.size hi-sIx items.size 0 lo)).toArray}})(hsz:items.size<=Ao):Be (Bn prog w) A (getItem (.ref t) (.ref sl)) Q E s:=by
 have htake:sizeOk (.seq ((items.toList.drop (sIx items.size 0 lo)).take (sIx items.size items.size hi-sIx items.size 0 lo)).toArray):=by
  show((items.toList.drop (sIx items.size 0 lo)).take (sIx items.size items.size hi-sIx items.size 0 lo)).toArray.size<=Ao;rw[Bd,Bq,Ic,Gr];omega
 have hj:sIx items.size items.size hi<=items.size:=SU _ _ (Ai _) hi;obtain⟨os,hos,hcs,hds⟩:=id hs;have hTs:s.TypeIs (.ref sl) "slice":=⟨os,hos,hcs⟩;unfold getItem
 try with_reducible refine Cv ?_
 first|refine Aa (Ah ?_)|skip
 refine Aa (wpAny_sequenceKey ht.typeIs (by decide) ?_);refine Aa (Fg (name:=Ec "__getitem__") ht.typeIs Ik
  (Ff Ik ht.typeIs entry_tuple_getitem ?_ (args_tuple_getitem _ _)))
 show Be _ _ (Builtin.Tuple.tupleItemsOf (.ref t)>>=_) _ _ s;refine Aa (tupleItemsOf_ ht ?_);refine Aa (wpAny_typeOf hTs ?_);rw[if_pos (by decide)];refine Aa (SY hs pl pu ?_);have hno:¬((((sIx items.size 0 lo:Nat):Int)==0&&(1:Int)==1&&(sIx items.size items.size hi-sIx items.size 0 lo)==items.size)=true):=by
  intro q;rw[Co,Co]at q;have q1:((sIx items.size 0 lo:Nat):Int)=0:=eq_of_beq q.1.1;have q2:sIx items.size items.size hi-sIx items.size 0 lo=items.size:=eq_of_beq q.2;exact hw ⟨by omega,by omega⟩
 show Be _ _ (if (((sIx items.size 0 lo:Nat):Int)==0&&(1:Int)==1&&(sIx items.size items.size hi-sIx items.size 0 lo)==items.size)=true then _ else _) _ _ s;rw[if_neg hno,S4]
 first
  | exact Aa (m:=Hs _) (Du (Ah ⟨_,rfl,Ah h⟩) htake)
  | exact Aa (m:=Hs _) (Du (Aa (Ah (Ah ⟨_,rfl,Ah h⟩))) htake)
  | exact Aa (Aa (m:=Hs _) (Du (Ah (Ah ⟨_,rfl,Ah h⟩)) htake))
  | exact Aa (Aa (m:=Hs _) (Du (Ah ⟨_,rfl,Ah h⟩) htake))
end
end HT
namespace L2
open PySem Spec PyProof.Rows
abbrev TO:=St->Hp->(Option Int->Hp->Prop)->Prop
def PO(X:Cx)(e:Option Expr)(t:TO):Prop:=
 ∀(pins:List (Addr×Obj)) (s:Ag) (Z:St) (H:Hp) (Q:Option Int->Hp->Prop),Inv X pins Z H s->t Z H Q->
  Be (Bn X.prog X.w) X.A (evalPart e X.env) (λu s'=>∃o H',Inv X pins Z H' s'/\IsPart u o/\Q o H') X.xe s
def S5:TO:=λ_ H Q=>Q none H
def S6(t:TE):TO:=λZ H Q=>t Z H λx H1=>∃i,x=.int i/\Q (some i) H1
def intsAre_of{ns:List Int}:∀{us:List Ae},a8 (ns.map V.int) us->Nc us ns:=by
 induction ns with
 | nil=>intro us r;rw[Fu]at r;cases r;exact .nil
 | cons n ns ih=>
  intro us r;rw[Bb]at r;cases r with
  | cons r1 r2=>
   obtain⟨t,e⟩:=r1;subst e;exact .cons n t (ih r2)
section
variable {X:Cx}{e:Expr}{te:TE}{lo hi:Option Expr}{tl th:TO}{pos p2:Pos}
def S7:PO X none S5:=by
 intro pins s Z H Q I h;rw[evalPart_none];exact Ah ⟨none,H,I,.none,h⟩
def S8(h:PE X e te):PO X (some e) (S6 te):=by
 intro pins s Z H Q I hw;rw[evalPart_some];refine bA (h pins s Z H _ I hw) λu s1 ⟨x,H1,I1,r1,q1⟩=>?_;obtain⟨i,rfl,q⟩:=q1;obtain⟨t,rfl⟩:=r1;exact⟨some i,H1,I1,.int i t,q⟩
def tP(X:Cx)(r:V->Option Int->Option Int->Hp->VK->Prop):Prop:=
 ∀(pins:List (Addr×Obj)) (s:Ag) (Z:St) (H:Hp) (x:V) (v vl vu:Ae) (lo hi:Option Int) (sl:Addr) (Q:VK),Inv X pins Z H s->RelV x v->s.heap.IsSliceOf sl vl vu .none->IsPart vl lo->IsPart vu hi->r x lo hi H Q->
  ∃T id,typeLookup (.type T) "__getitem__" = pure (some (.builtin id))/\s.TypeIs v T/\Be (Bn X.prog X.w) X.A (getItem v (.ref sl)) (EP X pins Z Q) X.xe s
def S9(r:V->Option Int->Option Int->Hp->VK->Prop)(te:TE)(tl th:TO):TE:=λZ H Q=>te Z H λx H1=>tl Z H1 λl H2=>th Z H2 λu H3=>r x l u H3 Q
def TB{r:V->Option Int->Option Int->Hp->VK->Prop}(hr:tP X r)(he:PE X e te)(hl:PO X lo tl)(hu:PO X hi th):PE X (.Subscript e (.Slice lo hi none p2) pos) (S9 r te tl th):=by
 intro pins s Z H Q I h;refine Subscript_ (bA (he pins s Z H _ I h) λv s1 ⟨x,H1,I1,r1,q1⟩=>?_);refine wpAny_Slice (bA (hl pins s1 Z H1 _ I1 q1) λvl s2 ⟨l,H2,I2,pl,q2⟩=>bA (hu pins s2 Z H2 _ I2 q2) λvu s3 ⟨u,H3,I3,pu,q3⟩=>?_);rw[evalPart_none];refine Ah ?_;have I4:Inv X pins Z H3 {s3 with heap:=s3.heap.push {cls:=.type "slice",data:=.fields #[vl,vu,.none]}}:=I3.kept (t':=s3.toks) λb ob q=>Af _ q;obtain⟨T,id,hT,ht,hg⟩:=hr pins {s3 with heap:=s3.heap.push {cls:=.type "slice",data:=.fields #[vl,vu,.none]}} Z H3 x v vl vu l u s3.heap.objs.size Q I4 r1 (Heap.IsSliceOf.new ..) pl pu q3;show Be (Bn X.prog X.w) X.A (subscriptTail e (.Slice lo hi none p2) v (.ref s3.heap.objs.size)) (EP X pins Z Q) X.xe {s3 with heap:=s3.heap.push {cls:=.type "slice",data:=.fields #[vl,vu,.none]}};exact tail_any (ops:=[.ref s3.heap.objs.size,v]) ht hT hg (by with_unfolding_all rfl)
def mX(xs:List V)(lo hi:Option Int):List V:=(xs.drop (HT.sIx xs.length 0 lo)).take (HT.sIx xs.length xs.length hi-HT.sIx xs.length 0 lo)
def FE(xs:List V)(lo hi:Option Int):(mX xs lo hi).length<=xs.length:=by
 unfold mX;rw[Bq,Ic];lia
def TC(K:Ac):V->Option Int->Option Int->Hp->VK->Prop:=λx lo hi H Q=>∃a xs,x=.ref a/\bS K H a xs/\
 ¬(HT.sIx xs.length 0 lo=0/\HT.sIx xs.length xs.length hi=xs.length)/\∀p,H p=none->Q (.ref p) (aY H p (.tup (mX xs lo hi)))
def TF:tP X (TC X.K):=by
 intro pins s Z H x v vl vu lo hi sl Q I rx hs pl pu h;obtain⟨a,xs,rfl,hx,hw,q⟩:=h;cases rx;obtain⟨its,r,ht,hz⟩:=I.tuple hx;have hlen:its.toArray.size=xs.length:=by rw[Bd];exact r.length.symm
 refine⟨"tuple",_,Ik.lookup,ht.typeIs,?_⟩;refine HT.getItem_tuple_cut ht hs pl pu (by rw[hlen];exact hw) ?_ (by rw[hlen];exact hz);rw[hlen];refine⟨.ref s.heap.objs.size,_,I.laid (t':=s.toks) (o:=.tup (mX xs lo hi)) (λb ob q=>Af _ q) (Ai _) ?_,rfl,q _ (I.hok.fresh (Ai _))⟩;exact⟨Az (FE xs lo hi) hz,_,(r.drop (HT.sIx xs.length 0 lo)).take (HT.sIx xs.length xs.length hi-HT.sIx xs.length 0 lo),IsTup.new _ _⟩
def TH(K:Ac):R2:=λx y H Q=>∃a b xs ys,x=.ref a/\y=.ref b/\bS K H a xs/\bS K H b ys/\xs≠[]/\xs.length+ys.length<=Ao/\
 (ys=[]->Q (.ref a) H)/\(ys≠[]->∀p,H p=none->Q (.ref p) (aY H p (.tup (xs++ys))))
def a8.nil_iff{xs:List V}{us:List Ae}(r:a8 xs us):us=[]↔xs=[]:=by
 cases r with
 | nil=>simp
 | cons _ _=>simp
def TJ:bG X (Fl .Add) (TH X.K):=by
 intro pins s Z H x y v u Q I rx ry h;obtain⟨a,b,xs,ys,rfl,rfl,ha,hb,hx,hz,q1,q2⟩:=h;cases rx;cases ry;obtain⟨its,r1,p1,_⟩:=I.tuple ha;obtain⟨its2,r2,p2,_⟩:=I.tuple hb;refine HT.cat_tup p1 p2 (λz=>hx (r1.nil_iff.mp z)) (λz=>⟨.ref a,H,I,rfl,q1 (r2.nil_iff.mp z)⟩) (λz=>?_) (by rw[<-r1.length,<-r2.length];exact hz);refine⟨.ref s.heap.objs.size,_,I.laid (t':=s.toks) (o:=.tup (xs++ys)) (λb ob q=>Af _ q) (Ai _) ?_,rfl,q2 (λw=>z (r2.nil_iff.mpr w)) _ (I.hok.fresh (Ai _))⟩;exact⟨by rw[Ak];exact hz,_,r1.append r2,IsTup.new _ _⟩
end
def hZ(n:Nat)(i:Int):Option Nat:=if 0<=i then(if i<n then some i.toNat else none) else if -(n:Int)<=i then some (i+n).toNat else none
def cG{O:Type}(xs:List O)(i:Int):Option O:=(hZ xs.length i).bind λj=>xs[j]?
def FF{n:Nat}{i:Int}{j:Nat}(h:hZ n i=some j):seqIndex? i n=some j/\j<n/\-(n:Int)<=i/\i<n:=by
 unfold hZ at h
 by_cases h0:0<=i
 .rw[if_pos h0]at h
  by_cases h1:i<n
  .rw[if_pos h1]at h;have e:i.toNat=j:=Bx h;exact⟨by rw[seqIndex_of h0 h1,e],by lia,by lia,h1⟩
  .rw[if_neg h1]at h;cases h
 .rw[if_neg h0]at h
  by_cases h1 : -(n:Int)<=i
  .rw[if_pos h1]at h;have e:(i+n).toNat=j:=Bx h;exact⟨by rw[seqIndex_neg (by lia) h1,e],by lia,h1,by lia⟩
  .rw[if_neg h1]at h;cases h
def xK{O:Type}{xs:List O}{i:Int}{v:O}(h:cG xs i=some v):∃j,seqIndex? i xs.length=some j/\xs[j]? = some v/\j<xs.length/\-(xs.length:Int)<=i/\i<xs.length:=by
 unfold cG at h;cases e:hZ xs.length i with
 | none=>rw[e]at h;cases h
 | some j=>
  rw[e]at h;obtain⟨h1,h2,h3,h4⟩:=FF e;exact⟨j,h1,h,h2,h3,h4⟩
def fA{O:Type}{xs:List O}{j:Nat}{v:O}(h:xs[j]? = some v):cG xs (j:Int)=some v:=by
 have hj:j<xs.length:=(An.mp h).1;have e:hZ xs.length (j:Int)=some j:=by
  unfold hZ;rw[if_pos (by lia),if_pos (by lia)];simp
 unfold cG;rw[e];exact h
def FG{O:Type}(xs:List O)(v:O):cG (xs++[v]) (-1)=some v:=by
 have hl:(xs++[v]).length=xs.length+1:=by simp
 have e:hZ (xs++[v]).length (-1)=some xs.length:=by
  unfold hZ;rw[hl,if_neg (by decide),if_pos (by lia)];congr 1;lia
 unfold cG;rw[e];show(xs++[v])[xs.length]? = some v;simp
def FH(b:Expr):Prop:=∀o i,subscripted b false o i=operate [o,i] (getItem o i)
def jD(X:Cx)(r:R2):Prop:=
 ∀(value slice:Expr) (pins:List (Addr×Obj)) (s:Ag) (Z:St) (H:Hp) (x y:V) (v u:Ae) (Q:VK),Inv X pins Z H s->RelV x v->RelV y u->r x y H Q->
  subscripted slice false v u=operate [v,u] (getItem v u)->Be (Bn X.prog X.w) X.A (subscriptTail value slice v u) (EP X pins Z Q) X.xe s
def jE(X:Cx)(id:String)(r:V->List V->Hp->VK->Prop):Prop:=
 ∀(pins:List (Addr×Obj)) (s:Ag) (Z:St) (H:Hp) (x:V) (xs:List V) (v:Ae) (us:List Ae) (Q:VK),Inv X pins Z H s->RelV x v->a8 xs us->r x xs H Q->
  Be (Bn X.prog X.w) X.A (call (.builtin id) (v::us)) (EP X pins Z Q) X.xe s
section
variable {X:Cx}{a b:Expr}{ta tb:TE}{pos:Pos}
def jD.or{r r':R2}(h:jD X r)(h':jD X r'):jD X (λx y H Q=>r x y H Q\/r' x y H Q):=by
 intro value slice pins s Z H x y v u Q I rx ry q hs;rcases q with q|q
 .exact h value slice pins s Z H x y v u Q I rx ry q hs
 .exact h' value slice pins s Z H x y v u Q I rx ry q hs
def TL{r:R2}(hr:jD X r)(ha:PE X a ta)(hb:PE X b tb)(hs:FH b):PE X (.Subscript a b pos) (qO r ta tb):=by
 intro pins s Z H Q I h;exact Subscript_ (xD ha hb I h λv u s2 x y H2 I2 rx ry q=>hr a b pins s2 Z H2 x y v u Q I2 rx ry q (hs _ _))
def TM(K:Ac):R2:=λx y H Q=>∃p xs i v,x=.ref p/\y=.int i/\bK K H p xs/\cG xs i=some v/\Q v H
def TN(K:Ac):R2:=λx y H Q=>∃p xs i v,x=.ref p/\y=.int i/\bS K H p xs/\cG xs i=some v/\Q v H
def TQ:R2:=λx y H Q=>∃z i c,x=.str z/\y=.int i/\z.length<=Ao/\cG z.cps.toList i=some c/\Q (.str ⟨#[c]⟩) H
def TR:jD X (TM X.K):=by
 intro value slice pins s Z H x y v u Q I rx ry h hs;obtain⟨p,xs,i,z,rfl,rfl,hq,he,q⟩:=h;cases rx;obtain⟨t,rfl⟩:=ry;obtain⟨its,r,pl,hz⟩:=I.list hq;obtain⟨j,h1,h2,h3,h4,h5⟩:=xK he;obtain⟨w,ew,rw'⟩:=r.get h2;have hl:=r.length;have hn:=nV;have fin:EP X pins Z Q w s:=⟨z,H,I,rw',q⟩
 by_cases h0:0<=i
 .have hj:i.toNat=j:=by
   rw[seqIndex_of h0 h5]at h1;exact Bx h1
  exact item_listR pl.isList h0 (by lia) (by rw[hj];simpa using ew) fin hs
 .have hj:(i+(its.toArray.size:Int)).toNat=j:=by
   rw[seqIndex_neg (by lia) h4]at h1;rw[Bd,<-hl];exact Bx h1
  exact subscriptTail_builtinR (x:=w) pl.isList.typeIs slot_list_getitem.lookup
   (wpAny_getItem_list_neg (Q:=λr s'=>r=w/\EP X pins Z Q r s') pl.isList (by lia) (by rw[Bd]<;>lia) (by lia) (by rw[hj];simpa using ew) ⟨rfl,fin⟩) hs
def TU:jD X (TN X.K):=by
 intro value slice pins s Z H x y v u Q I rx ry h hs;obtain⟨p,xs,i,z,rfl,rfl,hq,he,q⟩:=h;cases rx;obtain⟨t,rfl⟩:=ry;obtain⟨its,r,pl,hz⟩:=I.tuple hq;obtain⟨j,h1,h2,h3,h4,h5⟩:=xK he;obtain⟨w,ew,rw'⟩:=r.get h2;have hl:=r.length;have hn:=nV;have fin:EP X pins Z Q w s:=⟨z,H,I,rw',q⟩;exact subscriptTail_builtinR (x:=w) pl.typeIs slot_tuple_getitem.lookup
  (getItem_tuple (j:=j) (Q:=λr s'=>r=w/\EP X pins Z Q r s') pl (by lia) (by lia) (by rw[Bd,<-hl];exact h1) (by simpa using ew) ⟨rfl,fin⟩) hs
def TV:jD X TQ:=by
 intro value slice pins s Z H x y v u Q I rx ry h hs;obtain⟨z,i,c,rfl,rfl,hz,he,q⟩:=h;obtain⟨t,rfl⟩:=rx;obtain⟨t',rfl⟩:=ry;obtain⟨j,h1,h2,h3,h4,h5⟩:=xK he;have hl:z.cps.toList.length=z.length:=by simp[Str.length]
 rw[hl]at h1 h4 h5;have hn:=nV;exact tail_any (typeIs_str s z t) slot_str_getitem.lookup (getItem_str (c:=c) (by
  have e1:decide (i < -(2 ^ 63:Int))=false:=decide_eq_false (by lia);have e2:decide (i ≥ 2 ^ 63)=false:=decide_eq_false (by lia);rw[e1,e2,Bool.or_false]) (by rw[h1];simpa using h2) ⟨.str ⟨#[c]⟩,H,I.tok _,⟨_,rfl⟩,q⟩) hs
def TX(its:List Ae)(n j:Nat)(u:Ae):Jp (·.setIfInBounds j u) {cls:=.type "list",data:=.seq its.toArray n} = {cls:=.type "list",data:=.seq (its.set j u).toArray n}:=by
 simp[Jp]
def Inv.lst{pins:List (Addr×Obj)}{Z:St}{H:Hp}{s:Ag}{p:Addr}{xs:List V}(I:Inv X pins Z H s)(h:H p=some (.lst xs)):
  ∃(its:List Ae) (n:Nat),a8 xs its/\s.heap.get? p=some {cls:=.type "list",data:=.seq its.toArray n}/\xs.length<=Ao:=by
 obtain⟨z,its,n,r,e⟩:=I.hok p _ h;exact⟨its,n,r,e,z⟩
def Inv.lstUpd{pins:List (Addr×Obj)}{Z:St}{H:Hp}{s:Ag}{p:Addr}{xs ys:List V}{its its':List Ae}{n n':Nat}{f:Obj->Obj}(I:Inv X pins Z H s)(h:H p=some (.lst xs))(ho:s.heap.get? p=some {cls:=.type "list",data:=.seq its.toArray n})(hf:f {cls:=.type "list",data:=.seq its.toArray n} = {cls:=.type "list",data:=.seq its'.toArray n'})(r:a8 ys its')(hz:ys.length<=Ao)(t:Nat):
  Inv X pins Z (aY H p (.lst ys)) {s with heap:=s.heap.update p f,toks:=t}:=by
 have e:(s.heap.update p f).get? p=some {cls:=.type "list",data:=.seq its'.toArray n'}:=by
  rw[Gf f ho (by rw[hf]<;>rfl),hf]
 refine I.write (x:=p) (e:=p) (by rw[h];trivial) (.inl rfl) (λb u hb q=>(Dc _ _ (Bi hb)).trans q) ⟨_,e⟩ ?_;exact⟨hz,its',n',r,e⟩
def TY:V->V->V->Hp->(Hp->Prop)->Prop:=λo i v H Q=>∃p xs k j,o=.ref p/\i=.int k/\H p=some (.lst xs)/\hZ xs.length k=some j/\Q (aY H p (.lst (xs.set j v)))
def TZ:tH X TY:=by
 intro pins s Z H o i v ov iv u Q I ro ri rv h;obtain⟨p,xs,k,j,rfl,rfl,hp,hj,q⟩:=h;cases ro;obtain⟨t,rfl⟩:=ri;obtain⟨its,n,r,ho,hz⟩:=I.lst hp;obtain⟨h1,h2,h3,h4⟩:=FF hj;have hl:=r.length;have hn:=nV;have I':Inv X pins Z (aY H p (.lst (xs.set j v))) {s with heap:=s.heap.update p (Jp (·.setIfInBounds j u))}:=
  I.lstUpd hp ho (TX its n j u) (r.set rv j) (by rw[List.length_set];exact hz) s.toks
 by_cases h0:0<=k
 .have hk:k.toNat=j:=by
   rw[seqIndex_of h0 h4]at h1;exact Bx h1
  exact PySem.W.ki_setAt ho h0 (by lia) (by rw[Bd,<-hl];exact h4) (by rw[hk];exact⟨_,I',q⟩)
 .have hk:(k+(its.toArray.size:Int)).toNat=j:=by
   rw[seqIndex_neg (by lia) h3]at h1;rw[Bd,<-hl];exact Bx h1
  exact PySem.W.ki_setBack ho (by lia) (by rw[Bd,<-hl];exact h3) (by lia) (by rw[hk];exact⟨_,I',q⟩)
def T4(lo hi:Option Int)(n:Nat):(Kd lo hi none n).1=((HT.sIx n 0 lo:Nat):Int)/\(Kd lo hi none n).2.1=((HT.sIx n n hi:Nat):Int)/\(Kd lo hi none n).2.2=1:=by
 refine⟨?_,?_,rfl⟩
 .cases lo with
  | none=>simp[Kd,HT.sIx]
  | some i=>
   simp only[Kd,HT.sIx,Option.getD_none,show(1:Int) > 0 by decide,if_true]
   by_cases h:i<0
   .simp only[h,if_true]<;>lia
   .simp only[h,if_false]<;>lia
 .cases hi with
  | none=>simp[Kd,HT.sIx]
  | some i=>
   simp only[Kd,HT.sIx,Option.getD_none,show(1:Int) > 0 by decide,if_true]
   by_cases h:i<0
   .simp only[h,if_true]<;>lia
   .simp only[h,if_false]<;>lia
def T5(its:List Ae)(lo hi:Option Int):slicePick its.toArray lo hi none=((its.drop (HT.sIx its.length 0 lo)).take (HT.sIx its.length its.length hi-HT.sIx its.length 0 lo)).toArray:=by
 obtain⟨h1,h2,h3⟩:=T4 lo hi its.toArray.size;unfold slicePick;rw[h1,h2,h3];simp only[sliceRange_one,pick_run,Bd]<;>rfl
def T6(K:Ac):V->Option Int->Option Int->Hp->VK->Prop:=λx lo hi H Q=>∃a xs,x=.ref a/\bK K H a xs/\∀p,H p=none->Q (.ref p) (aY H p (.lst (mX xs lo hi)))
def xM:tP X (T6 X.K):=by
 intro pins s Z H x v vl vu lo hi sl Q I rx hs pl pu h;obtain⟨a,xs,rfl,hx,q⟩:=h;cases rx;obtain⟨its,r,ht,hz⟩:=I.list hx;have hlen:=r.length;refine⟨"list",_,slot_list_getitem.lookup,ht.isList.typeIs,?_⟩;refine wpAny_getItem_list_slice ht.isList hs pl pu .none (by simp) ?_ (by rw[Bd]<;>lia);rw[T5,<-hlen];refine⟨.ref s.heap.objs.size,_,I.laid (t':=s.toks) (o:=.lst (mX xs lo hi)) (λb ob q=>Af _ q) (Ai _) ?_,rfl,q _ (I.hok.fresh (Ai _))⟩;exact⟨Az (FE xs lo hi) hz,_,0,(r.drop (HT.sIx xs.length 0 lo)).take (HT.sIx xs.length xs.length hi-HT.sIx xs.length 0 lo),Ba _ rfl⟩
def kL:V->Bool
 | .non=>true
 | .bl _=>true
 | .int _=>true
 | .str _=>true
 | _=>false
def kM:V->V->Bool
 | .non,.non=>true
 | .bl a,.bl b=>a==b
 | .bl a,.int b=>(if a then 1 else 0)==b
 | .int a,.bl b=>a==(if b then 1 else 0)
 | .int a,.int b=>a==b
 | .str a,.str b=>a==b
 | _,_=>false
def T7{A:Ck}{s:Ag}{y x:V}{u v:Ae}(ry:RelV y u)(rx:RelV x v)(fy:kL y=true)(fx:kL x=true):SeqAt.EqAt A s u v (kM y x):=by
 cases y with
 | non=>
  cases ry;cases x with
  | non=>cases rx;exact SeqAt.EqAt.same _
  | bl b=>cases rx;exact SeqAt.EqAt.none_bool b
  | int b=>obtain⟨t,rfl⟩:=rx;exact SeqAt.EqAt.none_int b t
  | str b=>obtain⟨t,rfl⟩:=rx;exact SeqAt.EqAt.none_str b t
  | _=>exact absurd (show false=true from fx) Ar
 | bl a=>
  cases ry;cases x with
  | non=>cases rx;exact SeqAt.EqAt.bool_none a
  | bl b=>cases rx;exact SeqAt.EqAt.bool_bool a b
  | int b=>obtain⟨t,rfl⟩:=rx;exact SeqAt.EqAt.bool_int a b t
  | str b=>obtain⟨t,rfl⟩:=rx;exact SeqAt.EqAt.bool_str a b t
  | _=>exact absurd (show false=true from fx) Ar
 | int a=>
  obtain⟨t',rfl⟩:=ry;cases x with
  | non=>cases rx;exact SeqAt.EqAt.int_none a t'
  | bl b=>cases rx;exact SeqAt.EqAt.int_bool a t' b
  | int b=>obtain⟨t,rfl⟩:=rx;exact SeqAt.EqAt.int_int a t' b t
  | str b=>obtain⟨t,rfl⟩:=rx;exact SeqAt.EqAt.int_str a t' b t
  | _=>exact absurd (show false=true from fx) Ar
 | str a=>
  obtain⟨t',rfl⟩:=ry;cases x with
  | non=>cases rx;exact SeqAt.EqAt.str_none a t'
  | bl b=>cases rx;exact SeqAt.EqAt.str_bool a t' b
  | int b=>obtain⟨t,rfl⟩:=rx;exact SeqAt.EqAt.str_int a t' b t
  | str b=>obtain⟨t,rfl⟩:=rx;exact SeqAt.EqAt.str_str a t' b t
  | _=>exact absurd (show false=true from fx) Ar
 | _=>exact absurd (show false=true from fy) Ar
def iA(x:V)(u:Ae):Bool:=match u with
 | .none=>kM .non x
 | .bool b=>kM (.bl b) x
 | .int i _=>kM (.int i) x
 | .str z _=>kM (.str z) x
 | _=>false
def FI{x y:V}{u:Ae}(r:RelV y u)(f:kL y=true):iA x u=kM y x:=by
 cases y with
 | non=>cases r;rfl
 | bl b=>cases r;rfl
 | int i=>obtain⟨t,rfl⟩:=r;rfl
 | str z=>obtain⟨t,rfl⟩:=r;rfl
 | _=>exact absurd (show false=true from f) Ar
def qR{x:V}:∀{xs:List V} {us:List Ae},a8 xs us->xs.all kL=true->us.any (iA x)=xs.any λy=>kM y x
 | _,_,.nil,_=>rfl
 | y::xs,u::us,.cons r t,f=>by
  rw[Mr,Co]at f;rw[Er,Er,FI r f.1,qR t f.2]
def qS{A:Ck}{s:Ag}{x:V}{v:Ae}(rx:RelV x v)(fx:kL x=true):∀{xs:List V} {us:List Ae},a8 xs us->xs.all kL=true->∀u∈us,SeqAt.EqAt A s u v (iA x u)
 | _,_,.nil,_=>λu hu=>by cases hu
 | y::xs,u::us,.cons r t,f=>λu' hu=>by
  rw[Mr,Co]at f;rcases Aj.mp hu with rfl|hu
  .rw[FI r f.1];exact T7 r rx f.1 fx
  .exact qS rx fx t f.2 u' hu
def inV(x:V)(xs:List V):Bool:=xs.any λy=>kM y x
def rIn(K:Ac)(neg:Bool):R2:=λx y H Q=>∃p xs,y=.ref p/\(bK K H p xs\/bS K H p xs)/\kL x=true/\xs.all kL=true/\Q (.bl (if neg then !inV x xs else inV x xs)) H
def T8:bG X (Cb .In) (rIn X.K false):=by
 intro pins s Z H x y v u Q I rx ry h;obtain⟨p,xs,rfl,hq,fx,fs,q⟩:=h;cases ry;rcases hq with hq|hq
 .obtain⟨its,r,pl,hz⟩:=I.list hq;refine SeqAt.in_listAt (iA x) pl.isList (λw hw=>qS rx fx r fs w (by simpa using hw)) ⟨.bl _,H,I,rfl,?_⟩;rw[show its.toArray.any (iA x)=its.any (iA x) by simp,qR r fs];exact q
 .obtain⟨its,r,pl,hz⟩:=I.tuple hq;refine SeqAt.in_tupleAt (iA x) pl (λw hw=>qS rx fx r fs w (by simpa using hw)) ⟨.bl _,H,I,rfl,?_⟩;rw[show its.toArray.any (iA x)=its.any (iA x) by simp,qR r fs];exact q
def T9:bG X (Cb .NotIn) (rIn X.K true):=by
 intro pins s Z H x y v u Q I rx ry h;obtain⟨p,xs,rfl,hq,fx,fs,q⟩:=h;cases ry;rcases hq with hq|hq
 .obtain⟨its,r,pl,hz⟩:=I.list hq;refine SeqAt.notIn_listAt (iA x) pl.isList (λw hw=>qS rx fx r fs w (by simpa using hw)) ⟨.bl _,H,I,rfl,?_⟩;rw[show its.toArray.any (iA x)=its.any (iA x) by simp,qR r fs];exact q
 .obtain⟨its,r,pl,hz⟩:=I.tuple hq;refine SeqAt.notIn_tupleAt (iA x) pl (λw hw=>qS rx fx r fs w (by simpa using hw)) ⟨.bl _,H,I,rfl,?_⟩;rw[show its.toArray.any (iA x)=its.any (iA x) by simp,qR r fs];exact q
def UA:dX X (.builtin "len") (λxs H Q=>∃p ys,xs=[.ref p]/\(bK X.K H p ys\/bS X.K H p ys)/\Q (.int ys.length) H):=by
 intro pins s Z H xs us Q I r h;obtain⟨p,ys,rfl,hq,q⟩:=h;obtain⟨u,rfl,rx⟩:=vals1 r;cases rx;have hn:=nV;rcases hq with hq|hq
 .obtain⟨its,r',pl,hz⟩:=I.list hq;have hlen:=r'.length;exact Calls.call_len_list pl.isList (by simp only[Bd]<;>lia) ⟨.int ys.length,H,I.tok _,⟨s.toks+1,by rw[Bd,hlen]⟩,q⟩
 .obtain⟨its,r',pl,hz⟩:=I.tuple hq;have hlen:=r'.length;exact len_tuple pl (by simp only[Bd]<;>lia) ⟨.int ys.length,H,I.tok _,⟨s.toks+1,by rw[Bd,hlen]⟩,q⟩
def UB:dX X (.builtin "len") (λxs H Q=>∃z,xs=[.str z]/\z.length<=Ao/\Q (.int z.length) H):=by
 intro pins s Z H xs us Q I r h;obtain⟨z,rfl,hz,q⟩:=h;obtain⟨u,rfl,t,rfl⟩:=vals1 r;have hn:=nV;exact len_str (by lia) ⟨.int z.length,H,I.tok _,⟨_,rfl⟩,q⟩
def dX.or{f:Ae}{r r':List V->Hp->VK->Prop}(h:dX X f r)(h':dX X f r'):dX X f (λxs H Q=>r xs H Q\/r' xs H Q):=by
 intro pins s Z H xs us Q I rs q;rcases q with q|q
 .exact h pins s Z H xs us Q I rs q
 .exact h' pins s Z H xs us Q I rs q
def UC:dX X (.type "list") (λxs H Q=>∃p ys,xs=[.ref p]/\(bK X.K H p ys\/bS X.K H p ys)/\∀l,H l=none->Q (.ref l) (aY H l (.lst ys))):=by
 intro pins s Z H xs us Q I r h;obtain⟨p,ys,rfl,hq,q⟩:=h;obtain⟨u,rfl,rx⟩:=vals1 r;cases rx;have fin:∀(its:List Ae),a8 ys its->ys.length<=Ao->∀(h':Heap) (c':Nat),(∀b o',s.heap.get? b=some o'->h'.get? b=some o')->
   h'.get? s.heap.objs.size=some {cls:=.type "list",dict:=none,data:=.seq its.toArray c',slots:=#[]}->EP X pins Z Q (.ref s.heap.objs.size) {s with heap:=h'}:=λits r' hz h' c' kp e=>
  ⟨.ref s.heap.objs.size,_,I.laid (t':=s.toks) kp (Ai _) (show cZ X.prog X.w _ h' _ (.lst ys) from⟨hz,its,c',r',e⟩),rfl,q _ (I.hok.fresh (Ai _))⟩
 rcases hq with hq|hq
 .obtain⟨its,r',pl,hz⟩:=I.list hq;have hlen:=r'.length;obtain⟨o,ho,hc,n,hd⟩:=pl.isList;exact call_list_seq p (.inl rfl) ho hc hd (λh' c' kp e=>fin its r' hz h' c' kp e) (by simp only[Bd]<;>lia)
 .obtain⟨its,r',pl,hz⟩:=I.tuple hq;have hlen:=r'.length;obtain⟨o,ho,hc,n,hd⟩:=pl;exact call_list_seq p (.inr rfl) ho hc hd (λh' c' kp e=>fin its r' hz h' c' kp e) (by simp only[Bd]<;>lia)
def UD:dX X (.type "tuple") (λxs H Q=>∃p ys,xs=[.ref p]/\((bK X.K H p ys/\∀l,H l=none->Q (.ref l) (aY H l (.tup ys)))\/(bS X.K H p ys/\Q (.ref p) H))):=by
 intro pins s Z H xs us Q I r h;obtain⟨p,ys,rfl,h⟩:=h;obtain⟨u,rfl,rx⟩:=vals1 r;cases rx;rcases h with⟨hq,q⟩|⟨hq,q⟩
 .obtain⟨its,r',pl,hz⟩:=I.list hq;have hlen:=r'.length;refine call_tuple_list pl.isList (λh' kp=>?_) (by simp only[Bd]<;>lia);have I1:Inv X pins Z H {s with heap:=h'}:=I.kept (t':=s.toks) kp;have I2:Inv X pins Z (aY H h'.objs.size (.tup ys)) {s with heap:=h'.push {cls:=.type "tuple",data:=.seq its.toArray}}:=
   I1.laid (t':=s.toks) (λb o e=>Af _ e) (Ai _) (show cZ X.prog X.w _ _ _ (.tup ys) from⟨hz,its,r',IsTup.new _ _⟩)
  exact⟨.ref h'.objs.size,_,I2,rfl,q _ (I1.hok.fresh (Ai _))⟩
 .obtain⟨its,r',pl,hz⟩:=I.tuple hq;exact call_tuple_same pl ⟨.ref p,H,I,rfl,q⟩
def tQ(K:Ac)(T:String)(x:V)(H:Hp):Prop:=match x with
 | .str _=>T = "str"
 | .int _=>T = "int"
 | .ref p=>(T = "list"/\∃xs,bK K H p xs)\/(T = "tuple"/\∃o,K.lookup p=some o/\o.cls=.type "tuple"/\o.dict=none)\/
   (T = "dict"/\((∃kvs,Rd H p (.dK kvs))\/∃kvs,Rd H p (.dT kvs)))\/(T = "set"/\∃S n,H p=some (.set S n))
 | _=>False
def FJ{pins:List (Addr×Obj)}{Z:St}{H:Hp}{s:Ag}{T:String}{x:V}{v:Ae}(I:Inv X pins Z H s)(r:RelV x v)(ty:tQ X.K T x H):
  s.TypeIs v T/\∀a,v=.ref a->∃ob,s.heap.get? a=some ob/\ob.dict=none:=by
 cases x with
 | str z=>
  obtain⟨t,rfl⟩:=r;cases (show T = "str" from ty);exact⟨typeIs_str s z t,λ_ e=>nomatch e⟩
 | int i=>
  obtain⟨t,rfl⟩:=r;cases (show T = "int" from ty);exact⟨typeIs_int s i t,λ_ e=>nomatch e⟩
 | ref p=>
  cases r;rcases ty with⟨rfl,xs,hq⟩|⟨rfl,o,hk,hc,hd⟩|⟨rfl,hk⟩|⟨rfl,S,n,hk⟩
  .obtain⟨its,_,pl,_⟩:=I.list hq;refine⟨pl.isList.typeIs,λa e=>?_⟩;cases e;obtain⟨o,n,e,c,hd,_⟩:=pl;exact⟨o,e,hd⟩
  .refine⟨⟨o,I.kIn p o hk,hc⟩,λa e=>?_⟩;cases e;exact⟨o,I.kIn _ o hk,hd⟩
  .have z:∃o,s.heap.get? p=some o/\o.ExactDict:=by
    rcases hk with⟨kvs,hk⟩|⟨kvs,hk⟩
    .obtain⟨_,_,_,_,o,_,_,e,ex,_⟩:=hk.ok I.hok;exact⟨o,e,ex⟩
    .obtain⟨_,_,_,_,o,_,_,e,ex,_⟩:=hk.ok I.hok;exact⟨o,e,ex⟩
   obtain⟨o,e,ex⟩:=z;refine⟨⟨o,e,ex.1⟩,λa e2=>?_⟩;cases e2;exact⟨o,e,ex.2.1⟩
  .obtain⟨o,_,_,_,e,ex,_⟩:=I.hok p _ hk;refine⟨⟨o,e,ex.1⟩,λa e2=>?_⟩;cases e2;exact⟨o,e,ex.2.1⟩
 | _=>exact Fv ty
def UE(K:Ac)(T:String)(r:V->List V->Hp->VK->Prop)(to:TE):TE:=λZ H Q=>to Z H λx H1=>tQ K T x H1/\r x [] H1 Q
def UG(K:Ac)(T:String)(r:V->List V->Hp->VK->Prop)(to:TE)(t:TA):TE:=λZ H Q=>to Z H λx H1=>tQ K T x H1/\t Z H1 λxs H2=>r x xs H2 Q
variable {o e:Expr}{es:List Expr}{to:TE}{t:TA}{name:Str}{apos cpos:Pos}{T id:String}{r:V->List V->Hp->VK->Prop}
def UH(pa:PlainAttrs T)(slot:Slot T name id)(hty:typeOf (.builtin id)=pure (.type "method_descriptor"))(hm:jE X id r)(ho:PE X o to)(hbase:Ja o name X.env (eval o X.env)=eval o X.env:=by rfl)(hline:(apos.endLine==cpos.line)=true:=by rfl):PE X (.Call (.Attribute o name apos) [] [] cpos) (UE X.K T r to):=by
 intro pins s Z H Q I h;refine wpAny_Call_method0_late hbase hline (bA (ho pins s Z H _ I h) λv s1 ⟨x,H1,I1,r1,ty,q1⟩=>?_);obtain⟨h1,h2⟩:=FJ I1 r1 ty;exact⟨T,id,pa,slot,hty,h1,h2,Calls.callWith_builtin rfl (PySem.evalArgs_none (hm pins s1 Z H1 x [] v [] Q I1 r1 .nil q1))⟩
def UI(pa:PlainAttrs T)(slot:Slot T name id)(hty:typeOf (.builtin id)=pure (.type "method_descriptor"))(hm:jE X id r)(ho:PE X o to)(ha:PA X (e::es) t)(hbase:Ja o name X.env (eval o X.env)=eval o X.env:=by rfl)(hfew:((Gx cpos (Bj (e::es) X.env)).all (λx=>!x.1)&&(backToKw cpos (Lf [] X.env)).all (λx=>x.1.isSome)
  &&decide ((e::es).length+([]:List Keyword).length+(if ([]:List Keyword).isEmpty then 0 else 1)<30))=true:=by rfl)(hline:(apos.endLine==cpos.line)=true:=by rfl)(hs:Bj (e::es) X.env=(false,eval e X.env)::Bj es X.env:=by rfl)(hplain:(Gx cpos (Bj es X.env)).any (·.1)=false:=by rfl):
  PE X (.Call (.Attribute o name apos) (e::es) [] cpos) (UG X.K T r to t):=by
 intro pins s Z H Q I h;refine wpAny_Call_method_late hbase hfew hline rfl (bA (ho pins s Z H _ I h) λv s1 ⟨x,H1,I1,r1,ty,q1⟩=>?_);obtain⟨h1,h2⟩:=FJ I1 r1 ty;refine⟨T,id,pa,slot,hty,h1,h2,?_⟩;have hA:=ha cpos pins s1 Z H1 _ I1 q1;rw[hs]at hA⊢;refine Calls.callWith_builtin (by show(false||(Gx cpos (Bj es X.env)).any (·.1))=false;rw[hplain]<;>rfl) (Calls.evalArgs_plain ?_);exact bA hA λus s2 ⟨vs,H2,I2,r2,q2⟩=>hm pins s2 Z H2 x vs v us Q I2 r1 r2 q2
end
def qT(X:Cx)(id:String)(r:V->List V->Hp->VK->Prop):Prop:=
 ∀(pins:List (Addr×Obj)) (s:Ag) (Z:St) (H:Hp) (x:V) (xs:List V) (v:Ae) (us:List Ae) (Q:VK),Inv X pins Z H s->RelV x v->a8 xs us->r x xs H Q->
  Be (Bn X.prog X.w) X.A (call (.builtin id) (v::us)) (EP X pins Z Q) X.xe s
def a8.one:∀{x:V} {us:List Ae},a8 [x] us->∃u,us=[u]/\RelV x u
 | _,_,.cons r .nil=>⟨_,rfl,r⟩
def a8.zero:∀{us:List Ae},a8 [] us->us=[]
 | _,.nil=>rfl
def a8.dropLast{xs:List V}{us:List Ae}(h:a8 xs us):a8 xs.dropLast us.dropLast:=by
 induction h with
 | nil=>exact .nil
 | cons r t ih=>
  cases t with
  | nil=>exact .nil
  | cons q t'=>exact .cons r ih
def a8.reverse{xs:List V}{us:List Ae}(h:a8 xs us):a8 xs.reverse us.reverse:=by
 induction h with
 | nil=>exact .nil
 | cons r t ih=>rw[Ks,Ks];exact a8.append ih (.cons r .nil)
def a8.rep{xs:List V}{us:List Ae}(h:a8 xs us):∀k:Nat,a8 (Bz k xs).flatten (Bz k us).flatten
 | 0=>.nil
 | k+1=>by
  rw[Fx,Fx,Gn,Gn];exact a8.append h (a8.rep h k)
def UJ{O:Type}(l:List O):l.eraseIdx (l.length-1)=l.dropLast:=by
 induction l with
 | nil=>rfl
 | cons a r ih=>
  cases r with
  | nil=>rfl
  | cons b r=>
   have e:(a::b::r).length-1=((b::r).length-1)+1:=by
    have h1:(a::b::r).length=r.length+2:=rfl;have h2:(b::r).length=r.length+1:=rfl;lia
   rw[e,List.eraseIdx_cons_succ,ih]
   all_goals rfl
def foldl_rep(its:List Ae):∀(k:Nat) (acc:List Ae),
  List.foldl (λx1 x2=>x1++x2) acc.toArray (Bz k its.toArray)=(acc++(Bz k its).flatten).toArray
 | 0,acc=>by simp
 | k+1,acc=>by
  have e:acc.toArray++its.toArray=(acc++its).toArray:=by simp
  have e2:(acc++its)++(Bz k its).flatten=acc++(Bz (k+1) its).flatten:=by
   rw[Fx,Gn,Hr]
  rw[<-e2,<-foldl_rep its k (acc++its),<-e,Fx,Dl]
section
variable {X:Cx}{pins:List (Addr×Obj)}{Z:St}{H:Hp}{s:Ag}{l b:Addr}{xs ys zs:List V}
def Inv.lset{its its':List Ae}{n:Nat}{f:Array Ae->Array Ae}{t':Nat}(I:Inv X pins Z H s)(hH:H l=some (.lst xs))(e:s.heap.get? l=some {cls:=.type "list",data:=.seq its.toArray n})(hf:f its.toArray=its'.toArray)(hv:a8 ys its')(hz:ys.length<=Ao):
  Inv X pins Z (aY H l (.lst ys)) {s with heap:=s.heap.update l (Jp f),toks:=t'}:=by
 have q:=PySem.IsL.update e f;rw[hf]at q;refine I.write (x:=l) (e:=l) (by rw[hH];exact trivial) (.inl rfl) (λb' u hb hu=>(Dc s.heap (Jp f) (Bi hb)).trans hu) ⟨_,q⟩ ?_;exact⟨hz,its',_,hv,q⟩
def Inv.lnew{its:List Ae}{t':Nat}(I:Inv X pins Z H s)(hv:a8 ys its)(hz:ys.length<=Ao):
  Inv X pins Z (aY H s.heap.objs.size (.lst ys)) {s with heap:=s.heap.push {cls:=.type "list",data:=.seq its.toArray},toks:=t'}:=
 I.laid (λ_ _ q=>Af _ q) (Ai _) ⟨hz,its,0,hv,Ba _ rfl⟩
def Inv.fresh(I:Inv X pins Z H s):H s.heap.objs.size=none:=I.hok.fresh (Ai _)
def Inv.lstM(I:Inv X pins Z H s)(hH:H l=some (.lst xs)):xs.length<=Ao/\∃(its:List Ae) (n:Nat),a8 xs its/\xs.length=its.length/\s.heap.get? l=some {cls:=.type "list",data:=.seq its.toArray n}:=by
 obtain⟨z,its,n,r,e⟩:=I.hok l _ hH;exact⟨z,its,n,r,r.length,e⟩
def FK{n:Nat}(h:n<=Ao):Ht n=false:=by
 unfold Ht;exact decide_eq_false (by lia)
end
section
variable {X:Cx}
def rAppend:V->List V->Hp->VK->Prop:=λx vs H Q=>∃l xs y,x=.ref l/\vs=[y]/\H l=some (.lst xs)/\xs.length<Ao/\Q .non (aY H l (.lst (xs++[y])))
def FL:qT X "list.append" rAppend:=by
 intro pins s Z H x vs v us Q I rx rv h;obtain⟨l,xs,y,rfl,rfl,hH,hz,q⟩:=h;cases rx;obtain⟨u,rfl,ru⟩:=rv.one;obtain⟨z,its,n,r,hl,e⟩:=I.lstM hH;refine Jz Cp ⟨_,e,rfl⟩ F.entry_list_append (F.args_list_append_2 _ _) (PySem.list_append l its.toArray n u (by rw[Bd];lia)) ⟨e,?_⟩;refine⟨.non,_,I.lset (its':=its++[u]) hH e (by simp) (r.append (.cons ru .nil)) ?_,rfl,q⟩;rw[Ak,Bl];lia
def rExtend:V->List V->Hp->VK->Prop:=λx vs H Q=>∃l b xs zs,x=.ref l/\vs=[.ref b]/\H l=some (.lst xs)/\H b=some (.lst zs)/\xs.length+zs.length<=Ao/\Q .non (aY H l (.lst (xs++zs)))
def FN:qT X "list.extend" rExtend:=by
 intro pins s Z H x vs v us Q I rx rv h;obtain⟨l,b,xs,zs,rfl,rfl,hH,hB,hz,q⟩:=h;cases rx;obtain⟨u,rfl,ru⟩:=rv.one;cases ru;obtain⟨z,its,n,r,hl,e⟩:=I.lstM hH;obtain⟨z2,its2,n2,r2,hl2,e2⟩:=I.lstM hB;have hsz:its.toArray.size+its2.toArray.size<=Ao:=by rw[Bd,Bd];lia
 have hlong:¬(!its.toArray.isEmpty&&Ht (its.toArray.size+its2.toArray.size))=true:=by
  rw[FK hsz,Bool.and_false];exact Ar
 refine Jz F.slot_list_extend ⟨_,e,rfl⟩ F.entry_list_extend (F.args_list_extend_2 _ _)
  (AutoSeq1.list_extend_list_list_0 l its.toArray n b its2.toArray n2 hlong (by rw[Bd];lia) (by lia)) ⟨e,e2,?_⟩
 refine⟨.non,_,I.lset (its':=its++its2) hH e (by simp) (r.append r2) ?_,rfl,q⟩;rw[Ak];lia
def rPop:V->List V->Hp->VK->Prop:=λx vs H Q=>∃l xs y,x=.ref l/\vs=[]/\H l=some (.lst xs)/\xs[xs.length-1]? = some y/\Q y (aY H l (.lst xs.dropLast))
def UK:qT X "list.pop" rPop:=by
 intro pins s Z H x vs v us Q I rx rv h;obtain⟨l,xs,y,rfl,rfl,hH,hy,q⟩:=h;cases rx;have hus:=rv.zero;subst hus;obtain⟨z,its,n,r,hl,e⟩:=I.lstM hH;obtain⟨u,hu,ru⟩:=r.get hy;have hy':its.toArray[its.toArray.size-1]? = some u:=by
  show its.toArray[its.length-1]? = some u;rw[<-Hf,<-hl];exact hu
 refine Jz Kg ⟨_,e,rfl⟩ F.entry_list_pop (F.args_list_pop_1 _) (MeetsSeq.list_pop_last l its.toArray n u hy' (by rw[Bd];lia)) ⟨e,?_⟩;refine⟨y,_,I.lset (its':=its.dropLast) hH e ?_ r.dropLast ?_,ru,q⟩
 .show its.toArray.eraseIdxIfInBounds (its.toArray.size-1)=its.dropLast.toArray;rw[Bd,List.eraseIdxIfInBounds_toArray,UJ]
 .rw[List.length_dropLast];lia
def rReverse:V->List V->Hp->VK->Prop:=λx vs H Q=>∃l xs,x=.ref l/\vs=[]/\H l=some (.lst xs)/\Q .non (aY H l (.lst xs.reverse))
def UL:qT X "list.reverse" rReverse:=by
 intro pins s Z H x vs v us Q I rx rv h;obtain⟨l,xs,rfl,rfl,hH,q⟩:=h;cases rx;have hus:=rv.zero;subst hus;obtain⟨z,its,n,r,hl,e⟩:=I.lstM hH;refine Jz F.slot_list_reverse ⟨_,e,rfl⟩ F.entry_list_reverse (F.args_list_reverse_1 _) (AutoSeq1.list_reverse_list_0 l its.toArray n (by rw[Bd];lia)) ⟨e,?_⟩;refine⟨.non,_,I.lset (its':=its.reverse) hH e (by simp) r.reverse ?_,rfl,q⟩;rw[List.length_reverse];lia
def UM:R2:=λx y H Q=>∃l b xs zs,x=.ref l/\y=.ref b/\H l=some (.lst xs)/\H b=some (.lst zs)/\xs.length+zs.length<=Ao/\∀p,H p=none->Q (.ref p) (aY H p (.lst (xs++zs)))
def UN:bG X (Fl .Add) UM:=by
 intro pins s Z H x y v u Q I rx ry h;obtain⟨l,b,xs,zs,rfl,rfl,hH,hB,hz,q⟩:=h;cases rx;cases ry;obtain⟨z,its,n,r,hl,e⟩:=I.lstM hH;obtain⟨z2,its2,n2,r2,hl2,e2⟩:=I.lstM hB;refine PySem.P.add_list e e2 ?_ (by rw[Bd,Bd];lia);have ea:its.toArray++its2.toArray=(its++its2).toArray:=by simp
 rw[ea];exact⟨.ref _,_,I.lnew (t':=s.toks) (r.append r2) (by rw[Ak];lia),rfl,q _ I.fresh⟩
def UO:R2:=λx y H Q=>∃l k xs,x=.ref l/\y=.int k/\H l=some (.lst xs)/\-(2 ^ 63)<=k/\k<2 ^ 63/\xs.length*k.toNat<=Ao/\
 ∀p,H p=none->Q (.ref p) (aY H p (.lst (Bz k.toNat xs).flatten))
def UP{O:Type}(xs:List O)(k:Nat):(Bz k xs).flatten.length=k*xs.length:=by
 induction k with
 | zero=>simp
 | succ k ih=>rw[Fx,Gn,Ak,ih,Nat.succ_mul,Nat.add_comm]
def UQ:bG X (Fl .Mult) UO:=by
 intro pins s Z H x y v u Q I rx ry h;obtain⟨l,k,xs,rfl,rfl,hH,h1,h2,hz,q⟩:=h;cases rx;obtain⟨t,rfl⟩:=ry;obtain⟨z,its,n,r,hl,e⟩:=I.lstM hH;have hlen:its.toArray.size*k.toNat<=Ao:=by rw[Bd,<-hl];exact hz
 have hcap:¬its.toArray.size*k.toNat > (2 ^ 63-1)/8:=by
  have:(Ao:Nat)<=(2 ^ 63-1)/8:=by decide
  lia
 have hfit:¬(!Builtin.List.listFitsIndex k)=true:=by
  rw[fitsIndex_both h1 h2];exact Ar
 have hlong:¬Ht (its.toArray.size*k.toNat)=true:=by
  rw[FK hlen];exact Ar
 have hnew:List.foldl (λx1 x2=>x1++x2) #[] (Bz (if its.toArray.isEmpty=true then 0 else k.toNat) its.toArray)=(Bz k.toNat its).flatten.toArray:=by
  have f0:∀m:Nat,List.foldl (λx1 x2=>x1++x2) #[] (Bz m its.toArray)=(Bz m its).flatten.toArray:=λm=>by
   have:=foldl_rep its m [];rw[Lm]at this;exact this
  rw[f0];cases its with
  | nil=>simp
  | cons a r'=>rw[if_neg (by simp)]
 refine wpAny_binaryOp_repeat_ref (T:="list") (U:="int") (by decide) ⟨_,e,rfl⟩ (λs'=>typeIs_int s' k t) noFill_list_mul F.fills_int_mul F.slot_int_rmul repeat_list F.slot_int_index.lookup
  (Jz F.slot_int_rmul (typeIs_int s k t) F.entry_int_rmul (F.args_int_rmul_2 _ _) (int___rmul___int_list k t l its.toArray n)
   ⟨e,rfl,⟨_,e,rfl⟩,Jz F.slot_list_mul ⟨_,e,rfl⟩ F.entry_list_mul (F.args_list_mul_2 _ _) (AutoListH.list___mul___list_int_3 l its.toArray n k t hfit hcap hlong) ⟨e,?_⟩⟩)
 rw[hnew];exact⟨.ref _,_,I.lnew (t':=s.toks) (r.rep k.toNat) (by rw[UP,Nat.mul_comm];exact hz),rfl,q _ I.fresh⟩
end
section
variable {U:Type}[DecidableEq U]
def gE(kvs:List (U×V))(k:U):Option V:=(kvs.find? λkv=>decide (kv.1=k)).map (·.2)
def eL(kvs:List (U×V))(k:U)(v:V):List (U×V):=
 if (kvs.any λkv=>decide (kv.1=k))=true then kvs.map (λkv=>if kv.1=k then(kv.1,v) else kv) else kvs++[(k,v)]
def nY(kvs:List (U×V))(k:U):List (U×V):=kvs.filter λkv=>decide (kv.1≠k)
def tR{p:U×V}{r:List (U×V)}{k:U}(e:p.1=k):gE (p::r) k=some p.2:=by simp[gE,Fj,e]
def tS{p:U×V}{r:List (U×V)}{k:U}(e:¬p.1=k):gE (p::r) k=gE r k:=by simp[gE,Fj,e]
def FO(k:U):∀kvs:List (U×V),(kvs.any λkv=>decide (kv.1=k))=(gE kvs k).isSome
 | []=>rfl
 | p::r=>by
  rw[Er]
  by_cases e:p.1=k
  .simp only[tR e,decide_eq_true e,Bool.true_or,Option.isSome_some]
  .rw[tS e,decide_eq_false e,Bool.false_or];exact FO k r
def pC(kvs:List (U×V))(k:U)(v:V):(eL kvs k v).length<=kvs.length+1:=by
 unfold eL;split
 .rw[Ab];lia
 .rw[Ak,Br,Jx];lia
def fX.isSome_eq{o:Option V}{u:Option Ae}(r:fX o u):o.isSome=u.isSome:=by
 cases o with
 | none=>cases u with
  | none=>rfl
  | some _=>exact(show False from r).elim
 | some _=>cases u with
  | none=>exact(show False from r).elim
  | some _=>rfl
def fX.getD{o:Option V}{u:Option Ae}{d:V}{d':Ae}(r:fX o u)(rd:RelV d d'):RelV (o.getD d) (u.getD d'):=by
 cases o with
 | none=>cases u with
  | none=>exact rd
  | some _=>exact(show False from r).elim
 | some _=>cases u with
  | none=>exact(show False from r).elim
  | some _=>exact r
def KV.val{kvs:List (U×V)}{vs:List (U×Ae)}(r:KV kvs vs)(k:U):fX (gE kvs k) (valueAt vs k):=by
 unfold KV at r
 induction r with
 | nil=>exact True.intro
 | @cons p q ps qs h t ih=>
  obtain⟨h1,h2⟩:=h
  by_cases e:p.1=k
  .have e':q.1=k:=h1.symm.trans e;have b:valueAt (q::qs) k=some q.2:=by simp[valueAt,Fj,e']
   rw[tR e,b];exact h2
  .have e':¬q.1=k:=λz=>e (h1.trans z);have b:valueAt (q::qs) k=valueAt qs k:=by simp[valueAt,Fj,e']
   rw[tS e,b];exact ih
def KV.any{kvs:List (U×V)}{vs:List (U×Ae)}(r:KV kvs vs)(k:U):(kvs.any λkv=>decide (kv.1=k))=vs.any λkv=>decide (kv.1=k):=by
 unfold KV at r
 induction r with
 | nil=>rfl
 | cons h t ih=>rw[Er,Er,ih,h.1]
def KV.repl{kvs:List (U×V)}{vs:List (U×Ae)}(r:KV kvs vs)(k:U){y:V}{u:Ae}(ry:RelV y u):
  KV (kvs.map λkv=>if kv.1=k then(kv.1,y) else kv) (vs.map λkv=>if kv.1=k then(kv.1,u) else kv):=by
 unfold KV at r⊢
 induction r with
 | nil=>exact .nil
 | @cons p q ps qs h t ih=>
  rw[Bb,Bb];refine .cons ?_ ih;obtain⟨h1,h2⟩:=h
  by_cases e:p.1=k
  .rw[if_pos e,if_pos (h1.symm.trans e)];exact⟨h1,ry⟩
  .rw[if_neg e,if_neg (λz=>e (h1.trans z))];exact⟨h1,h2⟩
def KV.put{kvs:List (U×V)}{vs:List (U×Ae)}(r:KV kvs vs)(k:U){y:V}{u:Ae}(ry:RelV y u):KV (eL kvs k y) (stored vs k u):=by
 unfold eL stored;rw[r.any k]
 by_cases e:(vs.any λkv=>decide (kv.1=k))=true
 .rw[if_pos e,if_pos e];exact r.repl k ry
 .rw[if_neg e,if_neg e];exact Paired.snoc r ⟨rfl,ry⟩
def KV.length{kvs:List (U×V)}{vs:List (U×Ae)}(r:KV kvs vs):kvs.length=vs.length:=Ef r
def UR(kvs:List (U×V))(k:U):(nY kvs k).length<=kvs.length:=Hi _ _
end
def lO{P:Bt}{w:Cm}{k:aE}{u:Ae}(r:RelV (kV k) u):(dO P w).is k u=true:=by
 cases k with
 | inl i=>obtain⟨t,e⟩:=(show ∃t,u=Value.int i t from r);subst e;exact OV P w i t
 | inr x=>obtain⟨t,e⟩:=(show ∃t,u=Value.str x t from r);subst e;exact OW P w x t
def FP{P:Bt}{w:Cm}:∀{ks:List aE} {us:List Ae},a8 (ks.map kV) us->ItemsAre (dO P w) ks us
 | [],_,r=>by rw[Fu]at r;cases r;exact .nil
 | k::ks,_,r=>by
  rw[Bb]at r;cases r with
  | cons h t=>exact .cons (lO h) (FP t)
abbrev KT(H:Hp):List (List aE×V)->List (List aE×Addr×Ae)->Prop:=Fs λp q=>p.1=q.1/\H q.2.1=some (.tup (p.1.map kV))/\RelV p.2 q.2.2
def KT.val{H:Hp}{kvs:List (List aE×V)}{xs:List (List aE×Addr×Ae)}(r:KT H kvs xs)(k:List aE):fX (gE kvs k) ((Lv xs k).map (·.2)):=by
 induction r with
 | nil=>exact True.intro
 | @cons p q ps qs h t ih=>
  obtain⟨h1,_,h2⟩:=h
  by_cases e:p.1=k
  .have e':q.1=k:=h1.symm.trans e;have b:Lv (q::qs) k=some q.2:=by simp[Lv,Fj,e']
   rw[tR e,b];exact h2
  .have e':¬q.1=k:=λz=>e (h1.trans z);have b:Lv (q::qs) k=Lv qs k:=by simp[Lv,Fj,e']
   rw[tS e,b];exact ih
def KT.repl{H:Hp}{kvs:List (List aE×V)}{xs:List (List aE×Addr×Ae)}(r:KT H kvs xs)(k:List aE){y:V}{u:Ae}(ry:RelV y u):
  KT H (kvs.map λkv=>if kv.1=k then(kv.1,y) else kv) (xs.map (putAt k u)):=by
 induction r with
 | nil=>exact .nil
 | @cons p q ps qs h t ih=>
  rw[Bb,Bb];refine .cons ?_ ih;obtain⟨h1,h2,h3⟩:=h;unfold putAt
  by_cases e:p.1=k
  .rw[if_pos e,if_pos (h1.symm.trans e)];exact⟨h1,h2,ry⟩
  .rw[if_neg e,if_neg (λz=>e (h1.trans z))];exact⟨h1,h2,h3⟩
def KT.put{H:Hp}{kvs:List (List aE×V)}{xs:List (List aE×Addr×Ae)}(r:KT H kvs xs)(k:List aE){b:Addr}{y:V}{u:Ae}(hb:H b=some (.tup (k.map kV)))(ry:RelV y u):
  KT H (eL kvs k y) (My xs k b u):=by
 have e:(kvs.any λkv=>decide (kv.1=k))=(Lv xs k).isSome:=by
  rw[FO,(r.val k).isSome_eq,Iv]
 unfold eL My;rw[e]
 by_cases q:(Lv xs k).isSome=true
 .rw[if_pos q,if_pos q];exact r.repl k ry
 .rw[if_neg q,if_neg q];exact Paired.snoc r ⟨rfl,hb,ry⟩
def KT.keeps{H H':Hp}{kvs:List (List aE×V)}{xs:List (List aE×Addr×Ae)}(r:KT H kvs xs)(ht:∀b ys,H b=some (.tup ys)->H' b=some (.tup ys)):KT H' kvs xs:=
 Paired.mapP r λ_ _ z=>⟨z.1,ht _ _ z.2.1,z.2.2⟩
section
variable {P:Bt}{w:Cm}{H:Hp}{h:Heap}{a:Addr}
def FQ{u:HO}(ok:cR P w H h)(e:Rd H a u):cZ P w H h a u:=e.ok ok
def mY{kvs:List (aE×V)}(ok:cR P w H h)(e:Rd H a (.dK kvs)):kvs.length<=Ao/\(a==Ga)=false/\∃vs,KV kvs vs/\h.DictOf (dO P w) a vs:=
 show cZ P w H h a (.dK kvs) from FQ ok e
def FR{kvs:List (aE×V)}(ok:cR P w H h)(e:H a=some (.dK kvs)):kvs.length<=Ao/\(a==Ga)=false/\∃vs,KV kvs vs/\h.DictOf (dO P w) a vs:=mY ok (.inl e)
def j0{ks:List aE}(ok:cR P w H h)(e:H a=some (.tup (ks.map kV))):(Fz (dO P w)).is h ks a:=by
 obtain⟨_,its,r,o,h1,h2,n,h3⟩:=(show cZ P w H h a (.tup (ks.map kV)) from ok a _ e);exact⟨o,its.toArray,n,h1,h2,h3,by simpa using FP r⟩
def nZ{kvs:List (List aE×V)}(ok:cR P w H h)(e:Rd H a (.dT kvs)):kvs.length<=Ao/\(a==Ga)=false/\
  ∃xs,KT H kvs xs/\h.DictOfH (Fz (dO P w)) a xs:=by
 obtain⟨z,y,xs,r,o,es,ep,h1,h2,h3,h4,h5⟩:=(show cZ P w H h a (.dT kvs) from FQ ok e);refine⟨z,y,xs,r,o,es,ep,h1,h2,h3,h4,λx hx=>?_,h5⟩;have all:∀{l:List (List aE×V)} {m:List (List aE×Addr×Ae)},KT H l m->∀x∈m,(Fz (dO P w)).is h x.1 x.2.1:=by
  intro l m q
  induction q with
  | nil=>intro x hx;exact nomatch hx
  | @cons p q ps qs hq t ih=>
   intro x hx;rcases Aj.mp hx with e|hx
   .subst e;exact j0 ok (by rw[<-hq.1];exact hq.2.1)
   .exact ih x hx
 exact all r x hx
def tT{kvs:List (List aE×V)}(ok:cR P w H h)(e:H a=some (.dT kvs)):kvs.length<=Ao/\(a==Ga)=false/\
  ∃xs,KT H kvs xs/\h.DictOfH (Fz (dO P w)) a xs:=nZ ok (.inl e)
end
def iB(H:Hp)(a:Addr)(y:V)(r:Option V):Prop:=
 (∃kvs k,Rd H a (.dK kvs)/\y=kV k/\r=gE kvs k)\/∃kvs k b,Rd H a (.dT kvs)/\y=.ref b/\H b=some (.tup (k.map kV))/\r=gE kvs k
def mZ(H:Hp)(a:Addr)(y v:V)(H':Hp):Prop:=
 (∃kvs k,H a=some (.dK kvs)/\y=kV k/\kvs.length<Ao/\H'=aY H a (.dK (eL kvs k v)))\/
 ∃kvs k b,H a=some (.dT kvs)/\y=.ref b/\H b=some (.tup (k.map kV))/\kvs.length<Ao/\H'=aY H a (.dT (eL kvs k v))
def mZ.k{H:Hp}{a:Addr}{kvs:List (aE×V)}{k:aE}{v:V}(e:H a=some (.dK kvs))(hl:kvs.length<Ao):mZ H a (kV k) v (aY H a (.dK (eL kvs k v))):=.inl ⟨kvs,k,e,rfl,hl,rfl⟩
def mZ.t{H:Hp}{a b:Addr}{kvs:List (List aE×V)}{k:List aE}{v:V}(e:H a=some (.dT kvs))(eb:H b=some (.tup (k.map kV)))(hl:kvs.length<Ao):
  mZ H a (.ref b) v (aY H a (.dT (eL kvs k v))):=.inr ⟨kvs,k,b,e,rfl,eb,hl,rfl⟩
section
variable {X:Cx}{pins:List (Addr×Obj)}{Z:St}{H:Hp}{s:Ag}{a:Addr}{y v:V}{u r:Ae}{o:Option V}{A:Ck}{E:Ae->Ag->Prop}
def Inv.big(I:Inv X pins Z H s):Ga<s.heap.objs.size:=by
 have h:Dh<s.heap.objs.size:=(I.mod.glob.keeps I.bk).lt;exact Nat.lt_trans (by decide) h
def US{Q:Ae->Ag->Prop}(hu:A.units+1<Ez)(I:Inv X pins Z H s)(g:iB H a y (some v))(ry:RelV y u)(h:∀w' s',Inv X pins Z H s'->RelV v w'->Q w' s'):
  Be (Bn X.prog X.w) A (getItem (.ref a) u) Q E s:=by
 rcases g with⟨kvs,k,e,ey,l⟩|⟨kvs,k,b,e,ey,eb,l⟩
 .subst ey;obtain⟨z,hd,vs,rel,dd⟩:=mY I.hok e;obtain⟨w',hw,rw'⟩:=fX.some_of (v:=v) (o:=valueAt vs k) (by rw[l];exact rel.val k);exact wpAny_getItem_of (lO ry) dd.mapOf hw (h w' _ (I.tok _) rw')
 .subst ey;cases (show u=Value.ref b from ry);obtain⟨z,hd,xs,rel,dd⟩:=nZ I.hok e;obtain⟨w',hw,rw'⟩:=fX.some_of (v:=v) (o:=(Lv xs k).map (·.2)) (by rw[l];exact rel.val k);obtain⟨p,hp,hp2⟩:=Bf.mp hw;refine wpAny_getItem_heap (Fb hu) (j0 I.hok eb) dd hp ?_;rw[hp2];exact h w' _ (I.tok _) rw'
def UT{Q:Ae->Ag->Prop}(hu:A.units+1<Ez)(I:Inv X pins Z H s)(g:iB H a y o)(ry:RelV y u)(h:∀s',Inv X pins Z H s'->Q (.bool o.isSome) s'):
  Be (Bn X.prog X.w) A (Cb .In u (.ref a)) Q E s:=by
 rcases g with⟨kvs,k,e,ey,l⟩|⟨kvs,k,b,e,ey,eb,l⟩
 .subst ey;obtain⟨z,hd,vs,rel,dd⟩:=mY I.hok e;refine wpAny_in_of (lO ry) hd dd.mapOf ?_;rw[<-(rel.val k).isSome_eq,<-l];exact h _ (I.tok _)
 .subst ey;cases (show u=Value.ref b from ry);obtain⟨z,hd,xs,rel,dd⟩:=nZ I.hok e;refine wpAny_in_heap (Fb hu) (j0 I.hok eb) hd dd ?_;have q:=(rel.val k).isSome_eq;rw[Iv]at q;rw[<-q,<-l];exact h _ (I.tok _)
def UU{Q:Ae->Ag->Prop}(hu:A.units+1<Ez)(I:Inv X pins Z H s)(g:iB H a y o)(ry:RelV y u)(h:∀s',Inv X pins Z H s'->Q (.bool (!o.isSome)) s'):
  Be (Bn X.prog X.w) A (Cb .NotIn u (.ref a)) Q E s:=by
 rcases g with⟨kvs,k,e,ey,l⟩|⟨kvs,k,b,e,ey,eb,l⟩
 .subst ey;obtain⟨z,hd,vs,rel,dd⟩:=mY I.hok e;refine wpAny_notIn_of (lO ry) hd dd.mapOf ?_;rw[<-(rel.val k).isSome_eq,<-l];exact h _ (I.tok _)
 .subst ey;cases (show u=Value.ref b from ry);obtain⟨z,hd,xs,rel,dd⟩:=nZ I.hok e;refine wpAny_notIn_heap (Fb hu) (j0 I.hok eb) hd dd ?_;have q:=(rel.val k).isSome_eq;rw[Iv]at q;rw[<-q,<-l];exact h _ (I.tok _)
def pD{h':Heap}{t':Nat}{ob:HO}(I:Inv X pins Z H s)(mu:qJ (H a))(hs:Eu a s.heap h')(he:∃q,h'.get? a=some q)(new:cZ X.prog X.w (aY H a ob) h' a ob):
  Inv X pins Z (aY H a ob) {s with heap:=h',toks:=t'}:=
 I.write (x:=a) (e:=a) mu (.inl rfl) (λb q hb z=>(hs.2 b hb).trans z) he new
def FT{P:Bt}{w:Cm}{H':Hp}{h':Heap}{kvs:List (aE×V)}{vs:List (aE×Ae)}(z:kvs.length<=Ao)(hd:(a==Ga)=false)(rel:KV kvs vs)(dd:h'.DictOf (dO P w) a vs):
  cZ P w H' h' a (.dK kvs):=⟨z,hd,vs,rel,dd⟩
def UW{H':Hp}{Q:Unit->Ag->Prop}(hu:A.units+1<Ez)(I:Inv X pins Z H s)(g:mZ H a y v H')(ry:RelV y u)(rv:RelV v r)(h:∀s',Inv X pins Z H' s'->Q () s'):
  Be (Bn X.prog X.w) A (setItem (.ref a) u r) Q E s:=by
 rcases g with⟨kvs,k,e,ey,l,eH⟩|⟨kvs,k,b,e,ey,eb,l,eH⟩
 .subst ey eH;obtain⟨z,hd,vs,rel,dd⟩:=FR I.hok e;have hz:vs.length<=Ao:=by rw[<-rel.length];exact z
  have hl:(eL kvs k v).length<=Ao:=by have:=pC kvs k v;lia
  refine wpAny_setItem_pairs (hsz:=hz) (lO ry) dd λh' dd' hs=>h _ ?_;have he:∃q,h'.get? a=some q:=let ⟨q,_,_,hq,_⟩:=dd';⟨q,hq⟩;exact pD I (by rw[e];exact True.intro) hs he (FT hl hd (rel.put k rv) dd')
 .subst ey eH;cases (show u=Value.ref b from ry);obtain⟨z,hd,xs,rel,dd⟩:=tT I.hok e;have hz:xs.length<=Ao:=by rw[<-Ef rel];exact z
  have hl:(eL kvs k v).length<=Ao:=by have:=pC kvs k v;lia
  refine wpAny_setItem_heap (hsz:=hz) (Fb hu) (j0 I.hok eb) dd λh' dd' hs=>h _ ?_;obtain⟨q,es,ep,hq,h2,h3,h4,_,h5⟩:=dd';refine pD I (by rw[e];exact True.intro) hs ⟨q,hq⟩ ⟨hl,hd,_,(rel.put k eb rv).keeps λc ys ec=>?_,q,es,ep,hq,h2,h3,h4,h5⟩;rw[bF (tB ec e (λz=>nomatch z))];exact ec
end
section
variable {X:Cx}{pins:List (Addr×Obj)}{Z:St}{H:Hp}{s:Ag}{a:Addr}{kvs:List (aE×V)}{k:aE}{u:Ae}{A:Ck}{E:Ae->Ag->Prop}
def UX{Q:Ae->Ag->Prop}(I:Inv X pins Z H s)(e:Rd H a (.dK kvs))(h:∀t s',Inv X pins Z H s'->Q (.int kvs.length t) s'):Be (Bn X.prog X.w) A (call (.builtin "len") [.ref a]) Q E s:=by
 obtain⟨z,hd,vs,rel,dd⟩:=mY I.hok e;refine call_len_dict hd dd (by rw[<-rel.length];rw[Ke]at z;lia) ?_;rw[<-rel.length];exact h _ _ (I.tok _)
end
def UY{X:Cx}{pins:List (Addr×Obj)}{Z:St}{H:Hp}{s:Ag}{a:Addr}{y:V}{o:Option V}(I:Inv X pins Z H s)(g:iB H a y o):s.TypeIs (.ref a) "dict":=by
 rcases g with⟨kvs,k,e,_,_⟩|⟨kvs,k,b,e,_,_,_⟩
 .obtain⟨_,_,vs,_,dd⟩:=mY I.hok e;exact dd.typeIs
 .obtain⟨_,_,xs,_,dd⟩:=nZ I.hok e;exact dd.typeIs
def FU{P:Bt}{w:Cm}{H:Hp}(h:Heap)(hb:Ga<h.objs.size):cZ P w H (h.push {cls:=.type "dict",data:=.dict #[]}) h.objs.size (.dK []):=
 ⟨Ca _,beq_eq_false_iff_ne.mpr (Bi (Bs hb)),[],.nil,Heap.DictOf.new h⟩
def FV{P:Bt}{w:Cm}{H:Hp}(h:Heap)(hb:Ga<h.objs.size):cZ P w H (h.push {cls:=.type "dict",data:=.dict #[]}) h.objs.size (.dT []):=
 ⟨Ca _,beq_eq_false_iff_ne.mpr (Bi (Bs hb)),[],.nil,_,#[],0,Ba _ rfl,⟨rfl,rfl,rfl⟩,rfl,rfl,Cq⟩
def UZ:TE:=λ_ H Q=>∀p,H p=none->Q (.ref p) (aY H p (.dK []))
def U0:TE:=λ_ H Q=>∀p,H p=none->Q (.ref p) (aY H p (.dT []))
section
variable {X:Cx}{pos:Pos}
def U1:PE X (.Dict [] [] pos) UZ:=λpins s Z H Q I h=>
 wpAny_Dict_empty ⟨.ref s.heap.objs.size,_,I.laid (a:=s.heap.objs.size) (o:=.dK []) (t':=s.toks) (λ_ _ q=>Af _ q) (Ai _) (FU s.heap I.big),rfl,h _ (I.hok.fresh (Ai _))⟩
def U2:PE X (.Dict [] [] pos) U0:=λpins s Z H Q I h=>
 wpAny_Dict_empty ⟨.ref s.heap.objs.size,_,I.laid (a:=s.heap.objs.size) (o:=.dT []) (t':=s.toks) (λ_ _ q=>Af _ q) (Ai _) (FV s.heap I.big),rfl,h _ (I.hok.fresh (Ai _))⟩
end
def tU:List (TE×TE)->St->Hp->(List (V×V)->Hp->Prop)->Prop
 | [],_,H,Q=>Q [] H
 | (tk,tv)::r,Z,H,Q=>tk Z H λx H1=>tv Z H1 λy H2=>tU r Z H2 λps H3=>Q ((x,y)::ps) H3
abbrev VV:List (V×V)->List (Ae×Ae)->Prop:=Fs λp q=>RelV p.1 q.1/\RelV p.2 q.2
def tV(X:Cx)(pos:Pos)(keys:List (Option Expr))(values:List Expr)(trs:List (TE×TE)):Prop:=
 ∀(pins:List (Addr×Obj)) (s:Ag) (Z:St) (H:Hp) (Q:List (V×V)->Hp->Prop),Inv X pins Z H s->tU trs Z H Q->
  Be (Bn X.prog X.w) X.A (evalPairs (pairTrees keys values X.env pos)) (λvs s'=>∃ps H',Inv X pins Z H' s'/\VV ps vs/\Q ps H') X.xe s
def FX{X:Cx}{pos:Pos}:tV X pos [] [] []:=λpins s Z H Q I h=>pairTrees_nil_walk ⟨[],H,I,.nil,h⟩
def FY{X:Cx}{pos:Pos}{k v:Expr}{ks:List (Option Expr)}{vs:List Expr}{tk tv:TE}{trs:List (TE×TE)}(hk:PE X k tk)(hv:PE X v tv)(hr:tV X pos ks vs trs):
  tV X pos (some k::ks) (v::vs) ((tk,tv)::trs):=λpins s Z H Q I h=>
 pairTrees_cons_walk (bA (hk pins s Z H _ I h) λu s1 ⟨x,H1,I1,rx,q1⟩=>bA (hv pins s1 Z H1 _ I1 q1) λw2 s2 ⟨y,H2,I2,ry,q2⟩=>
  bA (hr pins s2 Z H2 _ I2 q2) λws s3 ⟨ps,H3,I3,rel,q3⟩=>⟨(x,y)::ps,H3,I3,.cons ⟨rx,ry⟩ rel,q3⟩)
def qU(kvs more:List (aE×V)):List (aE×V):=more.foldl (λacc kv=>eL acc kv.1 kv.2) kvs
def KV.merge:∀{more:List (aE×V)} {rs:List (aE×Ae)} {kvs:List (aE×V)} {vs:List (aE×Ae)},KV more rs->KV kvs vs->KV (qU kvs more) (merged vs rs):=by
 intro more rs kvs vs r;unfold KV at r
 induction r generalizing kvs vs with
 | nil=>intro q;exact q
 | @cons p q ps qs h t ih=>
  intro r0;have e:KV (eL kvs p.1 p.2) (stored vs q.1 q.2):=by
   have:=r0.put p.1 h.2;rw[<-h.1];exact this
  exact ih e
def FZ:∀(more kvs:List (aE×V)),(qU kvs more).length<=kvs.length+more.length
 | [],kvs=>by show kvs.length<=kvs.length+0;lia
 | p::r,kvs=>by
  have h1:=FZ r (eL kvs p.1 p.2);have h2:=pC kvs p.1 p.2;show(qU (eL kvs p.1 p.2) r).length<=_;rw[Br];lia
def F0{P:Bt}{w:Cm}:∀{kvs:List (aE×V)} {ws:List (Ae×Ae)},VV (kvs.map λkv=>(kV kv.1,kv.2)) ws->∃rs,Carries (dO P w) ws rs/\KV kvs rs
 | [],_,r=>by rw[Fu]at r;cases r;exact⟨[],True.intro,.nil⟩
 | p::kvs,_,r=>by
  rw[Bb]at r;cases r with
  | @cons a b as bs h t=>
   obtain⟨rs,c,q⟩:=F0 (P:=P) (w:=w) t;obtain⟨b1,b2⟩:=b;exact⟨(p.1,b2)::rs,⟨lO h.1,rfl,c⟩,.cons ⟨rfl,h.2⟩ q⟩
def U3(trs:List (TE×TE)):TE:=λZ H Q=>∀p,H p=none->tU trs Z (aY H p (.dK [])) λps H2=>H2 p=some (.dK [])/\∃kvs:List (aE×V),ps=kvs.map (λkv=>(kV kv.1,kv.2))/\kvs.length<=15/\Q (.ref p) (aY H2 p (.dK (qU [] kvs)))
def U4{X:Cx}{pos:Pos}{keys:List (Option Expr)}{values:List Expr}{trs:List (TE×TE)}(h:tV X pos keys values trs)(hall:keys.all (·.isSome)=true)(hl:keys.length=values.length)(h0:keys≠[])(h15:keys.length<=15):PE X (.Dict keys values pos) (U3 trs):=by
 intro pins s Z H Q I q;have hn:=I.hok.fresh (Ai s.heap.objs.size);have I1:=I.laid (a:=s.heap.objs.size) (o:=.dK []) (h':=s.heap.push {cls:=.type "dict",data:=.dict #[]}) (t':=s.toks) (λ_ _ q=>Af _ q) (Ai _) (FU s.heap I.big);refine wpAny_Dict_walk (knd:=dO X.prog X.w) hall hl h0 h15 (bA (h pins _ Z _ _ I1 (q _ hn)) λws s2 ⟨ps,H2,I2,rel,e,kvs,ep,lk,q2⟩=>?_);subst ep;obtain⟨rs,c,rk⟩:=F0 (P:=X.prog) (w:=X.w) rel;obtain⟨z,hd,vs0,r0,dd⟩:=FR I2.hok e;cases r0;refine⟨rs,c,dd,λh' dd' hs=>⟨.ref s.heap.objs.size,_,?_,rfl,q2⟩⟩;have hz:(qU [] kvs).length<=Ao:=by
  have h1:=FZ kvs [];rw[Jx]at h1;rw[Ke];lia
 have he:∃q,h'.get? s.heap.objs.size=some q:=let ⟨q,_,_,hq,_⟩:=dd';⟨q,hq⟩;exact pD I2 (by rw[e];exact True.intro) hs he (FT hz hd (rk.merge .nil) dd')
section
variable {X:Cx}{pins:List (Addr×Obj)}{Z:St}{H:Hp}{s:Ag}{a:Addr}{y d:V}{u r:Ae}{o:Option V}{A:Ck}{E:Ae->Ag->Prop}
def F1{Q:Ae->Ag->Prop}(hu:A.units+1<Ez)(I:Inv X pins Z H s)(g:iB H a y o)(ry:RelV y u)(h:∀w' s',Inv X pins Z H s'->RelV (o.getD .non) w'->Q w' s'):
  Be (Bn X.prog X.w) A (call (.builtin "dict.get") [.ref a,u]) Q E s:=by
 rcases g with⟨kvs,k,e,ey,l⟩|⟨kvs,k,b,e,ey,eb,l⟩
 .subst ey;obtain⟨z,hd,vs,rel,dd⟩:=mY I.hok e;refine Ko Iy dd.typeIs Ir (PySem.F.args_dict_get_2 _ _) (meets_dict_get (dO X.prog X.w) a (lO ry) hd) ⟨_,dd.mapOf,h _ _ (I.tok _) ?_⟩;rw[l];exact(rel.val k).getD rfl
 .subst ey;cases (show u=Value.ref b from ry);obtain⟨z,hd,xs,rel,dd⟩:=nZ I.hok e;refine Ko Iy dd.typeIs Ir (PySem.F.args_dict_get_2 _ _) (meetsH_dict_get (Fz (dO X.prog X.w)) a b hd) ⟨Fb hu,k,xs,j0 I.hok eb,dd,h _ _ (I.tok _) ?_⟩;rw[l];exact(rel.val k).getD rfl
def F5{Q:Ae->Ag->Prop}(hu:A.units+1<Ez)(I:Inv X pins Z H s)(g:iB H a y o)(ry:RelV y u)(rd:RelV d r)(h:∀w' s',Inv X pins Z H s'->RelV (o.getD d) w'->Q w' s'):
  Be (Bn X.prog X.w) A (call (.builtin "dict.get") [.ref a,u,r]) Q E s:=by
 rcases g with⟨kvs,k,e,ey,l⟩|⟨kvs,k,b,e,ey,eb,l⟩
 .subst ey;obtain⟨z,hd,vs,rel,dd⟩:=mY I.hok e;refine Ko Iy dd.typeIs Ir (PySem.F.args_dict_get_3 _ _ _) (meets_dict_get_default (dO X.prog X.w) a (lO ry) hd r) ⟨_,dd.mapOf,h _ _ (I.tok _) ?_⟩;rw[l];exact(rel.val k).getD rd
 .subst ey;cases (show u=Value.ref b from ry);obtain⟨z,hd,xs,rel,dd⟩:=nZ I.hok e;refine Ko Iy dd.typeIs Ir (PySem.F.args_dict_get_3 _ _ _) (meetsH_dict_get_default (Fz (dO X.prog X.w)) a b hd r) ⟨Fb hu,k,xs,j0 I.hok eb,dd,h _ _ (I.tok _) ?_⟩;rw[l];exact(rel.val k).getD rd
end
end L2
namespace Att
open PySem PySem.W PySem.Calls PyProof.Rows
def U5{P:Params}{h:Heap}:∀(ns:List Int) (vs:List Ae),WellAll P h vs (ns.map WData.int)->Nc vs ns:=by
 intro ns
 induction ns with
 | nil=>
  intro vs w;rw[Fu]at w;cases w;exact .nil
 | cons n ns ih=>
  intro vs w;rw[Bb]at w;cases w with
  | cons a b=>
   cases a;exact .cons _ _ (ih _ b)
def U6{l:OpenLaw}{n:Nat}(hn:l.most=some n){P:Params}{h:Heap}{args:List WData}{vals:List Ae}(hpre:l.row.toRowW.claim.pre args=true)(hwl:WellAll P h vals args):
  ∃a vs ns,vals=[Value.ref a]/\args=[WData.list (ns.map WData.int)]/\h.get? a=some {cls:=.type "list",data:=.seq vs.toArray}/\Nc vs ns/\ns.length<=n:=by
 have hsh:WShape.hasAll [] args [.list .int]=true:=(pre_splitW hpre).1;have hc:l.pre.holds [] {args:=args} = true:=(pre_splitW hpre).2;obtain⟨d,r,rfl,h1,h2⟩:=hasAllW_cons hsh;obtain rfl:=hasAllW_nil h2;obtain⟨xs,rfl,h3⟩:=hasW_list h1;obtain⟨ns,rfl⟩:=items_int h3;have hlen:ns.length<=n:=by
  unfold OpenLaw.pre at hc;have h4:(WTm.not (.lt (.lit (.int (n:Int))) (.len (.arg 0)))).holds [] {args:=[.list (ns.map .int)]} = true:=by
   have h4:=(holds_andW hc).1;rw[hn]at h4;exact h4
  have h5:=condW_of h4 (w_not (w_lt w_lit (w_len_list (w_arg rfl))));rw[Ab]at h5;refine Nat.le_of_not_lt λq=>?_;have q':(n:Int)<((ns.length:Nat):Int):=by lia
  first
   | (rw[decide_eq_true q']at h5;exact absurd h5 (by decide))
   | (simp at h5;lia)
 cases hwl with
 | cons w1 w2=>
  cases w2;cases w1 with
  | list ho hall=>exact⟨_,_,ns,rfl,rfl,ho,U5 ns _ hall,hlen⟩
def U7(l:OpenLaw)(args:List WData):l.row.toRowW.claim.post args (.bool true) args=true:=
 postW_of (r:=l.row.toRowW) (X:=(true==true))
  (show WShape.has [] (.bool true) .bool=true by first|rfl|decide|simp[WShape.has,WShape.arms,WShape.armsAll])
  (show(WTm.eq .res (.lit (.bool true))).value [] {args:=args,res:=some (.bool true),after:=args} = some (.bool (true==true)) from w_eq_bool (w_res rfl) w_lit) rfl
def attach_call{l:OpenLaw}{n:Nat}{q:Bt}{loose:List Str}{XP:(Str->Option Ae)->Heap->Prop}{YP:Cm->Heap->Prop}{d:DefRec}(hn:l.most=some n)(hdf:d.params.defaults=[])(call:∀(w:Cm) (s₀ s1:Ag) (mg mb:Str->Option Ae) (fa:Addr) (o:Obj) (pm cd doc:Ae) (a:Addr) (vs:List Ae) (ns:List Int),
   Ground q loose [] XP w s₀ mg mb s1.heap->YP w s1.heap->
   s1.heap.get? fa=some o->o.data=.func (docDef d.name d.params d.body d.scope pm cd doc)->s1.heap.CodeRec cd d.name->mg d.name=some (.ref fa)->
   s1.heap.get? a=some {cls:=.type "list",data:=.seq vs.toArray}->Nc vs ns->ns.length<=n->s1.gens = #[]->
   Hq (Bn l.prog w) callerA (.call (.ref fa) ⟨[.ref a],[]⟩) (λr s'=>r=.ok (.ret (.bool true))/\OldK s1.heap s'.heap/\s'.os=s1.os/\Lh s'.gens) s1):
  WalkO q loose XP YP l.row.toRowW d [] (λf vs=>PySem.call f vs):=by
 intro w s₀ s1 mg mb G Y fa o pm cd doc dV kV ho hd hcd hD hmg hg args vals as hpre hlay hrd hwl lK;obtain rfl:dV=.none:=Dflts.none hD hdf;obtain rfl:kV=.none:=Dflts.noKw hD;obtain⟨a,vs,ns,rfl,rfl,hobj,hints,hlen⟩:=U6 hn hpre hwl;refine enter_call (Mb (call w s₀ s1 mg mb fa o pm cd doc a vs ns G Y ho (fd_plain hd) hcd hmg hobj hints hlen hg) λr s' hq=>?_);obtain⟨rfl,h2,h3,h4⟩:=hq;exact⟨.inl ⟨.bool true,.bool true,[],rfl,λ_=>rfl,.bool true,U7 l _,λ_=>⟨List.Pairwise.nil,λ_ hm=>(nomatch hm)⟩⟩,h2,h3,h4⟩
end Att
namespace L2
open PySem Spec PyProof.Rows
def F6:∀{vs:List Ae} {ns:List Int},Nc vs ns->a8 (ns.map V.int) vs
 | _,_,.nil=>.nil
 | _,_,.cons n t h=>.cons ⟨t,rfl⟩ (F6 h)
abbrev eW:mU:=λ_ _ _ _ _ _=>False
abbrev E0:XK:=λ_ _ _=>False
def pE{X:Cx}:mV eW X E0:=λ_ _ _ _ _ _ _ h=>h.elim
structure jF(K:Ac)(x qual:Str)(st:Stmt)(f:Addr)(fd:Bk):Prop where
 ex:∃(oc:Ae) (od:Option Addr) (kV doc pm:Ae) (an:Option Addr) (cdv ct:Ae) (osl:Array (Option Ae)),
  fd=Ep x qual (jB st) (gO st) (dW st) .none kV doc pm an cdv ct/\K.lookup f=some ⟨oc,od,.func fd,osl⟩/\Iq K cdv qual=true
 kp:Fc K (.ref f)=true
section
variable {P:Bt}{w:Cm}{K:Ac}{mg:Str->Option Ae}{base:Heap}
def jF.ok{x qual:Str}{st:Stmt}{f:Addr}{fd:Bk}{N ps:List Str}{k:Nat}{sp:Sp}(F:jF K x qual st f fd)(S:mW N ps (dW st))(len:∀vs H Q E,sp vs H Q E->vs.length=ps.length)(hbody:∀(cdv:Ae) (A:Ck) (outer:List Env) (s:Ag) (H:Hp) (vs:List V) (Q:VK) (E:XK),cE k (A.deeper (Jo qual (dW st) s.heap.objs.size f cdv))->sp vs H Q E->
   ∃t,gC (kK eW P w K mg base N qual (dW st) f cdv A outer s H E).nox (gO st) t/\t {nx:=λ_ H'=>Q .non H',rt:=Q} (start N vs) H):eV P w K mg base eW (k+1) f fd ps sp:=by
 obtain⟨oc,od,kV,doc,pm,an,cdv,ct,osl,rfl,lk,hcd⟩:=F.ex;refine FA lk hcd S len λA outer s H vs Q E hr hsp=>?_;obtain⟨t,h,q⟩:=hbody cdv A outer s H vs Q E hr hsp;exact⟨t,h.nox,q⟩
def jF.binds{x qual:Str}{st:Stmt}{f:Addr}{fd:Bk}{ps:List Str}(F:jF K x qual st f fd)(h:∀(kV doc pm:Ae) (an:Option Addr) (cdv ct:Ae) (us:List Ae),us.length=ps.length->bindArgs (Ep x qual (jB st) (gO st) (dW st) .none kV doc pm an cdv ct) ⟨us,[]⟩=pure (ps.zip us)):Binds K fd ps []:=by
 obtain⟨oc,od,kV,doc,pm,an,cdv,ct,osl,rfl,lk,hcd⟩:=F.ex;exact .all (h kV doc pm an cdv ct)
def pF{x qual:Str}{st:Stmt}{f:Addr}{oc:Ae}{od an:Option Addr}{osl:Array (Option Ae)}{kV doc pm cdv ct:Ae}(l:K.lookup f=some ⟨oc,od,.func (Ep x qual (jB st) (gO st) (dW st) .none kV doc pm an cdv ct),osl⟩)(c:Iq K cdv qual=true)(k:Fc K (.ref f)=true):jF K x qual st f (Ep x qual (jB st) (gO st) (dW st) .none kV doc pm an cdv ct):=⟨⟨oc,od,kV,doc,pm,an,cdv,ct,osl,rfl,l,c⟩,k⟩
end
def qV{A:Ck}{k:Nat}(hr:cE k A):A.units+1<Ez:=Ft (Ij (by decide:1<=64) _) hr.units
section
variable {X:Cx}
def U8:dX X (.builtin "len") (λxs H Q=>∃a kvs,xs=[V.ref a]/\H a=some (.dK kvs)/\Q (.int kvs.length) H):=by
 intro pins s Z H xs us Q I r h;obtain⟨a,kvs,rfl,ha,q⟩:=h;obtain⟨u,rfl,ru⟩:=vals1 r;cases ru;exact UX I (.inl ha) λt s' I'=>⟨.int kvs.length,H,I',⟨t,rfl⟩,q⟩
end
def U9{A B:Prop}(h:B):if false=true then A else B:=by
 rw[if_neg Ar];exact h
def VA{A B:Prop}(h:A):if true=true then A else B:=by
 rw[if_pos rfl];exact h
end L2
set_option maxHeartbeats 4000000
namespace L2
open PySem Spec PyProof.Rows
structure kN where
 cl:List (Str×Addr)
 s:Ag
 H:Hp
 fp:List Addr
 C:Addr
def d6(X:Cx)(sc:Hh)(N':List Str)(B:kN):Cx where
 prog:=X.prog
 w:=X.w
 K:=X.K
 mg:=X.mg
 base:=X.base
 A:=X.A
 N:=N'
 s₀:=B.s
 H₀:=B.H
 env:=compEnvC sc B.cl B.C X.env
 outer:=X.stack
 stack:=X.stack
 ex:=B.fp
 fn:=λ_=>false
 calm:=X.calm
 pn:=[]
 xe:=λ_ _=>False
def gP(cells:List (Str×Addr)):List (Str×Hv)->List (Str×Addr)->List (Str×Addr)
 | [],acc=>acc
 | (n,k)::r,acc=>if k=.free then gP cells r ((n,(cells.lookup n).getD 0)::acc) else gP cells r acc
def xN{scope:Hh}{env:Env}(h:∀y∈scope.names,y.2=.free->∃c,env.cells.lookup y.1=some c):closureFor scope env=pure (gP env.cells scope.names []):=by
 have key:∀(names:List (Str×Hv)) (acc:List (Str×Addr)),(∀y∈names,y.2=.free->∃c,env.cells.lookup y.1=some c)->
   (forIn names acc λ(x:Str×Hv) (cs:List (Str×Addr))=>(if (x.2==NameKind.free)=true then(do let a <-cellOf env x.1;pure (ForInStep.yield ((x.1,a)::cs))) else pure (ForInStep.yield cs):Sem (ForInStep (List (Str×Addr)))))=(pure (gP env.cells names acc):Sem _):=by
  intro names
  induction names with
  | nil=>intro acc _;rfl
  | cons y r ih=>
   intro acc hy;obtain⟨n,k⟩:=y;rw[Lo]
   by_cases hk:k=.free
   .subst hk;obtain⟨c,hc⟩:=hy (n,.free) Aw rfl;have e1:cellOf env n=(pure c:Sem Addr):=by
     unfold cellOf;rw[show env.cells.lookup n=some c from hc]
    simp only[beq_self_eq_true,if_true,e1,pure_bind];rw[ih _ λz hz=>hy z (Ap _ hz)];simp only[gP,if_true];rw[show env.cells.lookup n=some c from hc];rfl
   .have hb:(k==NameKind.free)=false:=by simpa using hk
    simp only[hb,Dw,if_false,pure_bind];rw[ih _ λz hz=>hy z (Ap _ hz)];simp only[gP,if_neg hk]
 have e:closureFor scope env=((forIn scope.names [] λ(x:Str×Hv) (cs:List (Str×Addr))=>(if (x.2==NameKind.free)=true then(do let a <-cellOf env x.1;pure (ForInStep.yield ((x.1,a)::cs))) else pure (ForInStep.yield cs):Sem (ForInStep (List (Str×Addr)))))>>=λcs=>pure cs):=by
  unfold closureFor;rfl
 rw[e,key _ _ h,pure_bind]
def xO{cells:List (Str×Addr)}{x:Str}{c:Addr}:∀{names:List (Str×Hv)} {acc:List (Str×Addr)},(∀y∈names,y.2=.free->∃c,cells.lookup y.1=some c)->
  (∀x c,acc.lookup x=some c->cells.lookup x=some c)->(gP cells names acc).lookup x=some c->cells.lookup x=some c
 | [],acc,_,ha,e=>ha x c e
 | (n,k)::r,acc,hy,ha,e=>by
  have hr:∀y∈r,y.2=.free->∃c,cells.lookup y.1=some c:=λz hz=>hy z (Ap _ hz);unfold gP at e
  by_cases hk:k=.free
  .subst hk;rw[if_pos rfl]at e;obtain⟨d,hd⟩:=hy (n,.free) Aw rfl;have hd:cells.lookup n=some d:=hd;refine xO hr (λz b q=>?_) e;rw[Cy]at q
   by_cases hz:z=n
   .subst hz;rw[beq_self_eq_true,hd]at q;rw[hd];exact q
   .have:(z==n)=false:=beq_eq_false_iff_ne.mpr hz;rw[this]at q;exact ha z b q
  .rw[if_neg hk]at e;exact xO hr ha e
def tW{cells:List (Str×Addr)}{x:Str}:∀{names:List (Str×Hv)} {acc:List (Str×Addr)},((x,NameKind.free)∈names\/∃c,acc.lookup x=some c)->∃c,(gP cells names acc).lookup x=some c
 | [],acc,h=>by
  rcases h with h|h
  .cases h
  .exact h
 | (n,k)::r,acc,h=>by
  unfold gP
  by_cases hk:k=.free
  .subst hk;rw[if_pos rfl];refine tW ?_
   by_cases hx:x=n
   .subst hx;right;rw[Cy,beq_self_eq_true];exact⟨_,rfl⟩
   .have hb:(x==n)=false:=beq_eq_false_iff_ne.mpr hx;rcases h with h|⟨c,h⟩
    .rcases Aj.mp h with e|h
     .cases e;exact absurd rfl hx
     .exact .inl h
    .right;rw[Cy,hb];exact⟨c,h⟩
  .rw[if_neg hk];refine tW ?_;rcases h with h|h
   .rcases Aj.mp h with e|h
    .cases e;exact absurd rfl hk
    .exact .inl h
   .exact .inr h
structure n5(N':List Str)(sc osc:Hh):Prop where
 kind:sc.kind=.function
 nd:N'.Nodup
 nocell:∀y∈sc.names,y.2≠.cell
 loc:∀y∈sc.names,y.2=.local->sc.names.lookup y.1=some .local
 free:∀y∈sc.names,y.2=.free->osc.names.lookup y.1=some .cell\/osc.names.lookup y.1=some .free
def n6(N':List Str)(sc osc:Hh):Bool:=
 decide (sc.kind=.function)&&decide N'.Nodup&&sc.names.all (λy=>decide (y.2≠.cell))&&sc.names.all (λy=>decide (y.2=.local->sc.names.lookup y.1=some .local)) &&
  sc.names.all (λy=>decide (y.2=.free->osc.names.lookup y.1=some .cell\/osc.names.lookup y.1=some .free))
def n5.of{N':List Str}{sc osc:Hh}(h:n6 N' sc osc=true):n5 N' sc osc:=by
 unfold n6 at h;simp only[Co]at h;obtain⟨⟨⟨⟨h1,h2⟩,h3⟩,h4⟩,h5⟩:=h;exact⟨of_decide_eq_true h1,of_decide_eq_true h2,λy hy=>of_decide_eq_true (Ky.mp h3 y hy),λy hy=>of_decide_eq_true (Ky.mp h4 y hy),λy hy=>of_decide_eq_true (Ky.mp h5 y hy)⟩
def cmap(js:List (Option Nat))(Z:St):St:=js.map λo=>o.bind λj=>(Z[j]?).join
def fQ(N' N:List Str)(sc:Hh):List (Option Nat)->List Str->Bool
 | [],[]=>true
 | none::js,_::r=>fQ N' N sc js r
 | some j::js,x::r=>decide (N[j]? = some x)&&decide (sc.names.lookup x=some .free)&&fQ N' N sc js r
 | _,_=>false
def xP{N' N:List Str}{sc:Hh}:∀{js:List (Option Nat)} {r:List Str},fQ N' N sc js r=true->js.length=r.length
 | [],[],_=>rfl
 | none::js,_::r,h=>by
  have:=xP (js:=js) (r:=r) h;simp[this]
 | some j::js,x::r,h=>by
  unfold fQ at h;rw[Co]at h;have:=xP (js:=js) (r:=r) h.2;simp[this]
 | [],_::_,h=>by simp[fQ]at h
 | none::_,[],h=>by simp[fQ]at h
 | some _::_,[],h=>by simp[fQ]at h
def xQ{N' N:List Str}{sc:Hh}:∀{js:List (Option Nat)} {r:List Str} {i j:Nat} {x:Str},fQ N' N sc js r=true->js[i]? = some (some j)->r[i]? = some x->N[j]? = some x/\sc.names.lookup x=some .free
 | [],[],i,j,x,_,e,_=>by simp at e
 | none::js,_::r,0,j,x,h,e,_=>by simp at e
 | none::js,_::r,i+1,j,x,h,e,e2=>xQ (js:=js) (r:=r) (i:=i) h (by simpa using e) (by simpa using e2)
 | some k::js,y::r,0,j,x,h,e,e2=>by
  unfold fQ at h;rw[Co,Co]at h;simp at e e2;subst e;subst e2;exact⟨of_decide_eq_true h.1.1,of_decide_eq_true h.1.2⟩
 | some k::js,y::r,i+1,j,x,h,e,e2=>by
  unfold fQ at h;rw[Co,Co]at h;exact xQ (js:=js) (r:=r) (i:=i) h.2 (by simpa using e) (by simpa using e2)
 | [],_::_,_,_,_,h,_,_=>by simp[fQ]at h
 | none::_,[],_,_,_,h,_,_=>by simp[fQ]at h
 | some _::_,[],_,_,_,h,_,_=>by simp[fQ]at h
def xR{env:Env}{x:Str}:∀{names:List (Str×Hv)},(∀y∈names,y.2≠.cell)->
  (((names.map λ(n,k)=>if (k==NameKind.free&&env.scope.kind==.function&&env.kindOf n==some .cell) then(n,NameKind.cell) else(n,k)).lookup x=some .cell\/
    (names.map λ(n,k)=>if (k==NameKind.free&&env.scope.kind==.function&&env.kindOf n==some .cell) then(n,NameKind.cell) else(n,k)).lookup x=some .free)↔names.lookup x=some .free)
 | [],_=>by simp
 | (n,k)::r,h=>by
  have ih:=@xR env x r λy hy=>h y (Ap _ hy);have hk:k≠.cell:=h (n,k) Aw;rw[Bb];dsimp only
  by_cases hx:(x==n)=true
  .by_cases hc:(k==NameKind.free&&env.scope.kind==.function&&env.kindOf n==some .cell)=true
   .rw[if_pos hc];simp only[Cy,hx];have:k=.free:=by
     rw[Co,Co]at hc;exact beq_iff_eq.mp hc.1.1
    simp[this]
   .rw[if_neg hc];simp only[Cy,hx];constructor
    .rintro(e|e)
     .cases e;exact absurd rfl hk
     .exact e
    .intro e;exact .inr e
  .have hx:(x==n)=false:=by simpa using hx
   by_cases hc:(k==NameKind.free&&env.scope.kind==.function&&env.kindOf n==some .cell)=true
   .rw[if_pos hc];simp only[Cy,hx];exact ih
   .rw[if_neg hc];simp only[Cy,hx];exact ih
def xS{x:Str}{k:Hv}:∀{names:List (Str×Hv)},names.lookup x=some k->(x,k)∈names:=λh=>Fh h
section
variable {X:Cx}{sc:Hh}{N':List Str}{js:List (Option Nat)}{pins:List (Addr×Obj)}{Z:St}{H H1:Hp}{s:Ag}{fp:List Addr}{C:Addr}
def xT(S:n5 N' sc X.env.scope)(I:Inv X pins Z H s):∀y∈sc.names,y.2=.free->∃c,X.env.cells.lookup y.1=some c:=λy hy hk=>
 I.ok.has y.1 (S.free y hy hk)
def VB(S:n5 N' sc X.env.scope)(hj:fQ N' X.N sc js N'=true)(I:Inv X pins Z H s)(hf:∀b∈fp,hW X pins H b)(ho:∀b∈fp,∃o,s.heap.get? b=some o){h1:Heap}{tk:Nat}{m:Str->Option Ae}(hC:s.heap.objs.size<=C)(keep:∀b o,s.heap.get? b=some o->h1.get? b=some o)(un:Un (fP X.stack) fp H H1 s.heap h1)(hok:cR X.prog X.w H1 h1)(hn:h1.Ns C m)(hfree:H1 C=none):
  Inv (d6 X sc N' ⟨gP X.env.cells sc.names [],s,H,fp,C⟩) [] (cmap js Z) H1 {s with heap:=h1,toks:=tk}:=by
 have cs:=xT S I;have sub:∀x c,(gP X.env.cells sc.names []).lookup x=some c->X.env.cells.lookup x=some c:=λx c e=>xO cs (λ_ _ z=>by simp at z) e;refine⟨⟨I.ok.mod,S.kind,I.ok.glob,I.ok.blt,hC,λx y c e1 e2=>I.ok.inj x y c (sub x c e1) (sub y c e2),λx hx=>?_,λ_ _ h _=>absurd (show false=true from h) Ar,I.ok.hd,I.ok.frames,.inl rfl,λb hb=>?_,I.bs,Az I.ok.bsz I.sz,λb o e hb=>?_,λb hb hb'=>?_,I.stack,I.stkFree⟩,
  rfl,I.bare,un,⟨m,hn,λi x v e1 e2 e3=>?_⟩,λx c e=>?_,hfree,λx c e=>?_,λp hp=>absurd (show p∈([]:List (Addr×Obj)) from hp) (by simp),hok,?_⟩
 .have q:sc.names.lookup x=some .free:=(xR (env:=X.env) S.nocell).mp hx;exact tW (.inl (xS q))
 .obtain⟨o,e⟩:=ho b hb;exact⟨Bs (Bu (Av e) hC),λx c q=>(hf b hb).2.2.2.2.1 x c (sub x c q)⟩
 .rcases(hf b hb).2.2.2.1 with z|z
  .exact I.ok.noex b o e z
  .exact absurd (Bu (Av e) (Az I.ok.bsz z)) (Js _)
 .rcases Aj.mp (I.stkSub b hb') with z|z
  .exact(hf b hb).2.1 z
  .exact(hf b hb).2.2.1 z
 .
  have e1:N'[i]? = some x:=e1;unfold cmap at e2;rw[Ax]at e2;cases hji:js[i]? with
  | none=>rw[hji]at e2;cases e2
  | some o=>
   rw[hji]at e2;cases o with
   | none=>cases e2
   | some j=>
    obtain⟨a1,a2⟩:=xQ hj hji e1;have e2:(Z[j]?).join=some v:=by simpa using e2
    have e2':Z[j]? = some (some v):=by
     cases q:Z[j]? with
     | none=>rw[q]at e2;cases e2
     | some z=>rw[q]at e2;simpa using e2
    obtain⟨m0,hn0,hl0⟩:=I.loc;have kx:=S.free _ (xS a2) rfl;obtain⟨u,r,l⟩:=hl0 j x v a1 e2' (kx.elim (λz=>.inr (.inl z)) λz=>.inr (.inr z));refine⟨u,r,.inr ⟨(xR (env:=X.env) S.nocell).mpr a2,?_⟩⟩;rcases l with⟨k,_⟩|⟨_,c,ec,hc⟩
    .have k:X.env.scope.names.lookup x=some .local:=k;rcases kx with z|z
     .rw[k]at z;cases z
     .rw[k]at z;cases z
    .obtain⟨c',ec'⟩:=tW (cells:=X.env.cells) (acc:=[]) (.inl (xS a2));have:c'=c:=Bx ((sub x c' ec').symm.trans ec);subst this;obtain⟨oc,hoc,hd⟩:=hc;exact⟨c',ec',oc,keep _ _ hoc,hd⟩
 .obtain⟨v,oc,hoc,hd⟩:=I.cell x c (sub x c e);exact⟨v,oc,keep _ _ hoc,hd⟩
 .obtain⟨v,oc,hoc,hd⟩:=I.cell x c (sub x c e);have nfp:c∉fp:=λz=>(hf c z).2.2.2.2.1 x c (sub x c e) rfl;exact un.free c oc hoc (I.freeC x c (sub x c e)) nfp
 .show(cmap js Z).length=N'.length;unfold cmap;rw[Ab];exact xP hj
end
section
variable {prog:Bt}{w:Cm}{A:Ck}{R:Result->Ag->Prop}{s:Ag}
def VC{elt target iter:Expr}{ifs:List Expr}{scope:Hh}{pos:Pos}{it acc:Ae}{env:Env}(I:Nat->Ag->Prop)(turn:∀n s,I n s->Be (Bn prog w) A (Im it) (λr s1=>match r with
   | none=>R (.ok .next) s1
   | some v=>Be (Bn prog w) A (Ml target it v) (λ_ s₀=>Be (Bn prog w) A (Li target env v) (λ_ s2=>
     Be (Bn prog w) A (forIn ifs true λc r=>if r=true then do let ok <-isTrue c env (eval c env);pure (ForInStep.yield ok) else pure (ForInStep.yield r)) (λok s3=>
      if ok=true then Be (Bn prog w) A (eval elt env) (λx s4=>
       Be (Bn prog w) A (call (.builtin "list.append") [acc,x]) (λ_ s₅=>∃m,m<n/\I m s₅) (λ_ _=>False) s4) (λ_ _=>False) s3
      else ∃m,m<n/\I m s3) (λ_ _=>False) s2) (λ_ _=>False) s₀) (λ_ _=>False) s1) (λ_ _=>False) s)(n:Nat)(h:I n s):
  Hq (Bn prog w) A (.compLoop (.ListComp elt [⟨target,iter,ifs,0⟩] scope pos) 0 it acc env) R s:=by
 refine codeAny_loop rfl I (λn s hI=>?_) n h;show Be _ A ((compTurn (.ListComp elt [⟨target,iter,ifs,0⟩] scope pos) 0 it acc env).onRaise (λx=>do noteFrame x env;theTreesLotGoes x)) _ _ s;refine wpAny_noted ?_;rw[compTurn_list];refine Aa (Nd (Aa (Hn (turn n s hI) (λr s1 h1=>?_) λ_ _ h'=>h'.elim)));cases r with
 | none=>exact Ah h1
 | some v=>
  refine Aa (Hn h1 (λ_ s₀ h₀=>?_) λ_ _ h'=>h'.elim);refine Aa (Hn h₀ (λ_ s2 h2=>Aa (Hn h2 (λok s3 h3=>?_) λ_ _ h'=>h'.elim)) λ_ _ h'=>h'.elim);cases ok with
  | false=>exact Ah ⟨rfl,h3⟩
  | true=>
   exact Aa (Aa (Hn h3 (λx s4 h4=>Aa (Hn h4 (λ_ s₅ h₅=>Ah (Ah ⟨rfl,h₅⟩)) λ_ _ h'=>h'.elim)) λ_ _ h'=>h'.elim))
end
def i5(X:Cx)(ifs:List Expr)(t:TT):Prop:=
 ∀(pins:List (Addr×Obj)) (s:Ag) (Z:St) (H:Hp) (Q:Bool->Hp->Prop),Inv X pins Z H s->t Z H Q->
  Be (Bn X.prog X.w) X.A (forIn ifs true λc r=>if r=true then do let ok <-isTrue c X.env (eval c X.env);pure (ForInStep.yield ok) else pure (ForInStep.yield r)) (TP X pins Z Q) X.xe s
def VD:TT:=λ_ H Q=>Q true H
def VE{X:Cx}:i5 X [] VD:=λ_ _ _ H _ I h=>wpAny_tests_nil ⟨H,I,h⟩
def VF{X:Cx}{c:Expr}{t:TT}(h:PT X c t):i5 X [c] t:=λpins s Z H Q I hw=>wpAny_tests_one (h pins s Z H Q I hw)
def xU(J:It)(g:TG)(tt:TT)(te:TE)(p:Addr)(σ₀:St)(H1:Hp)(Q:VK):Prop:=
 ∃W:Nat->Nat->St->List V->Hp->Prop,(∃m,W 0 m σ₀ [] (aY H1 p (.lst [])))/\∀i m σ' acc H,W i m σ' acc H->
  (J.stop i H/\Q (.ref p) H)\/(J.go i H/\∃N:St->List V->Hp->Prop,(∀σ2 acc' H',N σ2 acc' H'->∃m',m'<m/\W (i+1) m' σ2 acc' H')/\∀x H',J.yld i H x H'->g x σ' H' λσ2 H2=>tt σ2 H2 λb H3=>
   if b=true then te σ2 H3 λy H4=>H4 p=some (.lst acc)/\acc.length<Ao/\N σ2 (acc++[y]) (aY H4 p (.lst (acc++[y])))
   else N σ2 acc H3)
def xV(wi:TI)(g:kN->TG)(tt:kN->TT)(te:kN->TE)(js:List (Option Nat)):TE:=λZ H Q=>wi Z H λJ H1=>∀p,H1 p=none->∀B:kN,xU J (g B) (tt B) (te B) p (cmap js Z) H1 Q
section
variable {X:Cx}{sc:Hh}{N':List Str}{js:List (Option Nat)}{tg iter elt:Expr}{ifs:List Expr}{pos:Pos}{wi:TI}{g:kN->TG}{tt:kN->TT}{te:kN->TE}
def F7(S:n5 N' sc X.env.scope)(hj:fQ N' X.N sc js N'=true)(hc:X.calm=true)(hg:∀B,PG (d6 X sc N' B) tg (g B))(ht:∀B,i5 (d6 X sc N' B) ifs (tt B))(he:∀B,PE (d6 X sc N' B) elt (te B)){pins:List (Addr×Obj)}{s:Ag}{Z:St}{J:It}{H:Hp}{it:Addr}{fp:List Addr}{tn:Nat->Heap->Prop}(I:Inv X pins Z H s)(T:jZ X.prog X.w X.K tg J fp it tn)(st:tn 0 s.heap)(hf:∀b∈fp,hW X pins H b){Q:VK}(hw:∀p,H p=none->∀B:kN,xU J (g B) (tt B) (te B) p (cmap js Z) H Q){E:Ae->Ag->Prop}{RR:Ae->Addr->Result->Ag->Prop}(hRR:∀p C H' s' m,Inv X pins Z H' s'->hW X pins H' C->s'.heap.Ns C m->Q (.ref p) H'->RR (.ref p) C (.ok .next) s'):
  Be (Bn X.prog X.w) X.A (newList []) (λacc s₃=>Be (Bn X.prog X.w) X.A (newFunctionEnv sc X.env.globals (gP X.env.cells sc.names []) [] X.env.qual none .none (some X.env)) (λcenv s₄=>
   Hq (Bn X.prog X.w) X.A (.compStart (.ListComp elt [⟨tg,iter,ifs,0⟩] sc pos) 0 (.ref it) acc {cenv with scope:=relabel sc X.env}) (RR acc cenv.locals) s₄) E s₃) E s:=by
 refine Du (wpAny_newFunctionEnv S.nocell (by intro y hy;simp at hy) (λh1 hns1 hsb1=>?_) S.kind);dsimp only at hns1 hsb1⊢;generalize hH2:s.heap.push {cls:=.type "list",dict:=none,data:=.seq ([]:List Ae).toArray} = H2 at hns1 hsb1⊢;have hC:H2.objs.size=s.heap.objs.size+1:=by rw[<-hH2,Dn]
 have hDC:s.heap.objs.size≠H2.objs.size:=by rw[hC];exact Bs (Ig _)
 have hCle:s.heap.objs.size<=H2.objs.size:=by rw[hC];exact Kt _
 have below:∀b,b<s.heap.objs.size->b≠H2.objs.size:=λb hb=>by rw[hC];exact Bs (Nat.lt_succ_of_lt hb)
 have old:∀b o,s.heap.get? b=some o->h1.get? b=some o:=λb o e=>hsb1.extBut b o (below b (Av e)) (Af _ (hH2▸Af _ e));have hacc:h1.get? s.heap.objs.size=some {cls:=.type "list",dict:=none,data:=.seq ([]:List Ae).toArray}:=hsb1.extBut _ _ hDC (Af _ (hH2▸Ba _ rfl));have hp0:H s.heap.objs.size=none:=I.hok.fresh (Ai _);have newO:cZ X.prog X.w (aY H s.heap.objs.size (.lst [])) h1 s.heap.objs.size (.lst []):=⟨Ca _,[],_,.nil,hacc⟩;have hok1:cR X.prog X.w (aY H s.heap.objs.size (.lst [])) h1:=I.hok.laid old (Ai _) newO;have un1:Un (fP X.stack) fp H (aY H s.heap.objs.size (.lst [])) s.heap h1:=Un.laid old (Ai _) hp0;have fC:(aY H s.heap.objs.size (.lst [])) H2.objs.size=none:=by rw[bF (Bi hDC)];exact I.hok.fresh hCle
 have IB:=VB (tk:=s.toks+([]:List (Str×Ae)).length) S hj I hf (λb hb=>let ⟨o,e,_⟩:=T.obj 0 _ st b hb;⟨o,e⟩) hCle old un1 hok1 hns1 fC;obtain⟨W,⟨m0,w0⟩,turn⟩:=hw _ hp0 ⟨gP X.env.cells sc.names [],s,H,fp,H2.objs.size⟩;have st1:tn 0 h1:=T.keep _ _ _ st λb _ o e=>old b o e;have loop:∀s₃:Ag,s₃ = {s with heap:=h1,toks:=s.toks+([]:List (Str×Ae)).length}->
   Hq (Bn X.prog X.w) X.A (.compLoop (.ListComp elt [⟨tg,iter,ifs,0⟩] sc pos) 0 (.ref it) (.ref s.heap.objs.size) (compEnvC sc (gP X.env.cells sc.names []) H2.objs.size X.env))
    (RR (.ref s.heap.objs.size) H2.objs.size) s₃:=by
  rintro s₃ rfl;generalize hB:(⟨gP X.env.cells sc.names [],s,H,fp,H2.objs.size⟩:kN)=B at turn w0 IB;have eB:compEnvC sc (gP X.env.cells sc.names []) H2.objs.size X.env=(d6 X sc N' B).env:=by subst hB;rfl
  have exB:(d6 X sc N' B).ex=fp:=by subst hB;rfl
  rw[eB];have stat:∀{σ':St} {H':Hp} {s':Ag},Inv (d6 X sc N' B) [] σ' H' s'->(∀b∈fp,H' b=none)->∀b∈fp,hW (d6 X sc N' B) [] H' b:=λ{σ' H' s'} J' hn b hb=>by
   refine⟨hn b hb,(J'.ok.exf b (by rw[exB];exact hb)).1,J'.ok.exfs b (by rw[exB];exact hb),.inl (by rw[exB];exact hb),(J'.ok.exf b (by rw[exB];exact hb)).2,λp hp=>absurd (show p∈([]:List (Addr×Obj)) from hp) (by simp)⟩
  have fp0:∀b∈fp,(aY H s.heap.objs.size (.lst [])) b=none:=λb hb=>by
   obtain⟨o,e,_⟩:=T.obj 0 _ st b hb;rw[bF (Bs (Av e))];exact(hf b hb).1
  refine VC (λn s'=>∃i σ' acc H',Inv (d6 X sc N' B) [] σ' H' s'/\tn i s'.heap/\(∀b∈fp,H' b=none)/\W i n σ' acc H') ?_ m0 ⟨0,_,[],_,IB,st1,fp0,w0⟩;rintro n s3 ⟨i,σ3,acc,H3,I3,st3,fr3,w3⟩;rcases turn i n σ3 acc H3 w3 with⟨stop,qn⟩|⟨go,N,hN,step⟩
  .refine bA (T.done (d6 X sc N' B) rfl rfl rfl hc i [] s3 σ3 H3 (λ_ _=>False) I3 (stat I3 fr3) st3 stop) λr s4 ⟨hr,I4⟩=>?_;subst hr;obtain⟨m4,hn4,_⟩:=I4.loc;have u4:Un (fP X.stack) fp H H3 s.heap s4.heap:=by have:=I4.base;subst hB;exact this
   have o4:s4.os=s.os:=by have:=I4.os;subst hB;exact this
   have c4:(d6 X sc N' B).env.locals=H2.objs.size:=by subst hB;rfl
   have hIX:Inv X pins Z H3 s4:=I.call' (ch:=fp) o4 u4 I4.hok I4.bare λb hb=>⟨(hf b hb).2.2.2.1,(hf b hb).2.1,(hf b hb).2.2.2.2.1,(hf b hb).2.2.2.2.2⟩
   exact hRR _ _ H3 s4 m4 hIX (I.fpOk hCle (by rw[<-c4];exact I4.free)) (by rw[<-c4];exact hn4) qn
  .refine bA (T.item (d6 X sc N' B) rfl rfl rfl hc i [] s3 σ3 H3 (λ_ _=>False) I3 (stat I3 fr3) st3 go) λr s4 ⟨u,hr,h4⟩=>?_;subst hr;refine bA h4 λ_ s5 ⟨x,H5,I5,r5,y5,st5,fr5⟩=>?_;have I5':=I5.pinned (stat I5 fr5) (T.obj _ _ st5);refine bA (hg B _ s5 σ3 H5 x u _ I5' r5 (step x H5 y5)) λ_ s6 ⟨σ6,H6,I6,q6⟩=>?_;refine bA (ht B _ s6 σ6 H6 _ I6 q6) λok s7 ⟨H7,I7,q7⟩=>?_;have again:∀{H8:Hp} {s8:Ag} {acc':List V},Inv (d6 X sc N' B) ([]++qL fp s5.heap) σ6 H8 s8->(∃m',m'<n/\W (i+1) m' σ6 acc' H8)->∃m,m<n/\∃i σ' acc H',Inv (d6 X sc N' B) [] σ' H' s8/\tn i s8.heap/\(∀b∈fp,H' b=none)/\W i m σ' acc H':=
    λ{H8 s8 acc'} I8 ⟨m',hm,w8⟩=>by
     refine⟨m',hm,i+1,σ6,acc',H8,I8.unpinned,T.keep _ _ _ st5 λb hb o e=>(I8.pin (b,o) (Cf _ (Cf _ (tL hb e)))).1,λb hb=>?_,w8⟩;obtain⟨o,e,d⟩:=T.obj _ _ st5 b hb;exact(I8.pin (b,o) (Cf _ (Cf _ (tL hb e)))).2.1
   cases ok with
   | false=>
    rw[if_neg Ar]at q7;rw[if_neg Ar];exact again I7 (hN _ _ _ q7)
   | true=>
    rw[if_pos rfl]at q7;rw[if_pos rfl];refine bA (he B _ s7 σ6 H7 _ I7 q7) λy s8 ⟨z,H8,I8,r8,hp8,hl8,q8⟩=>?_;exact bA (FL _ s8 σ6 H8 (.ref s.heap.objs.size) [z] (.ref s.heap.objs.size) [y] (λ_ H9=>N σ6 (acc++[z]) H9) I8 rfl (.cons r8 .nil) ⟨_,acc,z,rfl,rfl,hp8,hl8,q8⟩) λ_ s9 ⟨_,H9,I9,_,q9⟩=>again I9 (hN _ _ _ q9)
 exact codeAny_compStart_list (loop _ rfl) (T.self _ 0 _ _ _ st1 (loop _ rfl))
def VG(N':List Str)(js:List (Option Nat))(hi:PI X tg iter wi)(hg:∀B,PG (d6 X sc N' B) tg (g B))(ht:∀B,i5 (d6 X sc N' B) ifs (tt B))(he:∀B,PE (d6 X sc N' B) elt (te B))(S0:n6 N' sc X.env.scope=true:=by kernel_rfl)(hj:fQ N' X.N sc js N'=true:=by kernel_rfl)(hc:X.calm=true:=by rfl)(hs:∀x,Gu iter X.env x=pure x:=by intro _;rfl):PE X (.ListComp elt [⟨tg,iter,ifs,0⟩] sc pos) (xV wi g tt te js):=by
 intro pins s Z H Q I h;have S:=n5.of S0;rw[eval_ListComp];refine wpAny_comprehension_free (use:=none) rfl hs (xN (xT S I)) S.kind S.loc (bA (hi pins s Z H _ I h) λxv s1 h1=>bA h1 λitv s2 h2=>?_);obtain⟨it,fp,tn,J,H2,e,I2,T,st2,f2,hw⟩:=h2;subst e;refine F7 (RR:=λacc C=>compPost (Bn X.prog X.w) X.A X.xe none (EP X pins Z Q) acc C) S hj hc hg ht he I2 T st2 f2 hw ?_;intro p C H' s' m I' fC hn q;refine⟨m,hn,λh' hs'=>⟨.ref p,H',?_,rfl,q⟩⟩;exact I'.turned (t':=s'.toks) (λb o hb e=>(hs'.2 b hb).trans e) fC.1 fC.2.1 fC.2.2.2.1 fC.2.2.2.2.1 fC.2.2.2.2.2
def VH{i:Nat}{x:Str}{px spos:Pos}(hN:X.N.Nodup)(hi0:X.N[i]? = some x)(hx:Loc X.env.scope x)(N':List Str)(js:List (Option Nat))(hi:PI X tg iter wi)(hg:∀B,PG (d6 X sc N' B) tg (g B))(ht:∀B,i5 (d6 X sc N' B) ifs (tt B))(he:∀B,PE (d6 X sc N' B) elt (te B))(S0:n6 N' sc X.env.scope=true:=by kernel_rfl)(hj:fQ N' X.N sc js N'=true:=by kernel_rfl)(hc:X.calm=true:=by rfl)(hsw:Jg (.ListComp elt [⟨tg,iter,ifs,0⟩] sc pos) (some (.Name x px)) spos.line X.env=pure true:=by rfl)(hf:X.fn x=true\/X.env.scope.names.lookup x=some .local:=by first|exact .inl rfl|exact .inr rfl|assumption)(hs:∀x,Gu iter X.env x=pure x:=by intro _;rfl):PS X (.Assign [.Name x px] (.ListComp elt [⟨tg,iter,ifs,0⟩] sc pos) spos) (tI (xV wi g tt te js) (xB i)):=by
 intro pins s Z H D I h;have S:=n5.of S0;rw[exec_Assign_Name_used _ _ _ _ hsw];refine Aa (Nd (Aa ?_));show Be _ X.A (do let _ <-comprehension (.ListComp elt [⟨tg,iter,ifs,0⟩] sc pos) sc X.env _ (newList []) false (eval iter X.env) (some (Li (.Name x px) X.env))) _ _ s;refine Aa (Hn (wpAny_comprehension_free (use:=some (Li (.Name x px) X.env)) (Q:=λ_ s'=>SP X pins D .next s') rfl hs (xN (xT S I)) S.kind S.loc
  (bA (hi pins s Z H _ I h) λxv s1 h1=>bA h1 λitv s2 h2=>?_)) (λ_ s' hq=>Ah (Ah hq)) λ_ _ e=>e)
 obtain⟨it,fp,tn,J,H2,e,I2,T,st2,f2,hw⟩:=h2;subst e;refine F7 (RR:=λacc C=>compPost (Bn X.prog X.w) X.A X.xe (some (Li (.Name x px) X.env)) (λ_ s'=>SP X pins D .next s') acc C) S hj hc hg ht he I2 T st2 f2 hw ?_;intro p C H' s' m I' fC hn q;show Be _ X.A (Li (.Name x px) X.env (.ref p)) _ _ _;refine wpAny_assign_Name (EG I' hN hi0 hx (v:=.ref p) rfl (λs'' I'' ⟨a,sb,ha⟩=>?_) hf);have hCa:C≠a:=by
  rcases ha with e|e
  .rw[e];exact fC.2.1
  .exact λz=>fC.2.2.2.2.1 x a e z.symm
 refine⟨m,hn.sameBut sb hCa,λh' hs'=>⟨_,H',?_,q⟩⟩;exact I''.turned (t':=s''.toks) (λb o hb e=>(hs'.2 b hb).trans e) fC.1 fC.2.1 fC.2.2.2.1 fC.2.2.2.2.1 fC.2.2.2.2.2
end
section
variable {g:TG}{tt:TT}{te:TE}{p:Addr}{σ₀:St}{H1:Hp}{Q:VK}
def VI{J:It}(n:Nat)(Pv:Nat->St->List V->Hp->Prop)(h0:Pv 0 σ₀ [] (aY H1 p (.lst [])))(hd:∀Z acc H,Pv n Z acc H->J.stop n H/\Q (.ref p) H)(hs:∀i Z acc H,i<n->Pv i Z acc H->J.go i H/\∀x H',J.yld i H x H'->g x Z H' λσ2 H2=>tt σ2 H2 λb H3=>
   if b=true then te σ2 H3 λy H4=>H4 p=some (.lst acc)/\acc.length<Ao/\Pv (i+1) σ2 (acc++[y]) (aY H4 p (.lst (acc++[y]))) else Pv (i+1) σ2 acc H3):xU J g tt te p σ₀ H1 Q:=by
 refine⟨λi m Z acc H=>m=n-i/\i<=n/\Pv i Z acc H,⟨n,by simp,Ca _,h0⟩,?_⟩;rintro i m Z acc H ⟨rfl,hi,q⟩
 by_cases hlt:i<n
 .obtain⟨hg,hy⟩:=hs i Z acc H hlt q;exact .inr ⟨hg,Pv (i+1),λσ2 acc' H' q'=>⟨n-(i+1),by lia,rfl,hlt,q'⟩,hy⟩
 .have e:i=n:=by lia
  subst e;exact .inl (hd Z acc H q)
end
section
variable {X:Cx}
def F8{i:Int}(h:i.natAbs<2 ^ 4096):Builtin.Int.intBits i<=2 ^ 20:=by
 unfold Builtin.Int.intBits;split
 .exact Ca _
 .rename_i h0;have hn:i.natAbs≠0:=by
   intro z;have:i=0:=Int.natAbs_eq_zero.mp z;rw[this]at h0;exact h0 rfl
  have:i.natAbs.log2<4096:=(Nat.log2_lt hn).mpr h;have e:(2:Nat) ^ 20=1048576:=by decide
  lia
def tX(i j:Int):Prop:=i.natAbs<2 ^ 4096/\j.natAbs<2 ^ 4096
def VJ:bG X (Fl .Mult) (rI tX λi j=>.int (i*j)):=qQ λ_ _ _ _ _ _ _ hc q=>mul_int q (IntMulOk.of_bits (F8 hc.1) (F8 hc.2))
def F9(i j:Int):Prop:=0<j/\j<2 ^ 4096
def VL:bG X (Fl .FloorDiv) (rI F9 λi j=>.int (i/j)):=qQ λi j _ _ _ _ _ hc q=>by
 refine floordiv_int (by have:=hc.1;lia) ?_ (.inl (PyProof.noPylong_of_log2 ?_))
 .rw[Int.fdiv_eq_ediv_of_nonneg _ (Int.le_of_lt hc.1)];exact q
 .have h0:j.natAbs≠0:=by have:=hc.1;lia
  have h1:j.natAbs<2 ^ 4096:=by
   have a:=hc.1;have b:=hc.2;lia
  have:=(Nat.log2_lt h0).mpr h1;lia
def VM:dX X (.builtin "isinstance") (λxs H Q=>∃x T t b,xs=[x,.ty T]/\iM X.K H x t/\Ip X.K t (.type T)=some b/\Q (.bl b) H):=by
 intro pins s Z H xs us Q I r h;obtain⟨x,T,t,b,rfl,ty,e,q⟩:=h;obtain⟨u,w',rfl,ru,rw'⟩:=vals2 r;cases (show w'=Value.type T from rw');exact R4 I ru ty e λtk=>⟨.bl b,H,I.tok _,rfl,q⟩
def xW(z:Str):It:=⟨λi _=>i<z.cps.size,λi H x H'=>H'=H/\∃c,z.cps.toList[i]? = some c/\x=.str ⟨#[c]⟩,λi _=>z.cps.size<=i⟩
def GA{P:Bt}{w:Cm}{K:Ac}{x:Str}{px:Pos}(z:Str)(it:Addr)(ty:String)(tk0:Tok)(nx:∀(A:Ck) (s:Ag) (i c:Nat) (Q:Option Ae->Ag->Prop) (E:Ae->Ag->Prop),s.heap.IsStrIter it ty z tk0 i->z.cps[i]? = some c->
   (∀h',h'.IsStrIter it ty z tk0 (i+1)->Eu it s.heap h'->Q (some (.str ⟨#[c]⟩ s.toks)) {s with heap:=h',toks:=s.toks+1})->Be (Bn P w) A (Im (.ref it)) Q E s)(en:∀(A:Ck) (s:Ag) (i:Nat) (Q:Option Ae->Ag->Prop) (E:Ae->Ag->Prop),A.handled=none->s.heap.IsStrIter it ty z tk0 i->z.cps[i]? = none->
   (∀h',Lx it s.heap h'->Q none {s with heap:=h'})->Be (Bn P w) A (Im (.ref it)) Q E s)(slf:∀(A:Ck) (i:Nat) (s:Ag) (Q:Ae->Ag->Prop) (E:Ae->Ag->Prop),s.heap.IsStrIter it ty z tk0 i->Q (.ref it) s->Be (Bn P w) A (pyIter (.ref it)) Q E s):
  jZ P w K (.Name x px) (xW z) [it] it (λi h=>h.IsStrIter it ty z tk0 i) where
 mem:=by simp
 obj:=λi h st b hb=>by
  have e:b=it:=by simpa using hb
  subst e;obtain⟨o,ho,_,hd⟩:=st;exact⟨o,ho,λv q=>by rw[hd]at q;cases q⟩
 keep:=λi h h' st k=>by
  obtain⟨o,ho,r⟩:=st;exact⟨o,k it (by simp) o ho,r⟩
 item:=by
  intro X hP hw hK hc i pins s Z H E I hf st hg;subst hP hw hK;obtain⟨f0,f1,f2,f3,f4,f5⟩:=hf it (by simp);have hi:z.cps[i]? = some z.cps[i]:=Array.getElem?_eq_getElem hg;refine nx X.A s i _ _ _ st hi λh' st' sb=>?_;have I1:Inv X pins Z H {s with heap:=h',toks:=s.toks+1}:=I.turned (λb o hb e=>(sb.2 b hb).trans e) f0 f1 f3 f4 f5;exact⟨_,rfl,Ah ⟨.str ⟨#[z.cps[i]]⟩,H,I1,⟨_,rfl⟩,⟨rfl,z.cps[i],by rw[Hf];exact hi,rfl⟩,st',λb hb=>(hf b hb).1⟩⟩
 done:=by
  intro X hP hw hK hc i pins s Z H E I hf st hg;subst hP hw hK;obtain⟨f0,f1,f2,f3,f4,f5⟩:=hf it (by simp);have hg':z.cps.size<=i:=hg;exact en X.A s i _ _ (I.ok.hd hc) st (Array.getElem?_eq_none hg') λh' eb=>⟨rfl,I.turned (t':=s.toks) (λb o hb e=>eb b o hb e) f0 f1 f3 f4 f5⟩
 self:=slf
def GB{prog:Bt}{w:Cm}{A:Ck}{E:Ae->Ag->Prop}{it l:Addr}{items:Array Ae}(hne:l≠it):∀(n i:Nat) (s:Ag) (Q:List Ae->Ag->Prop),s.heap.IsListIter it l i->s.heap.IsList l items->i+n<=items.size->
  (∀h',h'.IsListIter it l (i+n)->Eu it s.heap h'->Q ((items.toList.drop i).take n) {s with heap:=h'})->Be (Bn prog w) A (draw (.ref it) n) Q E s
 | 0,i,s,Q,hit,_,_,hQ=>by
  show Be _ _ (pure []) Q E s;exact Ah (by simpa using hQ s.heap hit (Heap.SameBut.refl ..))
 | n+1,i,s,Q,hit,ht,hle,hQ=>by
  have hlt:i<items.size:=by lia
  show Be _ _ (Im (.ref it)>>=_) Q E s;refine Aa (wpAny_pyNext_list_item hit ht (x:=items[i]) (by simp[hlt]) λh1 hit1 hs1=>?_);refine Aa (Cv (GB hne n (i+1) _ _ hit1 (ht.extBut hs1.extBut hne) (by lia) λh2 hit2 hs2=>Ah ?_));have hd:items.toList.drop i=items[i]::items.toList.drop (i+1):=by simp[Kn,hlt]
  have:=hQ h2 (by rw[show i+(n+1)=i+1+n by lia];exact hit2) (hs1.trans hs2);rw[hd,List.take_succ_cons]at this;exact this
def VN{prog:Bt}{w:Cm}{A:Ck}{E:Ae->Ag->Prop}{s:Ag}{t:Addr}{items:Array Ae}{targets:List (Bool×(Ae->Sem Unit))}{Q:Unit->Ag->Prop}(hh:A.handled=none)(ht:s.heap.IsList t items)(hn:targets.length=items.size)(hstar:targets.findIdx? (·.1)=none)(h:∀h',Lx s.heap.objs.size s.heap h'->Be (Bn prog w) A (assignInOrder (targets.map (·.2)) items.toList) Q E {s with heap:=h'}):
  Be (Bn prog w) A (unpack (.ref t) targets) Q E s:=by
 have hlt:t≠s.heap.objs.size:=by obtain⟨o,ho,_⟩:=ht;exact Bs (Av ho)
 unfold unpack;rw[hn,hstar];refine Aa (Cv ?_);unfold unpackItems;refine Aa ?_;unfold notIterableAtAll;refine Aa (wpAny_specialOf ht.typeIs F.slot_list_iter.lookup ?_);refine Ah ?_;simp only[Dw,if_false];refine Aa (Cv (Jm ht ?_));refine Aa (Cv (GB hlt items.size 0 _ _ ⟨_,Ba _ rfl,rfl,rfl⟩ (ht.push _) (by lia) λh1 hit1 hs1=>?_));have hall:List.take items.size (List.drop 0 items.toList)=items.toList:=by
  rw[List.drop_zero];exact Dv (by simp)
 rw[hall];rw[if_neg (by simp)];have ht1:h1.IsList t items:=(ht.push _).extBut hs1.extBut hlt;refine Aa (Cv (wpAny_pyNext_list_end hh hit1 ht1 (by simp) λh2 he2=>?_));simp only[Option.isSome_none,Dw,if_false];refine Ah (h h2 λb o hb e=>he2 b o hb (hs1.extBut b o hb (Af _ e)))
def VO(K:Ac)(n:Nat)(t:jY):TG:=λv Z H Q=>∃a xs,v=.ref a/\bK K H a xs/\xs.length=n/\t xs Z H Q
def GC{es:List Expr}{k:Nat}{pos:Pos}{t:jY}{n:Nat}(hc:X.calm=true)(h:jC X es t)(hn:(Gm es X.env).length=n:=by rfl)(hst:(Gm es X.env).findIdx? (·.1)=none:=by rfl):PG X (.Tuple es k pos) (VO X.K n t):=by
 intro pins s Z H v u Q I r hw;obtain⟨a,xs,e1,hq,hl,hw⟩:=hw;subst e1;cases r;obtain⟨its,rv,ht,hz⟩:=I.list hq;rw[PyProof.Rows.assign_Tuple];refine Aa (Nd (VN (I.ok.hd hc) ht.isList (by simp[hn,<-hl,rv.length]) hst λh' hx=>?_));have I1:Inv X pins Z H {s with heap:=h'}:=I.kept (t':=s.toks) λb o e=>hx b o (Bs (Av e)) e;exact h pins _ Z H xs _ Q I1 (by simpa using rv) hw
end
section
variable {X:Cx}
def n8(d:Iu):Prop:=d.canLay0=true/\d.depth<=60
def xX:∀{xs:List V} {us:List Ae},xs.length=us.length->(∀(j:Nat) (u:Ae),us[j]? = some u->∃x,xs[j]? = some x/\RelV x u)->a8 xs us
 | [],[],_,_=>.nil
 | [],_::_,h,_=>by simp at h
 | _::_,[],h,_=>by simp at h
 | x::xs,u::us,h,k=>by
  obtain⟨y,e,r⟩:=k 0 u rfl;simp at e;subst e;exact .cons r (xX (by simpa using h) λj v hv=>by
   obtain⟨y,e,r⟩:=k (j+1) v (by simpa using hv);exact⟨y,by simpa using e,r⟩)
def GD:∀{kvs:List (aE×V)} {vs:List (aE×Ae)} {j:Nat} {k:aE} {x:Ae},KV kvs vs->vs[j]? = some (k,x)->∃v,kvs[j]? = some (k,v)
 | _,_,_,_,_,.nil,e=>by simp at e
 | _,_,0,_,_,.cons (a:=p) r _,e=>by
  simp at e;subst e;exact⟨p.2,by obtain⟨a,b⟩:=p;cases r.1;rfl⟩
 | _,_,j+1,k,x,.cons _ t,e=>by
  obtain⟨v,q⟩:=GD (j:=j) (k:=k) (x:=x) t (by simpa using e);exact⟨v,by simpa using q⟩
def GF{k:aE}{v:Ae}(h:nU k v=true):RelV (kV k) v:=by
 rcases kJ h with⟨i,t,rfl,rfl⟩|⟨x,t,rfl,rfl⟩
 .exact⟨t,rfl⟩
 .exact⟨t,rfl⟩
def VP(hc:X.calm=true):dX X (.type "list") (λxs H Q=>∃d kvs,xs=[.ref d]/\H d=some (.dK kvs)/\∀l,H l=none->Q (.ref l) (aY H l (.lst (kvs.map λkv=>kV kv.1)))):=by
 intro pins s Z H xs us Q I r h;obtain⟨d,kvs,rfl,hd,q⟩:=h;obtain⟨u,rfl,ru⟩:=vals1 r;cases ru;obtain⟨hz,hne,vs,rkv,hD⟩:=(show cZ X.prog X.w H s.heap d (.dK kvs) from I.hok d _ hd);obtain⟨ep,hat⟩:=hD.dictAt;have hl:=rkv.length;refine PySem.W.kdl_call (PySem.W.kdl_dict (knd:=dO X.prog X.w) (kvs:=vs) (ep:=ep) hne) (I.ok.hd hc) hat (by rw[<-hl];exact hz) λh' tk acc' c' hk hS hacc=>?_;refine⟨.ref s.heap.objs.size,_,I.laid (o:=.lst (kvs.map λkv=>kV kv.1)) (t':=tk) hk (Ai _) ⟨by rw[Ab];exact hz,acc'.toList,c',?_,by rw[Array.toArray_toList];exact hS⟩,rfl,q _ (I.hok.fresh (Ai _))⟩;refine xX (by have h1:=hacc.1;have h2:acc'.toList.length=acc'.size:=Gr;have h3:(kvs.map λkv=>kV kv.1).length=kvs.length:=Ab ..;lia) λj v hv=>?_;obtain⟨k,x,hx,hk'⟩:=hacc.2 j v (by rw[<-Hf];exact hv);obtain⟨y,hy⟩:=GD rkv hx;exact⟨kV k,by rw[Ax,hy];rfl,GF hk'⟩
def pG{n:Nat}(i j:Nat)(h:i≠j):n+i≠n+j:=by lia
def tY{n:Nat}(i:Nat)(h:i≠0):n+i≠n:=by lia
def GG{n:Nat}(i:Nat)(h:i≠0):n≠n+i:=by lia
def iN{n a:Nat}(i:Nat)(h:a<n):a≠n+i:=by lia
def tZ{n a:Nat}(h:a<n):a≠n:=by lia
def GH{n:Nat}(i:Nat):n<=n+i:=by lia
def t5(K:Ac)(a b:Addr)(xs ys:List V):It:=
 ⟨λi H=>bK K H a xs/\bK K H b ys/\i<xs.length/\i<ys.length,
   λi H x H'=>∃p u v,xs[i]? = some u/\ys[i]? = some v/\H p=none/\x=.ref p/\H'=aY H p (.tup [u,v]),
   λi H=>bK K H a xs/\bK K H b ys/\(xs.length<=i\/ys.length<=i)⟩
def VQ{P:Bt}{w:Cm}{K:Ac}{es:List Expr}{kx:Nat}{px:Pos}(a b z TI TO i1 i2:Addr)(xs ys:List V)(D:ZipApart z TI TO i1 i2 a b):
  jZ P w K (.Tuple es kx px) (t5 K a b xs ys) [z,TI,TO,i1,i2] z (λi h=>Mw h z TI TO .none/\Gz h TI (.ref i1) (.ref i2)/\(∃c d,Gz h TO c d)/\h.IsListIter i1 a i/\h.IsListIter i2 b i) where
 mem:=by simp
 obj:=λi h st c hc=>by
  obtain⟨h1,h2,⟨p,q,h3⟩,⟨o4,h4,_,h4d⟩,⟨o5,h5,_,h5d⟩⟩:=st;simp only[Aj,Cr,or_false]at hc;rcases hc with rfl|rfl|rfl|rfl|rfl
  .exact⟨_,h1,λv q=>by cases q⟩
  .exact⟨_,h2,λv q=>by cases q⟩
  .exact⟨_,h3,λv q=>by cases q⟩
  .exact⟨_,h4,λv q=>by rw[h4d]at q;cases q⟩
  .exact⟨_,h5,λv q=>by rw[h5d]at q;cases q⟩
 keep:=λi h h' st k=>by
  obtain⟨h1,h2,⟨p,q,h3⟩,⟨o4,h4,r4⟩,⟨o5,h5,r5⟩⟩:=st;exact⟨k z (by simp) _ h1,k TI (by simp) _ h2,⟨p,q,k TO (by simp) _ h3⟩,⟨o4,k i1 (by simp) _ h4,r4⟩,⟨o5,k i2 (by simp) _ h5,r5⟩⟩
 item:=by
  intro X hP hw hK hc i pins s Z H E I hf st hg;subst hP hw hK;obtain⟨h1,h2,⟨c,d,h3⟩,h4,h5⟩:=st;obtain⟨hqa,hqb,hi,hj⟩:=hg;obtain⟨its,rv,pl,hz⟩:=I.list hqa;obtain⟨its2,rv2,pl2,hz2⟩:=I.list hqb;obtain⟨u,hu,ru⟩:=rv.get (Au hi);obtain⟨v,hv,rvv⟩:=rv2.get (Au hj);refine wpAny_pyNext_zip_item D h1 h2 h3 h4 h5 pl.isList pl2.isList (x:=u) (y:=v) (by simpa using hu) (by simpa using hv) λh' a1 a2 a3 a4 a5 a6 hk=>?_;refine⟨_,rfl,wpAny_letOwnedTupleGo_zip a1 λh'' z' sb=>?_⟩;have hfr:H s.heap.objs.size=none:=I.hok.fresh (Ai _);have ltz:z<s.heap.objs.size:=Av h1;have ltO:TO<s.heap.objs.size:=Av h3;have lt1:i1<s.heap.objs.size:=by obtain⟨_,e,_⟩:=h4;exact Av e
  have lt2:i2<s.heap.objs.size:=by obtain⟨_,e,_⟩:=h5;exact Av e
  have keep2:∀q o,q∉[z,TI,TO,i1,i2]->s.heap.get? q=some o->h''.get? q=some o:=λq o hq e=>by
   simp only[Aj,Cr,or_false,not_or]at hq;exact(sb.2 q hq.1).trans (hk q o hq.1 hq.2.2.1 hq.2.2.2.1 hq.2.2.2.2 e)
  have hp2:Gz h'' s.heap.objs.size u v:=(sb.2 _ (Dk ltz)).trans a5;have nfp:∀q∈[z,TI,TO,i1,i2],H q=none:=λq hq=>(hf q hq).1;have I1:Inv X pins Z (aY H s.heap.objs.size (.tup [xs[i],ys[i]])) {s with heap:=h''}:=by
   refine I.step (g':=s.gens) (d':=s.drawn) (t':=s.toks) (ch:=[z,TI,TO,i1,i2]) (λq hq=>⟨(hf q hq).2.2.2.1,(hf q hq).2.1,(hf q hq).2.2.2.2.1,(hf q hq).2.2.2.2.2⟩)
    (λq o _ _ hc e _=>keep2 q o hc e) (λq o _ _ hc e _=>⟨o.slots,keep2 q o hc e⟩) (λq o _ e n=>by rw[bF (Bs (Av e))];exact n)
    (λq o hc e=>⟨o,keep2 q o hc e⟩) (λq zs e=>by rw[bF (eR e hfr)];exact e) (λq o zs e=>by rw[bF (eR e hfr)];exact e) (λq ps e=>⟨#[],by rw[bF (eR e hfr),e];simp⟩) (λm hm=>?_) ?_ I.bare
   .obtain⟨o,es,ep,ho,r⟩:=hm;exact⟨o,es,ep,keep2 _ o (λz=>absurd rfl (hf _ z).2.1) ho,r⟩
   .intro q o e
    by_cases hq:q=s.heap.objs.size
    .subst hq;rw[cQ]at e;cases e;exact⟨by show 2<=Ao;decide,[u,v],.cons ru (.cons rvv .nil),⟨_,hp2,rfl,_,rfl⟩⟩
    .rw[bF hq]at e;refine(I.hok q o e).stay (λt w' ht qq=>keep2 t w' (λz=>?_) qq) (λt qq=>by rw[bF (eR qq hfr)];exact qq) λt zs qq=>by rw[bF (eR qq hfr)];exact qq
     have n0:=nfp t z;rcases ht with rfl|ht
     .rw[n0]at e;cases e
     .rw[n0]at ht;cases ht
  refine⟨.ref s.heap.objs.size,_,I1,rfl,⟨s.heap.objs.size,xs[i],ys[i],Au hi,Au hj,hfr,rfl,rfl⟩,⟨z',(sb.2 _ D.TIz).trans (hk _ _ D.TIz D.TITO D.TIi1 D.TIi2 h2),⟨u,v,(sb.2 _ D.TOz).trans a2⟩,a3.extBut sb.extBut D.i1z,a4.extBut sb.extBut D.i2z⟩,λq hq=>?_⟩;rw[bF]
  .exact nfp q hq
  .intro e;subst e;have:H s.heap.objs.size=none:=hfr;simp only[Aj,Cr,or_false]at hq;have ltI:TI<s.heap.objs.size:=Av h2;rcases hq with e|e|e|e|e
   .exact Dk ltz e
   .exact Dk ltI e
   .exact Dk ltO e
   .exact Dk lt1 e
   .exact Dk lt2 e
 done:=by
  intro X hP hw hK hc i pins s Z H E I hf st hg;subst hP hw hK;obtain⟨h1,h2,⟨c,d,h3⟩,h4,h5⟩:=st;obtain⟨hqa,hqb,hij⟩:=hg;obtain⟨its,rv,pl,hz⟩:=I.list hqa;obtain⟨its2,rv2,pl2,hz2⟩:=I.list hqb;have l1:=rv.length;have l2:=rv2.length;refine wpAny_pyNext_zip_end (I.ok.hd hc) D h1 h2 h3 h4 h5 pl.isList pl2.isList (hij.elim (λq=>.inl (by simp;lia)) λq=>.inr (by simp;lia)) λh' hk=>⟨rfl,?_⟩
  have keep2:∀q o,q∉[z,TI,TO,i1,i2]->s.heap.get? q=some o->h'.get? q=some o:=λq o hq e=>by
   simp only[Aj,Cr,or_false,not_or]at hq;exact hk q o hq.1 hq.2.2.1 hq.2.2.2.1 hq.2.2.2.2 e
  have nfp:∀q∈[z,TI,TO,i1,i2],H q=none:=λq hq=>(hf q hq).1;refine I.step (g':=s.gens) (d':=s.drawn) (t':=s.toks) (ch:=[z,TI,TO,i1,i2]) (λq hq=>⟨(hf q hq).2.2.2.1,(hf q hq).2.1,(hf q hq).2.2.2.2.1,(hf q hq).2.2.2.2.2⟩)
    (λq o _ _ hc e _=>keep2 q o hc e) (λq o _ _ hc e _=>⟨o.slots,keep2 q o hc e⟩) (λq o _ e n=>n)
    (λq o hc e=>⟨o,keep2 q o hc e⟩) (λq zs e=>e) (λq o zs e=>e) (λq ps e=>⟨#[],by rw[e];simp⟩) (λm hm=>?_) ?_ I.bare
  .obtain⟨o,es,ep,ho,r⟩:=hm;exact⟨o,es,ep,keep2 _ o (λz=>absurd rfl (hf _ z).2.1) ho,r⟩
  .intro q o e;refine(I.hok q o e).stay (λt w' ht qq=>keep2 t w' (λz=>?_) qq) (λt qq=>qq) λt zs qq=>qq;have n0:=nfp t z;rcases ht with rfl|ht
   .rw[n0]at e;cases e
   .rw[n0]at ht;cases ht
 self:=λ_ _ _ _ _ st h=>Ls st.1 h
def VR:Ct "zip" = some (.type "zip"):=by decide +kernel
end
section
variable {X:Cx}
def xY(K:Ac)(a:Addr)(xs:List V):It:=
 ⟨λi H=>bK K H a xs/\i<xs.length,
   λi H x H'=>∃p u,xs[i]? = some u/\H p=none/\x=.ref p/\H'=aY H p (.tup [.int (i:Nat),u]),
   λi H=>bK K H a xs/\xs.length<=i⟩
def Inv.laidT{pins:List (Addr×Obj)}{Z:St}{H:Hp}{s:Ag}{fp:List Addr}{h'':Heap}{tk:Nat}{xs:List V}{its:List Ae}(I:Inv X pins Z H s)(hf:∀b∈fp,hW X pins H b)(keep2:∀q o,q∉fp->s.heap.get? q=some o->h''.get? q=some o)(hz:xs.length<=Ao)(rv:a8 xs its)(hp2:h''.get? s.heap.objs.size=some {cls:=.type "tuple",data:=.seq its.toArray}):
  Inv X pins Z (aY H s.heap.objs.size (.tup xs)) {s with heap:=h'',toks:=tk}:=by
 have hfr:H s.heap.objs.size=none:=I.hok.fresh (Ai _);have nfp:∀q∈fp,H q=none:=λq hq=>(hf q hq).1;refine I.step (g':=s.gens) (d':=s.drawn) (t':=tk) (ch:=fp) (λq hq=>⟨(hf q hq).2.2.2.1,(hf q hq).2.1,(hf q hq).2.2.2.2.1,(hf q hq).2.2.2.2.2⟩)
  (λq o _ _ hc e _=>keep2 q o hc e) (λq o _ _ hc e _=>⟨o.slots,keep2 q o hc e⟩) (λq o _ e n=>by rw[bF (Bs (Av e))];exact n)
  (λq o hc e=>⟨o,keep2 q o hc e⟩) (λq zs e=>by rw[bF (eR e hfr)];exact e) (λq o zs e=>by rw[bF (eR e hfr)];exact e) (λq ps e=>⟨#[],by rw[bF (eR e hfr),e];simp⟩) (λm hm=>?_) ?_ I.bare
 .obtain⟨o,es,ep,ho,r⟩:=hm;exact⟨o,es,ep,keep2 _ o (λz=>absurd rfl (hf _ z).2.1) ho,r⟩
 .intro q o e
  by_cases hq:q=s.heap.objs.size
  .subst hq;rw[cQ]at e;cases e;exact⟨hz,its,rv,⟨_,hp2,rfl,_,rfl⟩⟩
  .rw[bF hq]at e;refine(I.hok q o e).stay (λt w' ht qq=>keep2 t w' (λz=>?_) qq) (λt qq=>by rw[bF (eR qq hfr)];exact qq) λt zs qq=>by rw[bF (eR qq hfr)];exact qq
   have n0:=nfp t z;rcases ht with rfl|ht
   .rw[n0]at e;cases e
   .rw[n0]at ht;cases ht
def Inv.turnedT{pins:List (Addr×Obj)}{Z:St}{H:Hp}{s:Ag}{fp:List Addr}{h'':Heap}{tk:Nat}(I:Inv X pins Z H s)(hf:∀b∈fp,hW X pins H b)(keep2:∀q o,q∉fp->s.heap.get? q=some o->h''.get? q=some o):Inv X pins Z H {s with heap:=h'',toks:=tk}:=by
 have nfp:∀q∈fp,H q=none:=λq hq=>(hf q hq).1;refine I.step (g':=s.gens) (d':=s.drawn) (t':=tk) (ch:=fp) (λq hq=>⟨(hf q hq).2.2.2.1,(hf q hq).2.1,(hf q hq).2.2.2.2.1,(hf q hq).2.2.2.2.2⟩)
   (λq o _ _ hc e _=>keep2 q o hc e) (λq o _ _ hc e _=>⟨o.slots,keep2 q o hc e⟩) (λq o _ e n=>n)
   (λq o hc e=>⟨o,keep2 q o hc e⟩) (λq zs e=>e) (λq o zs e=>e) (λq ps e=>⟨#[],by rw[e];simp⟩) (λm hm=>?_) ?_ I.bare
 .obtain⟨o,es,ep,ho,r⟩:=hm;exact⟨o,es,ep,keep2 _ o (λz=>absurd rfl (hf _ z).2.1) ho,r⟩
 .intro q o e;refine(I.hok q o e).stay (λt w' ht qq=>keep2 t w' (λz=>?_) qq) (λt qq=>qq) λt zs qq=>qq;have n0:=nfp t z;rcases ht with rfl|ht
  .rw[n0]at e;cases e
  .rw[n0]at ht;cases ht
def VS{P:Bt}{w:Cm}{K:Ac}{es:List Expr}{kx:Nat}{px:Pos}(a e it:Addr)(xs:List V)(hne:e≠it):
  jZ P w K (.Tuple es kx px) (xY K a xs) [e,it] e (λi h=>(∃old,IsEnum h e it (i:Nat) old)/\h.IsListIter it a i) where
 mem:=by simp
 obj:=λi h st c hc=>by
  obtain⟨⟨old,h1⟩,⟨o4,h4,_,h4d⟩⟩:=st;simp only[Aj,Cr,or_false]at hc;rcases hc with rfl|rfl
  .exact⟨_,h1,λv q=>by cases q⟩
  .exact⟨_,h4,λv q=>by rw[h4d]at q;cases q⟩
 keep:=λi h h' st k=>by
  obtain⟨⟨old,h1⟩,⟨o4,h4,r4⟩⟩:=st;exact⟨⟨old,k e (by simp) _ h1⟩,⟨o4,k it (by simp) _ h4,r4⟩⟩
 item:=by
  intro X hP hw hK hc i pins s Z H E I hf st hg;subst hP hw hK;obtain⟨⟨old,h1⟩,h4⟩:=st;obtain⟨hqa,hi⟩:=hg;obtain⟨its,rv,pl,hz⟩:=I.list hqa;obtain⟨u,hu,ru⟩:=rv.get (Au hi);refine wpAny_pyNext_enum_item h1 h4 pl.isList (x:=u) (by simpa using hu) hne λh' a1 a2 a3 a4 hk=>?_;refine⟨_,rfl,wpAny_letOwnedTupleGo_enum a1 λh'' e' sb=>?_⟩;have hfr:H s.heap.objs.size=none:=I.hok.fresh (Ai _);have lte:e<s.heap.objs.size:=Av h1;have lti:it<s.heap.objs.size:=by obtain⟨_,q,_⟩:=h4;exact Av q
  have keep2:∀q o,q∉[e,it]->s.heap.get? q=some o->h''.get? q=some o:=λq o hq eq=>by
   simp only[Aj,Cr,or_false,not_or]at hq;exact(sb.2 q hq.1).trans (hk q o hq.1 hq.2 eq)
  have hp2:h''.get? s.heap.objs.size=some {cls:=.type "tuple",data:=.seq [.int (i:Nat) s.toks,u].toArray}:=(sb.2 _ (Dk lte)).trans a3;have I1:Inv X pins Z (aY H s.heap.objs.size (.tup [.int (i:Nat),xs[i]])) {s with heap:=h'',toks:=s.toks+1}:=I.laidT (its:=[.int (i:Nat) s.toks,u]) hf keep2 (by show 2<=Ao;decide) (.cons ⟨_,rfl⟩ (.cons ru .nil)) hp2;refine⟨.ref s.heap.objs.size,_,I1,rfl,⟨s.heap.objs.size,xs[i],Au hi,hfr,rfl,rfl⟩,⟨⟨u,by rw[Int.natCast_add];exact e'⟩,a2.extBut sb.extBut hne.symm⟩,λq hq=>?_⟩;rw[bF]
  .exact(hf q hq).1
  .intro eq;subst eq;simp only[Aj,Cr,or_false]at hq;rcases hq with q|q
   .exact Dk lte q
   .exact Dk lti q
 done:=by
  intro X hP hw hK hc i pins s Z H E I hf st hg;subst hP hw hK;obtain⟨⟨old,h1⟩,h4⟩:=st;obtain⟨hqa,hij⟩:=hg;obtain⟨its,rv,pl,hz⟩:=I.list hqa;have l1:=rv.length;refine wpAny_pyNext_enum_end (I.ok.hd hc) h1 h4 pl.isList (by simp;lia) λh' hk=>⟨rfl,?_⟩
  exact I.turnedT (tk:=s.toks) hf λq o hq eq=>hk q o (λz=>hq (by simp[z])) eq
 self:=λ_ _ _ _ _ st h=>by
  obtain⟨⟨old,h1⟩,_⟩:=st;exact Ld h1 h
def VT(K:Ac)(ta:TA):TI:=λZ H R=>ta Z H λvs H1=>∃a xs,vs=[.ref a]/\bK K H1 a xs/\R (xY K a xs) H1
def VU{a:Expr}{ta:TA}{p pos:Pos}{es:List Expr}{kx:Nat}{px:Pos}(hg:Gl X "enumerate")(hm:X.mg "enumerate" = none)(ha:PA X [a] ta)(hs:Bj [a] X.env=[(false,eval a X.env)]:=by rfl):
  PI X (.Tuple es kx px) (.Call (.Name "enumerate" p) [a] [] pos) (VT X.K ta):=by
 intro pins s Z H R I h;refine Call_ (jX I hg hm boot_enumerate (Dx (bA (ha pos pins s Z H _ I h) λus s1 ⟨vs,H1,I1,r1,q1⟩=>?_) hs rfl));obtain⟨a,xs,rfl,hqa,q⟩:=q1;obtain⟨u,rfl,ru⟩:=vals1 r1;cases ru;obtain⟨its,rv1,pl,hz⟩:=I1.list hqa;refine call_enumerate_list pl.isList λh' g1 g2 g3 k=>?_;refine Ld g1 ?_;refine⟨s1.heap.objs.size+1,[s1.heap.objs.size+1,s1.heap.objs.size],_,_,H1,rfl,I1.kept (t':=s1.toks) k,VS a _ _ xs (tY 1 (by decide)),⟨⟨_,g1⟩,g2⟩,λq hq=>?_,q⟩;have hge:s1.heap.objs.size<=q:=by
  simp only[Aj,Cr,or_false]at hq;rcases hq with e|e
  .rw[e];exact GH 1
  .rw[e];exact Ai _
 exact I1.fpOk hge (I1.hok.fresh hge)
end
abbrev zgf:=aE×List aE
end L2
namespace L2
open PySem PySem.Spec PySem.W PyProof.Rows
section
variable {prog:Bt}{w:Cm}{A:Ck}{E:Ae->Ag->Prop}{s:Ag}
def VW{it d:Addr}{i ep:Nat}{es:Array Ia}{od:Obj}{Q:Option Ae->Ag->Prop}(hit:s.heap.IsKeyIter it d i es.size ep)(hod:s.heap.get? d=some od)(hdd:od.data=.dict es ep)(hi:i<es.size)(hQ:∀h',h'.IsKeyIter it d (i+1) es.size ep->Eu it s.heap h'->Q (some es[i].key) {s with heap:=h'}):Be (Bn prog w) A (Im (.ref it)) Q E s:=by
 have hT:=hit.typeIs;obtain⟨o,ho,hc,hd⟩:=id hit;have own:Builtin.Dict_items.ownsTuple "dict_keyiterator" = false:=by decide
 have nn:¬((Value.ref d==Value.none)=true):=Ar;have up:(s.heap.update it (Obj.mapFields (·.setIfInBounds 1 (Jn ((i:Int)+1))))).IsKeyIter it d (i+1) es.size ep:=
  ⟨_,Gf _ ho (Obj.isFreed_of_fields (Kl hd _)),(Obj.cls_mapFields ..).trans hc,by rw[Kl hd];simp[Jn]⟩
 have uT:=up.typeIs (s:={s with heap:=s.heap.update it (Obj.mapFields (·.setIfInBounds 1 (Jn ((i:Int)+1))))});unfold Im;refine Aa (Ng (Fg (name:=Ec "__next__") hT Es (Ff Es hT PySem.F.entry_dict_keyiterator_next ?_ (PySem.F.args_dict_keyiterator_next_1 _))));refine Aa (Ah (Aa (Aa ?_)))
 first|refine Aa (Hg hT (Ah ?_))|refine Aa (Iz hT (Ah ?_))
 refine Aa (wpAny_fieldsOf ho hd ?_);rw[own,if_neg Ar];show Be _ _ (if (Value.ref d==Value.none)=true then _ else _) _ _ _;rw[if_neg nn];refine Aa (Ah (Aa (Ib hod hdd ?_)));rw[if_neg (by simp)];refine Aa (Ah (Aa (wpAny_dictEpoch hod hdd ?_)));rw[if_neg (by simp)];refine Ah ?_;simp only[show ¬((i:Int)<0) by lia,if_false,Dg,Array.getElem?_eq_getElem hi];refine Aa ?_
 first|refine Aa (Hg hT (Ah ?_))|refine Aa (Iz hT (Ah ?_))
 refine Aa (wpAny_isOneOf_keyiter hT ?_);show Be _ _ (setField (.ref it) 1 (Jn ((i:Int)+1))>>=_) _ _ _;refine Aa (Mu ho hd (by simp) (Aa (Cv (Aa (wpAny_isOneOf_keyiter uT ?_)))));show Be _ _ (pure es[i].key) _ _ _;exact Ah (Ah ⟨_,rfl,Ah (hQ _ up (Ew ..))⟩)
def VX{it d:Addr}{i ep:Nat}{es:Array Ia}{od:Obj}{Q:Option Ae->Ag->Prop}(hh:A.handled=none)(hit:s.heap.IsKeyIter it d i es.size ep)(hod:s.heap.get? d=some od)(hdd:od.data=.dict es ep)(hi:es.size<=i)(hQ:∀h',Lx it s.heap h'->Q none {s with heap:=h'}):Be (Bn prog w) A (Im (.ref it)) Q E s:=by
 have hT:=hit.typeIs;obtain⟨o,ho,hc,hd⟩:=id hit;have own:Builtin.Dict_items.ownsTuple "dict_keyiterator" = false:=by decide
 have nn:¬((Value.ref d==Value.none)=true):=Ar;unfold Im;refine Aa (Ng (Fg (name:=Ec "__next__") hT Es (Ff Es hT PySem.F.entry_dict_keyiterator_next ?_ (PySem.F.args_dict_keyiterator_next_1 _))));refine Aa (Ah (Aa (Aa ?_)))
 first|refine Aa (Hg hT (Ah ?_))|refine Aa (Iz hT (Ah ?_))
 refine Aa (wpAny_fieldsOf ho hd ?_);rw[own,if_neg Ar];show Be _ _ (if (Value.ref d==Value.none)=true then _ else _) _ _ _;rw[if_neg nn];refine Aa (Ah (Aa (Ib hod hdd ?_)));rw[if_neg (by simp)];refine Aa (Ah (Aa (wpAny_dictEpoch hod hdd ?_)));rw[if_neg (by simp)];refine Ah ?_;simp only[show ¬((i:Int)<0) by lia,if_false,Dg,Array.getElem?_eq_none hi];refine Aa ?_
 first|refine Aa (Hg hT (Ah ?_))|refine Aa (Iz hT (Ah ?_))
 show Be _ _ (setField (.ref it) 0 .none>>=_) _ _ _;refine Aa (Mu ho hd (by simp) ?_);show Be _ _ (newExc (.type "StopIteration") []>>=_) _ _ _;refine Aa ?_;simp only[newExc,newTuple];refine Aa (Du (Aa (m:=Mv _ _) (wpAny_of_eq (a:=Value.none) (by first|rfl|(simp only[Mv];rfl)) (Du ?_ (by size_fits)))) (by size_fits));simp only[raiseNew];refine Aa (wpAny_handled ?_);rw[show A.in1.handled=none from hh];refine Aa (Ah (wpAny_throw ?_));refine Aa (Lu (T:="StopIteration") (b:=true) ⟨_,Ba _ rfl,rfl⟩ isSubtype_stop ?_);exact Ah (hQ _ (((Ew ..).extBut.push _).push _))
def qW(h:Heap)(a:Addr)(es:Array Ia)(ep:Nat):Prop:=∃o,h.get? a=some o/\o.ExactDict/\o.data=.dict es ep
def qW.typeIs{d:Addr}{es:Array Ia}{ep:Nat}(h:qW s.heap d es ep):s.TypeIs (.ref d) "dict":=let ⟨o,ho,hc,_⟩:=h;⟨o,ho,hc.1⟩
def GJ{d:Addr}{es:Array Ia}{ep:Nat}{Q:Ae->Ag->Prop}(hd:(d==Ga)=false)(hm:qW s.heap d es ep)(hQ:Q (.ref s.heap.objs.size) {s with heap:=s.heap.push {cls:=.type "dict_keyiterator",data:=.fields #[.ref d,.int 0 0,.int es.size 0,.int ep 0]}}):Be (Bn prog w) A (pyIter (.ref d)) Q E s:=by
 have hT:=hm.typeIs;obtain⟨o,ho,hc,hdat⟩:=hm;refine wpAny_pyIter_slot hT PySem.F.slot_dict_iter (Ff PySem.F.slot_dict_iter hT PySem.F.entry_dict_iter ?_ (PySem.F.args_dict_iter_1 _));unfold Mh.«dict.__iter__»;refine Aa ?_;unfold Builtin.Dict.dictSlotNone;refine Aa (Jw hT (Ah ?_));show Be _ _ (Builtin.Dict.showsAll d>>=_) _ _ _;unfold Builtin.Dict.showsAll;rw[if_neg (by rw[hd];exact Ar)];refine Aa (Ah (Aa (Ib ho hdat (Aa (wpAny_dictEpoch ho hdat ?_)))));refine Aa (Du (Ah ⟨_,rfl,"dict_keyiterator",_,⟨_,Ba _ rfl,rfl⟩,Es.lookup,?_⟩));simpa [Jn] using hQ
end
end L2
namespace PySem
namespace Zt
open PyProof.Rows L2 PySem.Spec
section
variable {prog:Bt}{w:Cm}{A:Ck}{E:Ae->Ag->Prop}{s:Ag}
def VY{O:Type}{Q:O->Ag->Prop}(hh:A.handled=none)(hE:∀h' e,(∀c o,s.heap.get? c=some o->h'.get? c=some o)->(∃o,h'.get? e=some o/\o.cls=.type "StopIteration")->E (.ref e) {s with heap:=h'}):
  Be (Bn prog w) A (Builtin.SmallTypes.stopIteration:Sem O) Q E s:=by
 unfold Builtin.SmallTypes.stopIteration;refine Aa (m:=newExc (.type "StopIteration") []) ?_;simp only[newExc,newTuple];refine Aa (Du (Aa (m:=Mv _ _) (wpAny_of_eq (a:=Value.none) (by first|rfl|(simp only[Mv];rfl)) (Du ?_ (by size_fits)))) (by size_fits));simp only[raiseNew];refine Aa (wpAny_handled ?_);rw[hh];refine Aa (Ah (wpAny_throw (hE _ _ (λc o e=>Af _ (Af _ e)) ⟨_,Ba _ rfl,rfl⟩)))
structure lP(prog:Bt)(w:Cm)(i l:Addr)(xs:Array Ae)(St:Nat->Heap->Prop):Prop where
 keep:∀k h h',St k h->(∀c,c=i\/c=l->∀o,h.get? c=some o->h'.get? c=some o)->St k h'
 there:∀k h,St k h->i<h.objs.size
 item:∀(A:Ck) (E:Ae->Ag->Prop) (s:Ag) (k:Nat) (x:Ae) (Q:Ae->Ag->Prop),St k s.heap->xs[k]? = some x->(∀h',St (k+1) h'->Eu i s.heap h'->Q x {s with heap:=h'})->
  Be (Bn prog w) A (Dj (.ref i)) Q E s
 stop:∀(A:Ck) (E:Ae->Ag->Prop) (s:Ag) (k:Nat) (Q:Ae->Ag->Prop),A.handled=none->St k s.heap->xs[k]? = none->
  (∀h' e,Lx i s.heap h'->(∃o,h'.get? e=some o/\o.cls=.type "StopIteration")->E (.ref e) {s with heap:=h'})->Be (Bn prog w) A (Dj (.ref i)) Q E s
def side_tuple(i l:Addr)(hne:l≠i)(xs:Array Ae):lP prog w i l xs (λk h=>h.IsTupleIter i l k/\h.IsTuple l xs) where
 keep:=λk h h' x hk=>by
  obtain⟨⟨o,e,r⟩,⟨u,g,q⟩⟩:=x;exact⟨⟨o,hk i (.inl rfl) o e,r⟩,⟨u,hk l (.inr rfl) u g,q⟩⟩
 there:=λk h x=>by obtain⟨_,e,_⟩:=x.1;exact Av e
 item:=λA E s k x Q st hx hQ=>by
  obtain⟨⟨o,ho,hc,hd⟩,⟨u,hu,hcu,n,hdu⟩⟩:=st;have ty:s.TypeIs (.ref i) "tuple_iterator":=⟨o,ho,hc⟩;unfold Dj;refine Aa (Fg (name:=Ec "__next__") ty Ii (Ff Ii ty F.entry_tuple_iterator_next ?_ (F.args_tuple_iterator_next_1 _)));show Be _ _ (field (.ref i) 0>>=λq=>_) _ _ _;refine Aa (Fe ho hd (x:=.ref l) rfl ?_);show Be _ _ (if (Value.ref l==Value.none)=true then _ else _) _ _ s;rw[if_neg (show ¬(Value.ref l==Value.none)=true from λz=>nomatch z)];show Be _ _ (field (.ref i) 1>>=λq=>_) _ _ _;refine Aa (Fe ho hd (x:=.int k 0) rfl ?_);show Be _ _ (Na (.ref l)>>=λq=>_) _ _ _;refine Aa (Ek hu hdu ?_);simp only[Dg,hx];refine Aa (Mu ho hd (by simp) (Ah ⟨x,rfl,Ah (hQ _ ⟨⟨_,Gf _ ho (Obj.isFreed_of_fields (Kl hd _)),(Obj.cls_mapFields ..).trans hc,?_⟩,⟨u,?_,hcu,n,hdu⟩⟩ (Ew ..))⟩))
  .rw[Kl hd];simp[Jn]
  .exact(Dc _ _ (Bi hne)).trans hu
 stop:=λA E s k Q hh st hx hE=>by
  obtain⟨⟨o,ho,hc,hd⟩,⟨u,hu,hcu,n,hdu⟩⟩:=st;have ty:s.TypeIs (.ref i) "tuple_iterator":=⟨o,ho,hc⟩;unfold Dj;refine Aa (Fg (name:=Ec "__next__") ty Ii (Ff Ii ty F.entry_tuple_iterator_next ?_ (F.args_tuple_iterator_next_1 _)));show Be _ _ (field (.ref i) 0>>=λq=>_) _ _ _;refine Aa (Fe ho hd (x:=.ref l) rfl ?_);show Be _ _ (if (Value.ref l==Value.none)=true then _ else _) _ _ s;rw[if_neg (show ¬(Value.ref l==Value.none)=true from λz=>nomatch z)];show Be _ _ (field (.ref i) 1>>=λq=>_) _ _ _;refine Aa (Fe ho hd (x:=.int k 0) rfl ?_);show Be _ _ (Na (.ref l)>>=λq=>_) _ _ _;refine Aa (Ek hu hdu ?_);simp only[Dg,hx];refine Aa (Hl (Aa (Mu ho hd (by simp) (VY hh λh' e hk he=>hE h' e (λc q hc' g=>hk c q ((Dc _ _ (Bi hc')).trans g)) he))))
structure Apart(z TI TO i1 i2 l1 l2:Addr):Prop where
 nd : [z,TI,TO,i1,i2].Nodup
 a:l1≠z/\l1≠TI/\l1≠TO/\l1≠i1/\l1≠i2
 b:l2≠z/\l2≠TI/\l2≠TO/\l2≠i1/\l2≠i2
variable {z TI TO i1 i2 l1 l2:Addr}{xs ys:Array Ae}{S1 S2:Nat->Heap->Prop}
def item{k:Nat}{x y a b:Ae}{Q:Ae->Ag->Prop}(D:Apart z TI TO i1 i2 l1 l2)(W1:lP prog w i1 l1 xs S1)(W2:lP prog w i2 l2 ys S2)(hz:Mw s.heap z TI TO .none)(hI:Gz s.heap TI (.ref i1) (.ref i2))(hO:Gz s.heap TO a b)(h1:S1 k s.heap)(h2:S2 k s.heap)(hx:xs[k]? = some x)(hy:ys[k]? = some y)(hQ:∀h',Mw h' z TI TO (Jn s.heap.objs.size)->Gz h' TO x y->S1 (k+1) h'->S2 (k+1) h'->Gz h' s.heap.objs.size x y->(∀c o,c≠z->c≠TO->c≠i1->c≠i2->s.heap.get? c=some o->h'.get? c=some o)->Q (.ref s.heap.objs.size) {s with heap:=h'}):
  Be (Bn prog w) A (Mh.«zip.__next__» ⟨[.ref z],[]⟩) (λfin s'=>∃v,fin=.done (.ret v)/\Q v s') E s:=by
 have nd:=D.nd;simp only[Cs,Aj,Jl,or_false,not_or,not_false_eq_true,Cq,and_true]at nd;obtain⟨⟨zI,zO,z1,z2⟩,⟨IO,I1,I2⟩,⟨O1,O2⟩,n12⟩:=nd;obtain⟨az,aI,aO,a1,a2⟩:=D.a;obtain⟨bz,bI,bO,b1,b2⟩:=D.b;show Be _ _ (field (.ref z) 2>>=λq=>_) _ _ _;refine Aa (Fe hz rfl (x:=.bool false) rfl ?_);show Be _ _ (field (.ref z) 3>>=λq=>_) _ _ _;refine Aa (Fe hz rfl (x:=.ref TI) rfl (Aa (Ek hI rfl ?_)));show Be _ _ (Fo (.ref z)>>=λq=>_) _ _ _;refine Aa ?_;unfold Fo;refine Aa (Fe hz rfl (x:=.none) rfl (Ah ?_));simp only[if_true];refine Aa (Hl (Aa (Fe hz rfl (x:=.ref TO) rfl (Aa (Hk hz (by simp) λg1 q1 s1=>Aa ?_)))));simp only[Kx,List.zipIdx_nil,Lo,List.forIn_nil];have k1:∀c,c=i1\/c=l1->c≠z/\c≠TO/\c≠i2:=λc hc=>by
  rcases hc with rfl|rfl
  .exact⟨Bi z1,Bi O1,n12⟩
  .exact⟨az,aO,a2⟩
 have k2:∀c,c=i2\/c=l2->c≠z/\c≠TO/\c≠i1:=λc hc=>by
  rcases hc with rfl|rfl
  .exact⟨Bi z2,Bi O2,Bi n12⟩
  .exact⟨bz,bO,b1⟩
 refine Aa (Aa (Nf ?_));show Be _ _ (Dj (.ref i1)>>=λq=>_) _ _ _;refine Aa (W1.item _ _ {s with heap:=g1} k x _ (W1.keep k _ _ h1 λc hc o e=>s1.extBut c o (k1 c hc).1 e) hx λg2 t2 s2=>Ah ?_);have o2:Gz g2 TO a b:=s2.extBut _ _ O1 (s1.extBut _ _ (Bi zO) hO);refine Aa (Ek o2 rfl (Aa (Ms o2 λg3 o3 s3=>Aa (Gg (Ah ?_)))))
 replace o3:Gz g3 TO x b:=o3
 refine Aa (Aa (Nf ?_));show Be _ _ (Dj (.ref i2)>>=λq=>_) _ _ _;refine Aa (W2.item _ _ {s with heap:=g3} k y _ (W2.keep k _ _ h2 λc hc o e=>s3.extBut c o (k2 c hc).2.1 (s2.extBut c o (k2 c hc).2.2 (s1.extBut c o (k2 c hc).1 e))) hy λg4 t4 s4=>Ah ?_);have o4:Gz g4 TO x b:=s4.extBut _ _ O2 o3;refine Aa (Ek o4 rfl (Aa (Ms o4 λg5 o5 s5=>Aa (Gg (Ah (Ah ?_))))))
 replace o5:Gz g5 TO x y:=o5
 refine Aa (Ek o5 rfl (Aa (wpAny_newTuple ?_)));have size5:g5.objs.size=s.heap.objs.size:=by rw[s5.1,s4.1,s3.1,s2.1,s1.1]
 have z5:Mw g5 z TI TO .ellipsis:=s5.extBut _ _ zO (s4.extBut _ _ z2 (s3.extBut _ _ zO (s2.extBut _ _ z1 q1)));have lz:z<g5.objs.size:=Av z5;refine Aa (m:=Builtin.SmallTypes.ownedTupleHandOut _ _) ?_;unfold Builtin.SmallTypes.ownedTupleHandOut;have z6:Mw (g5.push {cls:=.type "tuple",data:=.seq #[x,y]}) z TI TO .ellipsis:=Af _ z5;refine Aa (Hk z6 (by simp) λg7 z7 s7=>Hk z7 (by simp) λg8 z8 s8=>Ah ⟨_,rfl,?_⟩);have up:∀c o,c≠z->g5.get? c=some o->g8.get? c=some o:=λc o hc e=>s8.extBut _ _ hc (s7.extBut _ _ hc (Af _ e));have t8:Gz g8 g5.objs.size x y:=s8.extBut _ _ (Dk lz) (s7.extBut _ _ (Dk lz) (Ba _ rfl));have r1:S1 (k+1) g8:=W1.keep _ _ _ t2 λc hc o e=>up c o (k1 c hc).1 (s5.extBut _ _ (k1 c hc).2.1 (s4.extBut _ _ (k1 c hc).2.2 (s3.extBut _ _ (k1 c hc).2.1 e)));have r2:S2 (k+1) g8:=W2.keep _ _ _ t4 λc hc o e=>up c o (k2 c hc).1 (s5.extBut _ _ (k2 c hc).2.1 e);show Q (.ref g5.objs.size) _
 replace z8:Mw g8 z TI TO (Jn g5.objs.size):=z8
 rw[size5]at z8 t8⊢;exact hQ g8 z8 (up _ _ (Bi zO) o5) r1 r2 t8 λc o c1 c2 c3 c4 e=>up c o c1 (s5.extBut _ _ c2 (s4.extBut _ _ c4 (s3.extBut _ _ c2 (s2.extBut _ _ c3 (s1.extBut _ _ c1 e)))))
def stop{k:Nat}{a b:Ae}{Q:Fin->Ag->Prop}(hh:A.handled=none)(D:Apart z TI TO i1 i2 l1 l2)(W1:lP prog w i1 l1 xs S1)(W2:lP prog w i2 l2 ys S2)(hz:Mw s.heap z TI TO .none)(hI:Gz s.heap TI (.ref i1) (.ref i2))(hO:Gz s.heap TO a b)(h1:S1 k s.heap)(h2:S2 k s.heap)(hend:xs[k]? = none\/ys[k]? = none)(hE:∀h' e,(∀c o,c≠z->c≠TO->c≠i1->c≠i2->s.heap.get? c=some o->h'.get? c=some o)->(∃o,h'.get? e=some o/\o.cls=.type "StopIteration")->E (.ref e) {s with heap:=h'}):
  Be (Bn prog w) A (Mh.«zip.__next__» ⟨[.ref z],[]⟩) Q E s:=by
 have nd:=D.nd;simp only[Cs,Aj,Jl,or_false,not_or,not_false_eq_true,Cq,and_true]at nd;obtain⟨⟨zI,zO,z1,z2⟩,⟨IO,I1,I2⟩,⟨O1,O2⟩,n12⟩:=nd;obtain⟨az,aI,aO,a1,a2⟩:=D.a;obtain⟨bz,bI,bO,b1,b2⟩:=D.b;have k1:∀c,c=i1\/c=l1->c≠z:=λc hc=>by rcases hc with rfl|rfl;exact Bi z1;exact az
 have k2:∀c,c=i2\/c=l2->c≠z/\c≠TO/\c≠i1:=λc hc=>by
  rcases hc with rfl|rfl
  .exact⟨Bi z2,Bi O2,Bi n12⟩
  .exact⟨bz,bO,b1⟩
 show Be _ _ (field (.ref z) 2>>=λq=>_) _ _ _;refine Aa (Fe hz rfl (x:=.bool false) rfl ?_);show Be _ _ (field (.ref z) 3>>=λq=>_) _ _ _;refine Aa (Fe hz rfl (x:=.ref TI) rfl (Aa (Ek hI rfl ?_)));show Be _ _ (Fo (.ref z)>>=λq=>_) _ _ _;refine Aa ?_;unfold Fo;refine Aa (Fe hz rfl (x:=.none) rfl (Ah ?_));simp only[if_true];refine Aa (Hl (Aa (Fe hz rfl (x:=.ref TO) rfl (Aa (Hk hz (by simp) λg1 q1 s1=>Aa ?_)))));simp only[Kx,List.zipIdx_nil,Lo,List.forIn_nil];refine Aa (Aa (Nf ?_));show Be _ _ (Dj (.ref i1)>>=λq=>_) _ _ _;cases hx:xs[k]? with
 | none=>
  refine Aa (W1.stop _ _ {s with heap:=g1} k _ hh (W1.keep k _ _ h1 λc hc o e=>s1.extBut c o (k1 c hc) e) hx λg2 e s2 he=>?_);obtain⟨oe,ge,ce⟩:=he;have q2:Mw g2 z TI TO .ellipsis:=s2 _ _ z1 q1;have ez:e≠z:=λu=>by subst u;rw[q2]at ge;cases ge;simp at ce
  exact Hk q2 (by simp) λg3 _ s3=>hE g3 e (λc o c1 _ c3 _ u=>s3.extBut _ _ c1 (s2 _ _ c3 (s1.extBut _ _ c1 u))) ⟨oe,s3.extBut _ _ ez ge,ce⟩
 | some x=>
  have hy:ys[k]? = none:=by rcases hend with h|h;rw[hx]at h;cases h;exact h
  refine Aa (W1.item _ _ {s with heap:=g1} k x _ (W1.keep k _ _ h1 λc hc o e=>s1.extBut c o (k1 c hc) e) hx λg2 t2 s2=>Ah ?_);have o2:Gz g2 TO a b:=s2.extBut _ _ O1 (s1.extBut _ _ (Bi zO) hO);refine Aa (Ek o2 rfl (Aa (Ms o2 λg3 o3 s3=>Aa (Gg (Ah ?_)))));refine Aa (Aa (Nf ?_));show Be _ _ (Dj (.ref i2)>>=λq=>_) _ _ _;refine Aa (W2.stop _ _ {s with heap:=g3} k _ hh (W2.keep k _ _ h2 λc hc o e=>s3.extBut c o (k2 c hc).2.1 (s2.extBut c o (k2 c hc).2.2 (s1.extBut c o (k2 c hc).1 e))) hy λg4 e s4 he=>?_);obtain⟨oe,ge,ce⟩:=he;have q4:Mw g4 z TI TO .ellipsis:=s4 _ _ z2 (s3.extBut _ _ zO (s2.extBut _ _ z1 q1));have ez:e≠z:=λu=>by subst u;rw[q4]at ge;cases ge;simp at ce
  exact Hk q4 (by simp) λg5 _ s5=>hE g5 e (λc o c1 c2 c3 c4 u=>s5.extBut _ _ c1 (s4 _ _ c4 (s3.extBut _ _ c2 (s2.extBut _ _ c3 (s1.extBut _ _ c1 u))))) ⟨oe,s5.extBut _ _ ez ge,ce⟩
end
end Zt
end PySem
namespace PySem
namespace Zt
open PyProof.Rows L2 PySem.Spec
section
variable {prog:Bt}{w:Cm}{A:Ck}{E:Ae->Ag->Prop}{s:Ag}{z TI TO i1 i2 l1 l2:Addr}{xs ys:Array Ae}{S1 S2:Nat->Heap->Prop}
def next_item{k:Nat}{x y a b:Ae}{Q:Option Ae->Ag->Prop}(D:Apart z TI TO i1 i2 l1 l2)(W1:lP prog w i1 l1 xs S1)(W2:lP prog w i2 l2 ys S2)(hz:Mw s.heap z TI TO .none)(hI:Gz s.heap TI (.ref i1) (.ref i2))(hO:Gz s.heap TO a b)(h1:S1 k s.heap)(h2:S2 k s.heap)(hx:xs[k]? = some x)(hy:ys[k]? = some y)(hQ:∀h',Mw h' z TI TO (Jn s.heap.objs.size)->Gz h' TO x y->S1 (k+1) h'->S2 (k+1) h'->Gz h' s.heap.objs.size x y->(∀c o,c≠z->c≠TO->c≠i1->c≠i2->s.heap.get? c=some o->h'.get? c=some o)->Q (some (.ref s.heap.objs.size)) {s with heap:=h'}):
  Be (Bn prog w) A (Im (.ref z)) Q E s:=by
 have ty:s.TypeIs (.ref z) "zip":=⟨_,hz,rfl⟩;unfold Im;exact Aa (Ng (Fg (name:=Ec "__next__") ty Lz (Ff Lz ty F.entry_zip_next (item D W1 W2 hz hI hO h1 h2 hx hy λh' c1 c2 c3 c4 c5 c6=>Ah (hQ h' c1 c2 c3 c4 c5 c6)) (F.args_zip_next_1 _))))
def next_stop{k:Nat}{a b:Ae}{Q:Option Ae->Ag->Prop}(hh:A.handled=none)(D:Apart z TI TO i1 i2 l1 l2)(W1:lP prog w i1 l1 xs S1)(W2:lP prog w i2 l2 ys S2)(hz:Mw s.heap z TI TO .none)(hI:Gz s.heap TI (.ref i1) (.ref i2))(hO:Gz s.heap TO a b)(h1:S1 k s.heap)(h2:S2 k s.heap)(hend:xs[k]? = none\/ys[k]? = none)(hQ:∀h',(∀c o,c≠z->c≠TO->c≠i1->c≠i2->s.heap.get? c=some o->h'.get? c=some o)->Q none {s with heap:=h'}):Be (Bn prog w) A (Im (.ref z)) Q E s:=by
 have ty:s.TypeIs (.ref z) "zip":=⟨_,hz,rfl⟩;unfold Im;refine Aa (Ng (Fg (name:=Ec "__next__") ty Lz (Ff Lz ty F.entry_zip_next (stop hh D W1 W2 hz hI hO h1 h2 hend λh' e hk ⟨o,ho,hc⟩=>?_) (F.args_zip_next_1 _))));exact Aa (Lu (T:="StopIteration") (b:=true) ⟨o,ho,hc⟩ isSubtype_stop (Ah (hQ _ hk)))
end
abbrev zh1(h:Heap)(a:Addr):Heap:=h.push {cls:=.type "tuple_iterator",data:=.fields #[.ref a,.int 0 0]}
abbrev zh2(h:Heap)(a b:Addr):Heap:=(zh1 h a).push {cls:=.type "tuple_iterator",data:=.fields #[.ref b,.int 0 0]}
abbrev zh3(h:Heap)(a b:Addr):Heap:=(zh2 h a b).push {cls:=.type "tuple",data:=.seq #[.ref h.objs.size,.ref (zh1 h a).objs.size]}
abbrev zh4(h:Heap)(a b:Addr):Heap:=(zh3 h a b).push {cls:=.type "tuple",data:=.seq #[.none,.none]}
abbrev zh5(h:Heap)(a b:Addr):Heap:=(zh4 h a b).push {cls:=.type "zip",data:=.fields #[.none,.bool false,.bool false,.ref (zh2 h a b).objs.size,.ref (zh3 h a b).objs.size]}
def meets_new(a b:Addr)(xs ys:Array Ae):
  Meets (Mh.«zip.__new__» ⟨[.type "zip",.ref a,.ref b],[]⟩) (λ_ R s=>s.heap.IsTuple a xs/\s.heap.IsTuple b ys/\R (.ok (.ret (.ref (zh4 s.heap a b).objs.size))) {s with heap:=zh5 s.heap a b}):=
 .of_wp λprog w A R s h=>by
  obtain⟨hp,g,d,tk,os⟩:=s;obtain⟨ta,tb,h⟩:=h;have hsub:=sub_zip;have T1:Heap.IsTuple (Shared.heap ⟨hp,g,d,tk,os⟩) a xs:=ta;have T2:Heap.IsTuple (Shared.heap ⟨hp.push {cls:=.type "tuple_iterator",data:=.fields #[.ref a,.int 0 0]},g,d,tk,os⟩) b ys:=by
   obtain⟨o,e,r⟩:=(show hp.IsTuple b ys from tb);exact⟨o,Af _ e,r⟩
  wp_walk using Hm T1,Hm T2
  exact⟨_,rfl,h⟩
end Zt
end PySem
namespace L2
open PySem Spec PyProof.Rows
def t6(K:Ac)(a b:Addr)(xs ys:List V):It:=
 ⟨λi H=>bS K H a xs/\bS K H b ys/\i<xs.length/\i<ys.length,
   λi H x H'=>∃p u v,xs[i]? = some u/\ys[i]? = some v/\H p=none/\x=.ref p/\H'=aY H p (.tup [u,v]),
   λi H=>bS K H a xs/\bS K H b ys/\(xs.length<=i\/ys.length<=i)⟩
def VZ{P:Bt}{w:Cm}{K:Ac}{es:List Expr}{kx:Nat}{px:Pos}(a b z TI TO i1 i2:Addr)(xs ys:List V)(D:Zt.Apart z TI TO i1 i2 a b):
  jZ P w K (.Tuple es kx px) (t6 K a b xs ys) [z,TI,TO,i1,i2] z (λi h=>Mw h z TI TO .none/\Gz h TI (.ref i1) (.ref i2)/\(∃c d,Gz h TO c d)/\h.IsTupleIter i1 a i/\h.IsTupleIter i2 b i) where
 mem:=by simp
 obj:=λi h st c hc=>by
  obtain⟨h1,h2,⟨p,q,h3⟩,⟨o4,h4,_,d4⟩,⟨o5,h5,_,d5⟩⟩:=st;simp only[Aj,Cr,or_false]at hc;rcases hc with rfl|rfl|rfl|rfl|rfl
  .exact⟨_,h1,λv g=>nomatch g⟩
  .exact⟨_,h2,λv g=>nomatch g⟩
  .exact⟨_,h3,λv g=>nomatch g⟩
  .exact⟨_,h4,λv g=>by rw[d4]at g;cases g⟩
  .exact⟨_,h5,λv g=>by rw[d5]at g;cases g⟩
 keep:=λi h h' st k=>by
  obtain⟨h1,h2,⟨p,q,h3⟩,⟨o4,h4,r4⟩,⟨o5,h5,r5⟩⟩:=st;exact⟨k z (by simp) _ h1,k TI (by simp) _ h2,⟨p,q,k TO (by simp) _ h3⟩,⟨o4,k i1 (by simp) _ h4,r4⟩,⟨o5,k i2 (by simp) _ h5,r5⟩⟩
 item:=by
  intro X hP hw hK hc i pins s Z H E I hf st hg;subst hP hw hK;obtain⟨h1,h2,⟨c,d,h3⟩,h4,h5⟩:=st;obtain⟨hqa,hqb,hi,hj⟩:=hg;obtain⟨its,rv,pl,hz⟩:=I.tuple hqa;obtain⟨its2,rv2,pl2,hz2⟩:=I.tuple hqb;obtain⟨u,hu,ru⟩:=rv.get (Au hi);obtain⟨v,hv,rvv⟩:=rv2.get (Au hj);refine Zt.next_item D (Zt.side_tuple i1 a D.a.2.2.2.1 its.toArray) (Zt.side_tuple i2 b D.b.2.2.2.2 its2.toArray) h1 h2 h3 ⟨h4,pl⟩ ⟨h5,pl2⟩ (x:=u) (y:=v) (by simpa using hu) (by simpa using hv) λh' c1 c2 c3 c4 c5 hk=>?_;refine⟨_,rfl,wpAny_letOwnedTupleGo_zip c1 λh'' z' sb=>?_⟩;have nd:=D.nd;simp only[Cs,Aj,Jl,or_false,not_or,not_false_eq_true,Cq,and_true]at nd;obtain⟨⟨zI,zO,z1,z2⟩,⟨IO,I1',I2'⟩,⟨O1,O2⟩,n12⟩:=nd;have hfr:H s.heap.objs.size=none:=I.hok.fresh (Ai _);have ltz:z<s.heap.objs.size:=Av h1;have keep2:∀q o,q∉[z,TI,TO,i1,i2]->s.heap.get? q=some o->h''.get? q=some o:=λq o hq e=>by
   simp only[Aj,Cr,or_false,not_or]at hq;exact(sb.2 q hq.1).trans (hk q o hq.1 hq.2.2.1 hq.2.2.2.1 hq.2.2.2.2 e)
  have hp2:h''.get? s.heap.objs.size=some {cls:=.type "tuple",data:=.seq [u,v].toArray}:=(sb.2 _ (Dk ltz)).trans c5;have I1:Inv X pins Z (aY H s.heap.objs.size (.tup [xs[i],ys[i]])) {s with heap:=h'',toks:=s.toks}:=I.laidT (its:=[u,v]) hf keep2 (by show 2<=Ao;decide) (.cons ru (.cons rvv .nil)) hp2;have low:∀q∈[z,TI,TO,i1,i2],q<s.heap.objs.size:=λq hq=>by
   simp only[Aj,Cr,or_false]at hq;rcases hq with rfl|rfl|rfl|rfl|rfl
   .exact ltz
   .exact Av h2
   .exact Av h3
   .obtain⟨_,e,_⟩:=h4;exact Av e
   .obtain⟨_,e,_⟩:=h5;exact Av e
  refine⟨.ref s.heap.objs.size,_,I1,rfl,⟨s.heap.objs.size,xs[i],ys[i],Au hi,Au hj,hfr,rfl,rfl⟩,⟨z',(sb.2 _ (Bi zI)).trans (hk _ _ (Bi zI) IO I1' I2' h2),⟨u,v,(sb.2 _ (Bi zO)).trans c2⟩,?_,?_⟩,λq hq=>?_⟩
  .obtain⟨o,e,r⟩:=c3.1;exact⟨o,(sb.2 _ (Bi z1)).trans e,r⟩
  .obtain⟨o,e,r⟩:=c4.1;exact⟨o,(sb.2 _ (Bi z2)).trans e,r⟩
  .rw[bF (Bs (low q hq))];exact(hf q hq).1
 done:=by
  intro X hP hw hK hc i pins s Z H E I hf st hg;subst hP hw hK;obtain⟨h1,h2,⟨c,d,h3⟩,h4,h5⟩:=st;obtain⟨hqa,hqb,hij⟩:=hg;obtain⟨its,rv,pl,hz⟩:=I.tuple hqa;obtain⟨its2,rv2,pl2,hz2⟩:=I.tuple hqb;have l1:=rv.length;have l2:=rv2.length;refine Zt.next_stop (I.ok.hd hc) D (Zt.side_tuple i1 a D.a.2.2.2.1 its.toArray) (Zt.side_tuple i2 b D.b.2.2.2.2 its2.toArray) h1 h2 h3 ⟨h4,pl⟩ ⟨h5,pl2⟩ (hij.elim (λq=>.inl (by simp;lia)) λq=>.inr (by simp;lia)) λh' hk=>⟨rfl,?_⟩
  exact I.turnedT (tk:=s.toks) hf λq o hq e=>hk q o (λy=>hq (by simp[y])) (λy=>hq (by simp[y])) (λy=>hq (by simp[y])) (λy=>hq (by simp[y])) e
 self:=λ_ _ _ _ _ st h=>Ls st.1 h
def V0(n:Nat): [n+4,n+2,n+3,n,n+1].Nodup:=by
 simp only[Cs,Aj,Jl,or_false,not_or,not_false_eq_true,Cq,and_true];lia
def t7{n q:Nat}(h:q∈[n+4,n+2,n+3,n,n+1]):n<=q:=by
 simp only[Aj,Cr,or_false]at h;lia
section
variable {X:Cx}
def V1{pins:List (Addr×Obj)}{s1:Ag}{Z:St}{H1:Hp}{R:It->Hp->Prop}{a b:Addr}{xs ys:List V}{es:List Expr}{kx:Nat}{px:Pos}(I1:Inv X pins Z H1 s1)(hqa:bS X.K H1 a xs)(hqb:bS X.K H1 b ys)(q:R (t6 X.K a b xs ys) H1):
  Be (Bn X.prog X.w) X.A (call (.type "zip") [.ref a,.ref b]) (λv s1=>Be (Bn X.prog X.w) X.A (pyIter v) (qK X pins Z (.Tuple es kx px) R) X.xe s1) X.xe s1:=by
 obtain⟨its,rv1,pl,hz⟩:=I1.tuple hqa;obtain⟨its2,rv2,pl2,hz2⟩:=I1.tuple hqb;have la:a<s1.heap.objs.size:=by obtain⟨_,e,_⟩:=(show s1.heap.IsTuple a its.toArray from pl);exact Av e
 have lb:b<s1.heap.objs.size:=by obtain⟨_,e,_⟩:=(show s1.heap.IsTuple b its2.toArray from pl2);exact Av e
 have y1:(Zt.zh1 s1.heap a).objs.size=s1.heap.objs.size+1:=Dn ..;have y2:(Zt.zh2 s1.heap a b).objs.size=s1.heap.objs.size+2:=by rw[Dn,y1]
 have y3:(Zt.zh3 s1.heap a b).objs.size=s1.heap.objs.size+3:=by rw[Dn,y2]
 have y4:(Zt.zh4 s1.heap a b).objs.size=s1.heap.objs.size+4:=by rw[Dn,y3]
 have kall:∀c o,s1.heap.get? c=some o->(Zt.zh5 s1.heap a b).get? c=some o:=λc o e=>Af _ (Af _ (Af _ (Af _ (Af _ e))));have e5:(Zt.zh5 s1.heap a b).get? (Zt.zh4 s1.heap a b).objs.size=some _:=Ba _ rfl;have e4:(Zt.zh5 s1.heap a b).get? (Zt.zh3 s1.heap a b).objs.size=some _:=Af _ (Ba _ rfl);have e3:(Zt.zh5 s1.heap a b).get? (Zt.zh2 s1.heap a b).objs.size=some _:=Af _ (Af _ (Ba _ rfl));have e2:(Zt.zh5 s1.heap a b).get? (Zt.zh1 s1.heap a).objs.size=some _:=Af _ (Af _ (Af _ (Ba _ rfl)));have e1:(Zt.zh5 s1.heap a b).get? s1.heap.objs.size=some _:=Af _ (Af _ (Af _ (Af _ (Ba _ rfl))));refine callType_new F.called_zip (by decide) (F.typeCall_zip_2 _ _) (F.newCall_zip_2 _ _) (λobj=>F.args_object_init_3 obj _ _) F.entry_zip_new (Zt.meets_new a b its.toArray its2.toArray) ⟨pl,pl2,⟨_,e5,rfl⟩,?_⟩;refine Ls e5 ?_;rw[y2,y3,y4]at e5;rw[y1,y2]at e3;rw[y3]at e4;rw[y1]at e2;rw[y4];refine⟨s1.heap.objs.size+4,[s1.heap.objs.size+4,s1.heap.objs.size+2,s1.heap.objs.size+3,s1.heap.objs.size,s1.heap.objs.size+1],_,_,H1,rfl,I1.kept (t':=s1.toks) kall,
  VZ a b (s1.heap.objs.size+4) (s1.heap.objs.size+2) (s1.heap.objs.size+3) s1.heap.objs.size (s1.heap.objs.size+1) xs ys ⟨V0 _,⟨iN 4 la,iN 2 la,iN 3 la,tZ la,iN 1 la⟩,⟨iN 4 lb,iN 2 lb,iN 3 lb,tZ lb,iN 1 lb⟩⟩,⟨e5,e3,⟨_,_,e4⟩,⟨_,e1,rfl,rfl⟩,⟨_,e2,rfl,rfl⟩⟩,λq hq=>I1.fpOk (t7 hq) (I1.hok.fresh (t7 hq)),q⟩
def V2{pins:List (Addr×Obj)}{s1:Ag}{Z:St}{H1:Hp}{R:It->Hp->Prop}{a b:Addr}{xs ys:List V}{es:List Expr}{kx:Nat}{px:Pos}(I1:Inv X pins Z H1 s1)(hqa:bK X.K H1 a xs)(hqb:bK X.K H1 b ys)(q:R (t5 X.K a b xs ys) H1):
  Be (Bn X.prog X.w) X.A (call (.type "zip") [.ref a,.ref b]) (λv s1=>Be (Bn X.prog X.w) X.A (pyIter v) (qK X pins Z (.Tuple es kx px) R) X.xe s1) X.xe s1:=by
 obtain⟨its,rv1,pl,hz⟩:=I1.list hqa;obtain⟨its2,rv2,pl2,hz2⟩:=I1.list hqb;have la:a<s1.heap.objs.size:=by obtain⟨_,e,_⟩:=pl.isList;exact Av e
 have lb:b<s1.heap.objs.size:=by obtain⟨_,e,_⟩:=pl2.isList;exact Av e
 refine call_zip_2 pl.isList pl2.isList λh' g1 g2 g3 g4 g5 g6 k=>Ls g1 ?_;refine⟨s1.heap.objs.size+4,[s1.heap.objs.size+4,s1.heap.objs.size+2,s1.heap.objs.size+3,s1.heap.objs.size,s1.heap.objs.size+1],_,_,H1,rfl,I1.kept (t':=s1.toks) k,
  VQ a b _ _ _ _ _ xs ys ⟨pG 2 4 (by decide),pG 3 4 (by decide),GG 4 (by decide),pG 1 4 (by decide),pG 2 3 (by decide),tY 2 (by decide),pG 2 1 (by decide),tY 3 (by decide),pG 3 1 (by decide),GG 1 (by decide),iN 4 la,iN 3 la,tZ la,iN 1 la,iN 4 lb,iN 3 lb,tZ lb,iN 1 lb⟩,⟨g1,g2,⟨_,_,g3⟩,g4,g5⟩,λq hq=>I1.fpOk (t7 hq) (I1.hok.fresh (t7 hq)),q⟩
def V3(K:Ac)(ta:TA):TI:=λZ H R=>ta Z H λvs H1=>∃a b xs ys,vs=[.ref a,.ref b]/\((bS K H1 a xs/\bS K H1 b ys/\R (t6 K a b xs ys) H1)\/(bK K H1 a xs/\bK K H1 b ys/\R (t5 K a b xs ys) H1))
def V4{a b:Expr}{ta:TA}{p pos:Pos}{es:List Expr}{kx:Nat}{px:Pos}(hg:Gl X "zip")(hm:X.mg "zip" = none)(ha:PA X [a,b] ta)(hs:Bj [a,b] X.env=[(false,eval a X.env),(false,eval b X.env)]:=by rfl)(hs2:Bj [b] X.env=[(false,eval b X.env)]:=by rfl):
  PI X (.Tuple es kx px) (.Call (.Name "zip" p) [a,b] [] pos) (V3 X.K ta):=by
 intro pins s Z H R I h;refine Call_ (jX I hg hm VR (Dx (bA (ha pos pins s Z H _ I h) λus s1 ⟨vs,H1,I1,r1,q1⟩=>?_) (by rw[hs,hs2]) (by rw[hs2];rfl)));obtain⟨a,b,xs,ys,rfl,q1⟩:=q1;obtain⟨u,v,rfl,ru,rv⟩:=vals2 r1;cases ru;cases rv;rcases q1 with⟨h1,h2,q⟩|⟨h1,h2,q⟩
 .exact V1 I1 h1 h2 q
 .exact V2 I1 h1 h2 q
end
end L2
namespace L3
open PySem Spec PyProof.Rows L2
abbrev SV:=L2.St
inductive W where
 | non|bl (b:Bool)|int (i:Int)|str (x:Str)|ty (n:String)|tup (ws:List W)|rl (ws:List W)|sc (ws:List W)|ref (a:Addr)
 | dk (kvs:List (aE×W))|dt (kvs:List (List aE×W))|fk (kvs:List (aE×W))|ft (kvs:List (List aE×W))
inductive MO where
 | lst (ws:List W)|dK (kvs:List (aE×W))|dT (kvs:List (List aE×W))|fix (vs:List V)|ins (C dx:Addr) (fs:List (Str×W))|tb (pos:Pos) (qual:Str)
abbrev Mm:=Addr->Option MO
def m8(pos:Pos):Option Addr->Array Ae
 | none=>#[]
 | some c=>#[Jn pos.line,Jn pos.col,.ref c]
def put(M:Mm)(a:Addr)(o:MO):Mm:=λb=>if b=a then some o else M b
def del(M:Mm)(a:Addr):Mm:=λb=>if b=a then none else M b
def aX{M:Mm}{a:Addr}{o:MO}:put M a o a=some o:=by unfold put;rw[if_pos rfl]
def aU{M:Mm}{a b:Addr}{o:MO}(h:b≠a):put M a o b=M b:=by unfold put;rw[if_neg h]
def fM{M:Mm}{a:Addr}{o u:MO}:put (put M a o) a u=put M a u:=by
 funext b;unfold put;split<;>rfl
def jG{M:Mm}{a:Addr}{o:MO}(h:M a=none):del (put M a o) a=M:=by
 funext b;unfold del put;split
 .rename_i e;rw[e,h]
 .rfl
def pH{M:Mm}{a:Addr}:del M a a=none:=by unfold del;rw[if_pos rfl]
def kO{M:Mm}{a b:Addr}(h:b≠a):del M a b=M b:=by unfold del;rw[if_neg h]
def t9{M:Mm}{a b:Addr}{o u:MO}(h:a≠b):put (put M a o) b u=put (put M b u) a o:=by
 funext c;unfold put
 by_cases h1:c=b
 .by_cases h2:c=a
  .exact absurd (h2.symm.trans h1) h
  .rw[if_pos h1,if_neg h2,if_pos h1]
 .by_cases h2:c=a
  .rw[if_neg h1,if_pos h2,if_pos h2]
  .rw[if_neg h1,if_neg h2,if_neg h2,if_neg h1]
def GK{M:Mm}{a:Addr}{o:MO}(h:M a=some o):put M a o=M:=by
 funext b;unfold put;split
 .rename_i e;rw[e,h]
 .rfl
def Sub(M M':Mm):Prop:=∀a o,M a=some o->M' a=some o
def Sub.refl(M:Mm):Sub M M:=λ_ _ h=>h
def Sub.trans{M M1 M2:Mm}(a:Sub M M1)(b:Sub M1 M2):Sub M M2:=λc o h=>b c o (a c o h)
def Sub.new{M:Mm}{a:Addr}{o:MO}(h:M a=none):Sub M (put M a o):=λb u e=>by
 rw[aU (λz=>by rw[z,h]at e;cases e)];exact e
def Sub.put{M M':Mm}{a:Addr}{o:MO}(h:Sub M M'):Sub (put M a o) (put M' a o):=λb u e=>by
 unfold L3.put at e⊢;split at e
 .rename_i z;rw[if_pos z];exact e
 .rename_i z;rw[if_neg z];exact h b u e
def Sub.del{M:Mm}{a:Addr}:Sub (del M a) M:=λb u e=>by
 unfold L3.del at e;split at e
 .cases e
 .exact e
def Sub.non{M M':Mm}(h:Sub M M'){a:Addr}(e:M' a=none):M a=none:=by
 cases q:M a with
 | none=>rfl
 | some o=>rw[h a o q]at e;cases e
def lQ(K:Ac)(H:Hp)(a:Addr)(xs:List V):Prop:=
 (∃o,H a=some (.frz o (.lst xs)))\/
  ∃(o:Obj) (its:Array Ae) (n:Nat),K.lookup a=some o/\o.cls=.type "list"/\o.dict=none/\o.data=.seq its n/\its.size<=Ao/\a8 xs its.toList
def lQ.sq{K:Ac}{H:Hp}{a:Addr}{xs:List V}(h:lQ K H a xs):bK K H a xs:=by
 rcases h with⟨o,h⟩|h
 .exact .inl (.inr ⟨o,h⟩)
 .exact .inr h
mutual
inductive AV(K:Ac)(H:Hp)(M:Mm):V->W->Prop
 | non:AV K H M .non .non
 | bl (b:Bool):AV K H M (.bl b) (.bl b)
 | int (i:Int):AV K H M (.int i) (.int i)
 | str (x:Str):AV K H M (.str x) (.str x)
 | ty (n:String):AV K H M (.ty n) (.ty n)
 | tup {a:Addr} {xs:List V} {ws:List W}:H a=some (.tup xs)->aN K H M xs ws->AV K H M (.ref a) (.tup ws)
 | sc {a:Addr} {xs:List V} {ws:List W}:lQ K H a xs->aN K H M xs ws->AV K H M (.ref a) (.sc ws)
 | rl {a:Addr} {xs:List V} {ws:List W}:H a=some (.lst xs)->M a=none->aN K H M xs ws->AV K H M (.ref a) (.rl ws)
 | ref (a:Addr):AV K H M (.ref a) (.ref a)
 | dk {a:Addr} {ks:List (aE×V)} {kvs:List (aE×W)}:H a=some (.dK ks)->M a=none->ks.map Dr=kvs.map Dr->aN K H M (ks.map Fm) (kvs.map Fm)->AV K H M (.ref a) (.dk kvs)
 | dt {a:Addr} {ks:List (List aE×V)} {kvs:List (List aE×W)}:H a=some (.dT ks)->M a=none->ks.map Dr=kvs.map Dr->aN K H M (ks.map Fm) (kvs.map Fm)->AV K H M (.ref a) (.dt kvs)
 | fk {a:Addr} {o:Obj} {ks:List (aE×V)} {kvs:List (aE×W)}:H a=some (.frz o (.dK ks))->ks.map Dr=kvs.map Dr->aN K H M (ks.map Fm) (kvs.map Fm)->AV K H M (.ref a) (.fk kvs)
 | ft {a:Addr} {o:Obj} {ks:List (List aE×V)} {kvs:List (List aE×W)}:H a=some (.frz o (.dT ks))->ks.map Dr=kvs.map Dr->aN K H M (ks.map Fm) (kvs.map Fm)->AV K H M (.ref a) (.ft kvs)
inductive aN(K:Ac)(H:Hp)(M:Mm):List V->List W->Prop
 | nil:aN K H M [] []
 | cons {v:V} {vs:List V} {w:W} {ws:List W}:AV K H M v w->aN K H M vs ws->aN K H M (v::vs) (w::ws)
end
abbrev bU(K:Ac)(H:Hp)(M:Mm)(U:Type):List (U×V)->List (U×W)->Prop:=Fs λp q=>p.1=q.1/\AV K H M p.2 q.2
def qX{K:Ac}{H:Hp}{M:Mm}{U:Type}:∀{ks:List (U×V)} {kvs:List (U×W)},ks.map Dr=kvs.map Dr->aN K H M (ks.map Fm) (kvs.map Fm)->bU K H M U ks kvs
 | [],[],_,_=>.nil
 | [],_::_,e,_=>by simp at e
 | _::_,[],e,_=>by simp at e
 | p::ps,q::qs,e,h=>by
  rw[Bb,Bb]at e h;rw[Ed]at e;cases h with
  | cons x r=>exact .cons ⟨e.1,x⟩ (qX e.2 r)
def bU.keys{K:Ac}{H:Hp}{M:Mm}{U:Type}{ks:List (U×V)}{kvs:List (U×W)}(h:bU K H M U ks kvs):ks.map Dr=kvs.map Dr:=by
 induction h with
 | nil=>rfl
 | cons r _ ih=>rw[Bb,Bb,ih,r.1]
def bU.vals{K:Ac}{H:Hp}{M:Mm}{U:Type}{ks:List (U×V)}{kvs:List (U×W)}(h:bU K H M U ks kvs):aN K H M (ks.map Fm) (kvs.map Fm):=by
 induction h with
 | nil=>exact .nil
 | cons r _ ih=>exact .cons r.2 ih
def AO(K:Ac)(H:Hp)(M:Mm)(a:Addr):MO->Prop
 | .lst ws=>∃vs,H a=some (.lst vs)/\aN K H M vs ws
 | .dK kvs=>∃ks,H a=some (.dK ks)/\bU K H M aE ks kvs
 | .dT kvs=>∃ks,H a=some (.dT ks)/\bU K H M (List aE) ks kvs
 | .fix vs=>H a=some (.lst vs)
 | .ins C dx fs=>∃gs,H a=some (.ins C dx gs)/\bU K H M Str gs fs
 | .tb pos qual=>∃o,H a=some (.ext λh=>h.get? a=some (Fq (m8 pos o)))/\∀c,o=some c->H c=some (.ext λh=>h.CodeRec (.ref c) qual)/\M c=none
def AM(K:Ac)(H:Hp)(M:Mm):Prop:=∀a o,M a=some o->AO K H M a o
structure Kp(H:Hp)(M:Mm)(H':Hp)(M':Mm):Prop where
 fr:∀a o,M a=none->H a=some o->H' a=some o/\M' a=none
 dom:∀a o,M a=some o->∃u,H' a=some u
structure Go(H:Hp)(M:Mm)(H':Hp)(M':Mm):Prop where
 ht:∀b xs,H b=some (.tup xs)->H' b=some (.tup xs)
 hf:∀b o u,H b=some (.frz o u)->H' b=some (.frz o u)
 hl:∀b o,M b=none->H b=some o->H' b=some o/\M' b=none
section
variable {K:Ac}{H H' H1 H2:Hp}{M M' M1 M2:Mm}{a:Addr}
def AO.has{o:MO}(h:AO K H M a o):∃u,H a=some u:=by
 cases o with
 | lst ws=>obtain⟨vs,e,_⟩:=h;exact⟨_,e⟩
 | dK kvs=>obtain⟨ks,e,_⟩:=h;exact⟨_,e⟩
 | dT kvs=>obtain⟨ks,e,_⟩:=h;exact⟨_,e⟩
 | fix vs=>exact⟨_,h⟩
 | ins C dx fs=>obtain⟨gs,e,_⟩:=h;exact⟨_,e⟩
 | tb pos qual=>obtain⟨_,e,_⟩:=h;exact⟨_,e⟩
def AM.nonM(am:AM K H M)(h:H a=none):M a=none:=by
 cases q:M a with
 | none=>rfl
 | some o=>obtain⟨u,e⟩:=(am a o q).has;rw[h]at e;cases e
def AM.noTup(am:AM K H M){xs:List V}(h:H a=some (.tup xs)):M a=none:=by
 cases q:M a with
 | none=>rfl
 | some o=>
  have:=am a o q;cases o with
  | lst ws=>obtain⟨vs,e,_⟩:=this;rw[h]at e;cases e
  | dK kvs=>obtain⟨ks,e,_⟩:=this;rw[h]at e;cases e
  | dT kvs=>obtain⟨ks,e,_⟩:=this;rw[h]at e;cases e
  | fix vs=>have e:H a=some (.lst vs):=this;rw[h]at e;cases e
  | ins C dx fs=>obtain⟨gs,e,_⟩:=this;rw[h]at e;cases e
  | tb pos qual=>obtain⟨_,e,_⟩:=this;rw[h]at e;cases e
def AM.noFrz(am:AM K H M){ob:Obj}{u:HO}(h:H a=some (.frz ob u)):M a=none:=by
 cases q:M a with
 | none=>rfl
 | some o=>
  have:=am a o q;cases o with
  | lst ws=>obtain⟨vs,e,_⟩:=this;rw[h]at e;cases e
  | dK kvs=>obtain⟨ks,e,_⟩:=this;rw[h]at e;cases e
  | dT kvs=>obtain⟨ks,e,_⟩:=this;rw[h]at e;cases e
  | fix vs=>have e:H a=some (.lst vs):=this;rw[h]at e;cases e
  | ins C dx fs=>obtain⟨gs,e,_⟩:=this;rw[h]at e;cases e
  | tb pos qual=>obtain⟨_,e,_⟩:=this;rw[h]at e;cases e
def Kp.refl(am:AM K H M):Kp H M H M:=⟨λa o h e=>⟨e,h⟩,λa o h=>(am a o h).has⟩
def Kp.trans(x:Kp H M H1 M1)(y:Kp H1 M1 H2 M2):Kp H M H2 M2 where
 fr:=λa o h e=>by
  obtain⟨e1,n1⟩:=x.fr a o h e;exact y.fr a o n1 e1
 dom:=λa o h=>by
  obtain⟨u,e⟩:=x.dom a o h;cases q:M1 a with
  | none=>exact⟨u,(y.fr a u q e).1⟩
  | some o1=>exact y.dom a o1 q
def Kp.sub(x:Kp H M H1 M1)(h:Sub M2 M1):Kp H M H1 M2 where
 fr:=λa o n e=>⟨(x.fr a o n e).1,h.non (x.fr a o n e).2⟩
 dom:=x.dom
def Kp.go(am:AM K H M)(k:Kp H M H' M'):Go H M H' M':=⟨λb xs e=>(k.fr b _ (am.noTup e) e).1,λb o u e=>(k.fr b _ (am.noFrz e) e).1,k.fr⟩
def Go.sub(h:Sub M' M):Go H M H M':=⟨λ_ _ e=>e,λ_ _ _ e=>e,λb o n e=>⟨e,h.non n⟩⟩
def AV.go(g:Go H M H' M'){v:V}{w:W}(h:AV K H M v w):AV K H' M' v w:=AV.rec (motive_1:=λv w _=>AV K H' M' v w) (motive_2:=λvs ws _=>aN K H' M' vs ws) .non .bl .int .str .ty (λe _ q=>.tup (g.ht _ _ e) q) (λe _ q=>.sc (e.elim (λz=>.inl (z.elim λo q=>⟨o,g.hf _ _ _ q⟩)) .inr) q) (λe n _ q=>.rl (g.hl _ _ n e).1 (g.hl _ _ n e).2 q) .ref
  (λe n ke _ q=>.dk (g.hl _ _ n e).1 (g.hl _ _ n e).2 ke q) (λe n ke _ q=>.dt (g.hl _ _ n e).1 (g.hl _ _ n e).2 ke q) (λe ke _ q=>.fk (g.hf _ _ _ e) ke q) (λe ke _ q=>.ft (g.hf _ _ _ e) ke q) .nil (λ_ _ x r=>.cons x r) h
def aN.go(g:Go H M H' M'){vs:List V}{ws:List W}(h:aN K H M vs ws):aN K H' M' vs ws:=aN.rec (motive_1:=λv w _=>AV K H' M' v w) (motive_2:=λvs ws _=>aN K H' M' vs ws) .non .bl .int .str .ty (λe _ q=>.tup (g.ht _ _ e) q) (λe _ q=>.sc (e.elim (λz=>.inl (z.elim λo q=>⟨o,g.hf _ _ _ q⟩)) .inr) q) (λe n _ q=>.rl (g.hl _ _ n e).1 (g.hl _ _ n e).2 q) .ref
  (λe n ke _ q=>.dk (g.hl _ _ n e).1 (g.hl _ _ n e).2 ke q) (λe n ke _ q=>.dt (g.hl _ _ n e).1 (g.hl _ _ n e).2 ke q) (λe ke _ q=>.fk (g.hf _ _ _ e) ke q) (λe ke _ q=>.ft (g.hf _ _ _ e) ke q) .nil (λ_ _ x r=>.cons x r) h
def bU.go{U:Type}{ks:List (U×V)}{kvs:List (U×W)}(g:Go H M H' M')(h:bU K H M U ks kvs):bU K H' M' U ks kvs:=Paired.mapP h λp q z=>⟨z.1,z.2.go g⟩
def AO.go{o:MO}(g:Go H M H' M')(e:H' a=H a)(h:AO K H M a o):AO K H' M' a o:=by
 cases o with
 | lst ws=>obtain⟨vs,e1,r⟩:=h;exact⟨vs,by rw[e];exact e1,r.go g⟩
 | dK kvs=>obtain⟨vs,e1,r⟩:=h;exact⟨vs,by rw[e];exact e1,r.go g⟩
 | dT kvs=>obtain⟨vs,e1,r⟩:=h;exact⟨vs,by rw[e];exact e1,r.go g⟩
 | fix vs=>exact e.trans h
 | ins C dx fs=>obtain⟨gs,e1,r⟩:=h;exact⟨gs,by rw[e];exact e1,r.go g⟩
 | tb pos qual=>obtain⟨o,e1,z⟩:=h;exact⟨o,by rw[e];exact e1,λc hc=>g.hl _ _ (z c hc).2 (z c hc).1⟩
def AM.sub(am:AM K H M')(h:Sub M M'):AM K H M:=λa o e=>(am a o (h a o e)).go (Go.sub h) rfl
def AV.sub(h:Sub M' M){v:V}{w:W}(x:AV K H M v w):AV K H M' v w:=x.go (Go.sub h)
def aN.sub(h:Sub M' M){v:List V}{w:List W}(x:aN K H M v w):aN K H M' v w:=x.go (Go.sub h)
def AV.kp(am:AM K H M)(k:Kp H M H' M'){v:V}{w:W}(h:AV K H M v w):AV K H' M' v w:=h.go (k.go am)
def aN.kp(am:AM K H M)(k:Kp H M H' M'){vs:List V}{ws:List W}(h:aN K H M vs ws):aN K H' M' vs ws:=h.go (k.go am)
def aN.length:∀{vs:List V} {ws:List W},aN K H M vs ws->vs.length=ws.length
 | _,_,.nil=>rfl
 | _,_,.cons _ r=>by simp[aN.length r]
def aN.append:∀{vs us:List V} {ws zs:List W},aN K H M vs ws->aN K H M us zs->aN K H M (vs++us) (ws++zs)
 | _,_,_,_,.nil,s=>s
 | _,_,_,_,.cons x r,s=>.cons x (aN.append r s)
def aN.getW:∀{vs:List V} {ws:List W} {i:Nat} {w:W},aN K H M vs ws->ws[i]? = some w->∃v,vs[i]? = some v/\AV K H M v w
 | _,_,_,_,.nil,e=>by simp at e
 | _,_,0,_,.cons x _,e=>by simp at e;subst e;exact⟨_,rfl,x⟩
 | _,_,i+1,w,.cons _ r,e=>by
  obtain⟨v,h1,h2⟩:=aN.getW (i:=i) (w:=w) r (by simpa using e);exact⟨v,by simpa using h1,h2⟩
def aN.getV:∀{vs:List V} {ws:List W} {i:Nat} {v:V},aN K H M vs ws->vs[i]? = some v->∃w,ws[i]? = some w/\AV K H M v w
 | _,_,_,_,.nil,e=>by simp at e
 | _,_,0,_,.cons x _,e=>by simp at e;subst e;exact⟨_,rfl,x⟩
 | _,_,i+1,v,.cons _ r,e=>by
  obtain⟨w,h1,h2⟩:=aN.getV (i:=i) (v:=v) r (by simpa using e);exact⟨w,by simpa using h1,h2⟩
def aN.set{v:V}{w:W}(x:AV K H M v w):∀{vs:List V} {ws:List W} (i:Nat),aN K H M vs ws->aN K H M (vs.set i v) (ws.set i w)
 | _,_,_,.nil=>.nil
 | _,_,0,.cons _ t=>.cons x t
 | _,_,i+1,.cons q t=>.cons q (aN.set x i t)
def aN.take:∀{vs:List V} {ws:List W} (n:Nat),aN K H M vs ws->aN K H M (vs.take n) (ws.take n)
 | _,_,0,_=>by simp;exact .nil
 | _,_,_+1,.nil=>.nil
 | _,_,n+1,.cons x t=>.cons x (aN.take n t)
def aN.drop:∀{vs:List V} {ws:List W} (n:Nat),aN K H M vs ws->aN K H M (vs.drop n) (ws.drop n)
 | _,_,0,h=>h
 | _,_,_+1,.nil=>.nil
 | _,_,n+1,.cons _ t=>aN.drop n t
def aN.reverse{vs:List V}{ws:List W}(h:aN K H M vs ws):aN K H M vs.reverse ws.reverse:=by
 induction vs generalizing ws with
 | nil=>cases h;exact .nil
 | cons v vs ih=>
  cases h with
  | cons x r=>rw[Ks,Ks];exact(ih r).append (.cons x .nil)
def aN.dropLast{vs:List V}{ws:List W}(h:aN K H M vs ws):aN K H M vs.dropLast ws.dropLast:=by
 rw[List.dropLast_eq_take,List.dropLast_eq_take,h.length];exact h.take _
def aN.flatRep{vs:List V}{ws:List W}(h:aN K H M vs ws):∀n:Nat,aN K H M (Bz n vs).flatten (Bz n ws).flatten
 | 0=>.nil
 | n+1=>by
  rw[Fx,Fx,Gn,Gn];exact h.append (aN.flatRep h n)
def aN.int(is:List Int):aN K H M (is.map V.int) (is.map W.int):=by
 induction is with
 | nil=>exact .nil
 | cons i r ih=>exact .cons (.int i) ih
def GL{p:Addr}{u:HO}(hp:H p=none)(hs:∀b,b≠p->M b=none->M' b=none):Go H M (aY H p u) M':=
 ⟨λb xs e=>by rw[bF (eR e hp)];exact e,λb o x e=>by rw[bF (eR e hp)];exact e,λb o n e=>⟨by rw[bF (eR e hp)];exact e,hs b (eR e hp) n⟩⟩
def GN{p:Addr}{o:MO}{u:HO}(hp:H p=none):Go H M (aY H p u) (put M p o):=GL hp λb ne n=>by rw[aU ne];exact n
def go_same{p:Addr}{u:HO}(hp:H p=none):Go H M (aY H p u) M:=GL hp λb ne n=>n
def AM.laid{p:Addr}{o:MO}{u:HO}(am:AM K H M)(hp:H p=none)(h:AO K (aY H p u) (put M p o) p o):AM K (aY H p u) (put M p o)/\Kp H M (aY H p u) (put M p o):=by
 refine⟨λa x e=>?_,λa x h e=>⟨?_,?_⟩,λa x h=>?_⟩
 .by_cases ha:a=p
  .subst ha;rw[aX]at e;cases e;exact h
  .rw[aU ha]at e;exact(am a x e).go (GN hp) (bF ha)
 .rw[bF (eR e hp)];exact e
 .rw[aU (eR e hp)];exact h
 .obtain⟨y,e⟩:=(am a x h).has;exact⟨y,by rw[bF (eR e hp)];exact e⟩
def GO{p:Addr}{o u:MO}:Go H (put M p o) H (put M p u):=⟨λ_ _ e=>e,λ_ _ _ e=>e,λb x n e=>⟨e,by
 have ne:b≠p:=λz=>by rw[z,aX]at n;cases n
 rw[aU ne]at n⊢;exact n⟩⟩
def AM.tup{p:Addr}{u:HO}(am:AM K H M)(hp:H p=none):AM K (aY H p u) M/\Kp H M (aY H p u) M:=by
 refine⟨λa x e=>?_,λa x h e=>⟨?_,h⟩,λa x h=>?_⟩
 .have ne:a≠p:=λz=>by rw[z,am.nonM hp]at e;cases e
  exact(am a x e).go (go_same hp) (bF ne)
 .rw[bF (eR e hp)];exact e
 .obtain⟨y,e⟩:=(am a x h).has;exact⟨y,by rw[bF (eR e hp)];exact e⟩
def pI{l:Addr}{o0 o:MO}{u:HO}(am:AM K H M)(hl:M l=some o0):Go H M (aY H l u) (put M l o):=
 ⟨λb xs e=>by rw[bF (λz=>by rw[<-z,am.noTup e]at hl;cases hl)];exact e,λb ob x e=>by rw[bF (λz=>by rw[<-z,am.noFrz e]at hl;cases hl)];exact e,
   λb x n e=>by
  have ne:b≠l:=λz=>by rw[<-z,n]at hl;cases hl
  rw[bF ne,aU ne];exact⟨e,n⟩⟩
def AM.write{l:Addr}{o0 o:MO}{u:HO}(am:AM K H M)(hl:M l=some o0)(h:AO K (aY H l u) (put M l o) l o):AM K (aY H l u) (put M l o)/\Kp H M (aY H l u) (put M l o):=by
 refine⟨λa x e=>?_,λa x h e=>?_,λa x h=>?_⟩
 .by_cases ha:a=l
  .subst ha;rw[aX]at e;cases e;exact h
  .rw[aU ha]at e;exact(am a x e).go (pI am hl) (bF ha)
 .have:a≠l:=λz=>by rw[z,hl]at h;cases h
  rw[bF this,aU this];exact⟨e,h⟩
 .by_cases ha:a=l
  .subst ha;exact⟨u,cQ⟩
  .obtain⟨y,e⟩:=(am a x h).has;exact⟨y,by rw[bF ha];exact e⟩
def AM.lst(am:AM K H M){ws:List W}(h:M a=some (.lst ws)):∃vs,H a=some (.lst vs)/\aN K H M vs ws:=am a _ h
def aN.newT{p:Addr}{u:HO}{vs:List V}{ws:List W}(hp:H p=none)(h:aN K H M vs ws):aN K (aY H p u) M vs ws:=h.go (go_same hp)
def aN.newL{p:Addr}{u:HO}{o:MO}{vs:List V}{ws:List W}(hp:H p=none)(h:aN K H M vs ws):aN K (aY H p u) (put M p o) vs ws:=h.go (GN hp)
def aN.wr{l:Addr}{o0 o:MO}{u:HO}{vs:List V}{ws:List W}(am:AM K H M)(hl:M l=some o0)(h:aN K H M vs ws):aN K (aY H l u) (put M l o) vs ws:=h.go (pI am hl)
def AV.wr{l:Addr}{o0 o:MO}{u:HO}{v:V}{w:W}(am:AM K H M)(hl:M l=some o0)(h:AV K H M v w):AV K (aY H l u) (put M l o) v w:=h.go (pI am hl)
end
abbrev S3:=List (Option W)
abbrev K3:=W->Mm->Prop
abbrev a0:=S3->Mm->K3->Prop
abbrev d7:=S3->Mm->(Bool->Mm->Prop)->Prop
abbrev dY:=S3->Mm->(List W->Mm->Prop)->Prop
abbrev R3:=W->W->Mm->K3->Prop
structure D3 where
 nx:S3->Mm->Prop
 rt:K3
 bk:S3->Mm->Prop:=λ_ _=>False
 ct:S3->Mm->Prop:=λ_ _=>False
abbrev aJ:=D3->S3->Mm->Prop
def AS(K:Ac)(H:Hp)(M:Mm):SV->S3->Prop:=Fs λov ow=>∀w,ow=some w->∃v,ov=some v/\AV K H M v w
section
variable {K:Ac}{H H':Hp}{M M':Mm}
def AS.kp(am:AM K H M)(k:Kp H M H' M'){Z:SV}{τ:S3}(h:AS K H M Z τ):AS K H' M' Z τ:=
 Paired.mapP h λov ow z w e=>by obtain⟨v,e1,r⟩:=z w e;exact⟨v,e1,r.kp am k⟩
def AS.sub{M':Mm}(g:Sub M' M){Z:SV}{τ:S3}(h:AS K H M Z τ):AS K H M' Z τ:=
 Paired.mapP h λov ow z w e=>by obtain⟨v,e1,r⟩:=z w e;exact⟨v,e1,r.sub g⟩
def AS.get{w:W}:∀{Z:SV} {τ:S3} {i:Nat},AS K H M Z τ->τ[i]? = some (some w)->∃v,Z[i]? = some (some v)/\AV K H M v w
 | _,_,_,.nil,e=>by simp at e
 | _,_,0,.cons r _,e=>by
  simp at e;obtain⟨v,h1,h2⟩:=r w e;exact⟨v,by rw[h1];rfl,h2⟩
 | _,_,i+1,.cons _ t,e=>by
  obtain⟨v,h1,h2⟩:=AS.get (i:=i) t (by simpa using e);exact⟨v,by simpa using h1,h2⟩
def AS.set{v:V}{w:W}(r:AV K H M v w):∀{Z:SV} {τ:S3} (i:Nat),AS K H M Z τ->AS K H M (Z.set i (some v)) (τ.set i (some w))
 | _,_,_,.nil=>.nil
 | _,_,0,.cons _ t=>.cons (λx e=>⟨v,rfl,by cases e;exact r⟩) t
 | _,_,i+1,.cons q t=>.cons q (AS.set r i t)
theorem AS.nones:∀n:Nat,AS K H M (Bz n none) (Bz n none)
 | 0=>.nil
 | n+1=>.cons (λ_ e=>nomatch e) (AS.nones n)
theorem AS.start{vs:List V}{ws:List W}(h:aN K H M vs ws)(n:Nat):AS K H M (vs.map some++Bz n none) (ws.map some++Bz n none):=by
 induction vs generalizing ws with
 | nil=>cases h;exact AS.nones n
 | cons v vs ih=>
  cases h with
  | cons x r=>exact .cons (λw e=>⟨v,rfl,by cases e;exact x⟩) (ih r)
end
def Up(K:Ac)(H:Hp)(M:Mm)(R:K3)(Q:VK):Prop:=∀v H' w M',Kp H M H' M'->AM K H' M'->AV K H' M' v w->R w M'->Q v H'
def up(K:Ac)(t:a0):TE:=λZ H Q=>∃τ M R,AS K H M Z τ/\AM K H M/\t τ M R/\Up K H M R Q
def kP(K:Ac)(t:d7):TT:=λZ H Q=>∃(τ:S3) (M:Mm) (R:Bool->Mm->Prop),AS K H M Z τ/\AM K H M/\t τ M R/\∀b H' M',Kp H M H' M'->AM K H' M'->R b M'->Q b H'
def pJ(K:Ac)(t:dY):TA:=λZ H Q=>∃(τ:S3) (M:Mm) (R:List W->Mm->Prop),AS K H M Z τ/\AM K H M/\t τ M R/\∀vs H' ws M',Kp H M H' M'->AM K H' M'->aN K H' M' vs ws->R ws M'->Q vs H'
def iO(K:Ac)(H:Hp)(M:Mm)(R:S3->Mm->Prop)(Q:SV->Hp->Prop):Prop:=∀σ' H' τ' M',Kp H M H' M'->AM K H' M'->AS K H' M' σ' τ'->R τ' M'->Q σ' H'
structure qY(K:Ac)(H:Hp)(M:Mm)(D:D3)(E:lN):Prop where
 nx:iO K H M D.nx E.nx
 rt:Up K H M D.rt E.rt
 bk:iO K H M D.bk E.bk
 ct:iO K H M D.ct E.ct
def qZ(K:Ac)(t:aJ):TS:=λE Z H=>∃τ M D,AS K H M Z τ/\AM K H M/\t D τ M/\qY K H M D E
section
variable {K:Ac}{H H1:Hp}{M M1:Mm}
theorem Up.kp{R:K3}{Q:VK}(h:Up K H M R Q)(k:Kp H M H1 M1):Up K H1 M1 R Q:=λv H' w M' k' am av r=>h v H' w M' (k.trans k') am av r
theorem iO.kp{R:S3->Mm->Prop}{Q:SV->Hp->Prop}(h:iO K H M R Q)(k:Kp H M H1 M1):iO K H1 M1 R Q:=λv H' w M' k' am av r=>h v H' w M' (k.trans k') am av r
theorem qY.kp{D:D3}{E:lN}(h:qY K H M D E)(k:Kp H M H1 M1):qY K H1 M1 D E:=⟨h.nx.kp k,h.rt.kp k,h.bk.kp k,h.ct.kp k⟩
theorem Up.at{R:K3}{Q:VK}(h:Up K H M R Q)(am:AM K H M){v:V}{w:W}(av:AV K H M v w)(r:R w M):Q v H:=h v H w M (Kp.refl am) am av r
end
def frz:W->Mm->K3->Prop
 | .ref p,M,R=>(∃ws,M p=some (.lst ws)/\R (.rl ws) (del M p))\/(∃kvs,M p=some (.dK kvs)/\R (.dk kvs) (del M p))\/(∃kvs,M p=some (.dT kvs)/\R (.dt kvs) (del M p))\/R (.ref p) M
 | w,M,R=>R w M
theorem Up.frz{K:Ac}{H:Hp}{M:Mm}{R:K3}{Q:VK}(h:Up K H M R Q):Up K H M (λw M'=>frz w M' R) Q:=λv H' w M' k am av r=>by
 have av':=av;cases av<;>first|exact h _ _ _ _ k am av' r|skip
 case ref p=>
  rcases r with⟨ws,e,r⟩|⟨kvs,e,r⟩|⟨kvs,e,r⟩|r
  .obtain⟨vs,f,q⟩:=am.lst e;exact h _ _ _ _ (k.sub Sub.del) (am.sub Sub.del) (.rl f pH (q.sub Sub.del)) r
  .obtain⟨ks,f,q⟩:=am _ _ e;exact h _ _ _ _ (k.sub Sub.del) (am.sub Sub.del) (.dk f pH q.keys (q.vals.sub Sub.del)) r
  .obtain⟨ks,f,q⟩:=am _ _ e;exact h _ _ _ _ (k.sub Sub.del) (am.sub Sub.del) (.dt f pH q.keys (q.vals.sub Sub.del)) r
  .exact h _ _ _ _ k am (.ref p) r
theorem V5{M:Mm}{p:Addr}{ws:List W}{R:K3}(hp:M p=none)(r:R (.rl ws) M):frz (.ref p) (put M p (.lst ws)) R:=.inl ⟨ws,aX,by rw[jG hp];exact r⟩
def bH(ws:List W)(M:Mm)(R:K3):Prop:=∀p,M p=none->R (.ref p) (put M p (.lst ws))
def uA(kvs:List (aE×W))(M:Mm)(R:K3):Prop:=∀p,M p=none->R (.ref p) (put M p (.dK kvs))
def n9(kvs:List (List aE×W))(M:Mm)(R:K3):Prop:=∀p,M p=none->R (.ref p) (put M p (.dT kvs))
theorem bH.frz{M:Mm}{ws:List W}{R:K3}(r:R (.rl ws) M):bH ws M λw M'=>L3.frz w M' R:=λp hp=>V5 hp r
def eA(t:a0):a0:=λτ M R=>t τ M λw M'=>frz w M' R
def V6(K:Ac)(H:Hp)(M:Mm)(v:V):W->Prop
 | .non=>v=.non
 | .bl b=>v=.bl b
 | .int i=>v=.int i
 | .str x=>v=.str x
 | .ty n=>v=.ty n
 | .tup ws=>∃a xs,v=.ref a/\H a=some (.tup xs)/\aN K H M xs ws
 | .sc ws=>∃a xs,v=.ref a/\lQ K H a xs/\aN K H M xs ws
 | .rl ws=>∃a xs,v=.ref a/\H a=some (.lst xs)/\M a=none/\aN K H M xs ws
 | .ref a=>v=.ref a
 | .dk kvs=>∃a ks,v=.ref a/\H a=some (.dK ks)/\M a=none/\bU K H M aE ks kvs
 | .dt kvs=>∃a ks,v=.ref a/\H a=some (.dT ks)/\M a=none/\bU K H M (List aE) ks kvs
 | .fk kvs=>∃a ks,v=.ref a/\(∃o,H a=some (.frz o (.dK ks)))/\bU K H M aE ks kvs
 | .ft kvs=>∃a ks,v=.ref a/\(∃o,H a=some (.frz o (.dT ks)))/\bU K H M (List aE) ks kvs
section
variable {K:Ac}{H:Hp}{M:Mm}{v:V}{vs:List V}{w:W}{ws:List W}{C:Prop}
theorem AV.inv(h:AV K H M v w):V6 K H M v w:=by
 cases h
 case non|bl|int|str|ty|ref=>rfl
 case tup|sc=>rename_i e q;exact⟨_,_,rfl,e,q⟩
 case rl=>rename_i e n q;exact⟨_,_,rfl,e,n,q⟩
 case dk|dt=>rename_i e n z q;exact⟨_,_,rfl,e,n,qX z q⟩
 case fk|ft=>rename_i e z q;exact⟨_,_,rfl,⟨_,e⟩,qX z q⟩
theorem AV.tupE(h:AV K H M v (.tup ws))(c:∀a xs,v=.ref a->H a=some (.tup xs)->aN K H M xs ws->C):C:=
 let ⟨a,xs,e,f,q⟩:=h.inv;c a xs e f q
theorem AV.scE(h:AV K H M v (.sc ws))(c:∀a xs,v=.ref a->lQ K H a xs->aN K H M xs ws->C):C:=
 let ⟨a,xs,e,f,q⟩:=h.inv;c a xs e f q
theorem AV.rlE(h:AV K H M v (.rl ws))(c:∀a xs,v=.ref a->H a=some (.lst xs)->aN K H M xs ws->C):C:=
 let ⟨a,xs,e,f,_,q⟩:=h.inv;c a xs e f q
theorem aN.nil_(h:aN K H M vs []):vs=[]:=by cases h;rfl
theorem aN.one(h:aN K H M vs [w]):∃v,vs=[v]/\AV K H M v w:=by
 cases h with
 | cons x r=>rw[r.nil_];exact⟨_,rfl,x⟩
theorem aN.oneE(h:aN K H M vs [w])(c:∀v,vs=[v]->AV K H M v w->C):C:=h.one.elim λv h=>c v h.1 h.2
theorem aN.two{z:W}(h:aN K H M vs [w,z]):∃v u,vs=[v,u]/\AV K H M v w/\AV K H M u z:=by
 cases h with
 | cons x r=>obtain⟨u,rfl,y⟩:=r.one;exact⟨_,_,rfl,x,y⟩
theorem AM.lstE{a:Addr}(am:AM K H M)(e:M a=some (.lst ws))(c:∀xs,H a=some (.lst xs)->aN K H M xs ws->C):C:=(am.lst e).elim λv h=>c v h.1 h.2
theorem iP{x y:V}(e:vs=[x])(f:x=y):vs=[y]:=by rw[e,f]
end
theorem up.el{K:Ac}{H:Hp}{Z:SV}{C:Prop}{t:a0}{Q:VK}(h:up K t Z H Q)(c:∀τ M R,AS K H M Z τ->AM K H M->t τ M R->Up K H M R Q->C):C:=by obtain⟨τ,M,R,a,b,h,k⟩:=h;exact c τ M R a b h k
theorem kP.el{K:Ac}{H:Hp}{Z:SV}{C:Prop}{t:d7}{Q:Bool->Hp->Prop}(h:kP K t Z H Q)(c:∀τ M R,AS K H M Z τ->AM K H M->t τ M R->(∀b H' M',Kp H M H' M'->AM K H' M'->R b M'->Q b H')->C):C:=by obtain⟨τ,M,R,a,b,h,k⟩:=h;exact c τ M R a b h k
theorem pJ.el{K:Ac}{H:Hp}{Z:SV}{C:Prop}{t:dY}{Q:List V->Hp->Prop}(h:pJ K t Z H Q)(c:∀τ M R,AS K H M Z τ->AM K H M->t τ M R->(∀vs H' ws M',Kp H M H' M'->AM K H' M'->aN K H' M' vs ws->R ws M'->Q vs H')->C):C:=by obtain⟨τ,M,R,a,b,h,k⟩:=h;exact c τ M R a b h k
theorem qZ.el{K:Ac}{H:Hp}{Z:SV}{C:Prop}{t:aJ}{E:lN}(h:qZ K t E Z H)(c:∀τ M D,AS K H M Z τ->AM K H M->t D τ M->qY K H M D E->C):C:=by obtain⟨τ,M,D,a,b,h,k⟩:=h;exact c τ M D a b h k
end L3
namespace L2
section
variable {X:Cx}
theorem PE.weak{e:Kz}{t t':TE}(h:PE X e t)(k:∀Z H Q,t' Z H Q->t Z H Q):PE X e t':=λpins s Z H Q I q=>h pins s Z H Q I (k Z H Q q)
theorem PT.weak{e:Kz}{t t':TT}(h:PT X e t)(k:∀Z H Q,t' Z H Q->t Z H Q):PT X e t':=λpins s Z H Q I q=>h pins s Z H Q I (k Z H Q q)
theorem PW.weak{e:Kz}{t t':TT}(h:PW X e t)(k:∀Z H Q,t' Z H Q->t Z H Q):PW X e t':=λwh pins s Z H Q I q=>h wh pins s Z H Q I (k Z H Q q)
theorem PA.weak{es:List Kz}{t t':TA}(h:PA X es t)(k:∀Z H Q,t' Z H Q->t Z H Q):PA X es t':=λpos pins s Z H Q I q=>h pos pins s Z H Q I (k Z H Q q)
theorem PS.weak{st:PySem.Stmt}{t t':TS}(h:PS X st t)(k:∀D Z H,t' D Z H->t D Z H):PS X st t':=λpins s Z H D I q=>h pins s Z H D I (k D Z H q)
theorem gC.weak{st:List PySem.Stmt}{t t':TS}(h:gC X st t)(k:∀D Z H,t' D Z H->t D Z H):gC X st t':=λpins s Z H D I q=>h pins s Z H D I (k D Z H q)
theorem PO.weak{e:Option Kz}{t t':TO}(h:PO X e t)(k:∀Z H Q,t' Z H Q->t Z H Q):PO X e t':=λpins s Z H Q I q=>h pins s Z H Q I (k Z H Q q)
theorem i5.weak{es:List Kz}{t t':TT}(h:i5 X es t)(k:∀Z H Q,t' Z H Q->t Z H Q):i5 X es t':=λpins s Z H Q I q=>h pins s Z H Q I (k Z H Q q)
end
end L2
namespace L3
open PySem Spec PyProof.Rows L2
abbrev E3(X:Cx)(e:Expr)(t:a0):Prop:=PE X e (up X.K t)
abbrev T3(X:Cx)(e:Expr)(t:d7):Prop:=PT X e (kP X.K t)
abbrev W3(X:Cx)(e:Expr)(t:d7):Prop:=PW X e (kP X.K t)
abbrev A3(X:Cx)(es:List Expr)(t:dY):Prop:=PA X es (pJ X.K t)
def cL(K:Ac)(r:R3):R2:=λx y H Q=>∃wx wy M R,AM K H M/\AV K H M x wx/\AV K H M y wy/\r wx wy M R/\Up K H M R Q
def GP(K:Ac)(r:W->Mm->K3->Prop):V->Hp->VK->Prop:=λx H Q=>∃wx M R,AM K H M/\AV K H M x wx/\r wx M R/\Up K H M R Q
def iC(K:Ac)(r:List W->Mm->K3->Prop):List V->Hp->VK->Prop:=λxs H Q=>∃ws M R,AM K H M/\aN K H M xs ws/\r ws M R/\Up K H M R Q
def kQ(K:Ac)(r:W->List W->Mm->K3->Prop):V->List V->Hp->VK->Prop:=λx xs H Q=>∃wx ws M R,AM K H M/\AV K H M x wx/\aN K H M xs ws/\r wx ws M R/\Up K H M R Q
section
variable {X:Cx}{a b c:Expr}{ta tb tc:a0}{pos:Pos}
def aA(i:Nat):a0:=λτ M R=>∃w,τ[i]? = some (some w)/\R w M
def vC(w:W):a0:=λ_ M R=>R w M
theorem v(i:Nat){x:Str}{pos:Pos}(hN:X.N[i]? = some x:=by rfl)(hv:tE X.env.scope x:=by first|exact Or.inl rfl|exact Or.inr (Or.inl rfl)|exact Or.inr (Or.inr rfl))(hd:(x==("__debug__" : Str))=false:=by decide)(hcd:(x==("__classdict__" : Str))=false:=by decide):E3 X (.Name x pos) (aA i):=(EI hN hv hd hcd).weak λZ H Q ⟨τ,M,R,as,am,⟨w,e,r⟩,k⟩=>by
 obtain⟨v,e1,av⟩:=as.get e;exact⟨v,e1,k.at am av r⟩
theorem aS{i j pos}:E3 X (.Constant (.int i) j pos) (vC (.int i)):=O3.weak λZ H Q z0=>z0.el λτ M R as am r k=>k.at am (.int i) r
theorem gQ{b j pos}:E3 X (.Constant (.bool b) j pos) (vC (.bl b)):=O4.weak λZ H Q z0=>z0.el λτ M R as am r k=>k.at am (.bl b) r
theorem kR{j pos}:E3 X (.Constant .none j pos) (vC .non):=O5.weak λZ H Q z0=>z0.el λτ M R as am r k=>k.at am .non r
theorem jH{x j pos}:E3 X (.Constant (.str x) j pos) (vC (.str x)):=O6.weak λZ H Q z0=>z0.el λτ M R as am r k=>k.at am (.str x) r
theorem V7{x:Str}{y:V}{w:W}{u:Ae}{pos:Pos}(hg:Gl X x)(hm:X.mg x=some u)(r:RelV y u)(hw:∀H M,AV X.K H M y w)(hd:(x==("__debug__" : Str))=false:=by decide):E3 X (.Name x pos) (vC w):=
 (O7 hg hm r hd).weak λZ H Q z0=>z0.el λτ M R as am r k=>k.at am (hw H M) r
theorem lR{x:Str}{y:V}{w:W}{u:Ae}{pos:Pos}(hg:Gl X x)(hm:X.mg x=none)(hv:Ct x=some u)(r:RelV y u)(hw:∀H M,AV X.K H M y w)(hn:x≠"__name__":=by decide)(hd:(x==("__debug__" : Str))=false:=by decide):E3 X (.Name x pos) (vC w):=
 (O8 hg hm hv r hn hd).weak λZ H Q z0=>z0.el λτ M R as am r k=>k.at am (hw H M) r
theorem fY(ha:E3 X a ta):E3 X a (eA ta):=ha.weak λZ H Q z0=>z0.el λτ M R as am h k=>⟨τ,M,_,as,am,h,k.frz⟩
def aF(r:R3)(ta tb:a0):a0:=λτ M R=>ta τ M λx M1=>tb τ M1 λy M2=>r x y M2 R
theorem uB{K:Ac}{r:R3}{Z:SV}{H:Hp}{Q:VK}(h:up K (aF r ta tb) Z H Q):qO (cL K r) (up K ta) (up K tb) Z H Q:=by
 obtain⟨τ,M,R,as,am,h,k⟩:=h;refine⟨τ,M,_,as,am,h,λx H1 wx M1 k1 am1 ax h1=>⟨τ,M1,_,as.kp am k1,am1,h1,λy H2 wy M2 k2 am2 ay h2=>?_⟩⟩;exact⟨wx,wy,M2,R,am2,ax.kp am1 k2,ay,h2,(k.kp k1).kp k2⟩
theorem cF{op:Operator}{r:R3}(ho:bG X (Fl op) (cL X.K r))(ha:E3 X a ta)(hb:E3 X b tb):E3 X (.BinOp a op b pos) (aF r ta tb):=(QX ho ha hb).weak λ_ _ _ h=>uB h
theorem V8{op:CmpOp}{r:R3}(ho:bG X (Cb op) (cL X.K r))(ha:E3 X a ta)(hb:E3 X b tb)(hm:Hw op b=false):E3 X (.Compare a [op] [b] pos) (aF r ta tb):=(RG ho ha hb hm).weak λ_ _ _ h=>uB h
def bZ(t:a0):d7:=λτ M Q=>t τ M λw M'=>∃k,w=.bl k/\Q k M'
theorem AV.bl_inv{K:Ac}{H:Hp}{M:Mm}{v:V}{k:Bool}(h:AV K H M v (.bl k)):v=.bl k:=by cases h;rfl
theorem V9{op:CmpOp}{r:R3}(ho:bG X (Cb op) (cL X.K r))(ha:E3 X a ta)(hb:E3 X b tb)(hm:Hw op b=false):T3 X (.Compare a [op] [b] pos) (bZ (aF r ta tb)):=
 (RH ho ha hb hm).weak λZ H Q z0=>z0.el λτ M R as am h k=>uB ⟨τ,M,_,as,am,h,λv H' w M' k' am' av ⟨c,e,r⟩=>by
  subst e;exact⟨c,av.bl_inv,k c H' M' k' am' r⟩⟩
def kS(r:W->Mm->K3->Prop)(ta:a0):a0:=λτ M R=>ta τ M λx M1=>r x M1 R
theorem lS{op:UnaryOp}{r:W->Mm->K3->Prop}(ho:qN X (unaryOp op) (GP X.K r))(ha:E3 X a ta):E3 X (.UnaryOp op a pos) (kS r ta):=
 (QY ho ha).weak λZ H Q z0=>z0.el λτ M R as am h k=>⟨τ,M,_,as,am,h,λx H1 wx M1 k1 am1 ax h1=>⟨wx,M1,R,am1,ax,h1,k.kp k1⟩⟩
def WA:W->Mm->(Bool->Mm->Prop)->Prop
 | .non,M,Q=>Q false M
 | .bl b,M,Q=>Q b M
 | .int i,M,Q=>Q (i !=0) M
 | .str y,M,Q=>y.length<=Ao/\Q ((y.length:Int) !=0) M
 | .tup ws,M,Q=>Q (!ws.isEmpty) M
 | .rl ws,M,Q=>Q (!ws.isEmpty) M
 | .sc ws,M,Q=>Q (!ws.isEmpty) M
 | .dk kvs,M,Q=>Q (!kvs.isEmpty) M
 | .ref p,M,Q=>(∃ws,M p=some (.lst ws)/\Q (!ws.isEmpty) M)\/∃kvs,M p=some (.dK kvs)/\Q (!kvs.isEmpty) M
 | _,_,_=>False
def i6(t:a0):d7:=λτ M Q=>t τ M λw M'=>WA w M' Q
theorem aN.empty{K:Ac}{H:Hp}{M:Mm}{vs:List V}{ws:List W}(h:aN K H M vs ws):(!ws.isEmpty) = !vs.isEmpty:=by cases h<;>rfl
theorem jI(ha:E3 X a ta)(he:∀whole,isTrue a X.env whole=(do let v <-whole;Mz a.pos;Ho [v] (truthy v)):=by intro _;rfl):T3 X a (i6 ta):=
 (RL ha he).weak λZ H Q z0=>z0.el λτ M R as am h k=>⟨τ,M,_,as,am,h,λv H' w M' k' am' av r=>by
  cases av with
  | non=>exact⟨false,rfl,k _ _ _ k' am' r⟩
  | bl b=>exact⟨b,rfl,k _ _ _ k' am' r⟩
  | int i=>exact⟨_,rfl,k _ _ _ k' am' r⟩
  | str y=>exact⟨_,⟨r.1,rfl⟩,k _ _ _ k' am' r.2⟩
  | ty n=>exact(show False from r).elim
  | tup e q=>exact⟨_,.inr (.inl ⟨_,bS.of e,q.empty⟩),k _ _ _ k' am' r⟩
  | rl e n q=>exact⟨_,.inl ⟨_,bK.of e,q.empty⟩,k _ _ _ k' am' r⟩
  | sc e q=>exact⟨_,.inl ⟨_,e.sq,q.empty⟩,k _ _ _ k' am' r⟩
  | @dk a ks kvs e n ke q=>exact⟨!kvs.isEmpty,.inr (.inr ⟨_,e,by have:=qX ke q;cases this<;>rfl⟩),k _ _ _ k' am' r⟩
  | dt e n ke q=>exact(show False from r).elim
  | fk e ke q=>exact(show False from r).elim
  | ft e ke q=>exact(show False from r).elim
  | ref p=>
   rcases r with⟨ws,e,r⟩|⟨kvs,e,r⟩
   .obtain⟨vs,e1,q⟩:=am'.lst e;exact⟨_,.inl ⟨_,bK.of e1,q.empty⟩,k _ _ _ k' am' r⟩
   .obtain⟨ks,e1,q⟩:=am' _ _ e;exact⟨!kvs.isEmpty,.inr (.inr ⟨_,e1,by cases q<;>rfl⟩),k _ _ _ k' am' r⟩⟩
def uC(t u:d7):d7:=λτ M Q=>t τ M λc M1=>if c=true then u τ M1 Q else Q false M1
def iQ(t u:d7):d7:=λτ M Q=>t τ M λc M1=>if c=true then Q true M1 else u τ M1 Q
def kT(t:d7):d7:=λτ M Q=>t τ M λc M1=>Q (!c) M1
variable {tA tB':d7}{rest:List Expr}
theorem xZ(ha:T3 X a tA):W3 X (.BoolOp .And [a] pos) tA:=PD ha
theorem lT(ha:T3 X a tA):W3 X (.BoolOp .Or [a] pos) tA:=PF ha
theorem yA(ha:T3 X a tA)(hb:W3 X (.BoolOp .And (b::rest) pos) tB'):W3 X (.BoolOp .And (a::b::rest) pos) (uC tA tB'):=
 (PH ha hb).weak λZ H Q z0=>z0.el λτ M R as am h k=>⟨τ,M,_,as,am,h,λc H1 M1 k1 am1 h1=>by
  cases c with
  | true=>exact⟨τ,M1,R,as.kp am k1,am1,h1,λb H' M' k' am' r=>k b H' M' (k1.trans k') am' r⟩
  | false=>exact k false H1 M1 k1 am1 h1⟩
theorem j5(ha:T3 X a tA)(hb:W3 X (.BoolOp .Or (b::rest) pos) tB'):W3 X (.BoolOp .Or (a::b::rest) pos) (iQ tA tB'):=
 (PJ ha hb).weak λZ H Q z0=>z0.el λτ M R as am h k=>⟨τ,M,_,as,am,h,λc H1 M1 k1 am1 h1=>by
  cases c with
  | true=>exact k true H1 M1 k1 am1 h1
  | false=>exact⟨τ,M1,R,as.kp am k1,am1,h1,λb H' M' k' am' r=>k b H' M' (k1.trans k') am' r⟩⟩
theorem lU(ha:T3 X a tA):T3 X (.UnaryOp .Not a pos) (kT tA):=
 (PK ha).weak λZ H Q z0=>z0.el λτ M R as am h k=>⟨τ,M,_,as,am,h,λc H1 M1 k1 am1 h1=>k (!c) H1 M1 k1 am1 h1⟩
def yB(ta tb:a0):a0:=λτ M R=>ta τ M λx M1=>∃c,x=.bl c/\if c=true then tb τ M1 R else R (.bl false) M1
theorem WB{op}(h:E3 X a ta):E3 X (.BoolOp op [a] pos) ta:=PM h
theorem v_and(ha:E3 X a ta)(hb:E3 X (.BoolOp .And (b::rest) pos) tb):E3 X (.BoolOp .And (a::b::rest) pos) (yB ta tb):=
 (PN ha hb).weak λZ H Q z0=>z0.el λτ M R as am h k=>⟨τ,M,_,as,am,h,λx H1 wx M1 k1 am1 ax ⟨c,e,h1⟩=>by
  subst e;refine⟨c,ax.bl_inv,?_⟩;cases c with
  | true=>exact⟨τ,M1,R,as.kp am k1,am1,h1,k.kp k1⟩
  | false=>exact(k.kp k1).at am1 (.bl false) h1⟩
def aG:dY:=λ_ M R=>R [] M
def aB(ta:a0)(tr:dY):dY:=λτ M R=>ta τ M λx M1=>tr τ M1 λxs M2=>R (x::xs) M2
variable {e:Expr}{es:List Expr}{te:a0}{t:dY}
theorem aH:A3 X [] aG:=R8.weak λZ H Q z0=>z0.el λτ M R as am h k=>k [] H [] M (Kp.refl am) am .nil h
theorem aC(ha:E3 X e te)(hr:A3 X es t)(hs:Bj (e::es) X.env=(false,eval e X.env)::Bj es X.env:=by rfl):A3 X (e::es) (aB te t):=
 (R9 ha hr hs).weak λZ H Q z0=>z0.el λτ M R as am h k=>⟨τ,M,_,as,am,h,λx H1 wx M1 k1 am1 ax h1=>⟨τ,M1,_,as.kp am k1,am1,h1,λxs H2 ws M2 k2 am2 axs h2=>
  k (x::xs) H2 (wx::ws) M2 (k1.trans k2) am2 (.cons (ax.kp am1 k2) axs) h2⟩⟩
def cM(t:dY):a0:=λτ M R=>t τ M λws M1=>ws.length<=Ao/\R (.tup ws) M1
def gR(t:dY):a0:=λτ M R=>t τ M λws M1=>ws.length<=Ao/\bH ws M1 R
theorem laidT{K:Ac}{H:Hp}{M:Mm}{R:K3}{Q:VK}{p:Addr}{xs:List V}{ws:List W}(am:AM K H M)(k:Up K H M R Q)(hp:H p=none)(ax:aN K H M xs ws)(r:R (.tup ws) M):Q (.ref p) (aY H p (.tup xs)):=by
 obtain⟨am2,k2⟩:=am.tup (u:=.tup xs) hp;exact k _ _ _ _ k2 am2 (.tup cQ (ax.newT hp)) r
theorem jJ{K:Ac}{H:Hp}{M:Mm}{R:K3}{Q:VK}{p:Addr}{xs:List V}{ws:List W}(am:AM K H M)(k:Up K H M R Q)(hp:H p=none)(ax:aN K H M xs ws)(r:∀p,M p=none->R (.ref p) (put M p (.lst ws))):Q (.ref p) (aY H p (.lst xs)):=by
 obtain⟨am2,k2⟩:=am.laid (o:=.lst ws) (u:=.lst xs) hp ⟨xs,cQ,ax.newL hp⟩;exact k _ _ _ _ k2 am2 (.ref p) (r p (am.nonM hp))
theorem pK{K:Ac}{H:Hp}{M:Mm}{R:K3}{Q:VK}{l:Addr}{xs:List V}{ws ws0:List W}{y:V}{w:W}(am:AM K H M)(k:Up K H M R Q)(hl:M l=some (.lst ws0))(ax:aN K H M xs ws)(ay:AV K H M y w)(r:R w (put M l (.lst ws))):Q y (aY H l (.lst xs)):=by
 obtain⟨am2,k2⟩:=am.write (o:=.lst ws) (u:=.lst xs) hl ⟨xs,cQ,ax.wr am hl⟩;exact k _ _ _ _ k2 am2 (ay.wr am hl) r
theorem cV{x1}(h:A3 X es t):E3 X (.Tuple es x1 pos) (cM t):=
 (SE h).weak λZ H Q z0=>z0.el λτ M R as am h k=>⟨τ,M,_,as,am,h,λxs H1 ws M1 k1 am1 axs ⟨hl,r⟩=>⟨by rw[axs.length];exact hl,λp hp=>laidT am1 (k.kp k1) hp axs r⟩⟩
theorem iR(h:A3 X es t):E3 X (.List es pos) (gR t):=
 (EZ h).weak λZ H Q z0=>z0.el λτ M R as am h k=>⟨τ,M,_,as,am,h,λxs H1 ws M1 k1 am1 axs ⟨hl,r⟩=>⟨by rw[axs.length];exact hl,λp hp=>jJ am1 (k.kp k1) hp axs r⟩⟩
def b9(r:List W->Mm->K3->Prop)(t:dY):a0:=λτ M R=>t τ M λws M1=>r ws M1 R
variable {x:Str}{p:Pos}{id T:String}{r:List W->Mm->K3->Prop}
theorem GR{K:Ac}{Z:SV}{H:Hp}{Q:VK}(h:up K (b9 r t) Z H Q):xJ (iC K r) (pJ K t) Z H Q:=by
 obtain⟨τ,M,R,as,am,h,k⟩:=h;exact⟨τ,M,_,as,am,h,λxs H1 ws M1 k1 am1 axs h1=>⟨ws,M1,R,am1,axs,h1,k.kp k1⟩⟩
theorem cX(hc:dX X (.builtin id) (iC X.K r))(hg:Gl X x)(hm:X.mg x=none)(hv:Ct x=some (.builtin id))(ha:A3 X (e::es) t)(hn:x≠"__name__":=by decide)(hdb:(x==("__debug__" : Str))=false:=by decide)(hs:Bj (e::es) X.env=(false,eval e X.env)::Bj es X.env:=by rfl)(hpl:(Gx pos (Bj es X.env)).any (·.1)=false:=by rfl):E3 X (.Call (.Name x p) (e::es) [] pos) (b9 r t):=(SO hc hg hm hv ha hn hdb hs hpl).weak λ_ _ _ h=>GR h
theorem m9(hc:dX X (.type T) (iC X.K r))(hg:Gl X x)(hm:X.mg x=none)(hv:Ct x=some (.type T))(ha:A3 X (e::es) t)(hn:x≠"__name__":=by decide)(hdb:(x==("__debug__" : Str))=false:=by decide)(hs:Bj (e::es) X.env=(false,eval e X.env)::Bj es X.env:=by rfl)(hpl:(Gx pos (Bj es X.env)).any (·.1)=false:=by rfl):E3 X (.Call (.Name x p) (e::es) [] pos) (b9 r t):=(SQ hc hg hm hv ha hn hdb hs hpl).weak λ_ _ _ h=>GR h
abbrev bL:=List W->Mm->K3->Prop
def fZ(K:Ac)(sp:bL):Sp:=λvs H Q _=>∃ws M R,AM K H M/\aN K H M vs ws/\sp ws M R/\Up K H M R Q
variable {k:Nat}{f:Addr}{fd:Bk}{ps:List Str}{sp:bL}
def bV(sp:bL)(t:dY):a0:=λτ M R=>t τ M λws M1=>sp ws M1 R
theorem GS{K:Ac}{Z:SV}{H:Hp}{Q:VK}(h:up K (bV sp t) Z H Q):E1 (fZ K sp) [] E0 (pJ K t) Z H Q:=by
 obtain⟨τ,M,R,as,am,h,k⟩:=h;exact⟨τ,M,_,as,am,h,λxs H1 ws M1 k1 am1 axs h1=>⟨ws,M1,R,am1,by rw[Fw];exact axs,h1,k.kp k1⟩⟩
theorem GU(F:eV X.prog X.w X.K X.mg X.base eW k f fd ps (fZ X.K sp))(hr:cE k X.A)(hg:Gl X x)(hm:X.mg x=some (.ref f))(hk:Fc X.K (.ref f)=true)(hb:Binds X.K fd ps [])(ha:A3 X (e::es) t)(hdb:(x==("__debug__" : Str))=false:=by decide)(he:Bj (e::es) X.env=(false,eval e X.env)::Bj es X.env:=by rfl)(hpl:(Gx pos (Bj es X.env)).any (·.1)=false:=by rfl):
  E3 X (.Call (.Name x p) (e::es) [] pos) (bV sp t):=(SF F hr hg hm hk hb .nil pE ha hdb he hpl).weak λ_ _ _ h=>GS h
def kU(T:String):W->Mm->Prop
 | .str _,_=>T = "str"
 | .int _,_=>T = "int"
 | .rl _,_=>T = "list"
 | .sc _,_=>T = "list"
 | .dk _,_=>T = "dict"
 | .dt _,_=>T = "dict"
 | .fk _,_=>T = "dict"
 | .ft _,_=>T = "dict"
 | .ref p,M=>(T = "list"/\∃ws,M p=some (.lst ws))\/(T = "dict"/\((∃kvs,M p=some (.dK kvs))\/∃kvs,M p=some (.dT kvs)))
 | _,_=>False
theorem GV{K:Ac}{H:Hp}{M:Mm}{v:V}{w:W}(am:AM K H M)(av:AV K H M v w)(h:kU T w M):tQ K T v H:=by
 cases av with
 | str y=>exact h
 | int i=>exact h
 | rl e n q=>exact .inl ⟨h,_,bK.of e⟩
 | sc e q=>exact .inl ⟨h,_,e.sq⟩
 | dk e n ke q=>exact .inr (.inr (.inl ⟨h,.inl ⟨_,.inl e⟩⟩))
 | dt e n ke q=>exact .inr (.inr (.inl ⟨h,.inr ⟨_,.inl e⟩⟩))
 | ref p=>
  rcases h with⟨e,ws,h⟩|⟨e,h⟩
  .obtain⟨vs,e1,_⟩:=am.lst h;exact .inl ⟨e,vs,bK.of e1⟩
  .refine .inr (.inr (.inl ⟨e,?_⟩));rcases h with⟨kvs,h⟩|⟨kvs,h⟩
   .obtain⟨ks,e1,_⟩:=am _ _ h;exact .inl ⟨ks,.inl e1⟩
   .obtain⟨ks,e1,_⟩:=am _ _ h;exact .inr ⟨ks,.inl e1⟩
 | non=>exact h.elim
 | bl b=>exact h.elim
 | ty n=>exact h.elim
 | tup e q=>exact h.elim
 | fk e ke q=>exact .inr (.inr (.inl ⟨h,.inl ⟨_,.inr ⟨_,e⟩⟩⟩))
 | ft e ke q=>exact .inr (.inr (.inl ⟨h,.inr ⟨_,.inr ⟨_,e⟩⟩⟩))
variable {o:Expr}{to:a0}{name:Str}{apos cpos:Pos}{rm:W->List W->Mm->K3->Prop}
def pL(T:String)(r:W->List W->Mm->K3->Prop)(to:a0):a0:=λτ M R=>to τ M λx M1=>kU T x M1/\r x [] M1 R
def dE(T:String)(r:W->List W->Mm->K3->Prop)(to:a0)(t:dY):a0:=λτ M R=>to τ M λx M1=>kU T x M1/\t τ M1 λxs M2=>r x xs M2 R
theorem rA(pa:PlainAttrs T)(slot:Slot T name id)(hty:typeOf (.builtin id)=pure (.type "method_descriptor"))(hm:jE X id (kQ X.K rm))(ho:E3 X o to)(hbase:Ja o name X.env (eval o X.env)=eval o X.env:=by rfl)(hline:(apos.endLine==cpos.line)=true:=by rfl):E3 X (.Call (.Attribute o name apos) [] [] cpos) (pL T rm to):=
 (UH pa slot hty hm ho hbase hline).weak λZ H Q z0=>z0.el λτ M R as am h k=>⟨τ,M,_,as,am,h,λx H1 wx M1 k1 am1 ax ⟨ty,h1⟩=>⟨GV am1 ax ty,wx,[],M1,R,am1,ax,.nil,h1,k.kp k1⟩⟩
theorem eN(pa:PlainAttrs T)(slot:Slot T name id)(hty:typeOf (.builtin id)=pure (.type "method_descriptor"))(hm:jE X id (kQ X.K rm))(ho:E3 X o to)(ha:A3 X (e::es) t)(hbase:Ja o name X.env (eval o X.env)=eval o X.env:=by rfl)(hfew:((Gx cpos (Bj (e::es) X.env)).all (λx=>!x.1)&&(backToKw cpos (Lf [] X.env)).all (λx=>x.1.isSome)
  &&decide ((e::es).length+([]:List Keyword).length+(if ([]:List Keyword).isEmpty then 0 else 1)<30))=true:=by rfl)(hline:(apos.endLine==cpos.line)=true:=by rfl)(hs:Bj (e::es) X.env=(false,eval e X.env)::Bj es X.env:=by rfl)(hplain:(Gx cpos (Bj es X.env)).any (·.1)=false:=by rfl):
  E3 X (.Call (.Attribute o name apos) (e::es) [] cpos) (dE T rm to t):=
 (UI pa slot hty hm ho ha hbase hfew hline hs hplain).weak λZ H Q z0=>z0.el λτ M R as am h k=>⟨τ,M,_,as,am,h,λx H1 wx M1 k1 am1 ax ⟨ty,h1⟩=>⟨GV am1 ax ty,τ,M1,_,as.kp am k1,am1,h1,λxs H2 ws M2 k2 am2 axs h2=>
  ⟨wx,ws,M2,R,am2,ax.kp am1 k2,axs,h2,(k.kp k1).kp k2⟩⟩⟩
end
section
variable {X:Cx}
theorem kW{f:Ae->Ae->Sem Ae}{r:R2}{r3:R3}(h0:bG X f r)(h:∀x y H Q M R,AM X.K H M->Up X.K H M R Q->∀wx wy,r3 wx wy M R->AV X.K H M x wx->AV X.K H M y wy->r x y H Q):bG X f (cL X.K r3):=
 λpins s Z H x y v u Q I rx ry ⟨wx,wy,M,R,am,ax,ay,h1,k⟩=>h0 pins s Z H x y v u Q I rx ry (h x y H Q M R am k wx wy h1 ax ay)
theorem WC{r:R2}{r3:R3}(h0:jD X r)(h:∀x y H Q M R,AM X.K H M->Up X.K H M R Q->∀wx wy,r3 wx wy M R->AV X.K H M x wx->AV X.K H M y wy->r x y H Q):jD X (cL X.K r3):=
 λvalue slice pins s Z H x y v u Q I rx ry ⟨wx,wy,M,R,am,ax,ay,h1,k⟩=>h0 value slice pins s Z H x y v u Q I rx ry (h x y H Q M R am k wx wy h1 ax ay)
theorem yC{f:Ae}{r:List V->Hp->VK->Prop}{r3:List W->Mm->K3->Prop}(h0:dX X f r)(h:∀xs H Q M R,AM X.K H M->Up X.K H M R Q->∀ws,r3 ws M R->aN X.K H M xs ws->r xs H Q):dX X f (iC X.K r3):=
 λpins s Z H xs us Q I rs ⟨ws,M,R,am,ax,h1,k⟩=>h0 pins s Z H xs us Q I rs (h xs H Q M R am k ws h1 ax)
def uD:R3
 | .int i,.int j,M,R=>R (.int (i+j)) M
 | .tup xs,.tup ys,M,R=>xs≠[]/\xs.length+ys.length<=Ao/\R (.tup (xs++ys)) M
 | .ref a,.ref b,M,R=>∃xs ys,M a=some (.lst xs)/\M b=some (.lst ys)/\xs.length+ys.length<=Ao/\bH (xs++ys) M R
 | .rl xs,.ref b,M,R=>∃ys,M b=some (.lst ys)/\xs.length+ys.length<=Ao/\bH (xs++ys) M R
 | .ref a,.rl ys,M,R=>∃xs,M a=some (.lst xs)/\xs.length+ys.length<=Ao/\bH (xs++ys) M R
 | .rl xs,.rl ys,M,R=>xs.length+ys.length<=Ao/\bH (xs++ys) M R
 | _,_,_,_=>False
def lV(M:Mm):W->List W->Prop
 | .ref a,ws=>M a=some (.lst ws)
 | .rl ws,zs=>ws=zs
 | _,_=>False
theorem nA{K:Ac}{H:Hp}{M:Mm}{v:V}{w:W}{ws:List W}(am:AM K H M)(h:AV K H M v w)(e:lV M w ws):∃a xs,v=.ref a/\H a=some (.lst xs)/\aN K H M xs ws:=by
 cases w<;>first|exact(show False from e).elim|skip
 case ref a=>exact am.lstE e λxs f q=>⟨_,_,h.inv,f,q⟩
 case rl zs=>exact h.rlE λa xs e1 f q=>⟨_,_,e1,f,by rw[<-show zs=ws from e];exact q⟩
theorem WD{P:W->W->Prop}{M:Mm}{R:K3}(c1:∀i j,R (.int (i+j)) M->P (.int i) (.int j))(c2:∀xs ys,xs≠[]/\xs.length+ys.length<=Ao/\R (.tup (xs++ys)) M->P (.tup xs) (.tup ys))(c3:∀x y xs ys,lV M x xs->lV M y ys->xs.length+ys.length<=Ao->bH (xs++ys) M R->P x y):∀x y,uD x y M R->P x y:=by
 intro x y h;cases x<;>first|exact(show False from h).elim|(cases y<;>first|exact(show False from h).elim|skip)
 case int.int=>exact c1 _ _ h
 case tup.tup=>exact c2 _ _ h
 case ref.ref=>obtain⟨xs,ys,e,f,l,r⟩:=h;exact c3 _ _ _ _ e f l r
 case rl.ref=>obtain⟨ys,f,l,r⟩:=h;exact c3 _ _ _ _ rfl f l r
 case ref.rl=>obtain⟨xs,e,l,r⟩:=h;exact c3 _ _ _ _ e rfl l r
 case rl.rl=>exact c3 _ _ _ _ rfl rfl h.1 h.2
theorem yD:bG X (Fl .Add) (cL X.K uD):=kW (QZ.or (TJ.or UN)) λx y H Q M R am k=>WD
 (λi j h ax ay=>.inl ⟨i,j,ax.inv,ay.inv,k.at am (.int _) h⟩)
 (λxs ys h ax ay=>ax.tupE λa us e1 f1 q1=>ay.tupE λb vs e2 f2 q2=>.inr (.inl ⟨a,b,us,vs,e1,e2,bS.of f1,bS.of f2,
  λz=>h.1 (Ex.mp (by rw[<-q1.length,z];rfl)),by rw[q1.length,q2.length];exact h.2.1,
  λz=>k.at am (by rw[<-e1];exact ax) (by rw[<-Fw xs,<-Ex.mp (show ys.length=0 by rw[<-q2.length,z];rfl)];exact h.2.2),
  λ_ p hp=>laidT am k hp (q1.append q2) h.2.2⟩))
 (λwx wy xs ys h1 h2 l r ax ay=>.inr (.inr (by
  obtain⟨a,us,e1,f1,q1⟩:=nA am ax h1;obtain⟨b,vs,e2,f2,q2⟩:=nA am ay h2;exact⟨a,b,us,vs,e1,e2,f1,f2,by rw[q1.length,q2.length];exact l,λp hp=>jJ am k hp (q1.append q2) r⟩)))
def rB(C:Int->Int->Prop)(g:Int->Int->W):R3
 | .int i,.int j,M,R=>C i j/\R (g i j) M
 | _,_,_,_=>False
theorem WE{C:Int->Int->Prop}{g:Int->Int->W}{P:W->W->Prop}{M:Mm}{R:K3}(c:∀i j,C i j/\R (g i j) M->P (.int i) (.int j))(x y:W)(h:rB C g x y M R):P x y:=by
 cases x<;>first|exact(show False from h).elim|(cases y<;>first|exact(show False from h).elim|exact c _ _ h)
theorem yE{f:Ae->Ae->Sem Ae}{C:Int->Int->Prop}{g:Int->Int->V}{g':Int->Int->W}(h0:bG X f (rI C g))(hg:∀H M i j,AV X.K H M (g i j) (g' i j)):bG X f (cL X.K (rB C g')):=
 kW h0 λx y H Q M R am k=>WE λi j h ax ay=>⟨i,j,ax.inv,ay.inv,h.1,k.at am (hg H M i j) h.2⟩
def pN(g:Int->Int->W):R3
 | .int i,.int j,M,R=>R (g i j) M
 | _,_,_,_=>False
theorem WG{g:Int->Int->W}{P:W->W->Prop}{M:Mm}{R:K3}(c:∀i j,R (g i j) M->P (.int i) (.int j))(x y:W)(h:pN g x y M R):P x y:=by
 cases x<;>first|exact(show False from h).elim|(cases y<;>first|exact(show False from h).elim|exact c _ _ h)
theorem uE{f:Ae->Ae->Sem Ae}{g:Int->Int->V}{g':Int->Int->W}(h0:bG X f (mT g))(hg:∀H M i j,AV X.K H M (g i j) (g' i j)):bG X f (cL X.K (pN g')):=
 kW h0 λx y H Q M R am k=>WG λi j h ax ay=>⟨i,j,ax.inv,ay.inv,k.at am (hg H M i j) h⟩
abbrev rC:R3:=pN λi j=>.int (i-j)
theorem uF:bG X (Fl .Sub) (cL X.K rC):=uE Q0 λ_ _ _ _=>.int _
abbrev yF:R3:=rB F9 λi j=>.int (i/j)
theorem GW:bG X (Fl .FloorDiv) (cL X.K yF):=yE VL λ_ _ _ _=>.int _
abbrev rD:R3:=rB (λ_ j=>0<j) λi j=>.int (i % j)
theorem uG:bG X (Fl .Mod) (cL X.K rD):=yE Q2 λ_ _ _ _=>.int _
abbrev GX:R3:=rB EK λi j=>.int (i ^ j.toNat)
theorem WH:bG X (Fl .Pow) (cL X.K GX):=yE Q3 λ_ _ _ _=>.int _
def GY:R3
 | .int i,.int j,M,R=>(pA i j\/tX i j)/\R (.int (i*j)) M
 | .ref a,.int n,M,R=>∃xs,M a=some (.lst xs)/\-(2 ^ 63)<=n/\n<2 ^ 63/\xs.length*n.toNat<=Ao/\bH (Bz n.toNat xs).flatten M R
 | .rl xs,.int n,M,R=>-(2 ^ 63)<=n/\n<2 ^ 63/\xs.length*n.toNat<=Ao/\bH (Bz n.toNat xs).flatten M R
 | _,_,_,_=>False
theorem WI{P:W->W->Prop}{M:Mm}{R:K3}(c1:∀i j,(pA i j\/tX i j)/\R (.int (i*j)) M->P (.int i) (.int j))(c3:∀x n xs,lV M x xs->-(2 ^ 63)<=n/\n<2 ^ 63/\xs.length*n.toNat<=Ao/\bH (Bz n.toNat xs).flatten M R->P x (.int n)):∀x y,GY x y M R->P x y:=by
 intro x y h;cases x<;>first|exact(show False from h).elim|(cases y<;>first|exact(show False from h).elim|skip)
 case int.int=>exact c1 _ _ h
 case ref.int=>obtain⟨xs,e,h⟩:=h;exact c3 _ _ _ e h
 case rl.int=>exact c3 _ _ _ rfl h
theorem WJ:bG X (Fl .Mult) (cL X.K GY):=kW (Q1.or (VJ.or UQ)) λx y H Q M R am k=>WI
 (λi j h ax ay=>h.1.elim (λz=>.inl ⟨i,j,ax.inv,ay.inv,z,k.at am (.int _) h.2⟩) λz=>.inr (.inl ⟨i,j,ax.inv,ay.inv,z,k.at am (.int _) h.2⟩))
 (λwx n xs h1 h ax ay=>.inr (.inr (by
  obtain⟨a,us,e1,f1,q1⟩:=nA am ax h1;exact⟨a,n,us,e1,ay.inv,f1,h.1,h.2.1,by rw[q1.length];exact h.2.2.1,λp hp=>jJ am k hp (q1.flatRep _) h.2.2.2⟩)))
def kX:W->Mm->K3->Prop
 | .int i,M,R=>R (.int (-i)) M
 | _,_,_=>False
theorem lW:qN X (unaryOp .USub) (GP X.K kX):=by
 rintro pins s Z H x v Q I rx ⟨wx,M,R,am,ax,h,k⟩;cases wx<;>first|exact(show False from h).elim|skip
 case int i=>exact Q5 pins s Z H _ v Q I rx ⟨i,ax.inv,k.at am (.int _) h⟩
def oA:R3:=pN λi j=>.bl (decide (i<j))
theorem uH:bG X (Cb .Lt) (cL X.K oA):=uE Q9 λ_ _ _ _=>.bl _
abbrev GZ:R3:=pN λi j=>.bl (decide (i<=j))
theorem WK:bG X (Cb .LtE) (cL X.K GZ):=uE RA λ_ _ _ _=>.bl _
abbrev yG:R3:=pN λi j=>.bl (decide (j<i))
theorem G0:bG X (Cb .Gt) (cL X.K yG):=uE RB λ_ _ _ _=>.bl _
def isNon:W->Bool
 | .non=>true
 | _=>false
def oB(neg:Bool):R3
 | x,.non,M,R=>R (.bl (if neg then !isNon x else isNon x)) M
 | _,_,_,_=>False
theorem AV.isNon{K:Ac}{H:Hp}{M:Mm}{v:V}{w:W}(h:AV K H M v w):decide (v=.non)=L3.isNon w:=by cases h<;>rfl
theorem G1{n:Bool}{P:W->W->Prop}{M:Mm}{R:K3}(c:∀x,R (.bl (if n then !isNon x else isNon x)) M->P x .non)(x y:W)(h:oB n x y M R):P x y:=by
 cases y<;>first|exact(show False from h).elim|exact c _ h
theorem yH:bG X (Cb .Is) (cL X.K (oB false)):=kW RD λx y H Q M R am k=>G1 λw h ax ay=>⟨ay.inv,by rw[ax.isNon];exact k.at am (.bl _) h⟩
theorem WL:bG X (Cb .IsNot) (cL X.K (oB true)):=kW RE λx y H Q M R am k=>G1 λw h ax ay=>⟨ay.inv,by rw[ax.isNon];exact k.at am (.bl _) h⟩
mutual
inductive Snap(M:Mm):W->Iu->Prop
 | non:Snap M .non .none
 | bl (b:Bool):Snap M (.bl b) (.bool b)
 | int (i:Int):Snap M (.int i) (.int i)
 | str (x:Str):Snap M (.str x) (.str x)
 | tup {ws:List W} {ds:List Iu}:iD M ws ds->Snap M (.tup ws) (.tuple ds)
 | rl {ws:List W} {ds:List Iu}:iD M ws ds->Snap M (.rl ws) (.list ds)
 | ref {a:Addr} {ws:List W} {ds:List Iu}:M a=some (.lst ws)->iD M ws ds->Snap M (.ref a) (.list ds)
inductive iD(M:Mm):List W->List Iu->Prop
 | nil:iD M [] []
 | cons {w:W} {ws:List W} {d:Iu} {ds:List Iu}:Snap M w d->iD M ws ds->iD M (w::ws) (d::ds)
end
section
variable {pins:List (Addr×Obj)}{Z:SV}{H:Hp}{s:Ag}{M:Mm}
theorem iD.reads(I:Inv X pins Z H s)(am:AM X.K H M){ws:List W}{ds:List Iu}(h:iD M ws ds):∀{vs:List V} {us:List Ae},aN X.K H M vs ws->a8 vs us->∃as,ReadsAll s.heap us ds as:=
 iD.rec (motive_1:=λw d _=>∀{v:V} {u:Ae},AV X.K H M v w->RelV v u->∃as,Reads s.heap u d as) (motive_2:=λws ds _=>∀{vs:List V} {us:List Ae},aN X.K H M vs ws->a8 vs us->∃as,ReadsAll s.heap us ds as)
  (λav r=>by rw[show _=_ from av.inv]at r;rw[show _=_ from r];exact⟨_,.none⟩)
  (λb _ _ av r=>by rw[show _=_ from av.inv]at r;rw[show _=_ from r];exact⟨_,.bool b⟩)
  (λi _ _ av r=>by rw[show _=_ from av.inv]at r;exact r.elim λt r=>by rw[r];exact⟨_,.int i t⟩)
  (λx _ _ av r=>by rw[show _=_ from av.inv]at r;exact r.elim λt r=>by rw[r];exact⟨_,.str x t⟩)
  (λ_ ih _ _ av r=>av.tupE λa xs e f q=>by
   rw[e]at r;rw[show _=_ from r];obtain⟨its,rv,⟨o,e1,e2,n,e3⟩,_⟩:=I.tuple (bS.of f);exact(ih q rv).elim λas z=>⟨_,.tuple e1 e2 e3 (by simpa using z)⟩)
  (λ_ ih _ _ av r=>av.rlE λa xs e f q=>by
   rw[e]at r;rw[show _=_ from r];obtain⟨its,rv,pl,_⟩:=I.list (bK.of f);obtain⟨o,e1,e2,n,e3⟩:=pl.isList;exact(ih q rv).elim λas z=>⟨_,.list e1 e2 e3 (by simpa using z)⟩)
  (λe0 _ ih _ _ av r=>am.lstE e0 λvs f q=>by
   rw[show _=_ from av.inv]at r;rw[show _=_ from r];obtain⟨its,rv,pl,_⟩:=I.list (bK.of f);obtain⟨o,e1,e2,n,e3⟩:=pl.isList;exact(ih q rv).elim λas z=>⟨_,.list e1 e2 e3 (by simpa using z)⟩)
  (λav r=>by cases av;cases r;exact⟨_,.nil⟩)
  (λ_ _ ih1 ih2 _ _ av r=>by
   cases av with
   | cons a b=>
    cases r with
    | cons r1 r2=>exact(ih1 a r1).elim λx q1=>(ih2 b r2).elim λy q2=>⟨_,.cons q1 q2⟩) h
theorem Snap.reads(I:Inv X pins Z H s)(am:AM X.K H M){w:W}{d:Iu}{v:V}{u:Ae}(h:Snap M w d)(av:AV X.K H M v w)(r:RelV v u):∃as,Reads s.heap u d as:=
 (iD.reads I am (.cons h .nil) (.cons av .nil) (.cons r .nil)).elim λ_ z=>by
  cases z with
  | cons q _=>exact⟨_,q⟩
end
def rE(neg:Bool):R3:=λx y M R=>∃da db,Snap M x da/\Snap M y db/\n8 da/\n8 db/\R (.bl (if neg then !PyData.eqv da db else Gd da db)) M
def rEq(neg:Bool):R3
 | .int i,.int j,M,R=>R (.bl (if neg then !decide (i=j) else decide (i=j))) M
 | .str i,.str j,M,R=>R (.bl (if neg then !decide (i=j) else decide (i=j))) M
 | .bl i,.bl j,M,R=>R (.bl (if neg then !decide (i=j) else decide (i=j))) M
 | x,y,M,R=>rE neg x y M R
theorem G2{i j:Int}:decide (V.int i=V.int j)=decide (i=j):=by rw[Dy];simp
theorem G3{i j:Str}:decide (V.str i=V.str j)=decide (i=j):=by rw[Dy];simp
theorem G4{i j:Bool}:decide (V.bl i=V.bl j)=decide (i=j):=by rw[Dy];simp
theorem G5{n:Bool}{P:W->W->Prop}{M:Mm}{R:K3}(c1:∀i j,R (.bl (if n then !decide (i=j) else decide (i=j))) M->P (.int i) (.int j))(c2:∀i j,R (.bl (if n then !decide (i=j) else decide (i=j))) M->P (.str i) (.str j))(c3:∀i j,R (.bl (if n then !decide (i=j) else decide (i=j))) M->P (.bl i) (.bl j))(c4:∀x y,rE n x y M R->P x y)(x y:W)(h:rEq n x y M R):P x y:=by
 cases x<;>first|exact c4 _ _ h|(cases y<;>first|exact c1 _ _ h|exact c2 _ _ h|exact c3 _ _ h|exact c4 _ _ h)
theorem sV{i j:V}{x y:V}(e:x=i)(f:y=j)(h:tM i j=true):tM x y=true:=by rw[e,f];exact h
theorem dV{i j:V}{x y:V}{b:Bool}{Q:Bool->Prop}(e:x=i)(f:y=j)(h:decide (i=j)=b)(q:Q b):Q (decide (x=y)):=by rw[e,f,h];exact q
theorem WM(hu:X.A.units+64<Ez):bG X (Cb .Eq) (cL X.K (rE false)):=by
 rintro pins s Z H x y v u Q I rx ry ⟨wx,wy,M,R,am,ax,ay,⟨da,db,ha,hb,fa,fb,q⟩,k⟩;obtain⟨as,ra⟩:=ha.reads I am ax rx;obtain⟨bs,rb⟩:=hb.reads I am ay ry;exact SeqAt.compareEq_reads ra rb fa.1 fb.1 (Ft (Ij (Az (Nat.min_le_left _ _) (Az fa.2 (by decide))) _) hu) ⟨.bl _,H,I,rfl,k.at am (.bl _) q⟩
theorem WN(hu:X.A.units+64<Ez):bG X (Cb .NotEq) (cL X.K (rE true)):=by
 rintro pins s Z H x y v u Q I rx ry ⟨wx,wy,M,R,am,ax,ay,⟨da,db,ha,hb,fa,fb,q⟩,k⟩;obtain⟨as,ra⟩:=ha.reads I am ax rx;obtain⟨bs,rb⟩:=hb.reads I am ay ry;exact SeqAt.compareNe_reads ra rb fa.1 fb.1 (Ft (Ij (Az (Nat.min_le_left _ _) (Az fa.2 (by decide))) _) hu) ⟨.bl _,H,I,rfl,k.at am (.bl _) q⟩
theorem lX(hu:X.A.units+64<Ez):bG X (Cb .Eq) (cL X.K (rEq false)):=kW (Q7.or (WM hu)) λx y H Q M R am k=>G5
 (λi j h ax ay=>.inl ⟨sV ax.inv ay.inv rfl,dV (Q:=λb=>Q (.bl b) H) ax.inv ay.inv G2 (k.at am (.bl _) h)⟩)
 (λi j h ax ay=>.inl ⟨sV ax.inv ay.inv rfl,dV (Q:=λb=>Q (.bl b) H) ax.inv ay.inv G3 (k.at am (.bl _) h)⟩)
 (λi j h ax ay=>.inl ⟨sV ax.inv ay.inv rfl,dV (Q:=λb=>Q (.bl b) H) ax.inv ay.inv G4 (k.at am (.bl _) h)⟩)
 (λwx wy h ax ay=>.inr ⟨wx,wy,M,R,am,ax,ay,h,k⟩)
theorem j6(hu:X.A.units+64<Ez):bG X (Cb .NotEq) (cL X.K (rEq true)):=kW (Q8.or (WN hu)) λx y H Q M R am k=>G5
 (λi j h ax ay=>.inl ⟨sV ax.inv ay.inv rfl,dV (Q:=λb=>Q (.bl !b) H) ax.inv ay.inv G2 (k.at am (.bl _) h)⟩)
 (λi j h ax ay=>.inl ⟨sV ax.inv ay.inv rfl,dV (Q:=λb=>Q (.bl !b) H) ax.inv ay.inv G3 (k.at am (.bl _) h)⟩)
 (λi j h ax ay=>.inl ⟨sV ax.inv ay.inv rfl,dV (Q:=λb=>Q (.bl !b) H) ax.inv ay.inv G4 (k.at am (.bl _) h)⟩)
 (λwx wy h ax ay=>.inr ⟨wx,wy,M,R,am,ax,ay,h,k⟩)
def wK:aE->W
 | .inl i=>.int i
 | .inr x=>.str x
def bD{U:Type}[DecidableEq U](kvs:List (U×W))(k:U):Option W:=(kvs.find? λkv=>decide (kv.1=k)).map (·.2)
def cA{U:Type}[DecidableEq U](kvs:List (U×W))(k:U)(v:W):List (U×W):=
 if (kvs.any λkv=>decide (kv.1=k))=true then kvs.map (λkv=>if kv.1=k then(kv.1,v) else kv) else kvs++[(k,v)]
theorem AV.key{K:Ac}{H:Hp}{M:Mm}{v:V}{k:aE}(h:AV K H M v (wK k)):v=kV k:=by
 cases k<;>exact h.inv
theorem aN.keys{K:Ac}{H:Hp}{M:Mm}:∀{vs:List V} {k:List aE},aN K H M vs (k.map wK)->vs=k.map kV
 | _,[],h=>by cases h;rfl
 | _,a::r,h=>by
  cases h with
  | cons x y=>rw[x.key,aN.keys y];rfl
section
variable {U:Type}[DecidableEq U]{K:Ac}{H:Hp}{M:Mm}
theorem uI{ks:List (U×V)}{kvs:List (U×W)}(h:bU K H M U ks kvs)(k:U):(bD kvs k=none/\gE ks k=none)\/∃v w,bD kvs k=some w/\gE ks k=some v/\AV K H M v w:=by
 induction h with
 | nil=>exact .inl ⟨rfl,rfl⟩
 | @cons p q ps qs r t ih=>
  by_cases e:p.1=k
  .refine .inr ⟨p.2,q.2,?_,?_,r.2⟩
   .unfold bD;rw[Fj,decide_eq_true (by rw[<-r.1];exact e)];rfl
   .exact tR e
  .have e2:¬q.1=k:=by rw[<-r.1];exact e
   have l:bD (q::qs) k=bD qs k:=by unfold bD;rw[Fj,decide_eq_false e2]
   rw[l,tS e];exact ih
theorem WO{ks:List (U×V)}{kvs:List (U×W)}(h:bU K H M U ks kvs)(k:U):(ks.any λkv=>decide (kv.1=k))=(kvs.any λkv=>decide (kv.1=k)):=by
 induction h with
 | nil=>rfl
 | cons r t ih=>rw[Er,Er,ih,r.1]
theorem WQ{ks:List (U×V)}{kvs:List (U×W)}{v:V}{w:W}{k:U}(av:AV K H M v w)(h:bU K H M U ks kvs):bU K H M U (ks.map (λkv=>if kv.1=k then(kv.1,v) else kv)) (kvs.map (λkv=>if kv.1=k then(kv.1,w) else kv)):=by
 induction h with
 | nil=>exact .nil
 | @cons p q ps qs r t ih=>
  rw[Bb,Bb];refine .cons ?_ ih
  by_cases e:p.1=k
  .rw[if_pos e,if_pos (by rw[<-r.1];exact e)];exact⟨r.1,av⟩
  .rw[if_neg e,if_neg (by rw[<-r.1];exact e)];exact r
theorem WR{ks:List (U×V)}{kvs:List (U×W)}{v:V}{w:W}{k:U}(av:AV K H M v w)(h:bU K H M U ks kvs):bU K H M U (ks++[(k,v)]) (kvs++[(k,w)]):=by
 induction h with
 | nil=>exact .cons ⟨rfl,av⟩ .nil
 | cons r t ih=>exact .cons r ih
theorem uJ{ks:List (U×V)}{kvs:List (U×W)}{v:V}{w:W}(h:bU K H M U ks kvs)(k:U)(av:AV K H M v w):bU K H M U (eL ks k v) (cA kvs k w):=by
 unfold eL cA;rw[WO h k];split
 .exact WQ av h
 .exact WR av h
end
def fB(M:Mm):W->W->Option W->Prop
 | .ref a,y,o=>(∃kvs k,M a=some (.dK kvs)/\y=wK k/\o=bD kvs k)\/∃kvs k,M a=some (.dT kvs)/\y=.tup (k.map wK)/\o=bD kvs k
 | .dk kvs,y,o=>∃k,y=wK k/\o=bD kvs k
 | .dt kvs,y,o=>∃k,y=.tup (k.map wK)/\o=bD kvs k
 | .fk kvs,y,o=>∃k,y=wK k/\o=bD kvs k
 | .ft kvs,y,o=>∃k,y=.tup (k.map wK)/\o=bD kvs k
 | _,_,_=>False
theorem yI{K:Ac}{H:Hp}{M:Mm}{a:Addr}{y:V}{k:aE}{ks:List (aE×V)}{kvs:List (aE×W)}(e1:Rd H a (.dK ks))(q:bU K H M aE ks kvs)(ay:AV K H M y (wK k)):(bD kvs k=none/\iB H a y none)\/∃v w,bD kvs k=some w/\iB H a y (some v)/\AV K H M v w:=by
 rw[ay.key];rcases uI q k with⟨l1,l2⟩|⟨v,w,l1,l2,av⟩
 .exact .inl ⟨l1,by rw[<-l2];exact .inl ⟨_,_,e1,rfl,rfl⟩⟩
 .exact .inr ⟨v,w,l1,by rw[<-l2];exact .inl ⟨_,_,e1,rfl,rfl⟩,av⟩
theorem yJ{K:Ac}{H:Hp}{M:Mm}{a:Addr}{y:V}{k:List aE}{ks:List (List aE×V)}{kvs:List (List aE×W)}(e1:Rd H a (.dT ks))(q:bU K H M (List aE) ks kvs)(ay:AV K H M y (.tup (k.map wK))):(bD kvs k=none/\iB H a y none)\/∃v w,bD kvs k=some w/\iB H a y (some v)/\AV K H M v w:=
 ay.tupE λb xs e eb qb=>by
  rw[qb.keys]at eb;rcases uI q k with⟨l1,l2⟩|⟨v,w,l1,l2,av⟩
  .exact .inl ⟨l1,by rw[<-l2];exact .inr ⟨_,_,_,e1,e,eb,rfl⟩⟩
  .exact .inr ⟨v,w,l1,by rw[<-l2];exact .inr ⟨_,_,_,e1,e,eb,rfl⟩,av⟩
theorem uK{K:Ac}{H:Hp}{M:Mm}{x y:V}{wx wy:W}{o:Option W}(am:AM K H M)(ax:AV K H M x wx)(ay:AV K H M y wy)(h:fB M wx wy o):∃a,x=.ref a/\((o=none/\iB H a y none)\/∃v w,o=some w/\iB H a y (some v)/\AV K H M v w):=by
 cases wx<;>first|exact(show False from h).elim|skip
 case ref a=>
  rcases h with⟨kvs,k,e,rfl,rfl⟩|⟨kvs,k,e,rfl,rfl⟩
  .obtain⟨ks,e1,q⟩:=am _ _ e;exact⟨a,ax.inv,yI (.inl e1) q ay⟩
  .obtain⟨ks,e1,q⟩:=am _ _ e;exact⟨a,ax.inv,yJ (.inl e1) q ay⟩
 all_goals
  obtain⟨k,rfl,rfl⟩:=h;have ax:=ax.inv
 case dk=>obtain⟨a,ks,e,f,_,q⟩:=ax;exact⟨a,e,yI (.inl f) q ay⟩
 case dt=>obtain⟨a,ks,e,f,_,q⟩:=ax;exact⟨a,e,yJ (.inl f) q ay⟩
 case fk=>obtain⟨a,ks,e,f,q⟩:=ax;exact⟨a,e,yI (.inr f) q ay⟩
 case ft=>obtain⟨a,ks,e,f,q⟩:=ax;exact⟨a,e,yJ (.inr f) q ay⟩
def aR:R3
 | .tup ws,.int i,M,R=>∃w,cG ws i=some w/\R w M
 | .rl ws,.int i,M,R=>∃w,cG ws i=some w/\R w M
 | .sc ws,.int i,M,R=>∃w,cG ws i=some w/\R w M
 | .dk kvs,y,M,R=>∃w,fB M (.dk kvs) y (some w)/\R w M
 | .dt kvs,y,M,R=>∃w,fB M (.dt kvs) y (some w)/\R w M
 | .fk kvs,y,M,R=>∃w,fB M (.fk kvs) y (some w)/\R w M
 | .ft kvs,y,M,R=>∃w,fB M (.ft kvs) y (some w)/\R w M
 | .str z,.int i,M,R=>z.length<=Ao/\∃c,cG z.cps.toList i=some c/\R (.str ⟨#[c]⟩) M
 | .ref a,.int i,M,R=>(∃ws w,M a=some (.lst ws)/\cG ws i=some w/\R w M)\/∃w,fB M (.ref a) (.int i) (some w)/\R w M
 | .ref a,y,M,R=>∃w,fB M (.ref a) y (some w)/\R w M
 | _,_,_,_=>False
theorem yK{K:Ac}{H:Hp}{M:Mm}{vs:List V}{ws:List W}{i:Int}{w:W}(q:aN K H M vs ws)(h:cG ws i=some w):∃v,cG vs i=some v/\AV K H M v w:=by
 unfold cG at h⊢;rw[q.length];cases e:hZ ws.length i with
 | none=>rw[e]at h;cases h
 | some j=>
  rw[e]at h;exact q.getW (i:=j) h
theorem WS(hu:X.A.units+1<Ez):jD X (λx y H Q=>∃a v,x=.ref a/\iB H a y (some v)/\Q v H):=by
 intro value slice pins s Z H x y v u Q I rx ry h hs;obtain⟨a,z,rfl,g,q⟩:=h;cases rx;exact tail_any (UY I g) PySem.F.slot_dict_getitem.lookup (US hu I g ry λw' s3 I3 rw'=>⟨z,H,I3,rw',q⟩) hs
theorem WT{P:W->W->Prop}{M:Mm}{R:K3}(c1:∀ws i w,cG ws i=some w->R w M->P (.tup ws) (.int i))(c2:∀ws i w,cG ws i=some w->R w M->P (.sc ws) (.int i))(c3:∀x ws i w,lV M x ws->cG ws i=some w->R w M->P x (.int i))(c4:∀z i,z.length<=Ao/\(∃c,cG z.cps.toList i=some c/\R (.str ⟨#[c]⟩) M)->P (.str z) (.int i))(c5:∀x y w,fB M x y (some w)->R w M->P x y)(x y:W)(h:aR x y M R):P x y:=by
 cases x
 case non|bl|int|ty=>exact(show False from h).elim
 case dk|dt|fk|ft=>exact h.elim λw h=>c5 _ _ _ h.1 h.2
 all_goals cases y<;>first|exact(show False from h).elim|skip
 case tup.int=>obtain⟨w,e,r⟩:=h;exact c1 _ _ _ e r
 case sc.int=>obtain⟨w,e,r⟩:=h;exact c2 _ _ _ e r
 case rl.int=>obtain⟨w,e,r⟩:=h;exact c3 _ _ _ _ rfl e r
 case str.int=>exact c4 _ _ h
 case ref.int=>exact h.elim (λ⟨ws,w,e,e2,r⟩=>c3 _ _ _ _ e e2 r) λ⟨w,e,r⟩=>c5 _ _ _ e r
 all_goals obtain⟨w,e,r⟩:=h;exact c5 _ _ _ e r
theorem WU(hu:X.A.units+1<Ez):jD X (cL X.K aR):=WC (TR.or (TU.or (TV.or (WS hu)))) λx y H Q M R am k=>WT
 (λws i w h r ax ay=>ax.tupE λa xs e f q=>let ⟨z,e3,av⟩:=yK q h;.inr (.inl ⟨a,xs,i,z,e,ay.inv,bS.of f,e3,k.at am av r⟩))
 (λws i w h r ax ay=>ax.scE λa xs e f q=>let ⟨z,e3,av⟩:=yK q h;.inl ⟨a,xs,i,z,e,ay.inv,f.sq,e3,k.at am av r⟩)
 (λwx ws i w h1 h r ax ay=>let ⟨a,xs,e,f,q⟩:=nA am ax h1;let ⟨z,e3,av⟩:=yK q h;.inl ⟨a,xs,i,z,e,ay.inv,bK.of f,e3,k.at am av r⟩)
 (λz i h ax ay=>let ⟨c,e,r⟩:=h.2;.inr (.inr (.inl ⟨z,i,c,ax.inv,ay.inv,h.1,e,k.at am (.str _) r⟩)))
 (λwx wy w g r ax ay=>.inr (.inr (.inr (by
  obtain⟨a,e,g⟩:=uK am ax ay g;rcases g with⟨z,_⟩|⟨z,w',e',g',av⟩
  .cases z
  .exact⟨a,z,e,g',k.at am av (by rw[<-Bx e'];exact r)⟩))))
variable {a b:Expr}{ta tb:a0}{pos:Pos}
theorem aV(hu:X.A.units+1<Ez)(ha:E3 X a ta)(hb:E3 X b tb)(hs:FH b:=by exact λ_ _=>rfl):E3 X (.Subscript a b pos) (aF aR ta tb):=(TL (WU hu) ha hb hs).weak λ_ _ _ h=>uB h
def fD(ws:List W)(lo hi:Option Int):List W:=(ws.drop (HT.sIx ws.length 0 lo)).take (HT.sIx ws.length ws.length hi-HT.sIx ws.length 0 lo)
def G6:W->Option Int->Option Int->Mm->K3->Prop
 | .rl ws,lo,hi,M,R=>bH (fD ws lo hi) M R
 | .sc ws,lo,hi,M,R=>bH (fD ws lo hi) M R
 | .ref a,lo,hi,M,R=>∃ws,M a=some (.lst ws)/\bH (fD ws lo hi) M R
 | .tup ws,lo,hi,M,R=>¬(HT.sIx ws.length 0 lo=0/\HT.sIx ws.length ws.length hi=ws.length)/\R (.tup (fD ws lo hi)) M
 | _,_,_,_,_=>False
theorem uL{K:Ac}{H:Hp}{M:Mm}{vs:List V}{ws:List W}{lo hi:Option Int}(q:aN K H M vs ws):aN K H M (mX vs lo hi) (fD ws lo hi):=by
 unfold mX fD;rw[q.length];exact(q.drop _).take _
def WV(K:Ac)(r:W->Option Int->Option Int->Mm->K3->Prop):V->Option Int->Option Int->Hp->VK->Prop:=λx lo hi H Q=>∃wx M R,AM K H M/\AV K H M x wx/\r wx lo hi M R/\Up K H M R Q
theorem WW:tP X (WV X.K G6):=by
 rintro pins s Z H x v vl vu lo hi sl Q I rx hs pl pu ⟨wx,M,R,am,ax,h,k⟩;cases wx<;>first|exact(show False from h).elim|skip
 case tup ws=>exact ax.tupE λa xs e f q=>TF pins s Z H _ v vl vu lo hi sl Q I rx hs pl pu ⟨a,xs,e,bS.of f,by rw[q.length];exact h.1,λp hp=>laidT am k hp (uL q) h.2⟩
 case sc ws=>exact ax.scE λa xs e f q=>xM pins s Z H _ v vl vu lo hi sl Q I rx hs pl pu ⟨a,xs,e,f.sq,λp hp=>jJ am k hp (uL q) h⟩
 case rl ws=>exact ax.rlE λa xs e f q=>xM pins s Z H _ v vl vu lo hi sl Q I rx hs pl pu ⟨a,xs,e,bK.of f,λp hp=>jJ am k hp (uL q) h⟩
 case ref a=>
  obtain⟨ws,e,r⟩:=h;exact am.lstE e λvs f q=>xM pins s Z H _ v vl vu lo hi sl Q I rx hs pl pu ⟨a,vs,ax.inv,bK.of f,λp hp=>jJ am k hp (uL q) r⟩
abbrev pO:=S3->Mm->(Option Int->Mm->Prop)->Prop
def pP(K:Ac)(t:pO):TO:=λZ H Q=>∃(τ:S3) (M:Mm) (R:Option Int->Mm->Prop),AS K H M Z τ/\AM K H M/\t τ M R/\∀o H' M',Kp H M H' M'->AM K H' M'->R o M'->Q o H'
theorem pP.el{K:Ac}{H:Hp}{Z:SV}{C:Prop}{t:pO}{Q:Option Int->Hp->Prop}(h:pP K t Z H Q)(c:∀τ M R,AS K H M Z τ->AM K H M->t τ M R->(∀o H' M',Kp H M H' M'->AM K H' M'->R o M'->Q o H')->C):C:=by obtain⟨τ,M,R,a,b,h,k⟩:=h;exact c τ M R a b h k
def rF:pO:=λ_ M Q=>Q none M
def rG(t:a0):pO:=λτ M Q=>t τ M λx M1=>∃i,x=.int i/\Q (some i) M1
theorem uM:PO X none (pP X.K rF):=S7.weak λZ H Q z0=>z0.el λτ M R as am h k=>k none H M (Kp.refl am) am h
theorem uN(h:E3 X a ta):PO X (some a) (pP X.K (rG ta)):=(S8 h).weak λZ H Q z0=>z0.el λτ M R as am h k=>⟨τ,M,_,as,am,h,λx H1 wx M1 k1 am1 ax ⟨i,e,h1⟩=>by
 subst e;exact⟨i,ax.inv,k _ _ _ k1 am1 h1⟩⟩
def fE:W->Bool
 | .non=>true
 | .bl _=>true
 | .int _=>true
 | .str _=>true
 | _=>false
def yL:W->W->Bool
 | .non,.non=>true
 | .bl a,.bl b=>a==b
 | .bl a,.int b=>(if a then 1 else 0)==b
 | .int a,.bl b=>a==(if b then 1 else 0)
 | .int a,.int b=>a==b
 | .str a,.str b=>a==b
 | _,_=>false
def inW(x:W)(ws:List W):Bool:=ws.any λy=>yL y x
theorem AV.flat{K:Ac}{H:Hp}{M:Mm}{v:V}{w:W}(h:AV K H M v w)(f:fE w=true):kL v=true:=by cases h<;>first|rfl|exact f
def yM:W->V
 | .non=>.non
 | .bl b=>.bl b
 | .int i=>.int i
 | .str x=>.str x
 | _=>.non
theorem AV.flv{K:Ac}{H:Hp}{M:Mm}{v:V}{w:W}(h:AV K H M v w)(f:fE w=true):v=yM w:=by
 cases w<;>first|exact h.inv|exact absurd f Ar
theorem WX:∀{w z:W},fE w=true->fE z=true->kM (yM w) (yM z)=yL w z:=by
 intro w z f g;cases w<;>first|exact absurd f Ar|(cases z<;>first|rfl|exact absurd g Ar)
theorem AV.eq{K:Ac}{H:Hp}{M:Mm}{v u:V}{w z:W}(h:AV K H M v w)(h2:AV K H M u z)(f:fE w=true)(f2:fE z=true):kM v u=yL w z:=by
 rw[h.flv f,h2.flv f2];exact WX f f2
theorem aN.inn{K:Ac}{H:Hp}{M:Mm}{u:V}{z:W}(hz:AV K H M u z)(fz:fE z=true):∀{vs:List V} {ws:List W},aN K H M vs ws->ws.all fE=true->vs.all kL=true/\inV u vs=inW z ws
 | _,_,.nil,_=>⟨rfl,rfl⟩
 | _,_,.cons x r,f=>by
  rw[Mr,Co]at f;obtain⟨h1,h2⟩:=aN.inn hz fz r f.2;refine⟨by rw[Mr,x.flat f.1,h1];rfl,?_⟩;unfold inV inW at h2⊢;rw[Er,Er,h2,x.eq hz f.1 fz]
def occ(i j:Str):Bool:=!(Kh j i 0 j.length 1).isEmpty
def rIn(neg:Bool):R3
 | .str i,.str j,M,R=>R (.bl (if neg then !occ i j else occ i j)) M
 | x,.tup ws,M,R=>fE x=true/\ws.all fE=true/\R (.bl (if neg then !inW x ws else inW x ws)) M
 | x,.rl ws,M,R=>fE x=true/\ws.all fE=true/\R (.bl (if neg then !inW x ws else inW x ws)) M
 | x,.ref a,M,R=>(∃ws,M a=some (.lst ws)/\fE x=true/\ws.all fE=true/\R (.bl (if neg then !inW x ws else inW x ws)) M)\/∃o,fB M (.ref a) x o/\R (.bl (if neg then !o.isSome else o.isSome)) M
 | x,.dk kvs,M,R=>∃o,fB M (.dk kvs) x o/\R (.bl (if neg then !o.isSome else o.isSome)) M
 | x,.dt kvs,M,R=>∃o,fB M (.dt kvs) x o/\R (.bl (if neg then !o.isSome else o.isSome)) M
 | x,.fk kvs,M,R=>∃o,fB M (.fk kvs) x o/\R (.bl (if neg then !o.isSome else o.isSome)) M
 | x,.ft kvs,M,R=>∃o,fB M (.ft kvs) x o/\R (.bl (if neg then !o.isSome else o.isSome)) M
 | _,_,_,_=>False
def G7(M:Mm):W->List W->Prop
 | .tup ws,zs=>ws=zs
 | x,ws=>lV M x ws
theorem G8{K:Ac}{H:Hp}{M:Mm}{v:V}{w:W}{ws:List W}(am:AM K H M)(h:AV K H M v w)(e:G7 M w ws):∃a xs,v=.ref a/\(bK K H a xs\/bS K H a xs)/\aN K H M xs ws:=by
 cases w
 case tup zs=>exact h.tupE λa xs e1 f q=>⟨_,_,e1,.inr (bS.of f),by rw[<-show zs=ws from e];exact q⟩
 case ref|rl=>obtain⟨a,xs,e1,f,q⟩:=nA am h e;exact⟨a,xs,e1,.inl (bK.of f),q⟩
 all_goals exact(show False from e).elim
theorem G9{n:Bool}{P:W->W->Prop}{M:Mm}{R:K3}(c1:∀i j,R (.bl (if n then !occ i j else occ i j)) M->P (.str i) (.str j))(c2:∀x y ws,G7 M y ws->fE x=true/\ws.all fE=true/\R (.bl (if n then !inW x ws else inW x ws)) M->P x y)(c3:∀x y o,fB M y x o->R (.bl (if n then !o.isSome else o.isSome)) M->P x y)(x y:W)(h:rIn n x y M R):P x y:=by
 cases y
 case non|bl|int|ty|sc=>exfalso;cases x<;>exact h
 case str=>cases x<;>first|exact(show False from h).elim|exact c1 _ _ h
 case tup=>exact c2 _ _ _ rfl (by cases x<;>exact h)
 case rl=>exact c2 _ _ _ rfl (by cases x<;>exact h)
 case ref a=>
  have h:(∃ws,M a=some (.lst ws)/\fE x=true/\ws.all fE=true/\R (.bl (if n then !inW x ws else inW x ws)) M)\/∃o,fB M (.ref a) x o/\R (.bl (if n then !o.isSome else o.isSome)) M:=by cases x<;>exact h
  exact h.elim (λ⟨ws,e,h⟩=>c2 _ _ _ e h) λ⟨o,g,r⟩=>c3 _ _ _ g r
 case dk kvs=>have h:∃o,fB M (.dk kvs) x o/\R (.bl (if n then !o.isSome else o.isSome)) M:=(by cases x<;>exact h);exact h.elim λo h=>c3 _ _ _ h.1 h.2
 case dt kvs=>have h:∃o,fB M (.dt kvs) x o/\R (.bl (if n then !o.isSome else o.isSome)) M:=(by cases x<;>exact h);exact h.elim λo h=>c3 _ _ _ h.1 h.2
 case fk kvs=>have h:∃o,fB M (.fk kvs) x o/\R (.bl (if n then !o.isSome else o.isSome)) M:=(by cases x<;>exact h);exact h.elim λo h=>c3 _ _ _ h.1 h.2
 case ft kvs=>have h:∃o,fB M (.ft kvs) x o/\R (.bl (if n then !o.isSome else o.isSome)) M:=(by cases x<;>exact h);exact h.elim λo h=>c3 _ _ _ h.1 h.2
def HA(n:Bool):R2:=λx y H Q=>∃a o,y=.ref a/\iB H a x o/\Q (.bl (if n then !o.isSome else o.isSome)) H
theorem WY(hu:X.A.units+1<Ez):bG X (Cb .In) (HA false):=by
 rintro pins s Z H x y v u Q I rx ry ⟨a,o,rfl,g,q⟩;cases ry;exact UT hu I g rx λs3 I3=>⟨.bl _,H,I3,rfl,q⟩
theorem WZ(hu:X.A.units+1<Ez):bG X (Cb .NotIn) (HA true):=by
 rintro pins s Z H x y v u Q I rx ry ⟨a,o,rfl,g,q⟩;cases ry;exact UU hu I g rx λs3 I3=>⟨.bl _,H,I3,rfl,q⟩
theorem HB{K:Ac}{H:Hp}{M:Mm}{x y:V}{wx wy:W}{o:Option W}(am:AM K H M)(ax:AV K H M x wx)(ay:AV K H M y wy)(h:fB M wx wy o):∃a o',x=.ref a/\iB H a y o'/\o'.isSome=o.isSome:=by
 obtain⟨a,e,⟨rfl,g⟩|⟨v,w,rfl,g,_⟩⟩:=uK am ax ay h
 .exact⟨a,_,e,g,rfl⟩
 .exact⟨a,_,e,g,rfl⟩
theorem lY(hu:X.A.units+1<Ez):bG X (Cb .In) (cL X.K (rIn false)):=kW (RC.or (T8.or (WY hu))) λx y H Q M R am k=>G9
 (λi j h ax ay=>.inl ⟨i,j,ax.inv,ay.inv,k.at am (.bl _) h⟩)
 (λwx wy ws e h ax ay=>let ⟨a,xs,e1,f,q⟩:=G8 am ay e;.inr (.inl ⟨a,xs,e1,f,ax.flat h.1,(aN.inn ax h.1 q h.2.1).1,by rw[(aN.inn ax h.1 q h.2.1).2];exact k.at am (.bl _) h.2.2⟩))
 (λwx wy o g r ax ay=>let ⟨a,o',e,g,z⟩:=HB am ay ax g;.inr (.inr ⟨a,o',e,g,by rw[z];exact k.at am (.bl _) r⟩))
theorem rH(hu:X.A.units+1<Ez):bG X (Cb .NotIn) (cL X.K (rIn true)):=kW (RF.or (T9.or (WZ hu))) λx y H Q M R am k=>G9
 (λi j h ax ay=>.inl ⟨i,j,ax.inv,ay.inv,k.at am (.bl _) h⟩)
 (λwx wy ws e h ax ay=>let ⟨a,xs,e1,f,q⟩:=G8 am ay e;.inr (.inl ⟨a,xs,e1,f,ax.flat h.1,(aN.inn ax h.1 q h.2.1).1,by rw[(aN.inn ax h.1 q h.2.1).2];exact k.at am (.bl _) h.2.2⟩))
 (λwx wy o g r ax ay=>let ⟨a,o',e,g,z⟩:=HB am ay ax g;.inr (.inr ⟨a,o',e,g,by rw[z];exact k.at am (.bl _) r⟩))
def eC:List W->Mm->K3->Prop
 | [.tup ws],M,R=>R (.int ws.length) M
 | [.rl ws],M,R=>R (.int ws.length) M
 | [.sc ws],M,R=>R (.int ws.length) M
 | [.dk kvs],M,R=>R (.int kvs.length) M
 | [.str z],M,R=>z.length<=Ao/\R (.int z.length) M
 | [.ref a],M,R=>(∃ws,M a=some (.lst ws)/\R (.int ws.length) M)\/∃kvs,M a=some (.dK kvs)/\R (.int kvs.length) M
 | _,_,_=>False
theorem W0{P:List W->Prop}{M:Mm}{R:K3}(c1:∀ws,R (.int ws.length) M->P [.tup ws])(c2:∀ws,R (.int ws.length) M->P [.sc ws])(c3:∀x ws,lV M x ws->R (.int ws.length) M->P [x])(c4:∀z,z.length<=Ao/\R (.int z.length) M->P [.str z])(c5:∀kvs,R (.int kvs.length) M->P [.dk kvs])(c6:∀a kvs,M a=some (.dK kvs)->R (.int kvs.length) M->P [.ref a])(l:List W)(h:eC l M R):P l:=by
 match l,h with
 | [.tup _],h=>exact c1 _ h
 | [.rl _],h=>exact c3 _ _ rfl h
 | [.sc _],h=>exact c2 _ h
 | [.dk _],h=>exact c5 _ h
 | [.str _],h=>exact c4 _ h
 | [.ref _],h=>exact h.elim (λ⟨ws,e,r⟩=>c3 _ _ e r) λ⟨ws,e,r⟩=>c6 _ _ e r
theorem eS:dX X (.builtin "len") (iC X.K eC):=yC (UA.or (UB.or U8)) λxs H Q M R am k=>W0
 (λws h ax=>ax.oneE λv e1 av=>av.tupE λa us e f q=>.inl ⟨_,_,iP e1 e,.inr (bS.of f),by rw[q.length];exact k.at am (.int _) h⟩)
 (λws h ax=>ax.oneE λv e1 av=>av.scE λa us e f q=>.inl ⟨_,_,iP e1 e,.inl f.sq,by rw[q.length];exact k.at am (.int _) h⟩)
 (λx ws e0 h ax=>ax.oneE λv e1 av=>let ⟨a,us,e,f,q⟩:=nA am av e0;.inl ⟨_,_,iP e1 e,.inl (bK.of f),by rw[q.length];exact k.at am (.int _) h⟩)
 (λz h ax=>ax.oneE λv e1 av=>.inr (.inl ⟨z,iP e1 av.inv,h.1,k.at am (.int _) h.2⟩))
 (λkvs h ax=>ax.oneE λv e1 av=>let ⟨a,ks,e,f,_,q⟩:=av.inv;.inr (.inr ⟨a,ks,iP e1 e,f,by rw[Ef q];exact k.at am (.int _) h⟩))
 (λa kvs e0 h ax=>ax.oneE λv e1 av=>let ⟨ks,f,q⟩:=am _ _ e0;.inr (.inr ⟨a,ks,iP e1 av.inv,f,by rw[Ef q];exact k.at am (.int _) h⟩))
def yN:List W->Mm->K3->Prop
 | [.tup ws],M,R=>bH ws M R
 | [.rl ws],M,R=>bH ws M R
 | [.sc ws],M,R=>bH ws M R
 | [.dk kvs],M,R=>bH (kvs.map λkv=>wK kv.1) M R
 | [.ref a],M,R=>(∃ws,M a=some (.lst ws)/\bH ws M R)\/∃kvs,M a=some (.dK kvs)/\bH (kvs.map λkv=>wK kv.1) M R
 | _,_,_=>False
theorem HC{K:Ac}{H:Hp}{M:Mm}{ks:List (aE×V)}{kvs:List (aE×W)}(h:bU K H M aE ks kvs):aN K H M (ks.map λkv=>kV kv.1) (kvs.map λkv=>wK kv.1):=by
 induction h with
 | nil=>exact .nil
 | @cons p q ps qs r t ih=>
  refine .cons ?_ ih;show AV K H M (kV p.1) (wK q.1);rw[r.1];cases q.1 with
  | inl i=>exact .int i
  | inr x=>exact .str x
theorem W4{P:List W->Prop}{M:Mm}{R:K3}(c1:∀ws,bH ws M R->P [.tup ws])(c2:∀ws,bH ws M R->P [.sc ws])(c3:∀x ws,lV M x ws->bH ws M R->P [x])(c5:∀kvs:List (aE×W),bH (kvs.map λkv=>wK kv.1) M R->P [.dk kvs])(c6:∀a kvs,M a=some (.dK kvs)->bH (kvs.map λkv=>wK kv.1) M R->P [.ref a])(l:List W)(h:yN l M R):P l:=by
 match l,h with
 | [.tup _],h=>exact c1 _ h
 | [.rl _],h=>exact c3 _ _ rfl h
 | [.sc _],h=>exact c2 _ h
 | [.dk _],h=>exact c5 _ h
 | [.ref _],h=>exact h.elim (λ⟨ws,e,r⟩=>c3 _ _ e r) λ⟨ws,e,r⟩=>c6 _ _ e r
theorem HD(hc:X.calm=true):dX X (.type "list") (iC X.K yN):=yC (UC.or (VP hc)) λxs H Q M R am k=>W4
 (λws h ax=>ax.oneE λv e1 av=>av.tupE λa us e f q=>.inl ⟨_,_,iP e1 e,.inr (bS.of f),λp hp=>jJ am k hp q h⟩)
 (λws h ax=>ax.oneE λv e1 av=>av.scE λa us e f q=>.inl ⟨_,_,iP e1 e,.inl f.sq,λp hp=>jJ am k hp q h⟩)
 (λx ws e0 h ax=>ax.oneE λv e1 av=>let ⟨a,us,e,f,q⟩:=nA am av e0;.inl ⟨_,_,iP e1 e,.inl (bK.of f),λp hp=>jJ am k hp q h⟩)
 (λkvs h ax=>ax.oneE λv e1 av=>let ⟨a,ks,e,f,_,q⟩:=av.inv;.inr ⟨a,ks,iP e1 e,f,λp hp=>jJ am k hp (HC q) h⟩)
 (λa kvs e0 h ax=>ax.oneE λv e1 av=>let ⟨ks,f,q⟩:=am _ _ e0;.inr ⟨a,ks,iP e1 av.inv,f,λp hp=>jJ am k hp (HC q) h⟩)
def uO:List W->Mm->K3->Prop
 | [.tup ws],M,R=>R (.tup ws) M
 | [.rl ws],M,R=>R (.tup ws) M
 | [.ref a],M,R=>∃ws,M a=some (.lst ws)/\R (.tup ws) M
 | _,_,_=>False
theorem W5{P:List W->Prop}{M:Mm}{R:K3}(c1:∀ws,R (.tup ws) M->P [.tup ws])(c3:∀x ws,lV M x ws->R (.tup ws) M->P [x])(l:List W)(h:uO l M R):P l:=by
 match l,h with
 | [.tup _],h=>exact c1 _ h
 | [.rl _],h=>exact c3 _ _ rfl h
 | [.ref _],h=>exact h.elim λws h=>c3 _ _ h.1 h.2
theorem HE:dX X (.type "tuple") (iC X.K uO):=yC UD λxs H Q M R am k=>W5
 (λws h ax=>ax.oneE λv e1 av=>av.tupE λa us e f q=>⟨_,_,iP e1 e,.inr ⟨bS.of f,k.at am (by rw[<-e];exact av) h⟩⟩)
 (λx ws e0 h ax=>ax.oneE λv e1 av=>let ⟨a,us,e,f,q⟩:=nA am av e0;⟨_,_,iP e1 e,.inl ⟨bK.of f,λp hp=>laidT am k hp q h⟩⟩)
def yO:List W->Mm->K3->Prop
 | [.int i,.int j],M,R=>R (.int (if j<i then j else i)) M
 | _,_,_=>False
theorem W6(hc:X.calm=true):dX X (.builtin "min") (iC X.K yO):=by
 rintro pins s Z H xs us Q I rs ⟨ws,M,R,am,axs,h,k⟩
 match ws,h with
 | [.int i,.int j],h=>
  obtain⟨v,u,rfl,av,au⟩:=axs.two;cases av;cases au;exact RN hc pins s Z H _ us Q I rs ⟨i,j,rfl,k.at am (.int _) h⟩
theorem aN.ints{K:Ac}{H:Hp}{M:Mm}:∀{bs:List Int} {vs:List V},aN K H M vs (bs.map W.int)->vs=bs.map V.int
 | [],_,h=>by cases h;rfl
 | b::r,_,h=>by
  cases h with
  | cons x y=>cases x;rw[aN.ints y];rfl
def fF:W->List W->Mm->K3->Prop
 | .ref l,[y],M,R=>∃ws,M l=some (.lst ws)/\ws.length<Ao/\R .non (put M l (.lst (ws++[y])))
 | _,_,_,_=>False
theorem iS:jE X "list.append" (kQ X.K fF):=by
 rintro pins s Z H x xs v us Q I rx rs ⟨wx,ws,M,R,am,ax,axs,h,k⟩
 match wx,ws,h with
 | .ref l,[y],h=>
  obtain⟨z,rfl,az⟩:=axs.one;cases ax;obtain⟨ws,e,hl,r⟩:=h;obtain⟨vs,f,q⟩:=am.lst e;exact FL pins s Z H _ _ v us Q I rx rs ⟨l,vs,z,rfl,rfl,f,by rw[q.length];exact hl,pK am k e (q.append (.cons az .nil)) .non r⟩
def HF:W->List W->Mm->K3->Prop
 | .ref l,[.ref b],M,R=>∃ws zs,M l=some (.lst ws)/\M b=some (.lst zs)/\ws.length+zs.length<=Ao/\R .non (put M l (.lst (ws++zs)))
 | .ref l,[.rl zs],M,R=>∃ws,M l=some (.lst ws)/\ws.length+zs.length<=Ao/\R .non (put M l (.lst (ws++zs)))
 | _,_,_,_=>False
theorem W7:jE X "list.extend" (kQ X.K HF):=by
 rintro pins s Z H x xs v us Q I rx rs ⟨wx,ws,M,R,am,ax,axs,h,k⟩
 match wx,ws,h with
 | .ref l,[.ref b],h=>
  obtain⟨z,rfl,az⟩:=axs.one;cases ax;cases az;obtain⟨ws,zs,e,e2,hl,r⟩:=h;obtain⟨vs,f,q⟩:=am.lst e;obtain⟨vz,f2,q2⟩:=am.lst e2;exact FN pins s Z H _ _ v us Q I rx rs ⟨l,b,vs,vz,rfl,rfl,f,f2,by rw[q.length,q2.length];exact hl,pK am k e (q.append q2) .non r⟩
 | .ref l,[.rl zs],h=>
  obtain⟨z,rfl,az⟩:=axs.one;cases ax;cases az with
  | rl f2 _ q2=>
   obtain⟨ws,e,hl,r⟩:=h;obtain⟨vs,f,q⟩:=am.lst e;exact FN pins s Z H _ _ v us Q I rx rs ⟨l,_,vs,_,rfl,rfl,f,f2,by rw[q.length,q2.length];exact hl,pK am k e (q.append q2) .non r⟩
def rPop:W->List W->Mm->K3->Prop
 | .ref l,[],M,R=>∃ws w,M l=some (.lst (ws++[w]))/\R w (put M l (.lst ws))
 | _,_,_,_=>False
theorem uP:jE X "list.pop" (kQ X.K rPop):=by
 rintro pins s Z H x xs v us Q I rx rs ⟨wx,ws,M,R,am,ax,axs,h,k⟩
 match wx,ws,h with
 | .ref l,[],h=>
  cases axs;cases ax;obtain⟨ws,w,e,r⟩:=h;obtain⟨vs,f,q⟩:=am.lst e;have hl:=q.length;rw[Ak,Bl]at hl;obtain⟨z,hz,az⟩:=q.getW (i:=ws.length) (w:=w) (by simp);refine UK pins s Z H _ _ v us Q I rx rs ⟨l,vs,z,rfl,rfl,f,by rw[hl];exact hz,pK am k e ?_ az r⟩;have:=q.dropLast;rw[List.dropLast_concat]at this;exact this
def oC:a0:=λ_ M R=>uA [] M R
def lZ:a0:=λ_ M R=>n9 [] M R
theorem pQ:E3 X (.Dict [] [] pos) oC:=U1.weak λZ H Q ⟨τ,M,R,as,am,h,k⟩ p hp=>by
 obtain⟨am2,k2⟩:=am.laid (o:=.dK []) (u:=.dK []) hp ⟨[],cQ,.nil⟩;exact k _ _ _ _ k2 am2 (.ref p) (h p (am.nonM hp))
theorem nB:E3 X (.Dict [] [] pos) lZ:=U2.weak λZ H Q ⟨τ,M,R,as,am,h,k⟩ p hp=>by
 obtain⟨am2,k2⟩:=am.laid (o:=.dT []) (u:=.dT []) hp ⟨[],cQ,.nil⟩;exact k _ _ _ _ k2 am2 (.ref p) (h p (am.nonM hp))
end
abbrev P3(X:Cx)(st:Stmt)(t:aJ):Prop:=PS X st (qZ X.K t)
abbrev jK(X:Cx)(st:List Stmt)(t:aJ):Prop:=gC X st (qZ X.K t)
abbrev e7:=W->S3->Mm->(S3->Mm->Prop)->Prop
abbrev nC:=List W->S3->Mm->(S3->Mm->Prop)->Prop
def iE(K:Ac)(g:e7):TG:=λv Z H Q=>∃w τ M R,AV K H M v w/\AS K H M Z τ/\AM K H M/\g w τ M R/\iO K H M R Q
def pR(K:Ac)(g:nC):jY:=λvs Z H Q=>∃ws τ M R,aN K H M vs ws/\AS K H M Z τ/\AM K H M/\g ws τ M R/\iO K H M R Q
theorem iE.el{K:Ac}{H:Hp}{Z:SV}{C:Prop}{t:e7}{v:V}{Q:SV->Hp->Prop}(h:iE K t v Z H Q)(c:∀w τ M R,AV K H M v w->AS K H M Z τ->AM K H M->t w τ M R->iO K H M R Q->C):C:=by obtain⟨w,τ,M,R,a,b,d,h,k⟩:=h;exact c w τ M R a b d h k
theorem pR.el{K:Ac}{H:Hp}{Z:SV}{C:Prop}{t:nC}{v:List V}{Q:SV->Hp->Prop}(h:pR K t v Z H Q)(c:∀w τ M R,aN K H M v w->AS K H M Z τ->AM K H M->t w τ M R->iO K H M R Q->C):C:=by obtain⟨w,τ,M,R,a,b,d,h,k⟩:=h;exact c w τ M R a b d h k
section
variable {X:Cx}{pos:Pos}
theorem _root_.L2.PG.weak{e:Expr}{t t':TG}(h:PG X e t)(k:∀v Z H Q,t' v Z H Q->t v Z H Q):PG X e t':=λpins s Z H v u Q I r q=>h pins s Z H v u Q I r (k v Z H Q q)
theorem _root_.L2.jC.weak{e:List Expr}{t t':jY}(h:jC X e t)(k:∀v Z H Q,t' v Z H Q->t v Z H Q):jC X e t':=λpins s Z H v u Q I r q=>h pins s Z H v u Q I r (k v Z H Q q)
theorem iO.at{K:Ac}{H:Hp}{M:Mm}{R:S3->Mm->Prop}{Q:SV->Hp->Prop}(h:iO K H M R Q)(am:AM K H M){Z:SV}{τ:S3}(as:AS K H M Z τ)(r:R τ M):Q Z H:=h Z H τ M (Kp.refl am) am as r
def bM(i:Nat):e7:=λw τ M R=>R (τ.set i (some w)) M
theorem HG{i:Nat}{x:Str}(hN:X.N.Nodup)(hi:X.N[i]? = some x)(hx:Loc X.env.scope x)(hf:X.fn x=true\/X.env.scope.names.lookup x=some .local:=by first|exact .inl rfl|exact .inr rfl|assumption):PG X (.Name x pos) (iE X.K (bM i)):=
 (P8 hN hi hx hf).weak λv Z H Q z0=>z0.el λw τ M R av as am h k=>k.at am (as.set av i) h
def jL:nC:=λws τ M R=>ws=[]/\R τ M
def eO(t:e7)(u:nC):nC:=λws τ M R=>match ws with
 | w::r=>t w τ M λτ' M'=>u r τ' M' R
 | []=>False
theorem kY:jC X [] (pR X.K jL):=QB.weak λvs Z H Q z=>z.el λws τ M R av as am h k=>⟨aN.nil_ (by rw[<-h.1];exact av),k.at am as h.2⟩
theorem eZ{e:Expr}{es:List Expr}{t:e7}{u:nC}(h1:PG X e (iE X.K t))(h2:jC X es (pR X.K u))(hs:(Gm (e::es) X.env).map (·.2)=Li e X.env::(Gm es X.env).map (·.2):=by rfl):jC X (e::es) (pR X.K (eO t u)):=
 (QC h1 h2 hs).weak λvs Z H Q z0=>z0.el λws τ M R av as am h k=>by
  cases av with
  | nil=>exact(show False from h).elim
  | cons x r=>exact⟨_,_,rfl,_,τ,M,_,x,as,am,h,λσ' H' τ' M' k' am' as' h'=>⟨_,τ',M',R,r.kp am k',as',am',h',k.kp k'⟩⟩
def jM(n:Nat)(g:nC):e7:=λw τ M R=>match w with
 | .tup ws=>ws.length=n/\g ws τ M R
 | .rl ws=>ws.length=n/\g ws τ M R
 | .ref a=>∃ws,M a=some (.lst ws)/\ws.length=n/\g ws τ M R
 | _=>False
theorem kZ{es:List Expr}{k:Nat}{t:nC}{n:Nat}(hc:X.calm=true)(h:jC X es (pR X.K t))(hn:(Gm es X.env).length=n:=by rfl)(hst:(Gm es X.env).findIdx? (·.1)=none:=by rfl):PG X (.Tuple es k pos) (iE X.K (jM n t)):=by
 rintro pins s Z H v u Q I r ⟨w,τ,M,R,av,as,am,hw,kk⟩;cases w<;>first|exact(show False from hw).elim|skip
 case tup ws=>exact av.tupE λa xs e f q=>QE hc h hn hst pins s Z H _ u Q I r ⟨a,xs,e,bS.of f,by rw[q.length];exact hw.1,_,τ,M,R,q,as,am,hw.2,kk⟩
 case rl ws=>exact av.rlE λa xs e f q=>GC hc h hn hst pins s Z H _ u Q I r ⟨a,xs,e,bK.of f,by rw[q.length];exact hw.1,_,τ,M,R,q,as,am,hw.2,kk⟩
 case ref a=>exact hw.elim λws hw=>am.lstE hw.1 λxs f q=>GC hc h hn hst pins s Z H _ u Q I r ⟨a,xs,av.inv,bK.of f,by rw[q.length];exact hw.2.1,_,τ,M,R,q,as,am,hw.2.2,kk⟩
def gS(te:a0)(g:e7):aJ:=λD τ M=>te τ M λx M1=>g x τ M1 D.nx
theorem W8{K:Ac}{te:a0}{g:e7}{D:lN}{Z:SV}{H:Hp}(h:qZ K (gS te g) D Z H):tI (up K te) (iE K g) D Z H:=by
 obtain⟨τ,M,D',as,am,h,k⟩:=h;exact⟨τ,M,_,as,am,h,λx H1 wx M1 k1 am1 ax h1=>⟨wx,τ,M1,D'.nx,ax,as.kp am k1,am1,h1,k.nx.kp k1⟩⟩
theorem jN{tg e:Expr}{te:a0}{g:e7}(he:E3 X e te)(hg:PG X tg (iE X.K g))(hs:swapsWithSole [tg] e pos.line X.env=pure false:=by rfl)(hw:swappedStores [tg] e X.env=pure none:=by rfl)(h1:(Gm [tg] X.env).map (·.2)=[Li tg X.env]:=by rfl):P3 X (.Assign [tg] e pos) (gS te g):=(QH he hg hs hw h1).weak λ_ _ _ h=>W8 h
def bE(i:Nat)(te:a0):aJ:=λD τ M=>te τ M λx M1=>D.nx (τ.set i (some x)) M1
theorem W9{i:Nat}{x:Str}{e:Expr}{te:a0}{pos':Pos}(hN:X.N.Nodup)(hi:X.N[i]? = some x)(hx:Loc X.env.scope x)(he:E3 X e te)(hs:Jg e (some (.Name x pos')) pos.line X.env=pure false:=by rfl)(hf:X.fn x=true\/X.env.scope.names.lookup x=some .local:=by first|exact .inl rfl|exact .inr rfl|assumption):
  P3 X (.Assign [.Name x pos'] e pos) (bE i te):=(QI hN hi hx he hs hf).weak λD Z H z0=>z0.el λτ M D' as am h k=>⟨τ,M,_,as,am,h,λy H1 wy M1 k1 am1 ay h1=>k.nx _ _ _ _ k1 am1 ((as.kp am k1).set ay i) h1⟩
def oE(o i v:W)(M:Mm)(Q:Mm->Prop):Prop:=match o with
 | .ref a=>(∃ws k j,i=.int k/\M a=some (.lst ws)/\hZ ws.length k=some j/\Q (put M a (.lst (ws.set j v))))\/
   (∃kvs k,i=wK k/\M a=some (.dK kvs)/\kvs.length<Ao/\Q (put M a (.dK (cA kvs k v))))\/
   ∃kvs k,i=.tup (k.map wK)/\M a=some (.dT kvs)/\kvs.length<Ao/\Q (put M a (.dT (cA kvs k v)))
 | _=>False
def XA(K:Ac):tG:=λo i v H Q=>∃wo wi wv M R,AV K H M o wo/\AV K H M i wi/\AV K H M v wv/\AM K H M/\oE wo wi wv M R/\∀H' M',Kp H M H' M'->AM K H' M'->R M'->Q H'
theorem set_dict(hu:X.A.units+1<Ez):tH X (λo i v H Q=>∃a H',o=.ref a/\mZ H a i v H'/\Q H'):=by
 intro pins s Z H o i v ov iv u Q I ro ri rv h;obtain⟨a,H',rfl,d,q⟩:=h;cases ro;exact UW hu I d ri rv λs4 I4=>⟨H',I4,q⟩
theorem HH{U:Type}[DecidableEq U]{K:Ac}{H:Hp}{M:Mm}{ks:List (U×V)}{kvs:List (U×W)}{n:U}{v:V}{wv:W}{a:Addr}{o:MO}{u:HO}(am:AM K H M)(e:M a=some o)(q:bU K H M U ks kvs)(av:AV K H M v wv){o':MO}:bU K (aY H a u) (put M a o') U (eL ks n v) (cA kvs n wv):=Paired.mapP (uJ q n av) λp q z=>⟨z.1,z.2.wr am e⟩
theorem XB(hu:X.A.units+1<Ez):tH X (XA X.K):=by
 rintro pins s Z H o i v ov iv u Q I ro ri rv ⟨wo,wi,wv,M,R,ao,ai,av,am,h,k⟩;cases wo<;>first|exact(show False from h).elim|skip
 rename_i a;rcases h with⟨ws,n,j,ei,e,hj,r⟩|⟨kvs,n,ei,e,hl,r⟩|⟨kvs,n,ei,e,hl,r⟩
 .rw[ei]at ai;obtain⟨vs,f,q⟩:=am.lst e;obtain⟨am2,k2⟩:=am.write (o:=.lst (ws.set j wv)) (u:=.lst (vs.set j v)) e ⟨_,cQ,(aN.set av j q).wr am e⟩;exact TZ pins s Z H _ _ v ov iv u Q I ro ri rv ⟨a,vs,n,j,ao.inv,ai.inv,f,by rw[q.length];exact hj,k _ _ k2 am2 r⟩
 .rw[ei]at ai;obtain⟨ks,f,q⟩:=am _ _ e;obtain⟨am2,k2⟩:=am.write (o:=.dK (cA kvs n wv)) (u:=.dK (eL ks n v)) e ⟨_,cQ,HH am e q av⟩;exact set_dict hu pins s Z H _ _ v ov iv u Q I ro ri rv ⟨a,_,ao.inv,by rw[ai.key];exact mZ.k f (by rw[Ef q];exact hl),k _ _ k2 am2 r⟩
 .rw[ei]at ai;obtain⟨ks,f,q⟩:=am _ _ e;obtain⟨am2,k2⟩:=am.write (o:=.dT (cA kvs n wv)) (u:=.dT (eL ks n v)) e ⟨_,cQ,HH am e q av⟩;exact ai.tupE λb xs eb fb qb=>set_dict hu pins s Z H _ _ v ov iv u Q I ro ri rv ⟨a,_,ao.inv,by rw[eb];exact mZ.t f (by rw[<-qb.keys];exact fb) (by rw[Ef q];exact hl),k _ _ k2 am2 r⟩
def iF(to ti:a0):e7:=λw τ M R=>to τ M λo M1=>ti τ M1 λi M2=>oE o i w M2 λM3=>R τ M3
theorem w_sub{o i:Expr}{to ti:a0}(hu:X.A.units+1<Ez)(ho:E3 X o to)(hi:E3 X i ti)(ha:∀v,Li (.Subscript o i pos) X.env v=(do
   let ov <-Ho [v] (eval o X.env)
   let iv <-Ho [v,ov] (eval i X.env)
   Mz pos
   Ho [v,ov,iv] (setItem ov iv v)
   release [v,ov,iv] []):=by intro _;rfl):PG X (.Subscript o i pos) (iE X.K (iF to ti)):=
 (QG ho hi (XB hu) ha).weak λv Z H Q z0=>z0.el λw τ M R av as am h k=>⟨τ,M,_,as,am,h,λo H1 wo M1 k1 am1 ao h1=>⟨τ,M1,_,as.kp am k1,am1,h1,λi H2 wi M2 k2 am2 ai h2=>
  ⟨wo,wi,w,M2,_,ao.kp am1 k2,ai,(av.kp am k1).kp am1 k2,am2,h2,λH' M' k' am' r=>k _ _ _ _ ((k1.trans k2).trans k') am' (((as.kp am k1).kp am1 k2).kp am2 k') r⟩⟩⟩
def eP:aJ:=λD τ M=>D.nx τ M
def aT(t u:aJ):aJ:=λD τ M=>t {D with nx:=u D} τ M
variable {st:Stmt}{rest:List Stmt}{t u:aJ}{e:Expr}{te:a0}
theorem eX:jK X [] eP:=PV.weak λD Z H z0=>z0.el λτ M D' as am h k=>k.nx.at am as h
theorem aW(h1:P3 X st t)(h2:jK X rest u):jK X (st::rest) (aT t u):=(PX h1 h2).weak λD Z H z0=>z0.el λτ M D' as am h k=>
 ⟨τ,M,_,as,am,h,⟨λσ' H' τ' M' k' am' as' h'=>⟨τ',M',D',as',am',h',k.kp k'⟩,k.rt,k.bk,k.ct⟩⟩
theorem aZ(h1:P3 X st t):jK X [st] t:=PY h1
def dZ(te:a0):aJ:=λD τ M=>te τ M λ_ M1=>D.nx τ M1
theorem eQ(he:E3 X e te)(hs:Jg e none pos.line X.env=pure false:=by rfl):P3 X (.Expr e pos) (dZ te):=(P0 he hs).weak λD Z H z0=>z0.el λτ M D' as am h k=>
 ⟨τ,M,_,as,am,h,λv H' w M' k' am' av r=>k.nx _ _ _ _ k' am' (as.kp am k') r⟩
def bW(te:a0):aJ:=λD τ M=>te τ M D.rt
theorem b8(he:E3 X e te):P3 X (.Return (some e) pos) (bW te):=(P2 he).weak λD Z H z0=>z0.el λτ M D' as am h k=>⟨τ,M,_,as,am,h,k.rt⟩
def yP:aJ:=λD _ M=>D.rt .non M
theorem HI:P3 X (.Return none pos) yP:=P5.weak λD Z H z0=>z0.el λτ M D' as am h k=>k.rt.at am .non h
def dB(c:d7)(t u:aJ):aJ:=λD τ M=>c τ M λb M1=>if b=true then t D τ M1 else u D τ M1
theorem dP{c:Expr}{a b:List Stmt}{tc:d7}(hc:T3 X c tc)(ha:jK X a t)(hb:jK X b u):P3 X (.If c a b pos) (dB tc t u):=(P7 hc ha hb).weak λD Z H z0=>z0.el λτ M D' as am h k=>
 ⟨τ,M,_,as,am,h,λb H1 M1 k1 am1 h1=>by
  cases b with
  | true=>exact⟨τ,M1,D',as.kp am k1,am1,h1,k.kp k1⟩
  | false=>exact⟨τ,M1,D',as.kp am k1,am1,h1,k.kp k1⟩⟩
def pT(c:d7)(tb:aJ):aJ:=λD τ M=>∃Pv:Nat->S3->Mm->Prop,(∃m,Pv m τ M)/\∀m τ M,Pv m τ M->
 c τ M λb M1=>if b=true then tb {D with nx:=λτ' M'=>∃m' M'',m'<m/\Sub M'' M'/\Pv m' τ' M'',ct:=λτ' M'=>∃m' M'',m'<m/\Sub M'' M'/\Pv m' τ' M'',bk:=D.nx} τ M1 else D.nx τ M1
theorem uQ{c:Expr}{body:List Stmt}{tc:d7}{tb:aJ}(hp:PassesOwn (Bn X.prog X.w) X.A X.env X.xe)(hc:T3 X c tc)(hb:jK X body tb):P3 X (.While c body [] pos) (pT tc tb):=
 (QK hp hc hb).weak λD Z H ⟨τ,M,D',as,am,⟨Pv,⟨m,h0⟩,h⟩,k⟩=>by
  refine⟨λm σ' H'=>∃τ' M',Kp H M H' M'/\AM X.K H' M'/\AS X.K H' M' σ' τ'/\Pv m τ' M',⟨m,τ,M,Kp.refl am,am,as,h0⟩,?_⟩;rintro m σ1 H1 ⟨τ1,M1,k1,am1,as1,p1⟩;refine⟨τ1,M1,_,as1,am1,h m τ1 M1 p1,λb H2 M2 k2 am2 h2=>?_⟩;cases b with
  | false=>exact k.nx _ _ _ _ (k1.trans k2) am2 (as1.kp am1 k2) h2
  | true=>
   have h2:tb {D' with nx:=λτ' M'=>∃m' M'',m'<m/\Sub M'' M'/\Pv m' τ' M'',ct:=λτ' M'=>∃m' M'',m'<m/\Sub M'' M'/\Pv m' τ' M'',bk:=D'.nx} τ1 M2:=h2;refine⟨λσ' H'=>∃m' τ' M',m'<m/\Kp H M H' M'/\AM X.K H' M'/\AS X.K H' M' σ' τ'/\Pv m' τ' M',λσ' H' ⟨m',τ',M',q1,q2,q3,q4,q5⟩=>⟨m',q1,τ',M',q2,q3,q4,q5⟩,τ1,M2,_,as1.kp am1 k2,am2,h2,?_⟩;have again:iO X.K H2 M2 (λτ' M'=>∃m' M'',m'<m/\Sub M'' M'/\Pv m' τ' M'') (λσ' H'=>∃m' τ' M',m'<m/\Kp H M H' M'/\AM X.K H' M'/\AS X.K H' M' σ' τ'/\Pv m' τ' M'):=
    λσ' H' τ' M' k' am' as' ⟨m',M'',q1,q2,q3⟩=>⟨m',τ',M'',q1,((k1.trans k2).trans k').sub q2,am'.sub q2,as'.sub q2,q3⟩
   exact⟨again,(k.rt.kp k1).kp k2,(k.nx.kp k1).kp k2,again⟩
abbrev iT:=S3->Mm->(List W->(Mm->Prop)->Mm->Prop)->Prop
structure iU(K:Ac)(H0:Hp)(M0:Mm)(J:It)(ws:List W)(keep:Mm->Prop):Prop where
 go:∀i H M,Kp H0 M0 H M->AM K H M->keep M->i<ws.length->J.go i H
 stop:∀H M,Kp H0 M0 H M->AM K H M->keep M->J.stop ws.length H
 yld:∀i H M x H',Kp H0 M0 H M->AM K H M->keep M->i<ws.length->J.yld i H x H'->∃w,ws[i]? = some w/\Kp H M H' M/\AM K H' M/\AV K H' M x w
def iG(K:Ac)(wi:iT):TI:=λZ H R'=>∃(τ:S3) (M:Mm) (R:List W->(Mm->Prop)->Mm->Prop),AS K H M Z τ/\AM K H M/\wi τ M R/\∀J H' ws keep M',Kp H M H' M'->AM K H' M'->iU K H' M' J ws keep->R ws keep M'->R' J H'
theorem iG.el{K:Ac}{H:Hp}{Z:SV}{C:Prop}{t:iT}{Q:It->Hp->Prop}(h:iG K t Z H Q)(c:∀τ M R,AS K H M Z τ->AM K H M->t τ M R->(∀J H' ws keep M',Kp H M H' M'->AM K H' M'->iU K H' M' J ws keep->R ws keep M'->Q J H')->C):C:=by obtain⟨τ,M,R,a,b,h,k⟩:=h;exact c τ M R a b h k
theorem _root_.L2.PI.weak{tg iter:Expr}{t t':TI}(h:PI X tg iter t)(k:∀Z H R,t' Z H R->t Z H R):PI X tg iter t':=λpins s Z H R I q=>h pins s Z H R I (k Z H R q)
def rJ(ws:List W)(keep:Mm->Prop)(g:e7)(tb:aJ)(D:D3)(τ:S3)(M:Mm):Prop:=
 ∃Pv:Nat->S3->Mm->Prop,Pv 0 τ M/\(∀i τ M,i<=ws.length->Pv i τ M->keep M)/\
  (∀i w τ M,ws[i]? = some w->Pv i τ M->g w τ M λτ2 M2=>tb {D with nx:=λτ' M'=>∃M'',Sub M'' M'/\Pv (i+1) τ' M'',ct:=λτ' M'=>∃M'',Sub M'' M'/\Pv (i+1) τ' M'',bk:=D.nx} τ2 M2)/\
  ∀τ M,Pv ws.length τ M->D.nx τ M
def eD(wi:iT)(g:e7)(tb:aJ):aJ:=λD τ M=>wi τ M λws keep M1=>rJ ws keep g tb D τ M1
theorem eY{tg iter:Expr}{body:List Stmt}{wi:iT}{g:e7}{tb:aJ}{pos:Pos}(hp:PassesOwn (Bn X.prog X.w) X.A X.env X.xe)(hc:X.calm=true)(hi:PI X tg iter (iG X.K wi))(hg:PG X tg (iE X.K g))(hb:jK X body tb)(hs:∀x,Gu iter X.env x=pure x:=by intro _;rfl):P3 X (.For tg iter body [] pos) (eD wi g tb):=
 (QU hp hc hi hg hb hs).weak λD Z H z0=>z0.el λτ M D' as am h k=>by
  refine⟨τ,M,_,as,am,h,λJ H1 ws keep M1 k1 am1 it ⟨Pv,h0,hk,hs,hd⟩=>?_⟩;refine⟨λi m σ' H'=>m=ws.length-i/\i<=ws.length/\∃τ' M',Kp H1 M1 H' M'/\AM X.K H' M'/\AS X.K H' M' σ' τ'/\Pv i τ' M',⟨_,rfl,Ca _,τ,M1,Kp.refl am1,am1,as.kp am k1,h0⟩,?_⟩;rintro i m σ2 H2 ⟨rfl,hi,τ2,M2,k2,am2,as2,p2⟩
  by_cases hlt:i<ws.length
  .refine .inr ⟨it.go i H2 M2 k2 am2 (hk i τ2 M2 hi p2) hlt,λσ' H'=>∃τ' M',Kp H1 M1 H' M'/\AM X.K H' M'/\AS X.K H' M' σ' τ'/\Pv (i+1) τ' M',λσ' H' q=>⟨ws.length-(i+1),by lia,rfl,hlt,q⟩,λx H3 y=>?_⟩;obtain⟨w,hw,k3,am3,ax⟩:=it.yld i H2 M2 x H3 k2 am2 (hk i τ2 M2 hi p2) hlt y;refine⟨w,τ2,M2,_,ax,as2.kp am2 k3,am3,hs i w τ2 M2 hw p2,λσ4 H4 τ4 M4 k4 am4 as4 h4=>⟨τ4,M4,_,as4,am4,h4,?_⟩⟩;have kk:=((k2.trans k3).trans k4);have again:iO X.K H4 M4 (λτ' M'=>∃M'',Sub M'' M'/\Pv (i+1) τ' M'') (λσ' H'=>∃τ' M',Kp H1 M1 H' M'/\AM X.K H' M'/\AS X.K H' M' σ' τ'/\Pv (i+1) τ' M'):=
    λσ' H' τ' M' k' am' as' ⟨M'',q2,q3⟩=>⟨τ',M'',(kk.trans k').sub q2,am'.sub q2,as'.sub q2,q3⟩
   exact⟨again,k.rt.kp (k1.trans kk),k.nx.kp (k1.trans kk),again⟩
  .have e:i=ws.length:=by lia
   subst e;exact .inl ⟨it.stop H2 M2 k2 am2 (hk _ τ2 M2 hi p2),k.nx _ _ _ _ (k1.trans k2) am2 as2 (hd τ2 M2 p2)⟩
theorem pU{ws:List W}{keep:Mm->Prop}{g:e7}{tb:aJ}{D:D3}{τ:S3}{M:Mm}(Pv:Nat->S3->Mm->Prop)(h0:Pv 0 τ M)(hk:∀i τ M,i<=ws.length->Pv i τ M->keep M)(hs:∀i w τ M,ws[i]? = some w->Pv i τ M->g w τ M λτ2 M2=>tb {D with nx:=λτ' M'=>∃M'',Sub M'' M'/\Pv (i+1) τ' M'',ct:=λτ' M'=>∃M'',Sub M'' M'/\Pv (i+1) τ' M'',bk:=D.nx} τ2 M2)(hd:∀τ M,Pv ws.length τ M->D.nx τ M):rJ ws keep g tb D τ M:=⟨Pv,h0,hk,hs,hd⟩
variable {tg l a b:Expr}{tl ta tb':a0}
theorem XC{K:Ac}{H0:Hp}{M0:Mm}{p:Addr}{ws:List W}:iU K H0 M0 (oZ K p) ws λM=>M p=some (.lst ws) where
 go:=λi H M _ am e hi=>by
  obtain⟨vs,f,q⟩:=am.lst e;exact⟨vs,vs[i]'(by rw[q.length];exact hi),bK.of f,by simp⟩
 stop:=λH M _ am e=>by
  obtain⟨vs,f,q⟩:=am.lst e;exact⟨vs,bK.of f,by rw[q.length];exact Ai _⟩
 yld:=λi H M x H' _ am e hi y=>by
  obtain⟨rfl,y⟩:=y;obtain⟨vs,f,q⟩:=am.lst e;obtain⟨w,hw,av⟩:=q.getV (y vs (bK.of f));exact⟨w,hw,Kp.refl am,am,av⟩
theorem HJ{K:Ac}{H0:Hp}{M0:Mm}{p:Addr}{vs:List V}{ws:List W}(am0:AM K H0 M0)(st:∀H M,Kp H0 M0 H M->bK K H p vs)(q0:aN K H0 M0 vs ws):iU K H0 M0 (oZ K p) ws λ_=>True:=by
 refine⟨λi H M k am _ hi=>⟨vs,vs[i]'(by rw[q0.length];exact hi),st H M k,by simp⟩,λH M k am _=>⟨vs,st H M k,by rw[q0.length];exact Ai _⟩,λi H M x H' k am _ hi y=>?_⟩;obtain⟨rfl,y⟩:=y;obtain⟨w,hw,av⟩:=(q0.kp am0 k).getV (y vs (st _ M k));exact⟨w,hw,Kp.refl am,am,av⟩
theorem XD{K:Ac}{H0:Hp}{M0:Mm}{p:Addr}{vs:List V}{ws:List W}(am0:AM K H0 M0)(e:lQ K H0 p vs)(q0:aN K H0 M0 vs ws):iU K H0 M0 (oZ K p) ws λ_=>True:=
 HJ am0 (λH M k=>by
  refine lQ.sq ?_;rcases e with⟨o,e⟩|e
  .exact .inl ⟨o,(k.fr _ _ (am0.noFrz e) e).1⟩
  .exact .inr e) q0
theorem XE{K:Ac}{H0:Hp}{M0:Mm}{p:Addr}{vs:List V}{ws:List W}(am0:AM K H0 M0)(e:H0 p=some (.lst vs))(n:M0 p=none)(q0:aN K H0 M0 vs ws):iU K H0 M0 (oZ K p) ws λ_=>True:=
 HJ am0 (λH M k=>bK.of (k.fr _ _ n e).1) q0
theorem XF{K:Ac}{H0:Hp}{M0:Mm}{p:Addr}{vs:List V}{ws:List W}(am0:AM K H0 M0)(e:H0 p=some (.tup vs))(q0:aN K H0 M0 vs ws):iU K H0 M0 (xC K p) ws λ_=>True:=by
 have st:∀H M,Kp H0 M0 H M->bS K H p vs:=λH M k=>bS.of (k.fr _ _ (am0.noTup e) e).1;refine⟨λi H M k am _ hi=>⟨vs,vs[i]'(by rw[q0.length];exact hi),st H M k,by simp⟩,λH M k am _=>⟨vs,st H M k,by rw[q0.length];exact Ai _⟩,λi H M x H' k am _ hi y=>?_⟩;obtain⟨rfl,y⟩:=y;obtain⟨w,hw,av⟩:=(q0.kp am0 k).getV (y vs (st _ M k));exact⟨w,hw,Kp.refl am,am,av⟩
theorem XG{K:Ac}{H0:Hp}{M0:Mm}{lo:Int}{n:Nat}:iU K H0 M0 (tK lo n) ((Eg n).map λi=>W.int (lo+(i:Nat))) λ_=>True where
 go:=λi H M _ am _ hi=>by show i<n;simpa using hi
 stop:=λH M _ am _=>by show n<=_;simp
 yld:=λi H M x H' _ am _ hi y=>by
  obtain⟨rfl,rfl⟩:=y;have hi:i<n:=by simpa using hi
  exact⟨.int (lo+i),by simp[hi],Kp.refl am,am,.int _⟩
theorem XH{K:Ac}{H0:Hp}{M0:Mm}{z:Str}:iU K H0 M0 (xW z) (z.cps.toList.map λc=>W.str ⟨#[c]⟩) λ_=>True where
 go:=λi H M _ am _ hi=>by show i<z.cps.size;simpa using hi
 stop:=λH M _ am _=>by show z.cps.size<=_;simp
 yld:=λi H M x H' _ am _ hi y=>by
  obtain⟨rfl,c,hc,rfl⟩:=y;exact⟨.str ⟨#[c]⟩,by rw[Ax,hc];rfl,Kp.refl am,am,.str _⟩
def nD(X:Cx)(tg:Expr)(r:V->Hp->(It->Hp->Prop)->Prop):Prop:=
 ∀(pins:List (Addr×Obj)) (s:Ag) (Z:SV) (H:Hp) (x:V) (u:Ae) (R:It->Hp->Prop),Inv X pins Z H s->RelV x u->r x H R->Be (Bn X.prog X.w) X.A (pyIter u) (qK X pins Z tg R) X.xe s
theorem yQ:nD X tg (λx H R=>∃a,x=.ref a/\(∃xs,bK X.K H a xs)/\R (oZ X.K a) H):=by
 rintro pins s1 Z H1 x u R I1 r1 ⟨a,rfl,⟨xs,hq⟩,q⟩;cases r1;obtain⟨its,rv,p,hz⟩:=I1.list hq;refine Jm p.isList ?_;refine⟨s1.heap.objs.size,[s1.heap.objs.size],_,_,H1,rfl,I1.kept (t':=s1.toks) λb o e=>Af _ e,QL a _,⟨_,Ba _ rfl,rfl,rfl⟩,λb hb=>?_,q⟩;have e:b=s1.heap.objs.size:=by simpa using hb
 subst e;exact I1.fpOk (Ai _) (I1.hok.fresh (Ai _))
theorem XI:nD X tg (λx H R=>∃a,x=.ref a/\(∃xs,bS X.K H a xs)/\R (xC X.K a) H):=by
 rintro pins s1 Z H1 x u R I1 r1 ⟨a,rfl,⟨xs,hq⟩,q⟩;cases r1;obtain⟨its,rv,p,hz⟩:=I1.tuple hq;refine Hm (show s1.heap.IsTuple a its.toArray from p) ?_;refine⟨s1.heap.objs.size,[s1.heap.objs.size],_,_,H1,rfl,I1.kept (t':=s1.toks) λb o e=>Af _ e,QM a _,⟨_,Ba _ rfl,rfl,rfl⟩,λb hb=>?_,q⟩;have e:b=s1.heap.objs.size:=by simpa using hb
 subst e;exact I1.fpOk (Ai _) (I1.hok.fresh (Ai _))
theorem XJ{x:Str}{px:Pos}:nD X (.Name x px) (λx H R=>∃z,x=.str z/\R (xW z) H):=by
 rintro pins s1 Z H1 x u R I1 r1 ⟨z,rfl,q⟩;obtain⟨t,rfl⟩:=r1;have fp:∀b∈[s1.heap.objs.size],hW X pins H1 b:=λb hb=>by
  have e:b=s1.heap.objs.size:=by simpa using hb
  subst e;exact I1.fpOk (Ai _) (I1.hok.fresh (Ai _))
 cases ha:z.cps.all (· < 128)
 .refine wpAny_pyIter_wide ha ?_;exact⟨s1.heap.objs.size,[s1.heap.objs.size],_,_,H1,rfl,I1.kept (t':=s1.toks) λb o e=>Af _ e,
   GA z _ "str_iterator" t (λA s i c Q E a b d=>wpAny_pyNext_wide_item a b d) (λA s i Q E a b c d=>wpAny_pyNext_wide_end a b c d) (λA i s Q E a b=>wpAny_pyIter_striter_wide a b),⟨_,Ba _ rfl,rfl,rfl⟩,fp,q⟩
 .refine wpAny_pyIter_ascii ha ?_;exact⟨s1.heap.objs.size,[s1.heap.objs.size],_,_,H1,rfl,I1.kept (t':=s1.toks) λb o e=>Af _ e,
   GA z _ "str_ascii_iterator" t (λA s i c Q E a b d=>wpAny_pyNext_ascii_item a b d) (λA s i Q E a b c d=>wpAny_pyNext_ascii_end a b c d) (λA i s Q E a b=>wpAny_pyIter_striter_ascii a b),⟨_,Ba _ rfl,rfl,rfl⟩,fp,q⟩
theorem _root_.L2.PI.of{r:V->Hp->(It->Hp->Prop)->Prop}{tl:TE}(hl:PE X l tl)(hr:nD X tg r):PI X tg l (λZ H R=>tl Z H λx H1=>r x H1 R):=λpins s Z H R I h=>
 bA (hl pins s Z H _ I h) λu s1 ⟨x,H1,I1,r1,q1⟩=>hr pins s1 Z H1 x u R I1 r1 q1
def uR(K:Ac)(r:W->Mm->(List W->(Mm->Prop)->Mm->Prop)->Prop):V->Hp->(It->Hp->Prop)->Prop:=λx H R'=>∃(wx:W) (M:Mm) (R:List W->(Mm->Prop)->Mm->Prop),AV K H M x wx/\AM K H M/\r wx M R/\
 ∀J H' ws keep M',Kp H M H' M'->AM K H' M'->iU K H' M' J ws keep->R ws keep M'->R' J H'
def nE:W->Mm->(List W->(Mm->Prop)->Mm->Prop)->Prop
 | .tup ws,M1,R=>R ws (λ_=>True) M1
 | .rl ws,M1,R=>R ws (λ_=>True) M1
 | .sc ws,M1,R=>R ws (λ_=>True) M1
 | .ref a,M1,R=>∃ws,M1 a=some (.lst ws)/\R ws (λM=>M a=some (.lst ws)) M1
 | _,_,_=>False
def fR:W->Mm->(List W->(Mm->Prop)->Mm->Prop)->Prop
 | .tup ws,M1,R=>R ws (λ_=>True) M1
 | .rl ws,M1,R=>R ws (λ_=>True) M1
 | .sc ws,M1,R=>R ws (λ_=>True) M1
 | .str z,M1,R=>R (z.cps.toList.map λc=>W.str ⟨#[c]⟩) (λ_=>True) M1
 | .ref a,M1,R=>∃ws,M1 a=some (.lst ws)/\R ws (λM=>M a=some (.lst ws)) M1
 | _,_,_=>False
theorem HK:nD X tg (uR X.K nE):=by
 rintro pins s Z H x u R' I r1 ⟨wx,M,R,ax,am,h,k⟩;have k:=λJ ws keep=>k J H ws keep M (Kp.refl am) am;cases wx<;>first|exact(show False from h).elim|skip
 case tup ws=>exact ax.tupE λa xs e f q=>XI pins s Z H _ u R' I r1 ⟨a,e,⟨xs,bS.of f⟩,k _ _ _ (XF am f q) h⟩
 case rl ws=>obtain⟨a,xs,e,f,n,q⟩:=ax.inv;exact yQ pins s Z H _ u R' I r1 ⟨a,e,⟨xs,bK.of f⟩,k _ _ _ (XE am f n q) h⟩
 case sc ws=>exact ax.scE λa xs e f q=>yQ pins s Z H _ u R' I r1 ⟨a,e,⟨xs,f.sq⟩,k _ _ _ (XD am f q) h⟩
 case ref a=>exact h.elim λws h=>am.lstE h.1 λvs f q=>yQ pins s Z H _ u R' I r1 ⟨a,ax.inv,⟨vs,bK.of f⟩,k _ _ _ XC h.2⟩
theorem XM{y:Str}{py:Pos}:nD X (.Name y py) (uR X.K fR):=by
 rintro pins s Z H x u R' I r1 ⟨wx,M,R,ax,am,h,k⟩;cases wx<;>first|exact(show False from h).elim|skip
 case str z=>exact XJ pins s Z H _ u R' I r1 ⟨z,ax.inv,k _ _ _ _ _ (Kp.refl am) am XH h⟩
 all_goals exact HK pins s Z H x u R' I r1 ⟨_,M,R,ax,am,h,k⟩
def dJ(r:W->Mm->(List W->(Mm->Prop)->Mm->Prop)->Prop)(tl:a0):iT:=λτ M R=>tl τ M λw M1=>r w M1 R
theorem yR{r:W->Mm->(List W->(Mm->Prop)->Mm->Prop)->Prop}(hl:E3 X l tl)(hr:nD X tg (uR X.K r)):PI X tg l (iG X.K (dJ r tl)):=(PI.of hl hr).weak λZ H R' z0=>z0.el λτ M R as am h k=>
 ⟨τ,M,_,as,am,h,λx H1 wx M1 k1 am1 ax h1=>⟨wx,M1,R,ax,am1,h1,λJ H' ws keep M' k' am' it r=>k J H' ws keep M' (k1.trans k') am' it r⟩⟩
theorem rK(hl:E3 X l tl):PI X tg l (iG X.K (dJ nE tl)):=yR hl HK
theorem iH{y:Str}{py:Pos}(hl:E3 X l tl):PI X (.Name y py) l (iG X.K (dJ fR tl)):=yR hl XM
def j7(lo:Int)(n:Nat):List W:=(Eg n).map λi=>W.int (lo+(i:Nat))
def l0(ta:dY):iT:=λτ M R=>ta τ M λws M1=>∃j:Int,ws=[.int j]/\-(2 ^ 62)<=j/\j<2 ^ 62/\R (j7 0 j.toNat) (λ_=>True) M1
theorem nF{tA:dY}{p pos:Pos}(hg:Gl X "range")(hm:X.mg "range" = none)(ha:A3 X [a] tA)(hs:Bj [a] X.env=[(false,eval a X.env)]:=by rfl):PI X tg (.Call (.Name "range" p) [a] [] pos) (iG X.K (l0 tA)):=
 (QQ hg hm ha hs).weak λZ H R' z0=>z0.el λτ M R as am h k=>⟨τ,M,_,as,am,h,λvs H1 ws M1 k1 am1 ax ⟨j,e,h1,h2,r⟩=>by
  rw[e]at ax;obtain⟨v,e,av⟩:=ax.one;exact⟨j,iP e av.inv,h1,h2,k _ _ _ _ _ k1 am1 XG r⟩⟩
def oF(ws:List W)(keep:Mm->Prop)(g:e7)(tt:d7)(te:a0)(τ₀:S3)(M1:Mm)(R:K3):Prop:=
 ∀p,M1 p=none->∃Pv:Nat->S3->List W->Mm->Prop,Pv 0 τ₀ [] M1/\(∀vs i τ acc M,i<=ws.length->M p=none->Pv i τ acc M->keep (put M p (.fix vs)))/\
  (∀vs i w τ acc M,ws[i]? = some w->M p=none->Pv i τ acc M->g w τ (put M p (.fix vs)) λτ2 M2=>tt τ2 M2 λb M3=>
   if b=true then te τ2 M3 λy M4=>M4 p=some (.fix vs)/\acc.length<Ao/\∃M5,Sub M5 (del M4 p)/\Pv (i+1) τ2 (acc++[y]) M5
   else M3 p=some (.fix vs)/\∃M5,Sub M5 (del M3 p)/\Pv (i+1) τ2 acc M5)/\
  ∀τ acc M,M p=none->Pv ws.length τ acc M->R (.ref p) (put M p (.lst acc))
def rL(js:List (Option Nat))(τ:S3):S3:=js.map λo=>o.bind λj=>(τ[j]?).join
theorem AS.cmap{K:Ac}{H:Hp}{M:Mm}{Z:SV}{τ:S3}(h:AS K H M Z τ):∀js:List (Option Nat),AS K H M (cmap js Z) (rL js τ)
 | []=>.nil
 | none::r=>.cons (λ_ e=>nomatch e) (AS.cmap h r)
 | some j::r=>.cons (λw e=>by
   have e:(τ[j]?).join=some w:=e;cases q:τ[j]? with
   | none=>rw[q]at e;cases e
   | some z=>
    rw[q]at e;have e:z=some w:=e;subst e;obtain⟨v,h1,h2⟩:=h.get q;exact⟨v,by show(Z[j]?).join=some v;rw[h1];rfl,h2⟩) (AS.cmap h r)
def gF(wi:iT)(g:e7)(tt:d7)(te:a0)(js:List (Option Nat)):a0:=λτ M R=>wi τ M λws keep M1=>oF ws keep g tt te (rL js τ) M1 R
theorem HL{wi:iT}{g:e7}{tt:d7}{te:a0}{js:List (Option Nat)}{Z:SV}{H:Hp}{Q:VK}(h:up X.K (gF wi g tt te js) Z H Q):xV (iG X.K wi) (λ_=>iE X.K g) (λ_=>kP X.K tt) (λ_=>up X.K te) js Z H Q:=by
 obtain⟨τ,M,R,as,am,h,k⟩:=h;refine⟨τ,M,_,as,am,h,λJ H1 ws keep M1 k1 am1 it hall p hp B=>?_⟩;obtain⟨Pv,h0,hk,hs,hd⟩:=hall p (am1.nonM hp);obtain⟨amp,kp⟩:=am1.laid (o:=.fix []) (u:=.lst []) hp cQ;have hMp:=am1.nonM hp;refine VI ws.length (λi σ' acc' H'=>∃τ' acc M',M' p=none/\Kp H1 M1 H' (put M' p (.fix acc'))/\AM X.K H' (put M' p (.fix acc'))/\AS X.K H' (put M' p (.fix acc')) σ' τ'/\aN X.K H' (put M' p (.fix acc')) acc' acc/\Pv i τ' acc M') ?_ ?_ ?_
 .exact⟨rL js τ,[],M1,hMp,kp,amp,((as.kp am k1).kp am1 kp).cmap js,.nil,h0⟩
 .rintro σ' acc' H' ⟨τ',acc,M',mp,k',am',as',av,pv⟩;refine⟨it.stop H' _ k' am' (hk _ _ _ _ _ (Ai _) mp pv),?_⟩;have hp':H' p=some (.lst acc'):=am' p _ aX;refine k _ H' _ (put M' p (.lst acc)) (k1.trans ⟨λa o n e=>?_,k'.dom⟩) (λa o e=>?_) (.ref p) (hd τ' acc M' mp pv)
  .obtain⟨x,y⟩:=k'.fr a o n e;exact⟨x,by rw[aU (eR e hp)]at y⊢;exact y⟩
  .by_cases ha:a=p
   .subst ha;rw[aX]at e;cases e;exact⟨acc',hp',av.go GO⟩
   .rw[aU ha]at e;exact(am' a o (by rw[aU ha];exact e)).go GO rfl
 .rintro i σ' acc' H' hi ⟨τ',acc,M',mp,k',am',as',av,pv⟩;have hkp:=hk acc' i τ' acc M' (Hc hi) mp pv;refine⟨it.go i H' _ k' am' hkp hi,λx H3 y=>?_⟩;obtain⟨w,hw,k3,am3,ax⟩:=it.yld i H' _ x H3 k' am' hkp hi y;refine⟨w,τ',_,_,ax,as'.kp am' k3,am3,hs acc' i w τ' acc M' hw mp pv,λσ4 H4 τ4 M4 k4 am4 as4 h4=>⟨τ4,M4,_,as4,am4,h4,λb H5 M5 k5 am5 h5=>?_⟩⟩;have kk:Kp H' (put M' p (.fix acc')) H5 M5:=(k3.trans k4).trans k5;cases b with
  | false=>
   obtain⟨m5,M6,sb,pv6⟩:M5 p=some (.fix acc')/\∃M6,Sub M6 (del M5 p)/\Pv (i+1) τ4 acc M6:=h5;have sb':Sub (put M6 p (.fix acc')) M5:=by
    have:=(sb.trans Sub.del).put (a:=p) (o:=.fix acc');rwa [GK m5]at this
   exact U9 ⟨τ4,acc,M6,sb.non pH,(k'.trans kk).sub sb',am5.sub sb',(as4.kp am4 k5).sub sb',(av.kp am' kk).sub sb',pv6⟩
  | true=>
   have h5:te τ4 M5 λy M4=>M4 p=some (.fix acc')/\acc.length<Ao/\∃M5,Sub M5 (del M4 p)/\Pv (i+1) τ4 (acc++[y]) M5:=h5;refine VA ⟨τ4,M5,_,as4.kp am4 k5,am5,h5,λy H6 wy M6 k6 am6 ay ⟨m6,hl,M7,sb,pv7⟩=>?_⟩;have kk6:=kk.trans k6;have hp6:H6 p=some (.lst acc'):=am6 p _ m6;obtain⟨am8,k8⟩:=am6.write (o:=.fix (acc'++[y])) (u:=.lst (acc'++[y])) m6 cQ;have sb':Sub (put M7 p (.fix (acc'++[y]))) (put M6 p (.fix (acc'++[y]))):=(sb.trans Sub.del).put;refine⟨hp6,by rw[av.length];exact hl,τ4,acc++[wy],M7,sb.non pH,((k'.trans kk6).trans k8).sub sb',am8.sub sb',(((as4.kp am4 k5).kp am5 k6).kp am6 k8).sub sb',?_,pv7⟩;exact(((av.kp am' kk6).append (.cons ay .nil)).kp am6 k8).sub sb'
variable {sc:Hh}{N':List Str}{js:List (Option Nat)}{iter elt:Expr}{ifs:List Expr}{wi:iT}{g:e7}{tt:d7}
def i7:d7:=λ_ M Q=>Q true M
theorem nG:i5 X [] (kP X.K i7):=VE.weak λZ H Q z0=>z0.el λτ M R as am h k=>k true H M (Kp.refl am) am h
theorem rM{c:Expr}{t:d7}(h:T3 X c t):i5 X [c] (kP X.K t):=VF h
theorem k7(N':List Str)(js:List (Option Nat))(hi:PI X tg iter (iG X.K wi))(hg:∀B,PG (d6 X sc N' B) tg (iE X.K g))(ht:∀B,i5 (d6 X sc N' B) ifs (kP X.K tt))(he:∀B,PE (d6 X sc N' B) elt (up X.K te))(S0:n6 N' sc X.env.scope=true:=by kernel_rfl)(hj:fQ N' X.N sc js N'=true:=by kernel_rfl)(hc:X.calm=true:=by rfl)(hs:∀x,Gu iter X.env x=pure x:=by intro _;rfl):
  E3 X (.ListComp elt [⟨tg,iter,ifs,0⟩] sc pos) (gF wi g tt te js):=(VG N' js hi hg ht he S0 hj hc hs).weak λ_ _ _ h=>HL h
end
def bX(N:List Str)(ws:List W):S3:=ws.map some++Bz (N.length-ws.length) none
def bP(R:K3):D3:={nx:=λ_ M'=>∃M'',Sub M'' M'/\R .non M'',rt:=λw M'=>∃M'',Sub M'' M'/\R w M''}
section
variable {P:Bt}{w:Cm}{K:Ac}{mg:Str->Option Ae}{base:Heap}
theorem yS{x qual:Str}{st:Stmt}{f:Addr}{fd:Bk}{N ps:List Str}{k:Nat}{sp:bL}(F:jF K x qual st f fd)(S:mW N ps (dW st))(len:∀ws M R,sp ws M R->ws.length=ps.length)(hbody:∀(cdv:Ae) (A:Ck) (outer:List Env) (s:Ag) (H:Hp) (E:XK) (ws:List W) (M:Mm) (R:K3),cE k (A.deeper (Jo qual (dW st) s.heap.objs.size f cdv))->sp ws M R->
   ∃t,jK (kK eW P w K mg base N qual (dW st) f cdv A outer s H E).nox (gO st) t/\t (bP R) (bX N ws) M):eV P w K mg base eW (k+1) f fd ps (fZ K sp):=by
 refine F.ok S (λvs H Q E ⟨ws,M,R,am,av,h,_⟩=>by rw[av.length];exact len ws M R h) λcdv A outer s H vs Q E hr ⟨ws,M,R,am,av,h,kk⟩=>?_;obtain⟨t,ht,h'⟩:=hbody cdv A outer s H E ws M R hr h;refine⟨_,ht,bX N ws,M,bP R,?_,am,h',⟨λσ' H' τ' M' k' am' as' ⟨M'',sb,r⟩=>kk _ H' _ M'' (k'.sub sb) (am'.sub sb) .non r,λv H' w M' k' am' av' ⟨M'',sb,r⟩=>kk v H' w M'' (k'.sub sb) (am'.sub sb) (av'.sub sb) r,λ_ _ _ _ _ _ _ z=>z.elim,λ_ _ _ _ _ _ _ z=>z.elim⟩⟩;unfold L2.start bX;rw[av.length];exact AS.start av _
end
section
variable {X:Cx}{a b c:Expr}{ta tb tc:a0}{pos:Pos}
def yU(r r':R3)(ta tb tc:a0):a0:=λτ M R=>ta τ M λx M1=>tb τ M1 λy M2=>r x y M2 λz M3=>∃k,z=.bl k/\if k=true then tc τ M3 λw M4=>r' y w M4 R else R (.bl false) M3
def XN(M:Mm):W->String->Prop
 | .non,T=>T = "NoneType"
 | .bl _,T=>T = "bool"
 | .int _,T=>T = "int"
 | .str _,T=>T = "str"
 | .tup _,T=>T = "tuple"
 | .rl _,T=>T = "list"
 | .dk _,T=>T = "dict"
 | .ref a,T=>(T = "list"/\∃ws,M a=some (.lst ws))\/(T = "dict"/\((∃kvs,M a=some (.dK kvs))\/∃kvs,M a=some (.dT kvs)))
 | _,_=>False
def HM:List (String×String×Bool):=[("int","int",true),("int","bool",false),("int","str",false),("int","tuple",false),("int","list",false),("bool","bool",true),("bool","int",true),("bool","str",false),("bool","list",false),("bool","tuple",false),("str","str",true),("str","int",false),("str","tuple",false),("str","list",false),("str","bool",false),("tuple","tuple",true),("tuple","list",false),("tuple","str",false),("tuple","int",false),("tuple","bool",false),("list","list",true),("list","tuple",false),("list","str",false),("list","int",false),("list","bool",false),("NoneType","list",false),("NoneType","tuple",false),("NoneType","int",false),("NoneType","str",false),("NoneType","bool",false),("dict","dict",true),("dict","list",false)]
def HN(n T:String):Option Bool:=(HM.find? λp=>p.1==n&&p.2.1==T).map λp=>p.2.2
def HP(K:Ac):List (String×String×Bool)->Prop
 | []=>True
 | p::l=>Ip K (.type p.1) (.type p.2.1)=some p.2.2/\HP K l
theorem HQ{K:Ac}:∀{l:List (String×String×Bool)},HP K l->∀p∈l,Ip K (.type p.1) (.type p.2.1)=some p.2.2
 | _::_,h,_,m=>by
  cases m with
  | head=>exact h.1
  | tail _ m=>exact HQ h.2 _ m
theorem XO(K:Ac):∀p∈HM,Ip K (.type p.1) (.type p.2.1)=some p.2.2:=by
 refine HQ ?_
 repeat refine⟨by kernel_rfl,?_⟩
 trivial
theorem XQ(K:Ac){n T:String}{b:Bool}(h:HN n T=some b):Ip K (.type n) (.type T)=some b:=by
 obtain⟨p,hp,e⟩:=Bf.mp h;have h1:=List.find?_some hp;have h2:=XO K p (List.mem_of_find?_eq_some hp);rw[Co,beq_iff_eq,beq_iff_eq]at h1;rw[<-h1.1,<-h1.2,h2,e]
def i8:List W->Mm->K3->Prop
 | [w,.ty T],M,R=>∃n b,XN M w n/\HN n T=some b/\R (.bl b) M
 | _,_,_=>False
theorem l8:dX X (.builtin "isinstance") (iC X.K i8):=by
 rintro pins s Z H xs us Q I rs ⟨ws,M,R,am,axs,h,k⟩
 match ws,h with
 | [w,.ty T],h=>
  obtain⟨v,u,rfl,av,au⟩:=axs.two;cases au;obtain⟨n,b,hn,hs,r⟩:=h;have ty:iM X.K H v (.type n):=by
   cases w<;>first|exact(show False from hn).elim|skip
   case non=>rw[show n=_ from hn,show v=_ from av.inv];exact .non
   case bl b=>rw[show n=_ from hn,show v=_ from av.inv];exact .bl b
   case int i=>rw[show n=_ from hn,show v=_ from av.inv];exact .int i
   case str x=>rw[show n=_ from hn,show v=_ from av.inv];exact .str x
   case tup=>obtain⟨a,xs,ev,e,q⟩:=av.inv;rw[show n=_ from hn,ev];exact .tup e
   case rl=>obtain⟨a,xs,ev,e,_,q⟩:=av.inv;rw[show n=_ from hn,ev];exact .lst e
   case dk=>obtain⟨a,xs,ev,e,_,q⟩:=av.inv;rw[show n=_ from hn,ev];exact .dK e
   case ref a=>
    rw[show v=_ from av.inv];rcases hn with⟨e,ws,h⟩|⟨e,h⟩
    .subst e;obtain⟨vs,f,_⟩:=am.lst h;exact .lst f
    .subst e;rcases h with⟨kvs,h⟩|⟨kvs,h⟩
     .obtain⟨ks,f,_⟩:=am _ _ h;exact .dK f
     .obtain⟨ks,f,_⟩:=am _ _ h;exact .dT f
  exact VM pins s Z H _ us Q I rs ⟨v,T,_,b,rfl,ty,XQ X.K hs,k.at am (.bl b) r⟩
end
section
variable {X:Cx}{a b:Expr}{ta tb:a0}{pos:Pos}{es:List Expr}{t:dY}
theorem XR{K:Ac}{H:Hp}{M:Mm}{R:K3}{Q:VK}{p:Addr}{xs:List V}{ws:List W}(am:AM K H M)(k:Up K H M R Q)(hp:H p=none)(ax:aN K H M xs ws)(r:R (.rl ws) M):Q (.ref p) (aY H p (.lst xs)):=by
 obtain⟨am2,k2⟩:=am.tup (u:=.lst xs) hp;exact k _ _ _ _ k2 am2 (.rl cQ (am.nonM hp) (ax.newT hp)) r
def gH(t:dY):a0:=λτ M R=>t τ M λws M1=>ws.length<=Ao/\R (.rl ws) M1
theorem gT(h:A3 X es t):E3 X (.List es pos) (gH t):=
 (EZ h).weak λZ H Q z0=>z0.el λτ M R as am h k=>⟨τ,M,_,as,am,h,λxs H1 ws M1 k1 am1 axs ⟨hl,r⟩=>⟨by rw[axs.length];exact hl,λp hp=>XR am1 (k.kp k1) hp axs r⟩⟩
theorem HR{f:Ae->Ae->Sem Ae}{r r':R3}(h:bG X f (cL X.K r))(k:∀x y M R,r' x y M R->r x y M λw M'=>frz w M' R):bG X f (cL X.K r'):=λpins s Z H x y v u Q I rx ry ⟨wx,wy,M,R,am,ax,ay,h',kk⟩=>
 h pins s Z H x y v u Q I rx ry ⟨wx,wy,M,_,am,ax,ay,k _ _ _ _ h',kk.frz⟩
theorem XS{f:Ae}{r r':List W->Mm->K3->Prop}(h:dX X f (iC X.K r))(k:∀x M R,r' x M R->r x M λw M'=>frz w M' R):dX X f (iC X.K r'):=λpins s Z H xs us Q I rs ⟨ws,M,R,am,ax,h',kk⟩=>
 h pins s Z H xs us Q I rs ⟨ws,M,_,am,ax,k _ _ _ h',kk.frz⟩
def c8:R3
 | .int i,.int j,M,R=>R (.int (i+j)) M
 | .tup xs,.tup ys,M,R=>xs≠[]/\xs.length+ys.length<=Ao/\R (.tup (xs++ys)) M
 | .ref a,.ref b,M,R=>∃xs ys,M a=some (.lst xs)/\M b=some (.lst ys)/\xs.length+ys.length<=Ao/\R (.rl (xs++ys)) M
 | .rl xs,.ref b,M,R=>∃ys,M b=some (.lst ys)/\xs.length+ys.length<=Ao/\R (.rl (xs++ys)) M
 | .ref a,.rl ys,M,R=>∃xs,M a=some (.lst xs)/\xs.length+ys.length<=Ao/\R (.rl (xs++ys)) M
 | .rl xs,.rl ys,M,R=>xs.length+ys.length<=Ao/\R (.rl (xs++ys)) M
 | _,_,_,_=>False
theorem eE:bG X (Fl .Add) (cL X.K c8):=HR yD λx y M R h=>by
 cases x<;>first|exact(show False from h).elim|(cases y<;>first|exact(show False from h).elim|skip)
 case int.int i j=>exact h
 case tup.tup i j=>exact h
 case ref.ref i j=>obtain⟨xs,ys,h1,h2,h3,r⟩:=h;exact⟨xs,ys,h1,h2,h3,bH.frz r⟩
 case rl.ref i j=>obtain⟨ys,h2,h3,r⟩:=h;exact⟨ys,h2,h3,bH.frz r⟩
 case ref.rl i j=>obtain⟨ys,h2,h3,r⟩:=h;exact⟨ys,h2,h3,bH.frz r⟩
 case rl.rl i j=>exact⟨h.1,bH.frz h.2⟩
def pV:R3
 | .int i,.int j,M,R=>(pA i j\/tX i j)/\R (.int (i*j)) M
 | .ref a,.int n,M,R=>∃xs,M a=some (.lst xs)/\-(2 ^ 63)<=n/\n<2 ^ 63/\xs.length*n.toNat<=Ao/\R (.rl (Bz n.toNat xs).flatten) M
 | .rl xs,.int n,M,R=>-(2 ^ 63)<=n/\n<2 ^ 63/\xs.length*n.toNat<=Ao/\R (.rl (Bz n.toNat xs).flatten) M
 | _,_,_,_=>False
theorem rN:bG X (Fl .Mult) (cL X.K pV):=HR WJ λx y M R h=>by
 cases x<;>first|exact(show False from h).elim|(cases y<;>first|exact(show False from h).elim|skip)
 case int.int i j=>exact h
 case ref.int i j=>obtain⟨xs,h1,h2,h3,h4,r⟩:=h;exact⟨xs,h1,h2,h3,h4,bH.frz r⟩
 case rl.int i j=>obtain⟨h2,h3,h4,r⟩:=h;exact⟨h2,h3,h4,bH.frz r⟩
def uS:List W->Mm->K3->Prop
 | [.tup ws],M,R=>R (.rl ws) M
 | [.rl ws],M,R=>R (.rl ws) M
 | [.sc ws],M,R=>R (.rl ws) M
 | [.dk kvs],M,R=>R (.rl (kvs.map λkv=>wK kv.1)) M
 | [.ref a],M,R=>(∃ws,M a=some (.lst ws)/\R (.rl ws) M)\/∃kvs,M a=some (.dK kvs)/\R (.rl (kvs.map λkv=>wK kv.1)) M
 | _,_,_=>False
theorem yV(hc:X.calm=true):dX X (.type "list") (iC X.K uS):=XS (HD hc) λx M R h=>by
 match x,h with
 | [.tup ws],h=>exact bH.frz h
 | [.rl ws],h=>exact bH.frz h
 | [.sc ws],h=>exact bH.frz h
 | [.dk kvs],h=>exact bH.frz h
 | [.ref a],h=>
  rcases h with⟨ws,e,r⟩|⟨kvs,e,r⟩
  .exact .inl ⟨ws,e,bH.frz r⟩
  .exact .inr ⟨kvs,e,bH.frz r⟩
def yW:W->Option Int->Option Int->Mm->K3->Prop
 | .rl ws,lo,hi,M,R=>R (.rl (fD ws lo hi)) M
 | .sc ws,lo,hi,M,R=>R (.rl (fD ws lo hi)) M
 | .ref a,lo,hi,M,R=>∃ws,M a=some (.lst ws)/\R (.rl (fD ws lo hi)) M
 | .tup ws,lo,hi,M,R=>¬(HT.sIx ws.length 0 lo=0/\HT.sIx ws.length ws.length hi=ws.length)/\R (.tup (fD ws lo hi)) M
 | _,_,_,_,_=>False
theorem XT{x:W}{l u:Option Int}{M:Mm}{R:K3}(h:yW x l u M R):G6 x l u M λw M'=>frz w M' R:=by
 cases x<;>first|exact(show False from h).elim|skip
 case tup ws=>exact h
 case rl ws=>exact bH.frz h
 case sc ws=>exact bH.frz h
 case ref a=>obtain⟨ws,e,r⟩:=h;exact⟨ws,e,bH.frz r⟩
def rO(ta:a0)(tl th:pO):a0:=λτ M R=>ta τ M λx M1=>tl τ M1 λl M2=>th τ M2 λu M3=>yW x l u M3 R
theorem uU{lo hi:Option Expr}{tl th:pO}{p2:Pos}(he:E3 X a ta)(hl:PO X lo (pP X.K tl))(hu:PO X hi (pP X.K th)):E3 X (.Subscript a (.Slice lo hi none p2) pos) (rO ta tl th):=
 (TB WW he hl hu).weak λZ H Q z0=>z0.el λτ M R as am h k=>⟨τ,M,_,as,am,h,λx H1 wx M1 k1 am1 ax h1=>⟨τ,M1,_,as.kp am k1,am1,h1,λl H2 M2 k2 am2 h2=>⟨τ,M2,_,(as.kp am k1).kp am1 k2,am2,h2,λu H3 M3 k3 am3 h3=>
  ⟨wx,M3,_,am3,(ax.kp am1 k2).kp am2 k3,XT h3,(((k.kp k1).kp k2).kp k3).frz⟩⟩⟩⟩
variable {sc:Hh}{N':List Str}{js:List (Option Nat)}{tg iter elt:Expr}{ifs:List Expr}{wi:iT}{g:e7}{tt:d7}{te:a0}
theorem XU{i:Nat}{x:Str}{px spos:Pos}(hN:X.N.Nodup)(hi0:X.N[i]? = some x)(hx:Loc X.env.scope x)(N':List Str)(js:List (Option Nat))(hi:PI X tg iter (iG X.K wi))(hg:∀B,PG (d6 X sc N' B) tg (iE X.K g))(ht:∀B,i5 (d6 X sc N' B) ifs (kP X.K tt))(he:∀B,PE (d6 X sc N' B) elt (up X.K te))(S0:n6 N' sc X.env.scope=true:=by kernel_rfl)(hj:fQ N' X.N sc js N'=true:=by kernel_rfl)(hc:X.calm=true:=by rfl)(hsw:Jg (.ListComp elt [⟨tg,iter,ifs,0⟩] sc pos) (some (.Name x px)) spos.line X.env=pure true:=by rfl)(hf:X.fn x=true\/X.env.scope.names.lookup x=some .local:=by first|exact .inl rfl|exact .inr rfl|assumption)(hs:∀x,Gu iter X.env x=pure x:=by intro _;rfl):P3 X (.Assign [.Name x px] (.ListComp elt [⟨tg,iter,ifs,0⟩] sc pos) spos) (bE i (eA (gF wi g tt te js))):=
 (VH hN hi0 hx N' js hi hg ht he S0 hj hc hsw hf hs).weak λD Z H z0=>z0.el λτ M D' as am h k=>HL ⟨τ,M,_,as,am,h,Up.frz λy H1 wy M1 k1 am1 ay h1=>k.nx _ _ _ _ k1 am1 ((as.kp am k1).set ay i) h1⟩
end
def Pl:Nat->W->Prop
 | _,.non=>True
 | _,.int _=>True
 | _,.str x=>PyData.strOk x=true
 | n+1,.tup ws=>∀w∈ws,Pl n w
 | n+1,.rl ws=>∀w∈ws,Pl n w
 | _,_=>False
def dQ(M:Mm):W->W
 | .ref a=>match M a with
  | some (.lst ws)=>.rl ws
  | _=>.ref a
 | w=>w
section
variable {M:Mm}
theorem yX{n:Nat}(ih:∀{w:W},Pl n w->∃d,Snap M w d/\d.canLay0=true/\d.depth<=n):∀{ws:List W},(∀w∈ws,Pl n w)->∃ds,iD M ws ds/\PyData.canLayAll0 ds=true/\PyData.depthAll ds<=n
 | [],_=>⟨[],.nil,rfl,by simp[PyData.depthAll]⟩
 | w::ws,h=>by
  obtain⟨d,s,c,e⟩:=ih (h w Aw);obtain⟨ds,ss,cc,ee⟩:=yX ih λz hz=>h z (Ap _ hz);exact⟨d::ds,.cons s ss,by simp[PyData.canLayAll0,c,cc],by simp only[PyData.depthAll];lia⟩
theorem uV:∀{n:Nat} {w:W},Pl n w->∃d,Snap M w d/\d.canLay0=true/\d.depth<=n:=by
 intro n
 induction n with
 | zero=>
  intro w h;cases w<;>first|exact(show False from h).elim|skip
  case non=>exact⟨_,.non,rfl,by simp[Hx]⟩
  case int i=>exact⟨_,.int i,rfl,by simp[Hx]⟩
  case str x=>exact⟨_,.str x,h,by simp[Hx]⟩
 | succ n ih=>
  intro w h;cases w<;>first|exact(show False from h).elim|skip
  case non=>exact⟨_,.non,rfl,by simp[Hx]⟩
  case int i=>exact⟨_,.int i,rfl,by simp[Hx]⟩
  case str x=>exact⟨_,.str x,h,by simp[Hx]⟩
  case tup ws=>
   obtain⟨ds,s,c,e⟩:=yX ih h;exact⟨_,.tup s,by simpa [PyData.canLay0] using c,by simp only[Hx];lia⟩
  case rl ws=>
   obtain⟨ds,s,c,e⟩:=yX ih h;exact⟨_,.rl s,by simpa [PyData.canLay0] using c,by simp only[Hx];lia⟩
theorem HS{n:Nat}{w:W}(h:Pl n (dQ M w)):∃d,Snap M w d/\Snap M (dQ M w) d/\d.canLay0=true/\d.depth<=n:=by
 obtain⟨d,s,c,e⟩:=uV (M:=M) h;refine⟨d,?_,s,c,e⟩;cases w<;>first|exact s|skip
 case ref a=>
  cases q:M a with
  | none=>
   have e:dQ M (.ref a)=.ref a:=by simp[dQ,q]
   rw[e]at s;exact s
  | some o=>
   cases o with
   | lst ws=>
    have e:dQ M (.ref a)=.rl ws:=by simp[dQ,q]
    rw[e]at s;cases s with
    | rl r=>exact .ref q r
   | dK _=>
    have e:dQ M (.ref a)=.ref a:=by simp[dQ,q]
    rw[e]at s;exact s
   | dT _=>
    have e:dQ M (.ref a)=.ref a:=by simp[dQ,q]
    rw[e]at s;exact s
   | fix _=>
    have e:dQ M (.ref a)=.ref a:=by simp[dQ,q]
    rw[e]at s;exact s
   | ins _ _ _=>
    have e:dQ M (.ref a)=.ref a:=by simp[dQ,q]
    rw[e]at s;exact s
   | tb _ _=>
    have e:dQ M (.ref a)=.ref a:=by simp[dQ,q]
    rw[e]at s;exact s
theorem HU{n:Nat}(ih:∀{x y:W} {dx dy:Iu},Pl n x->Pl n y->Snap M x dx->Snap M y dy->(Gd dx dy=true↔x=y)):∀{xs ys:List W} {dx dy:List Iu},(∀w∈xs,Pl n w)->(∀w∈ys,Pl n w)->iD M xs dx->iD M ys dy->(Mg dx dy=true↔xs=ys):=by
 intro xs
 induction xs with
 | nil=>
  intro ys dx dy hx hy s1 s2;cases s1;cases s2<;>simp[Mg]
 | cons x xs IH=>
  intro ys dx dy hx hy s1 s2;cases s1 with
  | cons s1 r1=>
   cases s2 with
   | nil=>simp[Mg]
   | cons s2 r2=>
    rw[Mg,Co,ih (hx x Aw) (hy _ Aw) s1 s2,IH (λz hz=>hx z (Ap _ hz)) (λz hz=>hy z (Ap _ hz)) r1 r2];simp
theorem yY:∀{n:Nat} {x y:W} {dx dy:Iu},Pl n x->Pl n y->Snap M x dx->Snap M y dy->(Gd dx dy=true↔x=y):=by
 intro n
 induction n with
 | zero=>
  intro x y dx dy hx hy sx sy;cases sx<;>first|exact(show False from hx).elim|skip
  all_goals cases sy<;>first|exact(show False from hy).elim|simp[Gd]
 | succ n ih=>
  intro x y dx dy hx hy sx sy;cases sx<;>first|exact(show False from hx).elim|skip
  all_goals cases sy<;>first|exact(show False from hy).elim|skip
  all_goals first|(simp[Gd];done)|skip
  case tup.tup r1 _ _ r2=>rw[Gd,HU ih hx hy r1 r2];simp
  case rl.rl r1 _ _ r2=>rw[Gd,HU ih hx hy r1 r2];simp
theorem XW{neg:Bool}{x y:W}{R:K3}(n:Nat)(hn:n<=60)(hx:Pl n (dQ M x))(hy:Pl n (dQ M y))(h:∀b:Bool,(b=true↔dQ M x=dQ M y)->R (.bl (if neg then !b else b)) M):rE neg x y M R:=by
 obtain⟨dx,s1,s1',c1,e1⟩:=HS hx;obtain⟨dy,s2,s2',c2,e2⟩:=HS hy;exact⟨dx,dy,s1,s2,⟨c1,by lia⟩,⟨c2,by lia⟩,h _ (yY hx hy s1' s2')⟩
theorem HV{neg:Bool}{x y:W}{R:K3}(n:Nat)(hn:n<=60)(hx:Pl n (dQ M x))(hy:Pl n (dQ M y))(h:∀b:Bool,(b=true↔dQ M x=dQ M y)->R (.bl (if neg then !b else b)) M):rEq neg x y M R:=by
 have d:=XW n hn hx hy h;cases x<;>first|exact d|skip
 case int i=>
  cases y<;>first|exact d|skip
  case int j=>exact h (decide (i=j)) (by simp[dQ])
 case str i=>
  cases y<;>first|exact d|skip
  case str j=>exact h (decide (i=j)) (by simp[dQ])
 case bl i=>
  cases y<;>first|exact d|skip
  case bl j=>exact(show False by cases n<;>exact hx).elim
end
theorem XX{M:Mm}{neg:Bool}{x y:W}{R:K3}(n:Nat)(hn:n<=60)(hx:Pl n (dQ M x))(e:dQ M y=dQ M x)(h:R (.bl (!neg)) M):rEq neg x y M R:=by
 refine HV n hn hx (by rw[e];exact hx) λb hb=>?_;have:b=true:=hb.mpr e.symm;subst this;cases neg<;>exact h
theorem uW{ws:List W}{keep:Mm->Prop}{g:e7}{tt:d7}{te:a0}{τ₀:S3}{M1:Mm}{R:K3}(St:S3->Prop)(tgt:W->S3)(Rel:W->Option W->Prop)(hl:ws.length<=Ao)(hk:∀M,Sub M1 M->keep M)(h0:St τ₀)(ht:∀w∈ws,St (tgt w))(hg:∀w∈ws,∀τ M (C:S3->Mm->Prop),St τ->C (tgt w) M->g w τ M C)(hs:∀w∈ws,∀M (C:K3) (D:Mm->Prop),Sub M1 M->(∀y,Rel w (some y)->C y M)->(Rel w none->D M)->tt (tgt w) M λb M3=>if b=true then te (tgt w) M3 C else D M3)(r:∀os,Fs Rel ws os->bH (os.filterMap id) M1 R):oF ws keep g tt te τ₀ M1 R:=by
 intro p hp;refine⟨λi τ acc M=>St τ/\(∃os,Fs Rel (ws.take i) os/\acc=os.filterMap id)/\M=M1,⟨h0,⟨[],by simp;exact .nil,rfl⟩,rfl⟩,?_,?_,?_⟩
 .rintro vs i τ acc M _ mp ⟨_,_,rfl⟩;exact hk _ (Sub.new hp)
 .rintro vs i w τ acc M hw mp ⟨st,⟨os,po,rfl⟩,rfl⟩;have hm:w∈ws:=Bg hw;have hi:i<ws.length:=(An.mp hw).1;have htk:ws.take (i+1)=ws.take i++[w]:=by rw[Cd,hw];rfl
  have snoc:∀o,Rel w o->Fs Rel (ws.take (i+1)) (os++[o]):=λo ro=>by
   rw[htk];clear hw mp st htk
   revert os
   generalize ws.take i=l;intro os po
   induction po with
   | nil=>exact .cons ro .nil
   | cons a b ih=>exact .cons a ih
  have hlen:(os.filterMap id).length<Ao:=by
   have h1:=List.length_filterMap_le id os;have h2:=Ef po;rw[Bq]at h2;lia
  refine hg w hm τ _ _ st (hs w hm _ _ _ (Sub.new hp) (λy hy=>⟨aX,hlen,M,?_,ht w hm,⟨_,snoc _ hy,?_⟩,rfl⟩) λhn=>⟨aX,M,?_,ht w hm,⟨_,snoc _ hn,?_⟩,rfl⟩)
  .rw[jG hp];exact Sub.refl _
  .simp
  .rw[jG hp];exact Sub.refl _
  .simp
 .rintro τ acc M mp ⟨_,⟨os,po,rfl⟩,rfl⟩;rw[Bw]at po;exact r os po p hp
def yZ(rest:S3):S3->Prop:=λτ=>∃o,τ=o::rest
theorem uX{ws:List W}{keep:Mm->Prop}{te:a0}{o:Option W}{rest:S3}{M1:Mm}{R:K3}(f:W->W)(hl:ws.length<=Ao)(hk:∀M,Sub M1 M->keep M)(hs:∀w∈ws,∀M (C:K3),Sub M1 M->C (f w) M->te (some w::rest) M C)(r:bH (ws.map f) M1 R):oF ws keep (bM 0) i7 te (o::rest) M1 R:=by
 refine uW (yZ rest) (λw=>some w::rest) (λw o=>o=some (f w)) hl hk ⟨_,rfl⟩ (λw _=>⟨_,rfl⟩) ?_ ?_ ?_
 .rintro w _ τ M C ⟨o,rfl⟩ h;exact h
 .intro w hw M C D sb h1 _;show(if true=true then te (some w::rest) M C else D M);rw[if_pos rfl];exact hs w hw M C sb (h1 _ rfl)
 .intro os po;have:os.filterMap id=ws.map f:=by
   clear r hs hl hk
   induction po with
   | nil=>rfl
   | cons a b ih=>subst a;simp[ih]
  rw[this];exact r
theorem uY{ws:List W}{keep:Mm->Prop}{tt:d7}{te:a0}{o:Option W}{rest:S3}{M1:Mm}{R:K3}(f:W->Option W)(hl:ws.length<=Ao)(hk:∀M,Sub M1 M->keep M)(hs:∀w∈ws,∀M (C:K3) (D:Mm->Prop),Sub M1 M->(∀y,f w=some y->C y M)->(f w=none->D M)->tt (some w::rest) M λb M3=>if b=true then te (some w::rest) M3 C else D M3)(r:bH (ws.filterMap f) M1 R):oF ws keep (bM 0) tt te (o::rest) M1 R:=by
 refine uW (yZ rest) (λw=>some w::rest) (λw o=>o=f w) hl hk ⟨_,rfl⟩ (λw _=>⟨_,rfl⟩) ?_ ?_ ?_
 .rintro w _ τ M C ⟨o,rfl⟩ h;exact h
 .intro w hw M C D sb h1 h2;exact hs w hw M C D sb (λy e=>h1 y e.symm) λe=>h2 e.symm
 .intro os po;have:os.filterMap id=ws.filterMap f:=by
   clear r hs hl hk
   induction po with
   | nil=>rfl
   | @cons a b c d e _ ih=>
    subst e;cases q:f a<;>simp[q,ih]
  rw[this];exact r
theorem XY{ws:List W}{keep:Mm->Prop}{te:a0}{o:Option W}{rest:S3}{M1:Mm}{R:K3}(P:W->W->Prop)(hl:ws.length<=Ao)(hk:∀M,Sub M1 M->keep M)(hs:∀w∈ws,∀M (C:K3),Sub M1 M->(∀y,P w y->C y M)->te (some w::rest) M C)(r:∀ys,Fs P ws ys->bH ys M1 R):oF ws keep (bM 0) i7 te (o::rest) M1 R:=by
 refine uW (yZ rest) (λw=>some w::rest) (λw o=>∃y,o=some y/\P w y) hl hk ⟨_,rfl⟩ (λw _=>⟨_,rfl⟩) ?_ ?_ ?_
 .rintro w _ τ M C ⟨o,rfl⟩ h;exact h
 .intro w hw M C D sb h1 _;show(if true=true then te (some w::rest) M C else D M);rw[if_pos rfl];exact hs w hw M C sb λy py=>h1 y ⟨y,rfl,py⟩
 .intro os po;have:∃ys,os=ys.map some/\Fs P ws ys:=by
   clear r hs hl hk
   induction po with
   | nil=>exact⟨[],rfl,.nil⟩
   | cons a b ih=>
    obtain⟨y,rfl,py⟩:=a;obtain⟨ys,rfl,h⟩:=ih;exact⟨y::ys,rfl,.cons py h⟩
  obtain⟨ys,rfl,py⟩:=this;rw[Il];have:(ys.filterMap (id ∘ some))=ys:=by simp
  rw[this];exact r ys py
def XZ(rest:S3):S3->Prop:=λτ=>∃o1 o2,τ=o1::o2::rest
def X1(rest:S3):W->S3
 | .tup [a,b]=>some a::some b::rest
 | _=>none::none::rest
abbrev X2:e7:=jM 2 (eO (bM 0) (eO (bM 1) jL))
theorem X3{ws:List W}{keep:Mm->Prop}{tt:d7}{te:a0}{o1 o2:Option W}{rest:S3}{M1:Mm}{R:K3}(P:W->Option W->Prop)(hw:∀w∈ws,∃a b,w=.tup [a,b])(hl:ws.length<=Ao)(hk:∀M,Sub M1 M->keep M)(hs:∀a b,.tup [a,b]∈ws->∀M (C:K3) (D:Mm->Prop),Sub M1 M->(∀y,P (.tup [a,b]) (some y)->C y M)->(P (.tup [a,b]) none->D M)->tt (some a::some b::rest) M λb' M3=>if b'=true then te (some a::some b::rest) M3 C else D M3)(r:∀os,Fs P ws os->bH (os.filterMap id) M1 R):oF ws keep X2 tt te (o1::o2::rest) M1 R:=by
 refine uW (XZ rest) (X1 rest) P hl hk ⟨_,_,rfl⟩ (λw hm=>?_) ?_ ?_ r
 .obtain⟨a,b,rfl⟩:=hw w hm;exact⟨_,_,rfl⟩
 .rintro w hm τ M C ⟨u1,u2,rfl⟩ h;obtain⟨a,b,rfl⟩:=hw w hm;exact⟨rfl,rfl,h⟩
 .intro w hm M C D sb h1 h2;obtain⟨a,b,rfl⟩:=hw w hm;exact hs a b hm M C D sb h1 h2
structure Df(K:Ac)(mg:Str->Option Ae)(x:Str)(st:Stmt)(ps:List Str)(f:Addr)(fd:Bk):Prop where
 fn:jF K x x st f fd
 at_:mg x=some (.ref f)
 bi:Binds K fd ps []
theorem eT:Ct "len" = some (.builtin "len"):=PySem.boot_len
theorem pW:Ct "list" = some (.type "list"):=by decide +kernel
theorem pX:Ct "tuple" = some (.type "tuple"):=by decide +kernel
theorem X4:Ct "int" = some (.type "int"):=by decide +kernel
theorem HW:Ct "bool" = some (.type "bool"):=by decide +kernel
theorem HX:Ct "dict" = some (.type "dict"):=by decide +kernel
theorem l9:Ct "isinstance" = some (.builtin "isinstance"):=by decide +kernel
theorem X5:Ct "min" = some (.builtin "min"):=by decide +kernel
theorem X6:Ct "abs" = some (.builtin "abs"):=by decide +kernel
theorem y0{O:Type}(x:O)(xs:List O):cG (x::xs) 0=some x:=by simp[cG,hZ]
theorem y6{O:Type}(x y:O)(xs:List O):cG (x::y::xs) 1=some y:=fA (j:=1) rfl
theorem X7{ws:List W}{lo hi:Option Int}{w:W}(h:w∈fD ws lo hi):w∈ws:=List.mem_of_mem_drop (Ds h)
theorem X8{ws:List W}{lo hi:Option Int}:(fD ws lo hi).length<=ws.length:=by
 unfold fD;rw[Bq,Ic];exact Az (Nat.min_le_right _ _) (Nat.sub_le _ _)
def mB(x:Str):Prop:=PyData.strOk x=true
def X9(ws:List W):Prop:=∀w∈ws,∃i,w=W.int i
theorem ints_map(ns:List Int):X9 (ns.map W.int):=λw h=>by
 obtain⟨i,_,e⟩:=Ay.mp h;exact⟨i,e.symm⟩
theorem gJ{n:Nat}(h:n<=10000000):n<=Ao:=Az h (by decide)
theorem d8{n:Nat}(h:n<10000000):n<Ao:=Bu h (by decide)
theorem y7{S:List W}{i:Int}(h0:0<=i)(h1:i<=S.length):fD S none (some i)=S.take i.toNat:=by
 unfold fD HT.sIx;simp only[List.drop_zero,Nat.sub_zero];rw[if_neg (by lia),Nat.min_eq_left (by lia)]
theorem YA{M:Mm}{a:Addr}{k:Str}{v:W}{kvs:List (aE×W)}{Q:Mm->Prop}(h:M a=some (.dK kvs))(hl:kvs.length<Ao)(q:Q (put M a (.dK (cA kvs (Sum.inr k) v)))):oE (.ref a) (.str k) v M Q:=.inr (.inl ⟨kvs,.inr k,rfl,h,hl,q⟩)
theorem YB{M:Mm}{a:Addr}{k:Int}{v:W}{kvs:List (aE×W)}{Q:Mm->Prop}(h:M a=some (.dK kvs))(hl:kvs.length<Ao)(q:Q (put M a (.dK (cA kvs (Sum.inl k) v)))):oE (.ref a) (.int k) v M Q:=.inr (.inl ⟨kvs,.inl k,rfl,h,hl,q⟩)
theorem rP{M:Mm}{a:Addr}{k:List aE}{v:W}{kvs:List (List aE×W)}{Q:Mm->Prop}(h:M a=some (.dT kvs))(hl:kvs.length<Ao)(q:Q (put M a (.dT (cA kvs k v)))):oE (.ref a) (.tup (k.map wK)) v M Q:=.inr (.inr ⟨kvs,k,rfl,h,hl,q⟩)
theorem HY{M:Mm}{a:Addr}{k:Int}{v:W}{ws:List W}{Q:Mm->Prop}(h:M a=some (.lst ws))(h0:0<=k)(h1:k<ws.length)(q:Q (put M a (.lst (ws.set k.toNat v)))):oE (.ref a) (.int k) v M Q:=
 .inl ⟨ws,k,k.toNat,rfl,h,by unfold hZ;rw[if_pos h0,if_pos h1],q⟩
section
variable {X:Cx}{a b c:Expr}{ta tb tc:a0}{pos:Pos}
theorem YC{K:Ac}{r r':R3}{Z:SV}{H:Hp}{Q:VK}(h:up K (yU r r' ta tb tc) Z H Q):ET (cL K r) (cL K r') (up K ta) (up K tb) (up K tc) Z H Q:=by
 obtain⟨τ,M,R,as,am,h,k⟩:=h;refine⟨τ,M,_,as,am,h,λx H1 wx M1 k1 am1 ax h1=>⟨τ,M1,_,as.kp am k1,am1,h1,λy H2 wy M2 k2 am2 ay h2=>⟨wx,wy,M2,_,am2,ax.kp am1 k2,ay,h2,λz H3 wz M3 k3 am3 az ⟨c,e,h3⟩=>?_⟩⟩⟩;subst e;refine⟨c,az.bl_inv,?_⟩;cases c with
 | false=>exact((k.kp k1).kp k2).kp k3 |>.at am3 (.bl false) h3
 | true=>exact⟨τ,M3,_,((as.kp am k1).kp am1 k2).kp am2 k3,am3,h3,λw H4 ww M4 k4 am4 aw h4=>⟨wy,ww,M4,R,am4,(ay.kp am2 k3).kp am3 k4,aw,h4,(((k.kp k1).kp k2).kp k3).kp k4⟩⟩
theorem YD{op op':CmpOp}{r r':R3}(ho:bG X (Cb op) (cL X.K r))(ho':bG X (Cb op') (cL X.K r'))(ha:E3 X a ta)(hb:E3 X b tb)(hc:E3 X c tc)(hm:lastMarks [op,op'] [b,c]=false:=by with_unfolding_all rfl):T3 X (.Compare a [op,op'] [b,c] pos) (bZ (yU r r' ta tb tc)):=
 (RI ho ho' ha hb hc hm).weak λZ H Q z0=>z0.el λτ M R as am h k=>YC ⟨τ,M,_,as,am,h,λv H' w M' k' am' av ⟨c,e,r⟩=>by
  subst e;exact⟨c,av.bl_inv,k c H' M' k' am' r⟩⟩
def HZ:List W->Mm->K3->Prop
 | [.int i],M,R=>R (.int (if i<0 then -i else i)) M
 | _,_,_=>False
theorem YE:dX X (.builtin "abs") (iC X.K HZ):=by
 rintro pins s Z H xs us Q I rs ⟨ws,M,R,am,axs,h,k⟩
 match ws,h with
 | [.int i],h=>
  obtain⟨v,rfl,av⟩:=axs.one;obtain rfl:=av.inv;exact RM pins s Z H _ us Q I rs ⟨i,rfl,k.at am (.int _) h⟩
def IA:W->List W->Mm->K3->Prop
 | .ref l,[],M,R=>∃ws,M l=some (.lst ws)/\R .non (put M l (.lst ws.reverse))
 | _,_,_,_=>False
theorem YF:jE X "list.reverse" (kQ X.K IA):=by
 rintro pins s Z H x xs v us Q I rx rs ⟨wx,ws,M,R,am,ax,axs,h,k⟩
 match wx,ws,h with
 | .ref l,[],h=>
  cases axs;cases ax;obtain⟨ws,e,r⟩:=h;obtain⟨vs,f,q⟩:=am.lst e;exact UL pins s Z H _ _ v us Q I rx rs ⟨l,vs,rfl,rfl,f,pK am k e q.reverse .non r⟩
end
def g9:Nat->List W->List W
 | _,[]=>[]
 | n,w::r=>.tup [.int n,w]::g9 (n+1) r
theorem oG:∀{ws:List W} {n:Nat},(g9 n ws).length=ws.length
 | [],_=>rfl
 | _::r,n=>by simp[g9,oG (ws:=r)]
theorem rQ:∀{ws:List W} {n i:Nat},(g9 n ws)[i]? = (ws[i]?).map λw=>W.tup [.int ((n+i:Nat):Int),w]
 | [],_,_=>by simp[g9]
 | w::r,n,0=>by simp[g9]
 | w::r,n,i+1=>by
  rw[g9,Gw,Gw,rQ];congr 2;funext w;congr 4;lia
section
variable {X:Cx}{a b c:Expr}{ta tb tc:a0}{pos:Pos}
theorem IC{K:Ac}{H0:Hp}{M0:Mm}{p:Addr}{vs:List V}{ws:List W}{keep:Mm->Prop}(q0:aN K H0 M0 vs ws)(am0:AM K H0 M0)(st:∀H M,Kp H0 M0 H M->AM K H M->keep M->bK K H p vs):iU K H0 M0 (xY K p vs) (g9 0 ws) keep:=by
 refine⟨λi H M k am kp hi=>⟨st H M k am kp,by rw[oG]at hi;rw[q0.length];exact hi⟩,λH M k am kp=>⟨st H M k am kp,by rw[oG,q0.length];exact Ai _⟩,λi H M x H' k am kp hi y=>?_⟩;obtain⟨pp,u,hu,hn,rfl,rfl⟩:=y;obtain⟨w,hw,av⟩:=(q0.kp am0 k).getV hu;obtain⟨am2,k2⟩:=am.tup (u:=.tup [.int (i:Nat),u]) hn;refine⟨.tup [.int ((i:Nat):Int),w],by rw[rQ,hw];simp,k2,am2,.tup cQ (.cons (.int _) (.cons (av.go (go_same hn)) .nil))⟩
def ID(ta:dY):iT:=λτ M R=>ta τ M λws M1=>match ws with
 | [.rl zs]=>R (g9 0 zs) (λ_=>True) M1
 | [.sc zs]=>R (g9 0 zs) (λ_=>True) M1
 | [.ref p]=>∃zs,M1 p=some (.lst zs)/\False
 | _=>False
theorem YG{tA:dY}{p pos:Pos}{es:List Expr}{kx:Nat}{px:Pos}(hg:Gl X "enumerate")(hm:X.mg "enumerate" = none)(ha:A3 X [a] tA)(hs:Bj [a] X.env=[(false,eval a X.env)]:=by rfl):PI X (.Tuple es kx px) (.Call (.Name "enumerate" p) [a] [] pos) (iG X.K (ID tA)):=
 (VU hg hm ha hs).weak λZ H R' z0=>z0.el λτ M R as am h k=>⟨τ,M,_,as,am,h,λvs H1 ws M1 k1 am1 ax r=>by
  match ws,r with
  | [.rl zs],r=>
   obtain⟨v,rfl,av⟩:=ax.one;cases av with
   | rl e n q=>exact⟨_,_,rfl,bK.of e,k _ _ _ _ _ k1 am1 (IC q am1 λH M k _ _=>bK.of (k.fr _ _ n e).1) r⟩
  | [.sc zs],r=>
   obtain⟨v,rfl,av⟩:=ax.one;cases av with
   | sc e q=>exact⟨_,_,rfl,e.sq,k _ _ _ _ _ k1 am1 (IC q am1 λH M k _ _=>by
     refine lQ.sq ?_;rcases e with⟨o,e⟩|e
     .exact .inl ⟨o,(k.fr _ _ (am1.noFrz e) e).1⟩
     .exact .inr e) r⟩
  | [.ref p],r=>obtain⟨_,_,f⟩:=r;exact f.elim⟩
def i9:List W->List W->List W
 | x::xs,y::ys=>.tup [x,y]::i9 xs ys
 | _,_=>[]
theorem mC:∀{xs ys:List W},(i9 xs ys).length=min xs.length ys.length
 | [],_=>by simp[i9]
 | _::_,[]=>by simp[i9]
 | _::xs,_::ys=>by simp[i9,mC (xs:=xs)]
theorem uZ:∀{xs ys:List W} {i:Nat} {x y:W},xs[i]? = some x->ys[i]? = some y->(i9 xs ys)[i]? = some (.tup [x,y])
 | [],_,_,_,_,h,_=>by simp at h
 | _::_,[],_,_,_,_,h=>by simp at h
 | _::xs,_::ys,0,_,_,h,h'=>by simp at h h';simp[i9,h,h']
 | _::xs,_::ys,i+1,_,_,h,h'=>by simpa [i9] using uZ (xs:=xs) (ys:=ys) (i:=i) (by simpa using h) (by simpa using h')
end
section
variable {X:Cx}{a b c:Expr}{ta tb tc:a0}{pos:Pos}
theorem YH{K:Ac}{H0:Hp}{M0:Mm}{p q:Addr}{vs us:List V}{ws zs:List W}(am0:AM K H0 M0)(e1:H0 p=some (.tup vs))(e2:H0 q=some (.tup us))(r1:aN K H0 M0 vs ws)(r2:aN K H0 M0 us zs):iU K H0 M0 (t6 K p q vs us) (i9 ws zs) λ_=>True:=by
 have s1:∀H M,Kp H0 M0 H M->bS K H p vs:=λH M k=>bS.of (k.fr _ _ (am0.noTup e1) e1).1;have s2:∀H M,Kp H0 M0 H M->bS K H q us:=λH M k=>bS.of (k.fr _ _ (am0.noTup e2) e2).1;refine⟨λi H M k am _ hi=>⟨s1 H M k,s2 H M k,?_,?_⟩,λH M k am _=>⟨s1 H M k,s2 H M k,?_⟩,λi H M x H' k am _ hi y=>?_⟩
 .rw[mC]at hi;rw[r1.length];lia
 .rw[mC]at hi;rw[r2.length];lia
 .rw[mC,r1.length,r2.length];lia
 .obtain⟨pp,u,v,hu,hv,hn,rfl,rfl⟩:=y;obtain⟨w,hw,av⟩:=(r1.kp am0 k).getV hu;obtain⟨z,hz,az⟩:=(r2.kp am0 k).getV hv;obtain⟨am2,k2⟩:=am.tup (u:=.tup [u,v]) hn;exact⟨.tup [w,z],uZ hw hz,k2,am2,.tup cQ (.cons (av.go (go_same hn)) (.cons (az.go (go_same hn)) .nil))⟩
theorem YI{K:Ac}{H0:Hp}{M0:Mm}{p q:Addr}{vs us:List V}{ws zs:List W}(am0:AM K H0 M0)(e1:H0 p=some (.lst vs))(n1:M0 p=none)(e2:H0 q=some (.lst us))(n2:M0 q=none)(r1:aN K H0 M0 vs ws)(r2:aN K H0 M0 us zs):iU K H0 M0 (t5 K p q vs us) (i9 ws zs) λ_=>True:=by
 have s1:∀H M,Kp H0 M0 H M->bK K H p vs:=λH M k=>bK.of (k.fr _ _ n1 e1).1;have s2:∀H M,Kp H0 M0 H M->bK K H q us:=λH M k=>bK.of (k.fr _ _ n2 e2).1;refine⟨λi H M k am _ hi=>⟨s1 H M k,s2 H M k,?_,?_⟩,λH M k am _=>⟨s1 H M k,s2 H M k,?_⟩,λi H M x H' k am _ hi y=>?_⟩
 .rw[mC]at hi;rw[r1.length];lia
 .rw[mC]at hi;rw[r2.length];lia
 .rw[mC,r1.length,r2.length];lia
 .obtain⟨pp,u,v,hu,hv,hn,rfl,rfl⟩:=y;obtain⟨w,hw,av⟩:=(r1.kp am0 k).getV hu;obtain⟨z,hz,az⟩:=(r2.kp am0 k).getV hv;obtain⟨am2,k2⟩:=am.tup (u:=.tup [u,v]) hn;exact⟨.tup [w,z],uZ hw hz,k2,am2,.tup cQ (.cons (av.go (go_same hn)) (.cons (az.go (go_same hn)) .nil))⟩
def YJ:List W->Mm->(List W->(Mm->Prop)->Mm->Prop)->Prop
 | [.tup xs,.tup ys],M,R=>R (i9 xs ys) (λ_=>True) M
 | [.rl xs,.rl ys],M,R=>R (i9 xs ys) (λ_=>True) M
 | _,_,_=>False
def IE(ta:dY):iT:=λτ M R=>ta τ M λws M1=>YJ ws M1 R
theorem YK{tA:dY}{p pos:Pos}{es:List Expr}{kx:Nat}{px:Pos}(hg:Gl X "zip")(hm:X.mg "zip" = none)(ha:A3 X [a,b] tA)(hs:Bj [a,b] X.env=[(false,eval a X.env),(false,eval b X.env)]:=by rfl)(hs2:Bj [b] X.env=[(false,eval b X.env)]:=by rfl):
  PI X (.Tuple es kx px) (.Call (.Name "zip" p) [a,b] [] pos) (iG X.K (IE tA)):=
 (V4 hg hm ha hs hs2).weak λZ H R' z0=>z0.el λτ M R as am h k=>⟨τ,M,_,as,am,h,λvs H1 ws M1 k1 am1 ax r=>by
  match ws,r with
  | [.tup xs,.tup ys],r=>
   obtain⟨v,u,e,av,au⟩:=ax.two;obtain⟨a1,x1,f1,e1,q1⟩:=av.inv;obtain⟨a2,x2,f2,e2,q2⟩:=au.inv;exact⟨a1,a2,_,_,by rw[e,f1,f2],.inl ⟨bS.of e1,bS.of e2,k _ _ _ _ _ k1 am1 (YH am1 e1 e2 q1 q2) r⟩⟩
  | [.rl xs,.rl ys],r=>
   obtain⟨v,u,e,av,au⟩:=ax.two;obtain⟨a1,x1,f1,e1,n1,q1⟩:=av.inv;obtain⟨a2,x2,f2,e2,n2,q2⟩:=au.inv;exact⟨a1,a2,_,_,by rw[e,f1,f2],.inr ⟨bK.of e1,bK.of e2,k _ _ _ _ _ k1 am1 (YI am1 e1 n1 e2 n2 q1 q2) r⟩⟩⟩
end
section
variable {X:Cx}
theorem aN.intsL{K:Ac}{H:Hp}{M:Mm}{ns:List Int}{vs:List V}(h:aN K H M vs (ns.map W.int)):vs=ns.map V.int:=h.ints
end
end L3
namespace Rg
open PySem Spec PyProof.Rows L2 L3
structure a7 where
 name:Str
 parts:List Str
 cost:Int
def iV(acc:List Str)(t:Str):List Str:=if t∈acc then acc else acc++[t]
def rR(acc:List Str)(rs:List a7):List Str:=(rs.map a7.name).foldl iV acc
def namesOf(rs:List a7):List Str:=rR [] rs
theorem YL{acc:List Str}{t u:Str}:u∈iV acc t↔u∈acc\/u=t:=by
 unfold iV;split
 .rename_i h;constructor
  .exact .inl
  .rintro(q|q)
   .exact q
   .rw[q];exact h
 .rw[Bo,Am]
theorem YM{acc:List Str}{t:Str}:(iV acc t).length<=acc.length+1:=by
 unfold iV;split
 .lia
 .rw[Ak];exact Ai _
theorem y8:∀{ts acc:List Str} {u:Str},u∈ts.foldl iV acc↔u∈acc\/u∈ts
 | [],acc,u=>by simp
 | t::r,acc,u=>by
  rw[Dl,y8,YL,Aj];constructor
  .rintro((h|h)|h)
   .exact .inl h
   .exact .inr (.inl h)
   .exact .inr (.inr h)
  .rintro(h|h|h)
   .exact .inl (.inl h)
   .exact .inl (.inr h)
   .exact .inr h
theorem YN{rs:List a7}{u:Str}:u∈namesOf rs↔∃r∈rs,r.name=u:=by
 unfold namesOf rR;rw[y8];simp
theorem u0:∀(ts acc:List Str),(ts.foldl iV acc).length<=acc.length+ts.length
 | [],acc=>by simp
 | t::r,acc=>by
  rw[Dl,Br];have:=u0 r (iV acc t);have:=YM (acc:=acc) (t:=t);lia
def gL(r:a7):W:=.tup [.str r.name,.tup (r.parts.map W.str),.int r.cost]
def dA(rs:List a7):W:=.rl (rs.map gL)
def fG(rs:List a7)(t:Str):Bool:=decide (t∈namesOf rs)
abbrev aL:=Int×Int
def cS(a b:aL):Bool:=decide (a.1<b.1)||(decide (a.1=b.1)&&decide (a.2<b.2))
theorem pY{a b:aL}:cS a b=true↔a.1<b.1\/a.1=b.1/\a.2<b.2:=by simp[cS]
def Le(a b:aL):Prop:=a.1<b.1\/a.1=b.1/\a.2<=b.2
theorem y9{a b:aL}:Le a b↔¬cS b a=true:=by
 rw[pY];unfold Le;lia
theorem Le.refl(a:aL):Le a a:=.inr ⟨rfl,Ha _⟩
theorem Le.trans{a b c:aL}(h:Le a b)(h':Le b c):Le a c:=by unfold Le at *;lia
theorem Le.of_lt{a b:aL}(h:cS a b=true):Le a b:=by rw[pY]at h;unfold Le;lia
theorem Le.antisymm{a b:aL}(h:Le a b)(h':Le b a):a=b:=by
 unfold Le at *;exact Prod.ext (by lia) (by lia)
theorem rS{a:aL}:¬cS a a=true:=by rw[pY];lia
theorem rT{a b c:aL}(h:cS a b=true)(h':Le b c):cS a c=true:=by rw[pY]at *;unfold Le at h';lia
def dR(a b:aL):aL:=(a.1+b.1,a.2+b.2)
theorem YO{a b c d:aL}(h:Le a b)(h':Le c d):Le (dR a c) (dR b d):=by unfold Le dR at *;simp only;lia
section
variable {U J:Type}[DecidableEq U]
def aD(t:List (U×J))(k:U):Option J:=(t.find? λe=>decide (e.1=k)).map (·.2)
def bC(t:List (U×J))(k:U)(v:J):List (U×J):=if (t.any λe=>decide (e.1=k))=true then t.map (λe=>if e.1=k then(e.1,v) else e) else t++[(k,v)]
theorem cY(e:U×J)(t:List (U×J))(k:U):aD (e::t) k=if e.1=k then some e.2 else aD t k:=by
 unfold aD;rw[Fj]
 by_cases h:e.1=k
 .rw[decide_eq_true h,if_pos h];rfl
 .rw[decide_eq_false h,if_neg h]
theorem f6(t:List (U×J))(k:U):(t.any λe=>decide (e.1=k))=(aD t k).isSome:=by
 induction t with
 | nil=>rfl
 | cons e t ih=>
  rw[Er,cY,ih]
  by_cases h:e.1=k
  .rw[decide_eq_true h,if_pos h];rfl
  .rw[decide_eq_false h,if_neg h];rfl
theorem zA(t:List (U×J))(k j:U)(v:J):aD (t++[(k,v)]) j=(aD t j).or (if k=j then some v else none):=by
 induction t with
 | nil=>rw[Lm,cY];rfl
 | cons e t ih=>
  rw[List.cons_append,cY,cY,ih];split<;>rfl
theorem YQ(t:List (U×J))(k j:U)(v:J)(h:(aD t k).isSome=true):aD (t.map (λe=>if e.1=k then(e.1,v) else e)) j=if k=j then some v else aD t j:=by
 induction t with
 | nil=>cases h
 | cons e t ih=>
  rw[Bb,cY,cY];rw[cY]at h
  by_cases hk:e.1=k
  .rw[if_pos hk]
   by_cases hj:k=j
   .rw[if_pos (by rw[hk,hj]:(e.1,v).1=j),if_pos hj]
   .rw[if_neg (by rw[hk];exact hj),if_neg hj,if_neg (by rw[hk];exact hj)]
    by_cases ht:(aD t k).isSome=true
    .rw[ih ht,if_neg hj]
    .have:∀{t:List (U×J)},¬(aD t k).isSome=true->t.map (λe=>if e.1=k then(e.1,v) else e)=t:=by
      intro t
      induction t with
      | nil=>intro _;rfl
      | cons a t ih=>
       intro h;rw[cY]at h
       by_cases ha:a.1=k
       .rw[if_pos ha]at h;exact absurd rfl h
       .rw[if_neg ha]at h;rw[Bb,if_neg ha,ih h]
     rw[this ht]
  .rw[if_neg hk]at h⊢
   by_cases hj:e.1=j
   .rw[if_pos hj,if_pos hj,if_neg (λz=>hk (by rw[hj,z]))]
   .rw[if_neg hj,if_neg hj];exact ih h
theorem gM(t:List (U×J))(k j:U)(v:J):aD (bC t k v) j=if k=j then some v else aD t j:=by
 unfold bC;rw[f6];split
 .rename_i h;exact YQ t k j v h
 .rename_i h;rw[zA]
  by_cases hj:k=j
  .subst hj;rw[if_pos rfl,if_pos rfl];cases e:aD t k with
   | none=>rfl
   | some z=>rw[e]at h;exact absurd rfl h
  .rw[if_neg hj,if_neg hj,Option.or_none]
theorem u3(t:List (U×J))(k:U)(v:J):(bC t k v).length<=t.length+1:=by
 unfold bC;split
 .rw[Ab];lia
 .simp
def e8{γ:Type}(t:List (U×List γ))(k:U)(v:γ):List (U×List γ):=bC t k ((aD t k).getD []++[v])
theorem rV{γ:Type}(t:List (U×List γ))(k j:U)(v:γ):(aD (e8 t k v) j).getD []=if k=j then(aD t j).getD []++[v] else(aD t j).getD []:=by
 unfold e8;rw[gM]
 by_cases h:k=j
 .subst h;rw[if_pos rfl,if_pos rfl];rfl
 .rw[if_neg h,if_neg h]
end
section
variable {O:Type}
def d3(c:aL)(x:O):List (aL×List O)->List (aL×List O)
 | []=>[(c,[x])]
 | (d,xs)::r=>if cS c d=true then(d,xs)::d3 c x r else if d=c then(d,xs++[x])::r else(c,[x])::(d,xs)::r
def bB:List (aL×List O)->List (aL×O)
 | []=>[]
 | (d,xs)::r=>xs.map (λx=>(d,x))++bB r
theorem u5(c:aL)(x:O):∀q:List (aL×List O),(bB (d3 c x q)).length=(bB q).length+1
 | []=>rfl
 | (d,xs)::r=>by
  rw[d3];split
  .rw[bB,bB,Ak,Ak,u5 c x r];lia
  .split
   .rw[bB,bB,Ak,Ak,Bc,Ak];simp;lia
   .simp[bB]
def hJ:List (aL×List O)->Prop
 | []=>True
 | (d,xs)::r=>xs≠[]/\(∀e∈r,cS e.1 d=true)/\hJ r
theorem IF(c:aL)(x:O):∀q:List (aL×List O),∀e∈d3 c x q,e.1=c\/∃e'∈q,e'.1=e.1
 | [],e,h=>by simp[d3]at h;exact .inl (by rw[h])
 | (d,xs)::r,e,h=>by
  rw[d3]at h;split at h
  .rcases Aj.mp h with z|z
   .exact .inr ⟨(d,xs),by simp,by rw[z]⟩
   .rcases IF c x r e z with q|⟨e',q1,q2⟩
    .exact .inl q
    .exact .inr ⟨e',Ap _ q1,q2⟩
  .split at h
   .rcases Aj.mp h with z|z
    .exact .inr ⟨(d,xs),by simp,by rw[z]⟩
    .exact .inr ⟨e,Ap _ z,rfl⟩
   .rcases Aj.mp h with z|z
    .exact .inl (by rw[z])
    .exact .inr ⟨e,z,rfl⟩
theorem zB(c:aL)(x:O):∀{q:List (aL×List O)},hJ q->hJ (d3 c x q)
 | [],_=>⟨by simp,by simp,trivial⟩
 | (d,xs)::r,h=>by
  obtain⟨h1,h2,h3⟩:=h;rw[d3];split
  .rename_i hlt;refine⟨h1,λe he=>?_,zB c x h3⟩;rcases IF c x r e he with z|⟨e',z1,z2⟩
   .rw[z];exact hlt
   .rw[<-z2];exact h2 e' z1
  .rename_i hlt;split
   .rename_i hd;subst hd;exact⟨by simp,h2,h3⟩
   .rename_i hd;have hdc:cS d c=true:=by
     have hlt':¬(c.1<d.1\/c.1=d.1/\c.2<d.2):=by rw[<-pY];exact hlt
     rw[pY]
     by_cases h1:d.1=c.1
     .refine .inr ⟨h1,?_⟩;have:d.2≠c.2:=λh2=>hd (Prod.ext h1 h2);lia
     .left;lia
    refine⟨by simp,λe he=>?_,h1,h2,h3⟩;rcases Aj.mp he with z|z
    .rw[z];exact hdc
    .exact rT (h2 e z) (Le.of_lt hdc)
def iI:List (aL×List O)->Option (aL×O×List (aL×List O))
 | []=>none
 | [(d,xs)]=>match xs.getLast? with
  | none=>none
  | some x=>some (d,x,if xs.dropLast.isEmpty then [] else [(d,xs.dropLast)])
 | e::e2::r=>match iI (e2::r) with
  | none=>none
  | some (d,x,q)=>some (d,x,e::q)
theorem oH:∀{q:List (aL×List O)},hJ q->q≠[]->∃d x q',iI q=some (d,x,q')/\hJ q'/\(∀e,e∈bB q↔e=(d,x)\/e∈bB q')/\(bB q).length=(bB q').length+1/\(∀e∈q,Le d e.1)/\∀e∈q',∃e'∈q,e'.1=e.1
 | [],_,h=>absurd rfl h
 | [(d,xs)],h,_=>by
  obtain⟨h1,_,_⟩:=h;rcases Ea xs with z|⟨ys,y,z⟩
  .exact absurd z h1
  .rw[Eb]at z;subst z;refine⟨d,y,if ys.isEmpty then [] else [(d,ys)],by simp[iI],?_,λe=>?_,?_,λe he=>?_,λe he=>?_⟩
   .cases ys with
    | nil=>trivial
    | cons a b=>exact⟨by simp,by simp,trivial⟩
   .cases ys with
    | nil=>simp[bB]
    | cons a b=>simp[bB];constructor<;>(intro h;rcases h with h|h|h<;>simp[h])
   .cases ys with
    | nil=>simp[bB]
    | cons a b=>simp[bB]
   .rw[Am.mp he];exact Le.refl _
   .cases ys with
    | nil=>cases he
    | cons a b=>simp at he;exact⟨(d,a::b++[y]),by simp,by rw[he]⟩
 | e::e2::r,h,_=>by
  obtain⟨h1,h2,h3⟩:=h;obtain⟨d,x,q',e1,f1,m1,l1,c1,k1⟩:=oH h3 (by simp);refine⟨d,x,e::q',by rw[iI,e1],⟨h1,λz hz=>?_,f1⟩,λz=>?_,?_,λz hz=>?_,λz hz=>?_⟩
  .obtain⟨z',hz',ez⟩:=k1 z hz;rw[<-ez];exact h2 z' hz'
  .rw[bB,Bo,m1,bB,Bo];constructor
   .rintro(h|h|h)
    .exact .inr (.inl h)
    .exact .inl h
    .exact .inr (.inr h)
   .rintro(h|h|h)
    .exact .inr (.inl h)
    .exact .inl h
    .exact .inr (.inr h)
  .rw[bB,Ak,l1,bB,Ak];lia
  .rcases Aj.mp hz with q|q
   .rw[q];have:=c1 e2 Aw;exact this.trans (Le.of_lt (h2 e2 Aw))
   .exact c1 z q
  .rcases Aj.mp hz with q|q
   .exact⟨e,Aw,by rw[q]⟩
   .obtain⟨z',hz',ez⟩:=k1 z q;exact⟨z',Ap _ hz',ez⟩
theorem IG{q:List (aL×List O)}{e:aL×O}(h:e∈bB q):∃b∈q,b.1=e.1:=by
 induction q with
 | nil=>cases h
 | cons b r ih=>
  obtain⟨d,xs⟩:=b;rw[bB]at h;rcases Bo.mp h with z|z
  .obtain⟨x,_,rfl⟩:=Ay.mp z;exact⟨(d,xs),Aw,rfl⟩
  .obtain⟨b,hb,e1⟩:=ih z;exact⟨b,Ap _ hb,e1⟩
end
section
variable {O:Type}
theorem II(c:aL)(x:O):∀q:List (aL×List O),(bB (d3 c x q)).Perm ((c,x)::bB q)
 | []=>.refl _
 | (d,xs)::r=>by
  rw[d3];split
  .rw[bB,bB];exact(List.Perm.append_left _ (II c x r)).trans List.perm_middle
  .split
   .rename_i hd;subst hd;rw[bB,bB,Bc,Hr];exact List.perm_middle
   .exact .refl _
theorem zC:∀{q q':List (aL×List O)} {d:aL} {x:O},hJ q->iI q=some (d,x,q')->(bB q).Perm ((d,x)::bB q')
 | [],q',d,x,_,h=>by cases h
 | [(d0,xs)],q',d,x,hf,h=>by
  obtain⟨h1,_,_⟩:=hf;rcases Ea xs with z|⟨ys,y,z⟩
  .exact absurd z h1
  .rw[Eb]at z;subst z;simp[iI]at h;obtain⟨rfl,rfl,rfl⟩:=h;cases ys with
   | nil=>exact .refl _
   | cons a b=>
    rw[if_neg (by simp)];simp only[bB,Fw,Bc,Bb,Fu];exact List.perm_append_singleton _ _
 | e::e2::r,q',d,x,hf,h=>by
  obtain⟨_,_,h3⟩:=hf;rw[iI]at h;split at h
  .cases h
  .rename_i d1 x1 q1 e1;simp only[Ge,De]at h;obtain⟨rfl,rfl,rfl⟩:=h;have ih:=zC h3 e1;obtain⟨d0,xs⟩:=e;rw[bB,bB];exact(List.Perm.append_left _ ih).trans List.perm_middle
end
structure Sr where
 rs:List a7
 own:Str->Bool
 places:List Int
 steps:Str->Int->List (Int×Int)
 wt:Nat->Int
structure oJ(G:Sr):Prop where
 wt:∀n,0<=G.wt n
 pr:∀t p e c,(e,c)∈G.steps t p->0<=c
abbrev K4:=Nat×Nat×Int×Int
abbrev a9:=Str×Int×Int
abbrev cC:=Nat×List Int×aL
def bR(n:Nat)(cut:List Int):K4:=(n,cut.length,cut.headD 0,cut.getLastD 0)
def mD(y:cC):K4:=bR y.1 y.2.1
abbrev bN:=List (a9×aL×Nat×List Int)
structure SS where
 q:List (aL×List (Nat×List Int))
 reached:List (K4×aL)
 best:bN
 ends:List ((Str×Int)×List (Int×aL))
 begun:List ((Str×Int)×List cC)
def reach(st:SS)(n:Nat)(cut:List Int)(c:aL):SS:=match aD st.reached (bR n cut) with
 | some d=>if cS c d=true then {st with reached:=bC st.reached (bR n cut) c,q:=d3 c (n,cut) st.q} else st
 | none=>{st with reached:=bC st.reached (bR n cut) c,q:=d3 c (n,cut) st.q}
inductive GI(G:Sr)(B:bN):Nat->List Int->aL->Prop
 | start {n:Nat} {r:a7} {p:Int}:G.rs[n]? = some r->p∈G.places->GI G B n [p] (G.wt n,1)
 | word {n:Nat} {r:a7} {cut:List Int} {c:aL} {part:Str} {e pr:Int}:GI G B n cut c->G.rs[n]? = some r->r.parts[cut.length-1]? = some part->G.own part=false->(e,pr)∈G.steps part (cut.getLastD 0)->GI G B n (cut++[e]) (c.1+pr,c.2)
 | name {n:Nat} {r:a7} {cut:List Int} {c m:aL} {part:Str} {e:Int} {k:Nat×List Int}:GI G B n cut c->G.rs[n]? = some r->r.parts[cut.length-1]? = some part->G.own part=true->aD B (part,cut.getLastD 0,e)=some (m,k)->GI G B n (cut++[e]) (dR c m)
theorem GI.mono{G:Sr}{B B':bN}(h:∀f v,aD B f=some v->aD B' f=some v){n:Nat}{cut:List Int}{c:aL}(g:GI G B n cut c):GI G B' n cut c:=by
 induction g with
 | start a b=>exact .start a b
 | word _ a b c d ih=>exact .word ih a b c d
 | name _ a b c d ih=>exact .name ih a b c (h _ _ d)
theorem GI.ne{G:Sr}{B:bN}{n:Nat}{cut:List Int}{c:aL}(g:GI G B n cut c):cut≠[]:=by cases g<;>simp
def qk(e:aL×(Nat×List Int)):aL×K4:=(e.1,bR e.2.1 e.2.2)
def fH(st:SS)(k:K4)(c:aL):Prop:=∃d,aD st.reached k=some d/\Le d c
structure fI(G:Sr)(st:SS)(P:List cC)(cur:aL):Prop where
 fall:hJ st.q
 item:∀e∈bB st.q,GI G st.best e.2.1 e.2.2 e.1
 ge:∀e∈bB st.q,∃d,aD st.reached (bR e.2.1 e.2.2)=some d/\Le d e.1
 nd:((bB st.q).map qk).Nodup
 once:(P.map mD).Nodup
 pr:∀y∈P,aD st.reached (mD y)=some y.2.2/\Le y.2.2 cur/\GI G st.best y.1 y.2.1 y.2.2
 fresh:∀e∈bB st.q,∀y∈P,mD y=bR e.2.1 e.2.2->cS y.2.2 e.1=true
 curq:∀e∈bB st.q,Le cur e.1
 hit:∀k d,aD st.reached k=some d->(∃e∈bB st.q,e.1=d/\bR e.2.1 e.2.2=k)\/∃y∈P,mD y=k/\y.2.2=d
structure j8(st st':SS):Prop where
 best:st'.best=st.best
 ends:st'.ends=st.ends
 begun:st'.begun=st.begun
 le:∀k c,fH st k c->fH st' k c
theorem j8.refl(st:SS):j8 st st:=⟨rfl,rfl,rfl,λ_ _ h=>h⟩
theorem j8.trans{a b c:SS}(x:j8 a b)(y:j8 b c):j8 a c:=⟨y.best.trans x.best,y.ends.trans x.ends,y.begun.trans x.begun,λk c h=>y.le k c (x.le k c h)⟩
theorem YR{G:Sr}{st:SS}{P:List cC}{cur:aL}{n:Nat}{cut:List Int}{c:aL}(I:fI G st P cur)(g:GI G st.best n cut c)(hc:Le cur c):
  fI G (reach st n cut c) P cur/\j8 st (reach st n cut c)/\fH (reach st n cut c) (bR n cut) c:=by
 have push:(∀d,aD st.reached (bR n cut)=some d->cS c d=true)->fI G {st with reached:=bC st.reached (bR n cut) c,q:=d3 c (n,cut) st.q} P cur/\j8 st {st with reached:=bC st.reached (bR n cut) c,q:=d3 c (n,cut) st.q}/\fH {st with reached:=bC st.reached (bR n cut) c,q:=d3 c (n,cut) st.q} (bR n cut) c:=by
  intro hlt;have hp:=II c (n,cut) st.q;have hm:∀e,e∈bB (d3 c (n,cut) st.q)↔e=(c,(n,cut))\/e∈bB st.q:=λe=>by rw[hp.mem_iff,Aj]
  have noP:∀y∈P,mD y≠bR n cut:=λy hy e=>by
   obtain⟨h1,h2,_⟩:=I.pr y hy;rw[e]at h1;have:=rT (hlt _ h1) (h2.trans hc);exact rS this
  have le:∀k d,fH st k d->fH {st with reached:=bC st.reached (bR n cut) c,q:=d3 c (n,cut) st.q} k d:=λk d h=>by
   obtain⟨z,h1,h2⟩:=h
   by_cases e:bR n cut=k
   .subst e;exact⟨c,by show aD (bC _ _ _) _=_;rw[gM,if_pos rfl],(Le.of_lt (hlt z h1)).trans h2⟩
   .exact⟨z,by show aD (bC _ _ _) _=_;rw[gM,if_neg e];exact h1,h2⟩
  refine⟨⟨zB _ _ I.fall,λe he=>?_,λe he=>?_,?_,I.once,λy hy=>?_,λe he y hy ek=>?_,λe he=>?_,λk d hd=>?_⟩,⟨rfl,rfl,rfl,le⟩,c,by show aD (bC _ _ _) _=_;rw[gM,if_pos rfl],Le.refl c⟩
  .rcases(hm e).mp he with z|z
   .rw[z];exact g
   .exact I.item e z
  .show ∃d,aD (bC _ _ _) _=_/\_;rw[gM];rcases(hm e).mp he with z|z
   .rw[z,if_pos rfl];exact⟨c,rfl,Le.refl _⟩
   .obtain⟨d,h1,h2⟩:=I.ge e z
    by_cases ek:bR n cut=bR e.2.1 e.2.2
    .rw[if_pos ek];rw[<-ek]at h1;exact⟨c,rfl,(Le.of_lt (hlt d h1)).trans h2⟩
    .rw[if_neg ek];exact⟨d,h1,h2⟩
  .rw[(hp.map qk).nodup_iff,Bb,Cs];refine⟨λz=>?_,I.nd⟩;obtain⟨e,he,eq⟩:=Ay.mp z;obtain⟨d,h1,h2⟩:=I.ge e he;unfold qk at eq;rw[De]at eq;rw[eq.2]at h1;rw[eq.1]at h2;exact rS (rT (hlt d h1) h2)
  .obtain⟨h1,h2,h3⟩:=I.pr y hy;refine⟨?_,h2,h3⟩;show aD (bC _ _ _) _=_;rw[gM,if_neg (Bi (noP y hy))];exact h1
  .rcases(hm e).mp he with z|z
   .rw[z]at ek;exact absurd ek (noP y hy)
   .exact I.fresh e z y hy ek
  .rcases(hm e).mp he with z|z
   .rw[z];exact hc
   .exact I.curq e z
  .have hd:aD (bC st.reached (bR n cut) c) k=some d:=hd;rw[gM]at hd
   by_cases e:bR n cut=k
   .rw[if_pos e]at hd;cases hd;exact .inl ⟨(c,(n,cut)),(hm _).mpr (.inl rfl),rfl,e⟩
   .rw[if_neg e]at hd;rcases I.hit k d hd with⟨x,h1,h2,h3⟩|h
    .exact .inl ⟨x,(hm _).mpr (.inr h1),h2,h3⟩
    .exact .inr h
 unfold reach;cases h:aD st.reached (bR n cut) with
 | none=>exact push λd e=>by rw[h]at e;cases e
 | some d=>
  simp only;split
  .rename_i hl;exact push λd' e=>by rw[h]at e;cases e;exact hl
  .rename_i hl;exact⟨I,j8.refl st,d,h,y9.mpr hl⟩
theorem rX{G:Sr}{P:List cC}{cur:aL}{O:Type}(f:O->Nat×List Int×aL):∀(xs:List O) {st:SS},fI G st P cur->(∀x∈xs,GI G st.best (f x).1 (f x).2.1 (f x).2.2/\Le cur (f x).2.2)->
  fI G (xs.foldl (λst x=>reach st (f x).1 (f x).2.1 (f x).2.2) st) P cur/\j8 st (xs.foldl (λst x=>reach st (f x).1 (f x).2.1 (f x).2.2) st)/\∀x∈xs,fH (xs.foldl (λst x=>reach st (f x).1 (f x).2.1 (f x).2.2) st) (bR (f x).1 (f x).2.1) (f x).2.2
 | [],st,I,_=>⟨I,j8.refl st,λx hx=>nomatch hx⟩
 | x::xs,st,I,h=>by
  obtain⟨h1,h2⟩:=h x Aw;obtain⟨I1,g1,r1⟩:=YR I h1 h2;obtain⟨I2,g2,r2⟩:=rX f xs I1 λy hy=>by
   have:=h y (Ap _ hy);rw[g1.best];exact this
  refine⟨I2,g1.trans g2,λy hy=>?_⟩;rcases Aj.mp hy with z|z
  .rw[z];exact g2.le _ _ r1
  .exact r2 y z
def cT(G:Sr)(n:Nat):Str:=match G.rs[n]? with
 | some r=>r.name
 | none=>""
def dN(G:Sr)(n:Nat)(cut:List Int):Option Str:=match G.rs[n]? with
 | some r=>r.parts[cut.length-1]?
 | none=>none
def cH(G:Sr)(n:Nat)(cut:List Int):a9:=(cT G n,cut.headD 0,cut.getLastD 0)
def settle(G:Sr)(st:SS)(n:Nat)(cut:List Int)(c:aL):SS:=match aD st.best (cH G n cut) with
 | some _=>st
 | none=>((aD st.begun (cT G n,cut.headD 0)).getD []).foldl (λst y=>reach st y.1 (y.2.1++[cut.getLastD 0]) (dR y.2.2 c)) {st with best:=st.best++[(cH G n cut,c,n,cut)],ends:=e8 st.ends (cT G n,cut.headD 0) (cut.getLastD 0,c)}
def fS(st:SS)(n:Nat)(cut:List Int)(c:aL)(part:Str):SS:=((aD st.ends (part,cut.getLastD 0)).getD []).foldl (λst z=>reach st n (cut++[z.1]) (dR c z.2)) {st with begun:=e8 st.begun (part,cut.getLastD 0) (n,cut,c)}
def f7(G:Sr)(st:SS)(n:Nat)(cut:List Int)(c:aL)(part:Str):SS:=(G.steps part (cut.getLastD 0)).foldl (λst z=>reach st n (cut++[z.1]) (c.1+z.2,c.2)) st
def process(G:Sr)(st:SS)(n:Nat)(cut:List Int)(c:aL):SS:=match dN G n cut with
 | none=>settle G st n cut c
 | some part=>if G.own part=true then fS st n cut c part else f7 G st n cut c part
structure Ob(G:Sr)(st:SS)(P:List cC)(cur:aL):Prop where
 zero:Le (0,0) cur
 fin:∀y∈P,dN G y.1 y.2.1=none->∃m k,aD st.best (cH G y.1 y.2.1)=some (m,k)/\Le m y.2.2
 wrd:∀y∈P,∀part,dN G y.1 y.2.1=some part->G.own part=false->∀z∈G.steps part (y.2.1.getLastD 0),fH st (bR y.1 (y.2.1++[z.1])) (y.2.2.1+z.2,y.2.2.2)
 nam:∀y∈P,∀part,dN G y.1 y.2.1=some part->G.own part=true->y∈(aD st.begun (part,y.2.1.getLastD 0)).getD []
 pair:∀key,∀y∈(aD st.begun key).getD [],∀z∈(aD st.ends key).getD [],fH st (bR y.1 (y.2.1++[z.1])) (dR y.2.2 z.2)
 bgn:∀key,∀y∈(aD st.begun key).getD [],y∈P/\dN G y.1 y.2.1=some key.1/\G.own key.1=true/\y.2.1.getLastD 0=key.2/\Le (0,0) y.2.2
 ends:∀nm b e m,(e,m)∈(aD st.ends (nm,b)).getD []↔∃k,aD st.best (nm,b,e)=some (m,k)
 bst:∀f m n cut,aD st.best f=some (m,n,cut)->dN G n cut=none/\f=cH G n cut/\Le (0,0) m/\Le m cur
 ord:∀pre e post,st.best=pre++e::post->GI G pre e.2.2.1 e.2.2.2 e.2.1/\aD pre e.1=none
theorem YS{a b:aL}(h:Le (0,0) b):Le a (dR a b):=by unfold Le dR at *;simp only at *;lia
theorem YT{a b:aL}(h:Le (0,0) b):Le a (dR b a):=by unfold Le dR at *;simp only at *;lia
theorem YU{G:Sr}{st:SS}{P:List cC}{cur c:aL}{n:Nat}{cut:List Int}{q':List (aL×List (Nat×List Int))}(I:fI G st P cur)(ht:iI st.q=some (c,(n,cut),q'))(hr:aD st.reached (bR n cut)=some c):fI G {st with q:=q'} (P++[(n,cut,c)]) c/\Le cur c/\GI G st.best n cut c:=by
 have hne:st.q≠[]:=λe=>by rw[e]at ht;cases ht
 obtain⟨d,x,q1,e1,f1,m1,l1,c1,_⟩:=oH I.fall hne;rw[ht]at e1;simp only[Ge,De]at e1;obtain⟨rfl,rfl,rfl⟩:=e1;have hp:=zC I.fall ht;have hin:(c,(n,cut))∈bB st.q:=(m1 _).mpr (.inl rfl);have sub:∀e∈bB q',e∈bB st.q:=λe he=>(m1 e).mpr (.inr he);have hcur:=I.curq _ hin;have hnd:=I.nd;rw[(hp.map qk).nodup_iff,Bb,Cs]at hnd;have hmin:∀e∈bB q',Le c e.1:=λe he=>by
  obtain⟨b,hb,eb⟩:=IG (sub e he);rw[<-eb];exact c1 b hb
 have noP:∀y∈P,mD y≠bR n cut:=λy hy e=>by
  have h1:=I.fresh _ hin y hy e;obtain⟨h2,_,_⟩:=I.pr y hy;rw[e,hr]at h2;cases h2;exact rS h1
 refine⟨⟨f1,λe he=>I.item e (sub e he),λe he=>I.ge e (sub e he),hnd.2,?_,λy hy=>?_,λe he y hy ek=>?_,hmin,λk d hd=>?_⟩,hcur,I.item _ hin⟩
 .rw[Bc,Fi];refine⟨I.once,by simp,λa ha b hb e=>?_⟩;obtain⟨y,hy,rfl⟩:=Ay.mp ha;rw[List.map_singleton,Am]at hb;exact noP y hy (by rw[e,hb];rfl)
 .rcases Bo.mp hy with z|z
  .obtain⟨h1,h2,h3⟩:=I.pr y z;exact⟨h1,h2.trans hcur,h3⟩
  .rw[Am.mp z];exact⟨hr,Le.refl _,I.item _ hin⟩
 .rcases Bo.mp hy with z|z
  .exact I.fresh e (sub e he) y z ek
  .have hy':=Am.mp z;subst hy';have h1:=hmin e he;have hne:e.1≠c:=λe1=>hnd.1 (Ay.mpr ⟨e,he,by
    have ek':bR n cut=bR e.2.1 e.2.2:=ek;show(e.1,bR e.2.1 e.2.2)=(c,bR n cut);rw[e1,ek']⟩)
   show cS c e.1=true;cases hh:cS c e.1 with
   | true=>rfl
   | false=>exact absurd (Le.antisymm (y9.mpr (by rw[hh];decide)) h1) hne
 .rcases I.hit k d hd with⟨e,h1,h2,h3⟩|⟨y,h1,h2⟩
  .rcases(m1 e).mp h1 with z|z
   .subst z;exact .inr ⟨(n,cut,c),Cf _ (Am.mpr rfl),h3,h2⟩
   .exact .inl ⟨e,z,h2,h3⟩
  .exact .inr ⟨y,Ci _ h1,h2⟩
theorem YV{G:Sr}{st:SS}{P:List cC}{cur c d:aL}{n:Nat}{cut:List Int}{q':List (aL×List (Nat×List Int))}(I:fI G st P cur)(ht:iI st.q=some (c,(n,cut),q'))(hr:aD st.reached (bR n cut)=some d)(hd:cS d c=true):fI G {st with q:=q'} P c/\Le cur c:=by
 have hne:st.q≠[]:=λe=>by rw[e]at ht;cases ht
 obtain⟨d1,x,q1,e1,f1,m1,l1,c1,_⟩:=oH I.fall hne;rw[ht]at e1;simp only[Ge,De]at e1;obtain⟨rfl,rfl,rfl⟩:=e1;have hp:=zC I.fall ht;have hin:(c,(n,cut))∈bB st.q:=(m1 _).mpr (.inl rfl);have sub:∀e∈bB q',e∈bB st.q:=λe he=>(m1 e).mpr (.inr he);have hcur:=I.curq _ hin;have hnd:=I.nd;rw[(hp.map qk).nodup_iff,Bb,Cs]at hnd;refine⟨⟨f1,λe he=>I.item e (sub e he),λe he=>I.ge e (sub e he),hnd.2,I.once,λy hy=>?_,λe he y hy ek=>I.fresh e (sub e he) y hy ek,λe he=>?_,λk d2 hd2=>?_⟩,hcur⟩
 .obtain⟨h1,h2,h3⟩:=I.pr y hy;exact⟨h1,h2.trans hcur,h3⟩
 .obtain⟨b,hb,eb⟩:=IG (sub e he);rw[<-eb];exact c1 b hb
 .rcases I.hit k d2 hd2 with⟨e,h1,h2,h3⟩|h
  .rcases(m1 e).mp h1 with z|z
   .subst z;have h3:bR n cut=k:=h3;have h2:c=d2:=h2;have hd2':aD st.reached k=some d2:=hd2;rw[<-h3,hr]at hd2';cases hd2';rw[<-h2]at hd;exact absurd hd rS
   .exact .inl ⟨e,z,h2,h3⟩
  .exact .inr h
theorem Ob.later{G:Sr}{st:SS}{P:List cC}{cur c:aL}(o:Ob G st P cur)(h:Le cur c)(q':List (aL×List (Nat×List Int))):Ob G {st with q:=q'} P c:=
 ⟨o.zero.trans h,o.fin,o.wrd,o.nam,o.pair,o.bgn,o.ends,λf m n cut e=>let ⟨h1,h2,h3,h4⟩:=o.bst f m n cut e;⟨h1,h2,h3,h4.trans h⟩,o.ord⟩
theorem GI.rule{G:Sr}{B:bN}{n:Nat}{cut:List Int}{c:aL}(g:GI G B n cut c):∃r,G.rs[n]? = some r:=by
 cases g with
 | start a _=>exact⟨_,a⟩
 | word _ a _ _ _=>exact⟨_,a⟩
 | name _ a _ _ _=>exact⟨_,a⟩
theorem part_of{G:Sr}{n:Nat}{cut:List Int}{r:a7}(h:G.rs[n]? = some r):dN G n cut=r.parts[cut.length-1]?:=by unfold dN;rw[h]
theorem jO{O:Type}{P:List O}{x y:O}(h:y∈P++[x]):y∈P\/y=x:=by
 rcases Bo.mp h with z|z
 .exact .inl z
 .exact .inr (Am.mp z)
theorem YW{G:Sr}(ok:oJ G){st:SS}{P:List cC}{c:aL}{n:Nat}{cut:List Int}{part:Str}(I:fI G st (P++[(n,cut,c)]) c)(o:Ob G st P c)(g:GI G st.best n cut c)(hp:dN G n cut=some part)(ho:G.own part=false):
  fI G (f7 G st n cut c part) (P++[(n,cut,c)]) c/\Ob G (f7 G st n cut c part) (P++[(n,cut,c)]) c/\∀k d,fH st k d->fH (f7 G st n cut c part) k d:=by
 obtain⟨r,hr⟩:=g.rule;rw[part_of hr]at hp;obtain⟨I1,g1,r1⟩:=rX (λz:Int×Int=>(n,cut++[z.1],(c.1+z.2,c.2))) (G.steps part (cut.getLastD 0)) I λz hz=>⟨.word g hr hp ho hz,by
  have:=ok.pr _ _ _ _ hz;show Le c (c.1+z.2,c.2);unfold Le;simp only;lia⟩
 refine⟨I1,⟨o.zero,λy hy hn=>?_,λy hy pt h1 h2 z hz=>?_,λy hy pt h1 h2=>?_,λkey y hy z hz=>?_,λkey y hy=>?_,λnm b e m=>?_,λf m n' cut' e=>?_,λpre e post h=>?_⟩,g1.le⟩
 .rcases jO hy with z|z
  .obtain⟨m,k,h1,h2⟩:=o.fin y z hn;exact⟨m,k,by rw[show(f7 G st n cut c part).best=st.best from g1.best];exact h1,h2⟩
  .subst z;rw[part_of hr,hp]at hn;cases hn
 .rcases jO hy with q|q
  .exact g1.le _ _ (o.wrd y q pt h1 h2 z hz)
  .subst q;rw[part_of hr,hp]at h1;cases h1;exact r1 z hz
 .rcases jO hy with q|q
  .rw[show(f7 G st n cut c part).begun=st.begun from g1.begun];exact o.nam y q pt h1 h2
  .subst q;rw[part_of hr,hp]at h1;cases h1;rw[ho]at h2;cases h2
 .rw[show(f7 G st n cut c part).begun=st.begun from g1.begun]at hy;rw[show(f7 G st n cut c part).ends=st.ends from g1.ends]at hz;exact g1.le _ _ (o.pair key y hy z hz)
 .rw[show(f7 G st n cut c part).begun=st.begun from g1.begun]at hy;obtain⟨h1,h2⟩:=o.bgn key y hy;exact⟨Ci _ h1,h2⟩
 .rw[show(f7 G st n cut c part).ends=st.ends from g1.ends,show(f7 G st n cut c part).best=st.best from g1.best];exact o.ends nm b e m
 .rw[show(f7 G st n cut c part).best=st.best from g1.best]at e;exact o.bst f m n' cut' e
 .rw[show(f7 G st n cut c part).best=st.best from g1.best]at h;exact o.ord pre e post h
theorem YX{G:Sr}{st:SS}{P:List cC}{c:aL}{n:Nat}{cut:List Int}{part:Str}(I:fI G st (P++[(n,cut,c)]) c)(o:Ob G st P c)(g:GI G st.best n cut c)(hp:dN G n cut=some part)(ho:G.own part=true):
  fI G (fS st n cut c part) (P++[(n,cut,c)]) c/\Ob G (fS st n cut c part) (P++[(n,cut,c)]) c/\∀k d,fH st k d->fH (fS st n cut c part) k d:=by
 obtain⟨r,hr⟩:=g.rule;have hp0:=hp;rw[part_of hr]at hp;obtain⟨I1,g1,r1⟩:=rX (G:=G) (P:=P++[(n,cut,c)]) (cur:=c) (st:={st with begun:=e8 st.begun (part,cut.getLastD 0) (n,cut,c)}) (λz:Int×aL=>(n,cut++[z.1],dR c z.2)) ((aD st.ends (part,cut.getLastD 0)).getD []) ⟨I.fall,I.item,I.ge,I.nd,I.once,I.pr,I.fresh,I.curq,I.hit⟩ λz hz=>by
  obtain⟨k,hk⟩:=(o.ends part (cut.getLastD 0) z.1 z.2).mp hz;exact⟨.name g hr hp ho hk,YS (o.bst _ _ _ _ hk).2.2.1⟩
 have hb:(fS st n cut c part).best=st.best:=g1.best;have he:(fS st n cut c part).ends=st.ends:=g1.ends;have hg:(fS st n cut c part).begun=e8 st.begun (part,cut.getLastD 0) (n,cut,c):=g1.begun;have hbeg:∀key y,y∈(aD (fS st n cut c part).begun key).getD []↔y∈(aD st.begun key).getD []\/(part,cut.getLastD 0)=key/\y=(n,cut,c):=λkey y=>by
  rw[hg,rV]
  by_cases h:(part,cut.getLastD 0)=key
  .rw[if_pos h,Bo,Am];exact⟨λz=>z.imp id λq=>⟨h,q⟩,λz=>z.imp id λq=>q.2⟩
  .rw[if_neg h];exact⟨.inl,λz=>z.elim id λq=>absurd q.1 h⟩
 refine⟨I1,⟨o.zero,λy hy hn=>?_,λy hy pt h1 h2 z hz=>?_,λy hy pt h1 h2=>?_,λkey y hy z hz=>?_,λkey y hy=>?_,λnm b e m=>?_,λf m n' cut' e=>?_,λpre e post h=>?_⟩,g1.le⟩
 .rcases jO hy with z|z
  .rw[hb];exact o.fin y z hn
  .subst z;rw[hp0]at hn;cases hn
 .rcases jO hy with q|q
  .exact g1.le _ _ (o.wrd y q pt h1 h2 z hz)
  .subst q;rw[hp0]at h1;cases h1;rw[ho]at h2;cases h2
 .rw[hbeg];rcases jO hy with q|q
  .exact .inl (o.nam y q pt h1 h2)
  .subst q;rw[hp0]at h1;cases h1;exact .inr ⟨rfl,rfl⟩
 .rw[he]at hz;rcases(hbeg key y).mp hy with q|⟨q1,q2⟩
  .exact g1.le _ _ (o.pair key y q z hz)
  .subst q2;rw[<-q1]at hz;exact r1 z hz
 .rcases(hbeg key y).mp hy with q|⟨q1,q2⟩
  .obtain⟨h1,h2⟩:=o.bgn key y q;exact⟨Ci _ h1,h2⟩
  .subst q2;rw[<-q1];exact⟨Cf _ (Am.mpr rfl),hp0,ho,rfl,o.zero⟩
 .rw[he,hb];exact o.ends nm b e m
 .rw[hb]at e;exact o.bst f m n' cut' e
 .rw[hb]at h;exact o.ord pre e post h
theorem YY{G:Sr}{st:SS}{P:List cC}{c:aL}{n:Nat}{cut:List Int}(I:fI G st (P++[(n,cut,c)]) c)(o:Ob G st P c)(g:GI G st.best n cut c)(hp:dN G n cut=none):
  fI G (settle G st n cut c) (P++[(n,cut,c)]) c/\Ob G (settle G st n cut c) (P++[(n,cut,c)]) c/\∀k d,fH st k d->fH (settle G st n cut c) k d:=by
 unfold settle;cases hf:aD st.best (cH G n cut) with
 | some v=>
  obtain⟨m,k⟩:=v;obtain⟨_,_,_,hm⟩:=o.bst _ _ _ _ hf;refine⟨I,⟨o.zero,λy hy hn=>?_,λy hy pt h1 h2 z hz=>?_,λy hy pt h1 h2=>?_,o.pair,λkey y hy=>?_,o.ends,o.bst,o.ord⟩,λ_ _ h=>h⟩
  .rcases jO hy with z|z
   .exact o.fin y z hn
   .subst z;exact⟨m,k,hf,hm⟩
  .rcases jO hy with q|q
   .exact o.wrd y q pt h1 h2 z hz
   .subst q;rw[hp]at h1;cases h1
  .rcases jO hy with q|q
   .exact o.nam y q pt h1 h2
   .subst q;rw[hp]at h1;cases h1
  .obtain⟨h1,h2⟩:=o.bgn key y hy;exact⟨Ci _ h1,h2⟩
 | none=>
  simp only;have new:∀f,aD (st.best++[(cH G n cut,c,n,cut)]) f=if cH G n cut=f then some (c,n,cut) else aD st.best f:=λf=>by
   rw[zA]
   by_cases h:cH G n cut=f
   .subst h;rw[if_pos rfl,if_pos rfl,hf];rfl
   .rw[if_neg h,if_neg h,Option.or_none]
  have mono:∀f v,aD st.best f=some v->aD (st.best++[(cH G n cut,c,n,cut)]) f=some v:=λf v h=>by
   rw[new,if_neg (λe=>by rw[<-e,hf]at h;cases h)];exact h
  obtain⟨st1,hst1⟩:∃z:SS,z = {st with best:=st.best++[(cH G n cut,c,n,cut)],ends:=e8 st.ends (cT G n,cut.headD 0) (cut.getLastD 0,c)}:=⟨_,rfl⟩;have b1:st1.best=st.best++[(cH G n cut,c,n,cut)]:=by rw[hst1]
  have e1:st1.ends=e8 st.ends (cT G n,cut.headD 0) (cut.getLastD 0,c):=by rw[hst1]
  have n1:st1.begun=st.begun:=by rw[hst1]
  have r0:st1.reached=st.reached:=by rw[hst1]
  have q0:st1.q=st.q:=by rw[hst1]
  have I0:fI G st1 (P++[(n,cut,c)]) c:=by
   rw[hst1];exact⟨I.fall,λe he=>(I.item e he).mono mono,I.ge,I.nd,I.once,λy hy=>let ⟨h1,h2,h3⟩:=I.pr y hy;⟨h1,h2,h3.mono mono⟩,I.fresh,I.curq,I.hit⟩
  rw[<-hst1];obtain⟨I1,g1,r1⟩:=rX (λy:cC=>(y.1,y.2.1++[cut.getLastD 0],dR y.2.2 c)) ((aD st.begun (cT G n,cut.headD 0)).getD []) I0 λy hy=>by
   obtain⟨h1,h2,h3,h4,h5⟩:=o.bgn _ y hy;obtain⟨_,_,gy⟩:=I.pr y (Ci _ h1);obtain⟨ry,hry⟩:=gy.rule;rw[part_of hry]at h2;refine⟨.name (k:=(n,cut)) (by rw[b1];exact gy.mono mono) hry h2 h3 ?_,YT h5⟩;rw[b1,new,if_pos (by show(cT G n,cut.headD 0,cut.getLastD 0)=(cT G n,y.2.1.getLastD 0,cut.getLastD 0);rw[h4])]
  obtain⟨st2,hst2⟩:∃z,z=((aD st.begun (cT G n,cut.headD 0)).getD []).foldl (λst y=>reach st y.1 (y.2.1++[cut.getLastD 0]) (dR y.2.2 c)) st1:=⟨_,rfl⟩;rw[<-hst2]at I1 g1 r1⊢;have B:st2.best=st.best++[(cH G n cut,c,n,cut)]:=g1.best.trans b1;have E:st2.ends=e8 st.ends (cT G n,cut.headD 0) (cut.getLastD 0,c):=g1.ends.trans e1;have N:st2.begun=st.begun:=g1.begun.trans n1;have le:∀k d,fH st k d->fH st2 k d:=λk d h=>g1.le k d (by
   obtain⟨z,h1,h2⟩:=h;exact⟨z,by rw[r0];exact h1,h2⟩)
  have hends:∀key z,z∈(aD st2.ends key).getD []↔z∈(aD st.ends key).getD []\/(cT G n,cut.headD 0)=key/\z=(cut.getLastD 0,c):=λkey z=>by
   rw[E,rV]
   by_cases h:(cT G n,cut.headD 0)=key
   .rw[if_pos h,Bo,Am];exact⟨λz=>z.imp id λq=>⟨h,q⟩,λz=>z.imp id λq=>q.2⟩
   .rw[if_neg h];exact⟨.inl,λz=>z.elim id λq=>absurd q.1 h⟩
  refine⟨I1,⟨o.zero,λy hy hn=>?_,λy hy pt h1 h2 z hz=>?_,λy hy pt h1 h2=>?_,λkey y hy z hz=>?_,λkey y hy=>?_,λnm b e m=>?_,λf m n' cut' e=>?_,λpre e post h=>?_⟩,le⟩
  .rw[B];rcases jO hy with z|z
   .obtain⟨m,k,h1,h2⟩:=o.fin y z hn;exact⟨m,k,mono _ _ h1,h2⟩
   .subst z;exact⟨c,(n,cut),by rw[new,if_pos rfl],Le.refl _⟩
  .rcases jO hy with q|q
   .exact le _ _ (o.wrd y q pt h1 h2 z hz)
   .subst q;rw[hp]at h1;cases h1
  .rw[N];rcases jO hy with q|q
   .exact o.nam y q pt h1 h2
   .subst q;rw[hp]at h1;cases h1
  .rw[N]at hy;rcases(hends key z).mp hz with q|⟨q1,q2⟩
   .exact le _ _ (o.pair key y hy z q)
   .subst q2;rw[<-q1]at hy;exact r1 y hy
  .rw[N]at hy;obtain⟨h1,h2⟩:=o.bgn key y hy;exact⟨Ci _ h1,h2⟩
  .rw[hends,B,new,o.ends]
   by_cases h:cH G n cut=(nm,b,e)
   .rw[if_pos h];unfold cH at h;simp only[De]at h;obtain⟨rfl,rfl,rfl⟩:=h;constructor
    .rintro(⟨k,hk⟩|⟨_,hk⟩)
     .rw[show(cT G n,cut.headD 0,cut.getLastD 0)=cH G n cut from rfl,hf]at hk;cases hk
     .cases hk;exact⟨(n,cut),rfl⟩
    .rintro⟨k,hk⟩;cases hk;exact .inr ⟨rfl,rfl⟩
   .rw[if_neg h];constructor
    .rintro(hk|⟨h1,h2⟩)
     .exact hk
     .cases h1;cases h2;exact absurd rfl h
    .exact .inl
  .rw[B,new]at e
   by_cases h:cH G n cut=f
   .rw[if_pos h]at e;cases e;exact⟨hp,h.symm,o.zero,Le.refl _⟩
   .rw[if_neg h]at e;exact o.bst f m n' cut' e
  .rw[B]at h;rcases Ea post with z|⟨ps,p,z⟩
   .subst z;have h':=List.append_inj' h rfl;have h2:=h'.2;simp only[Ed,and_true]at h2;rw[<-h'.1,<-h2];exact⟨g,hf⟩
   .rw[Eb]at z;subst z;rw[show pre++e::(ps++[p])=(pre++e::ps)++[p] by simp]at h;have h':=List.append_inj' h rfl;exact o.ord pre e ps h'.1
theorem YZ{G:Sr}(ok:oJ G){st:SS}{P:List cC}{c:aL}{n:Nat}{cut:List Int}(I:fI G st (P++[(n,cut,c)]) c)(o:Ob G st P c)(g:GI G st.best n cut c):
  fI G (process G st n cut c) (P++[(n,cut,c)]) c/\Ob G (process G st n cut c) (P++[(n,cut,c)]) c/\∀k d,fH st k d->fH (process G st n cut c) k d:=by
 unfold process;cases hp:dN G n cut with
 | none=>exact YY I o g hp
 | some part=>
  simp only;cases ho:G.own part with
  | true=>rw[if_pos rfl];exact YX I o g hp ho
  | false=>rw[if_neg (by decide)];exact YW ok I o g hp ho
inductive DI(G:Sr):Nat->List Int->aL->Prop
 | start {n:Nat} {r:a7} {p:Int}:G.rs[n]? = some r->p∈G.places->DI G n [p] (G.wt n,1)
 | word {n:Nat} {r:a7} {cut:List Int} {c:aL} {part:Str} {e pr:Int}:DI G n cut c->G.rs[n]? = some r->r.parts[cut.length-1]? = some part->G.own part=false->(e,pr)∈G.steps part (cut.getLastD 0)->DI G n (cut++[e]) (c.1+pr,c.2)
 | name {n n':Nat} {r:a7} {cut cut':List Int} {c m:aL} {part:Str}:DI G n cut c->G.rs[n]? = some r->r.parts[cut.length-1]? = some part->G.own part=true->DI G n' cut' m->dN G n' cut'=none->cT G n'=part->cut'.headD 0=cut.getLastD 0->DI G n (cut++[cut'.getLastD 0]) (dR c m)
theorem DI.ne{G:Sr}{n:Nat}{cut:List Int}{c:aL}(h:DI G n cut c):cut≠[]:=by cases h<;>simp
theorem IJ{n:Nat}{a b:List Int}{e:Int}(h:bR n a=bR n b)(ha:a≠[])(hb:b≠[]):bR n (a++[e])=bR n (b++[e]):=by
 unfold bR at *;simp only[De,true_and]at h;obtain⟨h1,h2,h3⟩:=h;have hl:∀l:List Int,(l++[e]).getLastD 0=e:=λl=>by simp[Gj]
 rw[hl,hl,Ak,Ak,h1];cases a with
 | nil=>exact absurd rfl ha
 | cons x a=>
  cases b with
  | nil=>exact absurd rfl hb
  | cons y b=>
   simp only[List.headD_cons]at h2;subst h2;rfl
theorem u6{G:Sr}{n n':Nat}{a b:List Int}(h:bR n a=bR n' b):n=n'/\dN G n a=dN G n' b/\cH G n a=cH G n' b/\a.getLastD 0=b.getLastD 0:=by
 unfold bR at h;simp only[De]at h;obtain⟨rfl,h1,h2,h3⟩:=h;refine⟨rfl,?_,?_,h3⟩
 .unfold dN;rw[h1]
 .unfold cH;rw[h2,h3]
def zD(G:Sr)(st:SS):Prop:=∀n r p,G.rs[n]? = some r->p∈G.places->fH st (bR n [p]) (G.wt n,1)
theorem Y0{G:Sr}{st:SS}{P:List cC}{cur:aL}(I:fI G st P cur)(o:Ob G st P cur)(hi:zD G st)(hq:st.q=[]){n:Nat}{cut:List Int}{c:aL}(h:DI G n cut c):fH st (bR n cut) c:=by
 have done:∀{n:Nat} {cut:List Int} {c:aL},fH st (bR n cut) c->∃y∈P,mD y=bR n cut/\Le y.2.2 c:=λ{n cut c} h=>by
  obtain⟨d,h1,h2⟩:=h;rcases I.hit _ _ h1 with⟨e,he,_⟩|⟨y,hy,e1,e2⟩
  .rw[hq]at he;cases he
  .exact⟨y,hy,e1,by rw[e2];exact h2⟩
 induction h with
 | start a b=>exact hi _ _ _ a b
 | @word n r cut c part e pr hd hr hp ho hs ih=>
  obtain⟨y,hy,ek,hle⟩:=done ih;obtain⟨hn,hpt,_,hlast⟩:=u6 (G:=G) ek;have hyn:=(I.pr y hy).2.2.ne;have:=o.wrd y hy part (by rw[hpt,part_of hr];exact hp) ho (e,pr) (by rw[hlast];exact hs);obtain⟨d,h1,h2⟩:=this;refine⟨d,?_,h2.trans ?_⟩
  .have ek':bR n y.2.1=bR n cut:=by rw[<-ek];unfold mD;rw[hn]
   rw[<-IJ ek' hyn hd.ne,<-hn];exact h1
  .unfold Le at hle⊢;simp only at *;lia
 | @name n n' r cut cut' c m part hd hr hp ho hd' hfin hnm hhd ih ih'=>
  obtain⟨y,hy,ek,hle⟩:=done ih;obtain⟨hn,hpt,_,hlast⟩:=u6 (G:=G) ek;obtain⟨y',hy',ek',hle'⟩:=done ih';obtain⟨hn',hpt',hfact,_⟩:=u6 (G:=G) ek';obtain⟨m0,k0,hb,hm0⟩:=o.fin y' hy' (by rw[hpt'];exact hfin);rw[hfact]at hb;have hb':aD st.best (part,cut.getLastD 0,cut'.getLastD 0)=some (m0,k0):=by
   have:cH G n' cut'=(part,cut.getLastD 0,cut'.getLastD 0):=by unfold cH;rw[hnm,hhd]
   rw[<-this];exact hb
  have hz:=(o.ends part (cut.getLastD 0) (cut'.getLastD 0) m0).mpr ⟨k0,hb'⟩;have hyb:=o.nam y hy part (by rw[hpt,part_of hr];exact hp) ho;rw[hlast]at hyb;have hyn:=(I.pr y hy).2.2.ne;obtain⟨d,h1,h2⟩:=o.pair _ y hyb _ hz;refine⟨d,?_,h2.trans (YO hle (hm0.trans hle'))⟩;have ek2:bR n y.2.1=bR n cut:=by rw[<-ek];unfold mD;rw[hn]
  rw[<-IJ ek2 hyn hd.ne,<-hn];exact h1
theorem IK{G:Sr}{st:SS}{P:List cC}{cur:aL}(I:fI G st P cur)(o:Ob G st P cur)(hi:zD G st)(hq:st.q=[]){n:Nat}{cut:List Int}{c:aL}(h:DI G n cut c)(hf:dN G n cut=none):∃m k,aD st.best (cH G n cut)=some (m,k)/\Le m c:=by
 obtain⟨d,h1,h2⟩:=Y0 I o hi hq h;rcases I.hit _ _ h1 with⟨e,he,_⟩|⟨y,hy,e1,e2⟩
 .rw[hq]at he;cases he
 .obtain⟨_,hpt,hfact,_⟩:=u6 (G:=G) e1;obtain⟨m,k,hb,hm⟩:=o.fin y hy (by rw[hpt];exact hf);rw[hfact]at hb;exact⟨m,k,hb,hm.trans (by rw[e2];exact h2)⟩
theorem zE{G:Sr}{B:bN}(h:∀f m n cut,aD B f=some (m,n,cut)->DI G n cut m/\dN G n cut=none/\f=cH G n cut){n:Nat}{cut:List Int}{c:aL}(g:GI G B n cut c):DI G n cut c:=by
 induction g with
 | start a b=>exact .start a b
 | word _ a b c d ih=>exact .word ih a b c d
 | name hgi hr hp ho hb ih=>
  rename_i k;obtain⟨n',cut'⟩:=k;obtain⟨h1,h2,h3⟩:=h _ _ _ _ hb;unfold cH at h3;simp only[De]at h3;obtain⟨e1,e2,e3⟩:=h3;rw[e3];exact .name ih hr hp ho h1 h2 e1.symm e2.symm
theorem mE{U J:Type}[DecidableEq U]{t:List (U×J)}{k:U}{v:J}(h:aD t k=some v):∃a b,t=a++(k,v)::b:=by
 induction t with
 | nil=>cases h
 | cons e t ih=>
  rw[cY]at h
  by_cases hk:e.1=k
  .rw[if_pos hk]at h;cases h;exact⟨[],t,by rw[<-hk];rfl⟩
  .rw[if_neg hk]at h;obtain⟨a,b,rfl⟩:=ih h;exact⟨e::a,b,rfl⟩
theorem Y1{G:Sr}{st:SS}{P:List cC}{cur:aL}(o:Ob G st P cur):∀(k:Nat) (pre:bN) (e:a9×aL×Nat×List Int) (post:bN),pre.length=k->st.best=pre++e::post->DI G e.2.2.1 e.2.2.2 e.2.1:=by
 intro k
 induction k using Lr with
 | _ k ih=>
  intro pre e post hk hb;obtain⟨g,_⟩:=o.ord pre e post hb;refine zE (B:=pre) (λf m n cut hf=>?_) g;obtain⟨a,b,hab⟩:=mE hf;have hb2:st.best=a++(f,m,n,cut)::(b++e::post):=by rw[hb,hab];simp
  have hlen:a.length<k:=by rw[<-hk,hab];simp
  have hd:=ih a.length hlen a _ _ rfl hb2;have hnone:=(o.ord a _ _ hb2).2;have hf2:aD st.best f=some (m,n,cut):=by
   rw[hb2];have:∀{a:bN} {x:a9×aL×Nat×List Int} {r:bN},aD a x.1=none->aD (a++x::r) x.1=some x.2:=by
    intro a
    induction a with
    | nil=>intro x r _;rw[Lm,cY,if_pos rfl]
    | cons y a ih2=>
     intro x r h;rw[cY]at h;rw[List.cons_append,cY]
     by_cases hy:y.1=x.1
     .rw[if_pos hy]at h;cases h
     .rw[if_neg hy]at h⊢;exact ih2 h
   exact this (x:=(f,m,n,cut)) hnone
  obtain⟨h1,h2,_⟩:=o.bst f m n cut hf2;exact⟨hd,h1,h2⟩
theorem rY{G:Sr}{st:SS}{P:List cC}{cur:aL}(o:Ob G st P cur){f:a9}{m:aL}{n:Nat}{cut:List Int}(h:aD st.best f=some (m,n,cut)):DI G n cut m/\dN G n cut=none/\f=cH G n cut:=by
 obtain⟨a,b,hab⟩:=mE h;obtain⟨h1,h2,_⟩:=o.bst f m n cut h;exact⟨Y1 o a.length a _ b rfl hab,h1,h2⟩
theorem IL(st:SS)(n:Nat)(cut:List Int)(c:aL):∃j,j<=1/\(bB (reach st n cut c).q).length=(bB st.q).length+j/\(reach st n cut c).reached.length<=st.reached.length+j:=by
 have push:∃j,j<=1/\(bB (d3 c (n,cut) st.q)).length=(bB st.q).length+j/\(bC st.reached (bR n cut) c).length<=st.reached.length+j:=⟨1,Ai _,u5 _ _ _,u3 _ _ _⟩;unfold reach;cases aD st.reached (bR n cut) with
 | none=>exact push
 | some d=>
  simp only;split
  .exact push
  .exact⟨0,by lia,rfl,by lia⟩
theorem rZ{O:Type}(f:O->Nat×List Int×aL):∀(xs:List O) (st:SS),∃j,j<=xs.length/\(bB (xs.foldl (λst x=>reach st (f x).1 (f x).2.1 (f x).2.2) st).q).length=(bB st.q).length+j/\(xs.foldl (λst x=>reach st (f x).1 (f x).2.1 (f x).2.2) st).reached.length<=st.reached.length+j
 | [],st=>⟨0,Ai _,rfl,Ai _⟩
 | x::xs,st=>by
  obtain⟨j1,h1,h2,h3⟩:=IL st (f x).1 (f x).2.1 (f x).2.2;obtain⟨j2,g1,g2,g3⟩:=rZ f xs (reach st (f x).1 (f x).2.1 (f x).2.2);refine⟨j1+j2,by rw[Br];lia,?_,?_⟩
  .rw[Dl,g2,h2];lia
  .rw[Dl];lia
def gU(G:Sr)(S:Nat)(st:SS)(y:cC):Nat:=match dN G y.1 y.2.1 with
 | none=>0
 | some part=>if G.own part=true then((aD st.ends (part,y.2.1.getLastD 0)).getD []).length else S
structure Cn(G:Sr)(S I0:Nat)(st:SS)(P:List cC)(T:Nat):Prop where
 put:(bB st.q).length+T<=I0+(P.map (gU G S st)).sum
 rch:st.reached.length<=(bB st.q).length+T
 bnd:∀key,((aD st.begun key).getD []).Nodup
 enn:∀key,(((aD st.ends key).getD []).map Dr).Nodup
theorem u7(f:cC->Nat)(P:List cC)(x:cC):((P++[x]).map f).sum=(P.map f).sum+f x:=by simp
theorem zF{G:Sr}{S:Nat}{st st':SS}(h:st'.ends=st.ends):gU G S st'=gU G S st:=by
 funext y;unfold gU;rw[h]
theorem Y2{G:Sr}{S I0 T:Nat}{st:SS}{P:List cC}{c:aL}{n:Nat}{cut:List Int}{part:Str}(C:Cn G S I0 st P T)(hS:∀t p,(G.steps t p).length<=S)(hp:dN G n cut=some part)(ho:G.own part=false):Cn G S I0 (f7 G st n cut c part) (P++[(n,cut,c)]) T:=by
 obtain⟨j,h1,h2,h3⟩:=rZ (λz:Int×Int=>(n,cut++[z.1],(c.1+z.2,c.2))) (G.steps part (cut.getLastD 0)) st;have keep:∀(xs:List (Int×Int)) (st:SS),(xs.foldl (λst z=>reach st n (cut++[z.1]) (c.1+z.2,c.2)) st).ends=st.ends/\(xs.foldl (λst z=>reach st n (cut++[z.1]) (c.1+z.2,c.2)) st).begun=st.begun:=by
  intro xs
  induction xs with
  | nil=>intro st;exact⟨rfl,rfl⟩
  | cons x xs ih=>
   intro st;rw[Dl];obtain⟨e1,e2⟩:=ih (reach st n (cut++[x.1]) (c.1+x.2,c.2));have hr:(reach st n (cut++[x.1]) (c.1+x.2,c.2)).ends=st.ends/\(reach st n (cut++[x.1]) (c.1+x.2,c.2)).begun=st.begun:=by
    unfold reach;split
    .split<;>exact⟨rfl,rfl⟩
    .exact⟨rfl,rfl⟩
   exact⟨e1.trans hr.1,e2.trans hr.2⟩
 obtain⟨k1,k2⟩:=keep (G.steps part (cut.getLastD 0)) st;have k1':(f7 G st n cut c part).ends=st.ends:=k1;have k2':(f7 G st n cut c part).begun=st.begun:=k2;have h2':(bB (f7 G st n cut c part).q).length=(bB st.q).length+j:=h2;have h3':(f7 G st n cut c part).reached.length<=st.reached.length+j:=h3;have hs:=hS part (cut.getLastD 0);have hput:=C.put;have hrch:=C.rch;refine⟨?_,by lia,λkey=>by rw[k2'];exact C.bnd key,λkey=>by rw[k1'];exact C.enn key⟩;rw[zF k1',u7,h2'];have:gU G S st (n,cut,c)=S:=by
  unfold gU;rw[hp];simp only;rw[if_neg (by rw[ho];decide)]
 lia
theorem Y3(st:SS)(n:Nat)(cut:List Int)(c:aL):(reach st n cut c).ends=st.ends/\(reach st n cut c).begun=st.begun/\(reach st n cut c).best=st.best:=by
 unfold reach;split
 .split<;>exact⟨rfl,rfl,rfl⟩
 .exact⟨rfl,rfl,rfl⟩
theorem zG{O:Type}(f:O->Nat×List Int×aL):∀(xs:List O) (st:SS),(xs.foldl (λst x=>reach st (f x).1 (f x).2.1 (f x).2.2) st).ends=st.ends/\(xs.foldl (λst x=>reach st (f x).1 (f x).2.1 (f x).2.2) st).begun=st.begun/\(xs.foldl (λst x=>reach st (f x).1 (f x).2.1 (f x).2.2) st).best=st.best
 | [],st=>⟨rfl,rfl,rfl⟩
 | x::xs,st=>by
  rw[Dl];obtain⟨h1,h2,h3⟩:=zG f xs (reach st (f x).1 (f x).2.1 (f x).2.2);obtain⟨g1,g2,g3⟩:=Y3 st (f x).1 (f x).2.1 (f x).2.2;exact⟨h1.trans g1,h2.trans g2,h3.trans g3⟩
theorem Y4{G:Sr}{S I0 T:Nat}{st:SS}{P:List cC}{cur c:aL}{n:Nat}{cut:List Int}{part:Str}(C:Cn G S I0 st P T)(o:Ob G st P cur)(hnew:(n,cut,c)∉P)(hp:dN G n cut=some part)(ho:G.own part=true):Cn G S I0 (fS st n cut c part) (P++[(n,cut,c)]) T:=by
 obtain⟨st1,hst1⟩:∃z:SS,z = {st with begun:=e8 st.begun (part,cut.getLastD 0) (n,cut,c)}:=⟨_,rfl⟩;obtain⟨j,h1,h2,h3⟩:=rZ (λz:Int×aL=>(n,cut++[z.1],dR c z.2)) ((aD st.ends (part,cut.getLastD 0)).getD []) st1;obtain⟨k1,k2,_⟩:=zG (λz:Int×aL=>(n,cut++[z.1],dR c z.2)) ((aD st.ends (part,cut.getLastD 0)).getD []) st1;have k1':(fS st n cut c part).ends=st.ends:=by
  have:(fS st n cut c part).ends=st1.ends:=by rw[hst1]at k1⊢;exact k1
  rw[this,hst1]
 have k2':(fS st n cut c part).begun=e8 st.begun (part,cut.getLastD 0) (n,cut,c):=by
  have:(fS st n cut c part).begun=st1.begun:=by rw[hst1]at k2⊢;exact k2
  rw[this,hst1]
 have h2':(bB (fS st n cut c part).q).length=(bB st.q).length+j:=by rw[hst1]at h2;exact h2
 have h3':(fS st n cut c part).reached.length<=st.reached.length+j:=by rw[hst1]at h3;exact h3
 have hput:=C.put;have hrch:=C.rch;refine⟨?_,by lia,λkey=>?_,λkey=>by rw[k1'];exact C.enn key⟩
 .rw[zF k1',u7,h2'];have:gU G S st (n,cut,c)=((aD st.ends (part,cut.getLastD 0)).getD []).length:=by
   unfold gU;rw[hp];simp only;rw[if_pos ho]
  lia
 .rw[k2',rV];split
  .rename_i h;rw[Fi];refine⟨C.bnd key,by simp,λa ha b hb e=>?_⟩;rw[Am]at hb;rw[e,hb]at ha;exact hnew (o.bgn key _ ha).1
  .exact C.bnd key
theorem len_sub{O:Type}[DecidableEq O]:∀{a b:List O},a.Nodup->(∀x∈a,x∈b)->a.length<=b.length
 | [],b,_,_=>Ca _
 | x::a,b,hn,hs=>by
  rw[Cs]at hn;have hx:=hs x Aw;have ih:=len_sub (a:=a) (b:=b.erase x) hn.2 λy hy=>by
   have hne:y≠x:=λe=>hn.1 (by rw[<-e];exact hy);exact(List.mem_erase_of_ne hne).mpr (hs y (Ap _ hy))
  rw[List.length_erase_of_mem hx]at ih;have:=List.length_pos_of_mem hx;rw[Br];lia
theorem IM{f g:cC->Nat}{p:cC->Bool}:∀{P:List cC},(∀y∈P,g y=f y+if p y=true then 1 else 0)->(P.map g).sum=(P.map f).sum+(P.filter p).length
 | [],_=>rfl
 | y::P,h=>by
  have ih:=IM (P:=P) λz hz=>h z (Ap _ hz);rw[Bb,Bb,Mo,Mo,ih,h y Aw,Ey];split<;>simp<;>lia
theorem Y5{G:Sr}{S I0 T:Nat}{st:SS}{P:List cC}{cur c:aL}{n:Nat}{cut:List Int}(C:Cn G S I0 st P T)(o:Ob G st P cur)(hp:dN G n cut=none):Cn G S I0 (settle G st n cut c) (P++[(n,cut,c)]) T:=by
 have hdeg0:∀st',gU G S st' (n,cut,c)=0:=λst'=>by unfold gU;rw[hp]
 have hput:=C.put;have hrch:=C.rch;unfold settle;cases hf:aD st.best (cH G n cut) with
 | some v=>
  simp only;refine⟨?_,C.rch,C.bnd,C.enn⟩;rw[u7,hdeg0];lia
 | none=>
  simp only;obtain⟨st1,hst1⟩:∃z:SS,z = {st with best:=st.best++[(cH G n cut,c,n,cut)],ends:=e8 st.ends (cT G n,cut.headD 0) (cut.getLastD 0,c)}:=⟨_,rfl⟩;rw[<-hst1];obtain⟨j,h1,h2,h3⟩:=rZ (λy:cC=>(y.1,y.2.1++[cut.getLastD 0],dR y.2.2 c)) ((aD st.begun (cT G n,cut.headD 0)).getD []) st1;obtain⟨k1,k2,_⟩:=zG (λy:cC=>(y.1,y.2.1++[cut.getLastD 0],dR y.2.2 c)) ((aD st.begun (cT G n,cut.headD 0)).getD []) st1;obtain⟨st2,hst2⟩:∃z,z=((aD st.begun (cT G n,cut.headD 0)).getD []).foldl (λst y=>reach st y.1 (y.2.1++[cut.getLastD 0]) (dR y.2.2 c)) st1:=⟨_,rfl⟩;rw[<-hst2]at h2 h3 k1 k2⊢;have E:st2.ends=e8 st.ends (cT G n,cut.headD 0) (cut.getLastD 0,c):=by rw[k1,hst1]
  have N:st2.begun=st.begun:=by rw[k2,hst1]
  have q1:(bB st1.q).length=(bB st.q).length:=by rw[hst1]
  have r1:st1.reached.length=st.reached.length:=by rw[hst1]
  obtain⟨pk,hpk⟩:∃pk:cC->Bool,pk=λy=>decide (dN G y.1 y.2.1=some (cT G n)/\G.own (cT G n)=true/\y.2.1.getLastD 0=cut.headD 0):=⟨_,rfl⟩;have hsum:(P.map (gU G S st2)).sum=(P.map (gU G S st)).sum+(P.filter pk).length:=IM λy hy=>by
   unfold gU;cases hpt:dN G y.1 y.2.1 with
   | none=>rw[hpk];simp[hpt]
   | some part=>
    simp only;cases ho:G.own part with
    | false=>
     rw[hpk];simp only[hpt,Ge];rw[if_neg (by decide),if_neg (by decide),if_neg (by rw[decide_eq_true_eq];rintro⟨h1,h2,_⟩;rw[<-h1,ho]at h2;cases h2)];rfl
    | true=>
     rw[if_pos rfl,if_pos rfl,E,rV]
     by_cases h:(cT G n,cut.headD 0)=(part,y.2.1.getLastD 0)
     .rw[if_pos h];simp only[De]at h;rw[hpk];simp only[hpt,Ge];rw[if_pos (by rw[decide_eq_true_eq];exact⟨h.1.symm,by rw[h.1];exact ho,h.2.symm⟩)];simp
     .rw[if_neg h];rw[hpk];simp only[hpt,Ge];rw[if_neg (by rw[decide_eq_true_eq];rintro⟨h1,_,h3⟩;exact h (by rw[h1,h3]))];lia
  have hbl:((aD st.begun (cT G n,cut.headD 0)).getD []).length<=(P.filter pk).length:=len_sub (C.bnd _) λy hy=>by
   obtain⟨g1,g2,g3,g4,_⟩:=o.bgn _ y hy;rw[Ej,hpk];exact⟨g1,decide_eq_true ⟨g2,g3,g4⟩⟩
  refine⟨?_,by lia,λkey=>by rw[N];exact C.bnd key,λkey=>?_⟩
  .rw[u7,hdeg0,hsum];lia
  .rw[E,rV];split
   .rename_i h;rw[Bc,Fi];refine⟨C.enn key,by simp,λa ha b hb e=>?_⟩;obtain⟨z,hz,rfl⟩:=Ay.mp ha;rw[List.map_singleton,Am]at hb;rw[<-h]at hz;obtain⟨k,hk⟩:=(o.ends _ _ z.1 z.2).mp hz;rw[e,hb]at hk;have:aD st.best (cH G n cut)=some (z.2,k):=hk;rw[hf]at this;cases this
   .exact C.enn key
def mF(G:Sr)(st:SS):SS:=match iI st.q with
 | none=>st
 | some (c,(n,cut),q')=>match aD st.reached (bR n cut) with
  | some d=>if cS d c=true then {st with q:=q'} else process G {st with q:=q'} n cut c
  | none=>{st with q:=q'}
structure All(G:Sr)(S I0:Nat)(st:SS)(P:List cC)(cur:aL)(T:Nat):Prop where
 inv:fI G st P cur
 ob:Ob G st P cur
 ini:zD G st
 cn:Cn G S I0 st P T
theorem Cn.q{G:Sr}{S I0 T:Nat}{st:SS}{P:List cC}{q':List (aL×List (Nat×List Int))}(C:Cn G S I0 st P T)(h:(bB st.q).length=(bB q').length+1):Cn G S I0 {st with q:=q'} P (T+1):=by
 have h1:=C.put;have h2:=C.rch;refine⟨?_,?_,C.bnd,C.enn⟩
 .show(bB q').length+(T+1)<=_;rw[zF (st':={st with q:=q'}) (st:=st) rfl];lia
 .show st.reached.length<=(bB q').length+(T+1);lia
theorem Y6{G:Sr}{S I0 T:Nat}{st:SS}{P:List cC}{cur c:aL}{n:Nat}{cut:List Int}(C:Cn G S I0 st P T)(o:Ob G st P cur)(hS:∀t p,(G.steps t p).length<=S)(hnew:(n,cut,c)∉P):Cn G S I0 (process G st n cut c) (P++[(n,cut,c)]) T:=by
 unfold process;cases hp:dN G n cut with
 | none=>exact Y5 C o hp
 | some part=>
  simp only;cases ho:G.own part with
  | true=>rw[if_pos rfl];exact Y4 C o hnew hp ho
  | false=>rw[if_neg (by decide)];exact Y2 C hS hp ho
theorem Y7{G:Sr}(ok:oJ G){S I0 T:Nat}{st:SS}{P:List cC}{cur:aL}(A:All G S I0 st P cur T)(hS:∀t p,(G.steps t p).length<=S)(hq:st.q≠[]):∃P' cur',All G S I0 (mF G st) P' cur' (T+1):=by
 obtain⟨c,x,q',e1,f1,m1,l1,c1,_⟩:=oH A.inv.fall hq;obtain⟨n,cut⟩:=x;have hin:(c,(n,cut))∈bB st.q:=(m1 _).mpr (.inl rfl);obtain⟨d,hd,hle⟩:=A.inv.ge _ hin;unfold mF;rw[e1];simp only;rw[hd];simp only
 by_cases hl:cS d c=true
 .rw[if_pos hl];obtain⟨I1,hc⟩:=YV A.inv e1 hd hl;exact⟨P,c,I1,A.ob.later hc q',A.ini,A.cn.q l1⟩
 .rw[if_neg hl];have hdc:d=c:=Le.antisymm hle (y9.mpr hl);subst hdc;obtain⟨I1,hc,g⟩:=YU A.inv e1 hd;have o1:=A.ob.later hc q';obtain⟨I2,o2,le2⟩:=YZ ok I1 o1 g;refine⟨_,_,I2,o2,λn r p h1 h2=>le2 _ _ (A.ini n r p h1 h2),Y6 (A.cn.q l1) o1 hS λhm=>?_⟩;have hn:=I1.once;rw[Bc,Fi]at hn;exact hn.2.2 _ (Ay.mpr ⟨_,hm,rfl⟩) _ (by simp) rfl
def gV:SS:=⟨[],[],[],[],[]⟩
def j9(G:Sr):List (Nat×Int):=(Eg G.rs.length).flatMap λn=>G.places.map λp=>(n,p)
def k9(G:Sr):SS:=(j9 G).foldl (λst x=>reach st x.1 [x.2] (G.wt x.1,1)) gV
theorem Y8{G:Sr}(ok:oJ G)(S:Nat):All G S (j9 G).length (k9 G) [] (0,0) 0:=by
 have I0:fI G gV [] (0,0):=⟨trivial,(λe he=>nomatch he),(λe he=>nomatch he),Cq,Cq,(λy hy=>nomatch hy),(λe he=>nomatch he),(λe he=>nomatch he),(λk d hd=>nomatch hd)⟩;have hmem:∀x∈j9 G,(∃r,G.rs[x.1]? = some r)/\x.2∈G.places:=λx hx=>by
  obtain⟨n,hn,hx⟩:=Dz.mp hx;obtain⟨p,hp,rfl⟩:=Ay.mp hx;exact⟨⟨_,Au (Hy.mp hn)⟩,hp⟩
 obtain⟨I1,g1,r1⟩:=rX (λx:Nat×Int=>(x.1,[x.2],(G.wt x.1,(1:Int)))) (j9 G) I0 λx hx=>by
  obtain⟨⟨r,hr⟩,hp⟩:=hmem x hx;refine⟨.start hr hp,?_⟩;have:=ok.wt x.1;show Le (0,0) (G.wt x.1,1);unfold Le;simp only;lia
 obtain⟨j,h1,h2,h3⟩:=rZ (λx:Nat×Int=>(x.1,[x.2],(G.wt x.1,(1:Int)))) (j9 G) gV;have b0:(k9 G).best=[]:=g1.best;have e0:(k9 G).ends=[]:=g1.ends;have n0:(k9 G).begun=[]:=g1.begun;refine⟨I1,⟨Le.refl _,(λy hy=>nomatch hy),(λy hy=>nomatch hy),(λy hy=>nomatch hy),λkey y hy=>?_,λkey y hy=>?_,λnm b e m=>?_,λf m n cut e=>?_,λpre e post h=>?_⟩,λn r p hr hp=>?_,⟨?_,?_,λkey=>?_,λkey=>?_⟩⟩
 .rw[n0]at hy;cases hy
 .rw[n0]at hy;cases hy
 .rw[e0,b0];exact⟨(λz=>nomatch z),(λ⟨k,hk⟩=>nomatch hk)⟩
 .rw[b0]at e;cases e
 .rw[b0]at h;cases pre<;>cases h
 .exact r1 (n,p) (Dz.mpr ⟨n,Hy.mpr (An.mp hr).1,Ay.mpr ⟨p,hp,rfl⟩⟩)
 .have h2:(bB (k9 G).q).length=(bB gV.q).length+j:=h2;have:(bB gV.q).length=0:=rfl;simp only[Fu,List.sum_nil];lia
 .have h2:(bB (k9 G).q).length=(bB gV.q).length+j:=h2;have h3:(k9 G).reached.length<=gV.reached.length+j:=h3;have e1:(bB gV.q).length=0:=rfl;have e2:gV.reached.length=0:=rfl;lia
 .rw[n0];exact Cq
 .rw[e0];exact Cq
structure r6(G:Sr)(V:List Int)(N L:Nat):Prop where
 pl:∀p∈G.places,p∈V
 st:∀t p e c,p∈V->(e,c)∈G.steps t p->e∈V
 few:G.rs.length<=N
 len:∀r∈G.rs,r.parts.length+1<=L
theorem pZ{l:List Int}(h:l≠[]):l.getLastD 0∈l:=by
 rcases Ea l with z|⟨a,b,z⟩
 .exact absurd z h
 .rw[z,Eb];simp[Gj]
theorem zH{l:List Int}(h:l≠[]):l.headD 0∈l:=by
 cases l with
 | nil=>exact absurd rfl h
 | cons a b=>simp
theorem p0{G:Sr}{V:List Int}{N L:Nat}(v:r6 G V N L){n:Nat}{cut:List Int}{c:aL}(h:DI G n cut c):(∀x∈cut,x∈V)/\n<N/\cut.length<=L:=by
 induction h with
 | @start n r p hr hp=>
  have hn:=(An.mp hr).1;have:=v.len r (Bg hr);have:=v.few;exact⟨λx hx=>by rw[Am.mp hx];exact v.pl p hp,by lia,by simp;lia⟩
 | @word n r cut c part e pr hd hr hp ho hs ih=>
  obtain⟨h1,h2,h3⟩:=ih;have hl:=(An.mp hp).1;have:=v.len r (Bg hr);have hne:=Fy.mpr hd.ne;refine⟨λx hx=>?_,h2,by rw[Ak,Bl];lia⟩;rcases Bo.mp hx with z|z
  .exact h1 x z
  .rw[Am.mp z];exact v.st _ _ _ _ (h1 _ (pZ hd.ne)) hs
 | @name n n' r cut cut' c m part hd hr hp ho hd' hf hn hh ih ih'=>
  obtain⟨h1,h2,h3⟩:=ih;obtain⟨g1,_,_⟩:=ih';have hl:=(An.mp hp).1;have:=v.len r (Bg hr);have hne:=Fy.mpr hd.ne;refine⟨λx hx=>?_,h2,by rw[Ak,Bl];lia⟩;rcases Bo.mp hx with z|z
  .exact h1 x z
  .rw[Am.mp z];exact g1 _ (pZ hd'.ne)
def u9(V:List Int)(N L:Nat):List K4:=(Eg N).flatMap λn=>(Eg (L+1)).flatMap λl=>V.flatMap λa=>V.map λb=>(n,l,a,b)
theorem p5{O J:Type}{f:O->List J}{k:Nat}:∀{l:List O},(∀x∈l,(f x).length=k)->(l.flatMap f).length=l.length*k
 | [],_=>by simp
 | x::l,h=>by
  rw[List.flatMap_cons,Ak,h x Aw,p5 λy hy=>h y (Ap _ hy),Br,Nat.succ_mul];lia
theorem Y9(V:List Int)(N L:Nat):(u9 V N L).length=N*((L+1)*(V.length*V.length)):=by
 unfold u9;rw[p5 (k:=(L+1)*(V.length*V.length)) λn _=>?_,Jd];rw[p5 (k:=V.length*V.length) λl _=>?_,Jd];rw[p5 (k:=V.length) λa _=>by rw[Ab]]
theorem IP{G:Sr}{V:List Int}{N L S I0 T:Nat}{st:SS}{P:List cC}{cur:aL}(v:r6 G V N L)(A:All G S I0 st P cur T):P.length<=N*((L+1)*(V.length*V.length))/\(∀key,((aD st.ends key).getD []).length<=V.length)/\(bB st.q).length+T<=I0+N*((L+1)*(V.length*V.length))*(S+V.length):=by
 have hin:∀{B:bN} {n cut c},B=st.best->GI G B n cut c->DI G n cut c:=λ{B n cut c} e g=>zE (B:=B) (λf m n' cut' h=>rY A.ob (by rw[<-e];exact h)) g;have hP:P.length<=N*((L+1)*(V.length*V.length)):=by
  have:=len_sub (b:=u9 V N L) A.inv.once λk hk=>by
   obtain⟨y,hy,rfl⟩:=Ay.mp hk;have hd:=hin rfl (A.inv.pr y hy).2.2;obtain⟨h1,h2,h3⟩:=p0 v hd;unfold u9;refine Dz.mpr ⟨y.1,Hy.mpr h2,Dz.mpr ⟨y.2.1.length,Hy.mpr (by lia),Dz.mpr ⟨_,h1 _ (zH hd.ne),Ay.mpr ⟨_,h1 _ (pZ hd.ne),rfl⟩⟩⟩⟩
  rw[Ab,Y9]at this;exact this
 have hE:∀key,((aD st.ends key).getD []).length<=V.length:=λkey=>by
  have:=len_sub (b:=V) (A.cn.enn key) λe he=>by
   obtain⟨z,hz,rfl⟩:=Ay.mp he;obtain⟨k,hk⟩:=(A.ob.ends key.1 key.2 z.1 z.2).mp hz;obtain⟨n,cut⟩:=k;obtain⟨hd,_,hf⟩:=rY A.ob hk;unfold cH at hf;simp only[De]at hf;rw[hf.2.2];exact(p0 v hd).1 _ (pZ hd.ne)
  rw[Ab]at this;exact this
 refine⟨hP,hE,?_⟩;have hsum:(P.map (gU G S st)).sum<=P.length*(S+V.length):=by
  have hd:∀y,gU G S st y<=S+V.length:=λy=>by
   unfold gU;split
   .lia
   .rename_i part _;split
    .have:=hE (part,y.2.1.getLastD 0);lia
    .lia
  have:∀l:List cC,(l.map (gU G S st)).sum<=l.length*(S+V.length):=by
   intro l
   induction l with
   | nil=>simp
   | cons y l ih=>rw[Bb,Mo,Br,Nat.succ_mul];have:=hd y;lia
  exact this P
 have h1:=A.cn.put;have h2:P.length*(S+V.length)<=N*((L+1)*(V.length*V.length))*(S+V.length):=Nat.mul_le_mul_right _ hP;lia
theorem zJ{O:Type}{l:List O}{k:Nat}{x:O}(h:l[k]? = some x):l.take (k+1)=l.take k++[x]:=by
 rw[List.take_succ,h];rfl
end Rg
namespace L3
open PySem Spec PyProof.Rows L2
section
variable {ws:List W}{g:e7}{tb:aJ}{D:D3}{τ:S3}{M:Mm}
theorem xI{O:Sort _}{p K:O->Prop}{w:O}(h:p w)(k:K w):∃w,p w/\K w:=⟨w,h,k⟩
theorem mG(Pv:Nat->S3->Mm->Prop)(h0:Pv 0 τ M)(hs:∀i w τ M,ws[i]? = some w->Pv i τ M->g w τ M λτ2 M2=>tb {D with nx:=λτ' M'=>∃M'',Sub M'' M'/\Pv (i+1) τ' M'',ct:=λτ' M'=>∃M'',Sub M'' M'/\Pv (i+1) τ' M'',bk:=D.nx} τ2 M2)(hd:∀τ M,Pv ws.length τ M->D.nx τ M):rJ ws (λ_=>True) g tb D τ M:=pU Pv h0 (λ_ _ _ _ _=>trivial) hs hd
theorem iW(Pv:Nat->S3->Mm->Prop)(h0:Pv 0 τ M)(hs:∀i w τ M,ws[i]? = some w->Pv i τ M->∀D':D3,(∀τ M,Pv (i+1) τ M->D'.nx τ M)->g w τ M λτ2 M2=>tb D' τ2 M2)(hd:∀τ M,Pv ws.length τ M->D.nx τ M):rJ ws (λ_=>True) g tb D τ M:=mG Pv h0 (λi w τ M e p=>hs i w τ M e p _ λ_ M z=>⟨M,Sub.refl _,z⟩) hd
theorem IS{c:d7}(Pv:Nat->S3->Mm->Prop)(h0:∃m,Pv m τ M)(hs:∀m τ M,Pv m τ M->∀D':D3,(∀m' τ M,m'<m->Pv m' τ M->D'.nx τ M)->c τ M λb M1=>if b=true then tb D' τ M1 else D.nx τ M1):pT c tb D τ M:=⟨Pv,h0,λm τ M p=>hs m τ M p _ λm' _ M l z=>⟨m',M,l,Sub.refl _,z⟩⟩
end
end L3
namespace PySem
namespace Dp
open PyProof.Rows L2 PySem.Spec
section
variable {prog:Bt}{w:Cm}{A:Ck}{E:Ae->Ag->Prop}{s:Ag}
theorem ZA:typeLookup (.type "list") "keys" = pure none:=by rw[typeLookup_type,builtinLookup_eq_fast];kernel_rfl
theorem ZC{a:Addr}{xs:Array Ae}{k:Nat}{Q:Option Ae->Ag->Prop}(hx:s.heap.get? a=some {cls:=.type "list",data:=.seq xs k})(hA:A.handled=none)(h:∀h' tk,(∀b o,s.heap.get? b=some o->h'.get? b=some o)->Q none {s with heap:=h',toks:=tk}):Be (Bn prog w) A (getAttr? (.ref a) (Ec "keys")) Q E s:=by
 obtain⟨hp,g,d,tk,os⟩:=s;have hT:∀tk',(⟨hp,g,d,tk',os⟩:Ag).TypeIs (.ref a) "list":=λ_=>⟨_,hx,rfl⟩
 have f1:=sub_AttributeError;have f3:=Lc.lookup;have f4:=Lc.bind (.ref a);have f5:=am_list_getattr_none;unfold getAttr? getAttrBy? getAttrBy
 repeat (any_goals (first|assumption|exact hT _|((with_reducible show Be _ _ (call (Value.builtin "list.__getattribute__") _ _) _ _ _);refine Jz Lc (hT _) am_entry_list_getattribute (F.args_list_getattribute_2 _ _) (meets_getattribute_miss_list a xs k #[] (Ec "keys") _ ZA (by decide +kernel) (by decide +kernel)) ⟨hx,hA,λh' tk' e hx'=>?_⟩)|wp_step))
 obtain⟨t',u',he⟩:=hx'.there;have hx2:=hx'.of.keeps;show Be _ _ (getattributeRaised _ _ _ _ _ _ _) _ _ _;unfold getattributeRaised
 repeat (any_goals (first|assumption|wp_step))
 exact h _ _ hx2
theorem IT:entryFor table "dict.update.loop" = some Mh.«dict.update.loop»:=entryFor_of_tree (by kernel_rfl)
theorem vA:plainId "dict.update.loop" = true:=by decide +kernel
variable {K:Type}[DecidableEq K]{knd:KeyKind prog w K}
theorem ZD(kvs:List (K×Ae))(k:K)(v:Ae):(stored kvs k v).length<=kvs.length+1:=by
 unfold stored;split
 .rw[Ab];lia
 .rw[Ak,Bl];exact Ai _
def all(kvs:List (K×Ae))(ps:List (K×Ae)):List (K×Ae):=ps.foldl (λkvs p=>stored kvs p.1 p.2) kvs
theorem ZE{d I l:Addr}{items:Array Ae}{Dd:Nat->Heap->Prop}{R:Result->Ag->Prop}(hh:A.handled=none)(hdI:d≠I)(hdl:d≠l)(hlI:l≠I)(fr:∀{i h h'},Dd i h->(∀b o,b≠I->h.get? b=some o->h'.get? b=some o)->Dd i h')(st:∀{i:Nat} {t:Ag},i<items.size->Dd i t.heap->∃(a:Addr) (key v:Ae),items[i]? = some (.ref a)/\t.heap.IsTuple a #[key,v]/\∀{E:Ae->Ag->Prop} {Q:Unit->Ag->Prop},(∀h2 tk,Dd (i+1) h2->Eu d t.heap h2->Q () {t with heap:=h2,toks:=tk})->Be (Bn prog w) A.in1 (dictSet d key v) Q E t):
  ∀(k i:Nat) (s:Ag),items.size-i=k->i<=items.size->s.heap.IsListIter I l i->s.heap.IsList l items->Dd i s.heap->
  (∀h' tk,(∀b o,b≠d->b≠I->s.heap.get? b=some o->h'.get? b=some o)->Dd items.size h'->R (.ok (.ret .none)) {s with heap:=h',toks:=tk})->
  Hq (Bn prog w) A (.builtin "dict.update.loop" ⟨[.ref d,.ref I,Jn (i:Int),.none],[]⟩) R s:=by
 intro k
 induction k with
 | zero=>
  intro i s hk hi hit qI hd hR;have hin:i=items.size:=by lia
  refine Jc IT ?_;rw[Gk vA _];show Be _ A.in1 (Im (.ref I)>>=_) _ _ s;have W:=Walks.list (prog:=prog) (w:=w) (A:=A.in1) hh I l hlI items;refine Aa (W.done s _ _ (by rw[<-hin];exact⟨hit,qI⟩) λh' tk hm=>?_);show Be _ A.in1 (Builtin.Dict.addKeywords d []>>=_) _ _ _;rw[hin]at hd;exact Aa (Ah (Ah (hR h' tk (λb o _ hb e=>hm b o (by simp[hb]) e) (fr hd λb o hb e=>hm b o (by simp[hb]) e))))
 | succ k ih=>
  intro i s hk hi hit qI hd hR;have hlt:i<items.size:=by lia
  refine Jc IT ?_;rw[Gk vA _];show Be _ A.in1 (Im (.ref I)>>=_) _ _ s;have W:=Walks.list (prog:=prog) (w:=w) (A:=A.in1) hh I l hlI items;refine Aa (W.item i s _ _ hlt ⟨hit,qI⟩ λv h' tk hv hst hm=>?_);obtain⟨a,key,u,ha,⟨o,ho,hc,n,hd2⟩,go⟩:=st (t:={s with heap:=h',toks:=tk}) hlt (fr hd λb o hb e=>hm b o (by simp[hb]) e);rw[ha]at hv;cases hv;show Be _ A.in1 (Ho [Value.ref a] _>>=_) _ _ _;refine Aa (Cv (Aa (Hb ?_)));unfold Builtin.Dict.pairItems;refine Aa (wpAny_typeOf (T:="tuple") ⟨o,ho,hc⟩ ?_);rw[if_pos (by decide)];refine Aa (Ek ho hd2 (Ah ?_));show Be _ _ (Ho [key,u] (dictSet d key u)) _ _ _;refine Cv (go λh2 tk2 hd3 hs2=>?_);refine Ah ⟨Gh vA _,?_⟩;exact ih (i+1) _ (by lia) hlt (hst.1.at λo e=>(hs2.2 I (Bi hdI)).trans e) (hst.2.at λo e=>(hs2.2 l (Bi hdl)).trans e) hd3 λh3 tk3 hk3 hd4=>hR h3 tk3 (λb o h1 h2 e=>hk3 b o h1 h2 ((hs2.2 b h1).trans (hm b o (by simp[h2]) e))) hd4
theorem callG{l:Addr}{items:Array Ae}{c:Nat}{Dd:Nat->Heap->Prop}{Q:Ae->Ag->Prop}(hh:A.handled=none)(hx:s.heap.get? l=some {cls:=.type "list",data:=.seq items c})(d0:Dd 0 (s.heap.push {cls:=.type "dict",data:=.dict #[]}))(fr:∀{i h h'},Dd i h->(∀b o,@LE.le Nat _ b s.heap.objs.size->h.get? b=some o->h'.get? b=some o)->Dd i h')(st:∀{i:Nat} {t:Ag},i<items.size->Dd i t.heap->(∀b o,s.heap.get? b=some o->t.heap.get? b=some o)->∃(a:Addr) (key v:Ae),items[i]? = some (.ref a)/\s.heap.IsTuple a #[key,v]/\∀{E:Ae->Ag->Prop} {Q:Unit->Ag->Prop},(∀h2 tk,Dd (i+1) h2->Eu s.heap.objs.size t.heap h2->Q () {t with heap:=h2,toks:=tk})->Be (Bn prog w) A.in1.in1 (dictSet s.heap.objs.size key v) Q E t)(h:∀h' tk,(∀b o,s.heap.get? b=some o->h'.get? b=some o)->Dd items.size h'->Q (.ref s.heap.objs.size) {s with heap:=h',toks:=tk}):
  Be (Bn prog w) A (call (.type "dict") [.ref l]) Q E s:=by
 refine callType_codes (Q₁:=λobj s1=>obj=.ref s.heap.objs.size/\s1 = {s with heap:=s.heap.push {cls:=.type "dict",data:=.dict #[]}}) F.kt_called_dict (F.kt_typeCall_dict_1 _) F.entry_dict_init (kt_code_dict_new _ ⟨rfl,rfl⟩) ?_;rintro obj s1 ⟨rfl,rfl⟩;have lt:l<s.heap.objs.size:=Av hx;have hx':(s.heap.push {cls:=.type "dict",data:=.dict #[]}).get? l=some {cls:=.type "list",data:=.seq items c}:=Af _ hx;have hty:({s with heap:=s.heap.push {cls:=.type "dict",data:=.dict #[]}}:Ag).TypeIs (.ref s.heap.objs.size) "dict":=⟨_,Ba _ rfl,rfl⟩;refine⟨hty,F.args_dict_init_2 _ _,?_⟩;unfold Mh.«dict.__init__»;refine Aa ?_;unfold Builtin.Dict.selfAndRest;refine Aa (Jw hty ?_);show Be _ _ (pure (s.heap.objs.size,[Value.ref l])) _ _ _;refine Ah ?_;show Be _ _ (Builtin.Dict.updateFrom "dict.__init__" s.heap.objs.size (.ref l) [] .none) _ _ _;unfold Builtin.Dict.updateFrom;refine Aa (wpAny_typeOf (T:="list") ⟨_,hx',rfl⟩ ?_);rw[if_pos (by decide)];refine Aa (ZC hx' hh λh1 tk1 hk1=>?_);rw[if_pos (by decide)];have hx1:=hk1 _ _ hx';have l1:s.heap.objs.size<h1.objs.size:=Av (hk1 _ _ (Ba _ rfl));refine Aa (Hl (Aa (Jm (items:=items) ⟨_,hx1,rfl,c,rfl⟩ ?_)));have gI:(h1.push {cls:=.type "list_iterator",data:=.fields #[.ref l,.int 0 0]}).IsListIter h1.objs.size l 0:=⟨_,Ba _ rfl,rfl,rfl⟩;have up:∀b o,s.heap.get? b=some o->(h1.push {cls:=.type "list_iterator",data:=.fields #[.ref l,.int 0 0]}).get? b=some o:=λb o e=>Af _ (hk1 b o (Af _ e));have nI:∀{b:Addr},@LE.le Nat _ b s.heap.objs.size->b≠h1.objs.size:=λhb=>Bs (Ft hb l1);refine Ah ⟨Gh vA _,?_⟩;refine ZE (A:=A.in1) (d:=s.heap.objs.size) (I:=h1.objs.size) (l:=l) (items:=items) (Dd:=λi h=>Dd i h/\∀b o,s.heap.get? b=some o->h.get? b=some o) hh (Bs l1) (Dk lt) (Bs (Nat.lt_trans lt l1)) (λ⟨z1,z2⟩ hm=>⟨fr z1 λb o hb e=>hm b o (nI hb) e,λb o e=>hm b o (nI (Hc (Av e))) (z2 b o e)⟩) (λhi ⟨z1,z2⟩=>?_) items.size 0 _ rfl (Ca _) gI ⟨_,Af _ hx1,rfl,c,rfl⟩ ⟨fr d0 λb o _ e=>Af _ (hk1 b o e),up⟩ λh2 tk2 _ hd2=>⟨rfl,h h2 tk2 hd2.2 hd2.1⟩
 obtain⟨a,key,v,g1,⟨o,g2,g3⟩,go⟩:=st hi z1 z2;exact⟨a,key,v,g1,⟨o,z2 a o g2,g3⟩,λk=>go λh2 tk z hs=>k h2 tk ⟨z,λb o e=>(hs.2 b (Bs (Av e))).trans (z2 b o e)⟩ hs⟩
theorem take_at{O:Type}{ps:List O}{i:Nat}{p:O}(h:ps[i]? = some p):ps.take (i+1)=ps.take i++[p]:=by rw[Cd,h];rfl
theorem ZF(ps:List (K×Ae)):∀kvs,(all kvs ps).length<=kvs.length+ps.length:=by
 induction ps with
 | nil=>exact λ_=>Ai _
 | cons p ps ih=>exact λkvs=>Az (ih _) (by have:=ZD kvs p.1 p.2;rw[Br];lia)
theorem call_pairs{l:Addr}{items:Array Ae}{c:Nat}{ps:List (K×Ae)}{Q:Ae->Ag->Prop}(hh:A.handled=none)(hx:s.heap.get? l=some {cls:=.type "list",data:=.seq items c})(hn:ps.length=items.size)(hz:items.size<=Ao)(hp:∀(j:Nat) (p:K×Ae),ps[j]? = some p->∃(a:Addr) (key:Ae),items[j]? = some (.ref a)/\s.heap.IsTuple a #[key,p.2]/\knd.is p.1 key=true)(h:∀h' tk,(∀b o,s.heap.get? b=some o->h'.get? b=some o)->h'.DictOf knd s.heap.objs.size (all [] ps)->Q (.ref s.heap.objs.size) {s with heap:=h',toks:=tk}):
  Be (Bn prog w) A (call (.type "dict") [.ref l]) Q E s:=by
 refine callG (Dd:=λi h=>h.DictOf knd s.heap.objs.size (all [] (ps.take i))) hh hx (Heap.DictOf.new s.heap) (λ⟨o,es,ep,ho,rest⟩ hm=>⟨o,es,ep,hm _ o (Ai _) ho,rest⟩) (λ{i t} hi hd _=>?_) λh' tk e d=>h h' tk e (by rw[<-hn,Bw]at d;exact d);obtain⟨p,hpi⟩:∃p,ps[i]? = some p:=⟨_,Au (by lia)⟩;obtain⟨a,key,g1,g2,g3⟩:=hp i p hpi;have len:=ZF (ps.take i) [];rw[Bq,Jx]at len;refine⟨a,key,p.2,g1,g2,λk=>wpAny_dictSet_pairs g3 hd (λh2 d2 s2=>k h2 _ ?_ s2) (by lia)⟩;rw[take_at hpi,all,Cz];exact d2
end
end Dp
end PySem
namespace L3
open PySem Spec PyProof.Rows L2
section
variable {X:Cx}
def vB(kvs:List (aE×W))(ps:List (aE×W)):List (aE×W):=ps.foldl (λkvs p=>cA kvs p.1 p.2) kvs
def vD(ps:List (aE×W)):List W:=ps.map λp=>.tup [wK p.1,p.2]
theorem IU{pins:List (Addr×Obj)}{Z:L2.St}{H:Hp}{M:Mm}{s:Ag}(I:L2.Inv X pins Z H s):∀{ps:List (aE×W)} {vs:List V} {its:List Ae},aN X.K H M vs (vD ps)->a8 vs its->
  ∃(ks:List (aE×V)) (rs:List (aE×Ae)),bU X.K H M aE ks ps/\KV ks rs/\rs.length=its.length/\
   ∀(j:Nat) (p:aE×Ae),rs[j]? = some p->∃(a:Addr) (key:Ae),its[j]? = some (.ref a)/\s.heap.IsTuple a #[key,p.2]/\(dO X.prog X.w).is p.1 key=true
 | [],_,_,.nil,.nil=>⟨[],[],.nil,.nil,rfl,λj p h=>by simp at h⟩
 | (k,w)::ps,_,_,.cons av avs,.cons rv rvs=>by
  obtain⟨ks,rs,h1,h2,h3,h4⟩:=IU I avs rvs;obtain⟨a,xs,ev,e,q⟩:=av.inv;rw[ev]at rv;obtain⟨u1,u2,ex,a1,a2⟩:=q.two;obtain⟨its2,r2,pl,_⟩:=I.tuple (bS.of e);rw[ex,a1.key]at r2;obtain⟨y1,y2,ey,x1,x2⟩:=vals2 r2;rw[ey]at pl;refine⟨(k,u2)::ks,(k,y2)::rs,.cons ⟨rfl,a2⟩ h1,.cons ⟨rfl,x2⟩ h2,congrArg (· + 1) h3,λj p hj=>?_⟩;cases j with
  | zero=>rw[<-Bx hj];exact⟨a,y1,congrArg some rv,pl,lO x1⟩
  | succ j=>exact h4 j p hj
theorem IV{H:Hp}{M:Mm}:∀{ps:List (aE×W)} {ks:List (aE×V)} {rs:List (aE×Ae)} {kvs:List (aE×W)} {ls:List (aE×V)} {us:List (aE×Ae)},bU X.K H M aE ks ps->KV ks rs->bU X.K H M aE ls kvs->KV ls us->
  ∃ls':List (aE×V),bU X.K H M aE ls' (vB kvs ps)/\KV ls' (Dp.all us rs)/\ls'.length<=ls.length+ps.length
 | [],_,_,_,ls,_,.nil,.nil,h1,h2=>⟨ls,h1,h2,Ai _⟩
 | p::ps,_,_,_,ls,_,.cons (a:=a) x r,.cons (b:=b) y t,h1,h2=>by
  obtain⟨k,w⟩:=p;obtain⟨k1,v⟩:=a;obtain⟨k2,u⟩:=b;obtain⟨x1,x2⟩:=x;obtain⟨y1,y2⟩:=y;cases x1;cases y1;obtain⟨ls',g1,g2,g3⟩:=IV (kvs:=cA _ k w) r t (uJ h1 k x2) (h2.put k y2);have:=pC ls k v;exact⟨ls',g1,g2,by simp at g3⊢;lia⟩
def IW:List W->Mm->K3->Prop
 | [.rl ws],M,R=>∃ps:List (aE×W),ws=vD ps/\ws.length<=Ao/\R (.dk (vB [] ps)) M
 | _,_,_=>False
theorem ZG(hc:X.calm=true):dX X (.type "dict") (iC X.K IW):=by
 rintro pins s Z H xs us Q I rs ⟨ws,M,R,am,axs,h,k⟩
 match ws,h with
 | [.rl ws],h=>
  obtain⟨v,rfl,av⟩:=axs.one;obtain⟨ps,rfl,hz,r⟩:=h;obtain⟨u,rfl,ru⟩:=vals1 rs;cases av with
  | rl f n q=>
   cases ru;obtain⟨z,its,c,rv,hl,e⟩:=I.lstM f;obtain⟨ks,rs',h1,h2,h3,h4⟩:=IU I q rv;obtain⟨ls,g1,g2,g3⟩:=IV h1 h2 .nil .nil;refine Dp.call_pairs (knd:=dO X.prog X.w) (items:=its.toArray) (ps:=rs') (I.ok.hd hc) e (by simpa using h3) (by rw[Bd];lia) (λj p hj=>by simpa using h4 j p hj) λh' tk hk hd=>?_;have hz2:ps.length<=Ao:=by simpa [vD] using hz
   have hfr:=I.hok.fresh (Ai _);refine⟨.ref s.heap.objs.size,aY H s.heap.objs.size (.dK ls),I.laid (o:=.dK ls) (t':=tk) hk (Ai _) ⟨by simp at g3;lia,beq_eq_false_iff_ne.mpr (Bi (Bs I.big)),_,g2,hd⟩,rfl,?_⟩;obtain⟨am2,k2⟩:=am.tup (u:=.dK ls) hfr;exact k _ _ _ _ k2 am2 (.dk cQ (am.nonM hfr) g1.keys (g1.vals.newT hfr)) r
end
section
variable {X:Cx}
def vE(neg:Bool):R3:=λx y M R=>∃ws dx ds,(y=.rl ws\/∃a,y=.ref a/\M a=some (.lst ws))/\Snap M x dx/\iD M ws ds/\n8 dx/\(∀d∈ds,n8 d)/\
 R (.bl (if neg then !(ds.any λd=>Gd d dx) else ds.any λd=>Gd d dx)) M
def p6(h:Heap)(dx:Iu)(u:Ae):Bool:=@decide (∃d as,Reads h u d as/\Gd d dx=true) (Classical.propDecidable _)
theorem IX{h:Heap}{dx d:Iu}{u:Ae}{as:List Addr}(r:Reads h u d as)(hd:d.canLay0=true):p6 h dx u=Gd d dx:=by
 unfold p6;rw[Dy,@decide_eq_true_eq _ (Classical.propDecidable _)];exact⟨λ⟨d',as',r',e⟩=>by rw[SeqAt.Reads.unique d d' u as as' hd r r'];exact e,λe=>⟨d,as,r,e⟩⟩
theorem IY{h:Heap}{dx:Iu}:∀{us:List Ae} {ds:List Iu} {as:List Addr},ReadsAll h us ds as->(∀d∈ds,n8 d)->us.any (p6 h dx)=ds.any λd=>Gd d dx
 | _,_,_,.nil,_=>rfl
 | _,_,_,.cons r t,f=>by
  rw[Er,Er,IX r (f _ Aw).1,IY t λd hd=>f d (Ap _ hd)]
theorem IZ{h:Heap}:∀{us:List Ae} {ds:List Iu} {as:List Addr},ReadsAll h us ds as->∀u∈us,∃d∈ds,∃bs,Reads h u d bs
 | _,_,_,.nil,u,hu=>by cases hu
 | _,_,_,.cons r t,u,hu=>by
  rcases Aj.mp hu with rfl|hu
  .exact⟨_,Aw,_,r⟩
  .obtain⟨d,hd,q⟩:=IZ t u hu;exact⟨d,Ap _ hd,q⟩
theorem ZH{pins:List (Addr×Obj)}{Z:L2.St}{H:Hp}{s:Ag}{M:Mm}{R:K3}{x y:V}{wx wy:W}{v u:Ae}{neg:Bool}(hu:X.A.units+64<Ez)(I:L2.Inv X pins Z H s)(am:AM X.K H M)(ax:AV X.K H M x wx)(ay:AV X.K H M y wy)(rx:RelV x v)(ry:RelV y u)(h:vE neg wx wy M R):
  ∃(l:Addr) (its:Array Ae) (e:Ae->Bool),u=.ref l/\s.heap.IsList l its/\(∀w∈its,SeqAt.EqAt X.A.in1 s w v (e w))/\R (.bl (if neg then !its.any e else its.any e)) M:=by
 obtain⟨ws,dx,ds,hy,sx,ss,fx,fs,q⟩:=h;obtain⟨as,ra⟩:=sx.reads I am ax rx;obtain⟨l,vs,its,rfl,rv,pl,qv⟩:∃(l:Addr) (vs:List V) (its:List Ae),u=.ref l/\a8 vs its/\s.heap.IsList l its.toArray/\aN X.K H M vs ws:=by
  rcases hy with rfl|⟨a,rfl,e⟩
  .cases ay with
   | rl e _ q=>
    cases ry;obtain⟨its,rv,pl,_⟩:=I.list (bK.of e);exact⟨_,_,its,rfl,rv,pl.isList,q⟩
  .cases ay;cases ry;obtain⟨vs,e0,q⟩:=am.lst e;obtain⟨its,rv,pl,_⟩:=I.list (bK.of e0);exact⟨_,_,its,rfl,rv,pl.isList,q⟩
 obtain⟨bs,rb⟩:=ss.reads I am qv rv;refine⟨l,its.toArray,p6 s.heap dx,rfl,pl,λw hw=>?_,?_⟩
 .obtain⟨d,hd,cs,r⟩:=IZ rb w (by simpa using hw);rw[IX r (fs d hd).1];refine SeqAt.eqAt_reads d dx X.A.in1 s w v _ _ r ra (fs d hd).1 fx.1 ?_;have h1:=(fs d hd).2;have h2:X.A.in1.units=X.A.units+1:=rfl;exact Ft (by lia) hu
 .rw[show its.toArray.any (p6 s.heap dx)=its.any (p6 s.heap dx) by simp,IY rb fs];exact q
theorem ZI(hu:X.A.units+64<Ez):bG X (Cb .NotIn) (cL X.K (vE true)):=by
 rintro pins s Z H x y v u Q I rx ry ⟨wx,wy,M,R,am,ax,ay,h,k⟩;obtain⟨l,its,e,rfl,pl,he,q⟩:=ZH hu I am ax ay rx ry h;exact SeqAt.notIn_listAt e pl he ⟨.bl _,H,I,rfl,k.at am (.bl _) q⟩
end
def cD(f:Str)(w:W):List (Str×W)->List (Str×W)
 | []=>[(f,w)]
 | (k,x)::r=>if k=f then(k,w)::r else(k,x)::cD f w r
section
variable {K:Ac}{H:Hp}{M:Mm}
theorem bU.look{f:Str}{w:W}:∀{gs:List (Str×V)} {fs:List (Str×W)},bU K H M Str gs fs->fs.lookup f=some w->∃v,gs.lookup f=some v/\AV K H M v w
 | _,_,.nil,h=>by cases h
 | _,_,.cons (a:=(k,v)) (b:=(k',w')) r t,h=>by
  obtain⟨rfl,av⟩:=r
  by_cases hk:(f==k)=true
  .simp only[Ce,hk]at h⊢;cases h;exact⟨v,rfl,av⟩
  .have hk':(f==k)=false:=by simpa using hk
   simp only[Ce,hk']at h⊢;exact bU.look t h
theorem bU.lookN{f:Str}:∀{gs:List (Str×V)} {fs:List (Str×W)},bU K H M Str gs fs->fs.lookup f=none->gs.lookup f=none
 | _,_,.nil,_=>rfl
 | _,_,.cons (a:=(k,v)) (b:=(k',w')) r t,h=>by
  obtain⟨rfl,av⟩:=r
  by_cases hk:(f==k)=true
  .simp only[Ce,hk]at h;cases h
  .have hk':(f==k)=false:=by simpa using hk
   simp only[Ce,hk']at h⊢;exact bU.lookN t h
theorem bU.putF{f:Str}{v:V}{w:W}(av:AV K H M v w):∀{gs:List (Str×V)} {fs:List (Str×W)},bU K H M Str gs fs->bU K H M Str (L2.putF f v gs) (cD f w fs)
 | _,_,.nil=>.cons ⟨rfl,av⟩ .nil
 | _,_,.cons (a:=(k,v')) (b:=(k',w')) r t=>by
  obtain⟨rfl,av'⟩:=r;show bU K H M Str (if k=f then(k,v)::_ else(k,v')::L2.putF f v _) (if k=f then(k,w)::_ else(k,w')::cD f w _)
  by_cases hk:k=f
  .rw[if_pos hk,if_pos hk];exact .cons ⟨rfl,av⟩ t
  .rw[if_neg hk,if_neg hk];exact .cons ⟨rfl,av'⟩ (bU.putF av t)
theorem bU.len{U:Type}{gs:List (U×V)}{fs:List (U×W)}(h:bU K H M U gs fs):gs.length=fs.length:=by
 have:=congrArg Eh h.keys;simpa using this
end
section
variable {X:Cx}{C:Addr}{f m:Str}{pos apos cpos:Pos}{ta tv:a0}{o e value:Expr}{es:List Expr}{t:dY}{sp:bL}
def dG(C:Addr)(ta:a0)(f:Str):a0:=λτ M R=>ta τ M λx M1=>∃a dx fs w,x=.ref a/\M1 a=some (.ins C dx fs)/\fs.lookup f=some w/\R w M1
theorem d9(c:gZ X.K C)(n:gD X.K C f)(he:E3 X o ta)(hb:Ja o f X.env (eval o X.env)=eval o X.env:=by rfl):E3 X (.Attribute o f pos) (dG C ta f):=
 (R0 he hb).weak λZ H Q z0=>z0.el λτ M R as am h k=>⟨τ,M,_,as,am,h,λx H1 wx M1 k1 am1 ax ⟨a,dx,fs,w,e1,e2,e3,r⟩=>by
  subst e1;obtain rfl:=ax.inv;obtain⟨gs,e4,q⟩:=am1 a _ e2;obtain⟨v,e5,av⟩:=q.look e3;exact⟨a,C,dx,gs,v,rfl,e4,c,n,e5,k _ _ _ _ k1 am1 av r⟩⟩
def kA(C:Addr)(ta:a0)(f:Str)(tv:a0):aJ:=λD τ M=>tv τ M λy M1=>ta τ M1 λx M2=>∃a dx fs,x=.ref a/\M2 a=some (.ins C dx fs)/\fs.length<1000/\D.nx τ (put M2 a (.ins C dx (cD f y fs)))
theorem lA(c:gZ X.K C)(n:gD X.K C f)(ha:E3 X o ta)(hv:E3 X value tv)(hs:Jg value (some (.Attribute o f apos)) pos.line X.env=pure false:=by rfl):P3 X (.Assign [.Attribute o f apos] value pos) (kA C ta f tv):=
 (R1 ha hv hs).weak λD Z H z0=>z0.el λτ M D' as am h k=>⟨τ,M,_,as,am,h,λy H1 wy M1 k1 am1 ay h1=>⟨τ,M1,_,as.kp am k1,am1,h1,λx H2 wx M2 k2 am2 ax ⟨a,dx,fs,e1,e2,hl,r⟩=>by
  subst e1;obtain rfl:=ax.inv;obtain⟨gs,e4,q⟩:=am2 a _ e2;refine⟨a,C,dx,gs,rfl,e4,c,n,by rw[q.len];exact hl,?_⟩;obtain⟨am3,k3⟩:=am2.write (o:=.ins C dx (cD f wy fs)) (u:=.ins C dx (L2.putF f y gs)) e2 ⟨_,cQ,((q.putF (ay.kp am1 k2))).go (pI am2 e2)⟩;exact k.nx _ _ _ _ ((k1.trans k2).trans k3) am3 (((as.kp am k1).kp am1 k2).kp am2 k3) r⟩⟩
variable {k:Nat}{g:Addr}{fd:Bk}{ps:List Str}
def iJ(C:Addr)(m:Str)(sp:bL)(ta:a0)(t:dY):a0:=λτ M R=>ta τ M λx M1=>∃a dx fs,x=.ref a/\M1 a=some (.ins C dx fs)/\fs.lookup m=none/\t τ M1 λws M2=>sp (.ref a::ws) M2 R
theorem ZJ{Z:SV}{H:Hp}{Q:VK}(h:up X.K (iJ C m sp ta t) Z H Q):xH C m (fZ X.K sp) [] E0 (up X.K ta) (pJ X.K t) Z H Q:=by
 obtain⟨τ,M,R,as,am,h,k⟩:=h;refine⟨τ,M,_,as,am,h,λx H1 wx M1 k1 am1 ax ⟨a,dx,fs,e1,e2,e3,h1⟩=>?_⟩;subst e1;obtain rfl:=ax.inv;obtain⟨gs,e4,q⟩:=am1 a _ e2;refine⟨a,dx,gs,rfl,e4,q.lookN e3,τ,M1,_,as.kp am k1,am1,h1,λvs H2 ws M2 k2 am2 avs h2=>⟨.ref a::ws,M2,R,am2,?_,h2,k.kp (k1.trans k2)⟩⟩;rw[Fw];exact .cons (.ref a) avs
theorem nH{pl:Sem Bool}(c:gZ X.K C)(hm:pB X.K C m g)(F:eV X.prog X.w X.K X.mg X.base eW k g fd ps (fZ X.K sp))(hr:cE k X.A)(hb:Binds X.K fd ps [])(he:E3 X o ta)(ha:A3 X (e::es) t)(hst:Bj (e::es) X.env=(false,eval e X.env)::Bj es X.env:=by rfl)(hpl:(Gx pos (Bj es X.env)).any (·.1)=false:=by rfl)(ht:eval (.Call (.Attribute o m apos) (e::es) [] pos) X.env=(do
   let ov <-eval o X.env
   Mz apos.atName
   let (f,first) <-Ho [ov] (Nb ov m pl)
   callWith pos f first (Gx pos (Bj (e::es) X.env)) (backToKw pos (Lf [] X.env))):=by rfl):
  E3 X (.Call (.Attribute o m apos) (e::es) [] pos) (iJ C m sp ta t):=(SG (pl:=pl) he c hm F hr hb .nil pE ha hst hpl ht).weak λ_ _ _ h=>ZJ h
theorem zK{pl:Sem Bool}(c:gZ X.K C)(hm:pB X.K C m g)(F:eV X.prog X.w X.K X.mg X.base eW k g fd ps (fZ X.K sp))(hr:cE k X.A)(hb:Binds X.K fd ps [])(he:E3 X o ta)(ht:eval (.Call (.Attribute o m apos) [] [] pos) X.env=(do
   let ov <-eval o X.env
   Mz apos.atName
   let (f,first) <-Ho [ov] (Nb ov m pl)
   callWith pos f first (Gx pos (Bj [] X.env)) (backToKw pos (Lf [] X.env))):=by rfl):
  E3 X (.Call (.Attribute o m apos) [] [] pos) (iJ C m sp ta aG):=(SH (pl:=pl) he c hm F hr hb .nil pE ht).weak λZ H Q h=>by
 obtain⟨τ,M,R,as,am,h,k⟩:=h;refine⟨τ,M,_,as,am,h,λx H1 wx M1 k1 am1 ax ⟨a,dx,fs,e1,e2,e3,h1⟩=>?_⟩;subst e1;obtain rfl:=ax.inv;obtain⟨gs,e4,q⟩:=am1 a _ e2;exact⟨a,dx,gs,rfl,e4,q.lookN e3,[.ref a],M1,R,am1,.cons (.ref a) .nil,h1,k.kp k1⟩
def vF(C:Addr)(sp:bL)(t:dY):a0:=λτ M R=>t τ M λws M1=>∀a dx,M1 a=none->M1 dx=none->dx≠a->sp (.ref a::ws) (put M1 a (.ins C dx [])) λw M2=>w=.non/\R (.ref a) M2
theorem AM.made{K:Ac}{H:Hp}{M:Mm}{x dx:Addr}(am:AM K H M)(hx:H x=none)(hd:H dx=none)(ne:dx≠x):AM K (aY (aY H dx (.own x)) x (.ins C dx [])) (put M x (.ins C dx []))/\Kp H M (aY (aY H dx (.own x)) x (.ins C dx [])) (put M x (.ins C dx [])):=by
 obtain⟨am1,k1⟩:=am.tup (u:=.own x) hd;have hx1:aY H dx (.own x) x=none:=by rw[bF (Bi ne)];exact hx
 obtain⟨am2,k2⟩:=am1.laid (o:=.ins C dx []) (u:=.ins C dx []) hx1 ⟨[],cQ,.nil⟩;exact⟨am2,k1.trans k2⟩
theorem JA{H:Hp}{M:Mm}{R:K3}{Q:VK}{vs:List V}{ws:List W}(am:AM X.K H M)(avs:aN X.K H M vs ws)(h:∀a dx,M a=none->M dx=none->dx≠a->sp (.ref a::ws) (put M a (.ins C dx [])) λw M2=>w=.non/\R (.ref a) M2)(k:Up X.K H M R Q):
  ∀x dx,H x=none->H dx=none->dx≠x->fZ X.K sp (.ref x::(vs++[])) (aY (aY H dx (.own x)) x (.ins C dx [])) (λv H2=>v=.non/\Q (.ref x) H2) E0:=by
 intro x dx hx hd ne;obtain⟨am1,k1⟩:=am.made (C:=C) hx hd ne;refine⟨.ref x::ws,_,_,am1,?_,h x dx (am.nonM hx) (am.nonM hd) ne,λv H2 w M2 k2 am2 av r=>?_⟩
 .rw[Fw];exact .cons (.ref x) (avs.kp am k1)
 .obtain⟨rfl,r⟩:=r;obtain rfl:=av.inv;exact⟨rfl,k _ _ _ _ (k1.trans k2) am2 (.ref x) r⟩
theorem ZK{x:Str}{p:Pos}(M:Mk X.K C g)(F:eV X.prog X.w X.K X.mg X.base eW k g fd ps (fZ X.K sp))(hr:cE (k+1) X.A)(hg:Gl X x)(hm:X.mg x=some (.ref C))(hb:Binds X.K fd ps [])(ha:A3 X (e::es) t)(hdb:(x==("__debug__" : Str))=false:=by decide)(he:Bj (e::es) X.env=(false,eval e X.env)::Bj es X.env:=by rfl)(hpl:(Gx pos (Bj es X.env)).any (·.1)=false:=by rfl):
  E3 X (.Call (.Name x p) (e::es) [] pos) (vF C sp t):=(SJ M F hr hg hm hb .nil pE ha hdb he hpl).weak λZ H Q z0=>z0.el λτ M R as am h k=>⟨τ,M,_,as,am,h,λvs H1 ws M1 k1 am1 avs h1=>JA am1 avs h1 (k.kp k1)⟩
theorem ZL{x:Str}{p:Pos}(M:Mk X.K C g)(F:eV X.prog X.w X.K X.mg X.base eW k g fd ps (fZ X.K sp))(hr:cE (k+1) X.A)(hg:Gl X x)(hm:X.mg x=some (.ref C))(hb:Binds X.K fd ps [])(hdb:(x==("__debug__" : Str))=false:=by decide):E3 X (.Call (.Name x p) [] [] pos) (vF C sp aG):=(SM M F hr hg hm hb .nil pE hdb).weak λZ H Q z0=>z0.el λτ M R as am h k=>JA am .nil h k
end
end L3
namespace L2
open PySem Spec PyProof.Rows
section
variable {prog:Bt}{w:Cm}{K:Type}[DecidableEq K]{knd:HeapKind prog w K}{A:Ck}{E:Ae->Ag->Prop}{s:Ag}{d a:Addr}{k:K}{xs:List (K×Addr×Ae)}
theorem ZM{y:Ae}{Q:Ae->Ag->Prop}(hu:knd.room A)(hkey:knd.is s.heap k a)(hm:s.heap.DictOfH knd d xs)(hsz:xs.length<=Ao)(h1:∀p,Lv xs k=some p->Q p.2 {s with toks:=s.toks+knd.draws k})(h2:Lv xs k=none->∀h',h'.DictOfH knd d (My xs k a y)->Eu d s.heap h'->Q y {s with heap:=h',toks:=s.toks+knd.draws k}):
  Be (Bn prog w) A (dictSetDefault d (.ref a) y) Q E s:=by
 obtain⟨o,es,ep,ho,hc,hd,he,his,hn⟩:=hm;unfold dictSetDefault;refine Cv (Aa (knd.pyHash hu hkey (Aa (wpAny_dictFind_heap (s:={s with toks:=s.toks+knd.draws k}) hu hkey ho hd he his hn (λhno=>?_) λj p hj=>?_))))
 .have hk:=atKey_none_of_get hno;have hnot:k∉xs.map (·.1):=not_mem_keys_of_get hno;refine Aa (Hl (Aa (wpAny_updateDictKeys (hz:=by have e:=Mj he;lia) (s:={s with toks:=s.toks+knd.draws k}) ho hd (Ah (h2 hk _ ⟨_,_,ep+1,Gf _ ho (Obj.isFreed_of_dict (Jv hd _)),
   hc.mapDictKeys _,Jv hd _,?_,λx hx=>?_,?_⟩ (Ew ..))))))
  .rw[storedH_new hk];simp[he,entryOfKey]
  .rw[storedH_new hk]at hx;rcases Bo.mp hx with q|q
   .exact knd.keeps (his x q) ho hd (Ew ..)
   .obtain rfl:=Am.mp q;exact knd.keeps hkey ho hd (Ew ..)
  .rw[storedH_new hk,Bc,Fi];refine⟨hn,by simp,λx hx y hy=>?_⟩;simp only[Bb,Fu,Am]at hy;subst hy;exact λe=>hnot (e▸hx)
 .refine Aa (Ib (s:={s with toks:=s.toks+knd.draws k}) ho hd ?_);rw[entry_at he j,hj];exact Aa (Hl (Ah (h1 p (atKey_of_get hn hj))))
theorem JB:∀{xs:List (K×Addr×Ae)} {j:Nat} {p:Addr×Ae},(xs.map (·.1)).Nodup->xs[j]? = some (k,p)->xs.eraseIdx j=xs.filter λx=>decide (x.1≠k)
 | [],j,p,_,h=>by simp at h
 | x::r,0,p,hn,h=>by
  have e:x=(k,p):=by simpa using h
  subst e;rw[Bb,Cs]at hn;rw[List.eraseIdx_zero,List.tail_cons,List.filter_cons_of_neg (by simp)];refine(List.filter_eq_self.mpr λy hy=>?_).symm;rw[decide_eq_true_eq];exact λe=>hn.1 (Ay.mpr ⟨y,hy,e⟩)
 | x::r,j+1,p,hn,h=>by
  rw[Bb,Cs]at hn;have hj:r[j]? = some (k,p):=by simpa using h
  have hx:x.1≠k:=λe=>hn.1 (Ay.mpr ⟨(k,p),Bg hj,e.symm⟩);rw[List.eraseIdx_cons_succ,JB hn.2 hj,List.filter_cons_of_pos (by simpa using hx)]
theorem ZN{v:Ae}{b:Addr}{Q:Option Ia->Ag->Prop}(hu:knd.room A)(hkey:knd.is s.heap k a)(hm:s.heap.DictOfH knd d xs)(hsz:xs.length<=Ao)(hv:Lv xs k=some (b,v))(h:∀h',h'.DictOfH knd d (xs.filter λx=>decide (x.1≠k))->Eu d s.heap h'->Q (some ⟨knd.hash k,.ref b,v⟩) {s with heap:=h',toks:=s.toks+knd.draws k}):
  Be (Bn prog w) A (Builtin.Dict.takeOut d (.ref a)) Q E s:=by
 obtain⟨o,es,ep,ho,hc,hd,he,his,hn⟩:=hm;unfold Builtin.Dict.takeOut;refine Cv (Aa (knd.pyHash hu hkey (Aa (wpAny_dictFind_heap (s:={s with toks:=s.toks+knd.draws k}) hu hkey ho hd he his hn (λhno=>?_) λj p hj=>?_))))
 .rw[atKey_none_of_get hno]at hv;cases hv
 .rw[atKey_of_get hn hj]at hv;cases hv;have hej:=JB hn hj;refine Aa (Ib (s:={s with toks:=s.toks+knd.draws k}) ho hd ?_);rw[entry_at he j,hj];refine Aa (wpAny_updateDictKeys (hz:=by have e:=Mj he;lia) (s:={s with toks:=s.toks+knd.draws k}) ho hd (Ah (h _ ⟨_,_,ep+1,Gf _ ho (Obj.isFreed_of_dict (Jv hd _)),
   hc.mapDictKeys _,Jv hd _,?_,λx hx=>knd.keeps (his x (Ej.mp hx).1) ho hd (Ew ..),?_⟩ (Ew ..))))
  .rw[<-hej];have e2:(xs.eraseIdx j).map (entryOfKey knd)=(xs.map (entryOfKey knd)).eraseIdx j:=by simp[List.eraseIdx_eq_take_drop_succ,Mq,List.map_drop]
   rw[e2,<-he];obtain⟨l⟩:=es;simp
  .exact hn.sublist (List.filter_sublist.map _)
end
section
variable {X:Cx}{pins:List (Addr×Obj)}{Z:St}{H:Hp}{s:Ag}{a b:Addr}{v:V}{r:Ae}{A:Ck}{E:Ae->Ag->Prop}{kvs:List (List aE×V)}{k:List aE}
theorem KT.drop{xs:List (List aE×Addr×Ae)}(rel:KT H kvs xs)(k:List aE):KT H (nY kvs k) (xs.filter λx=>decide (x.1≠k)):=by
 induction rel with
 | nil=>exact .nil
 | @cons p q ps qs h t ih=>
  unfold nY at ih⊢;rw[Ey,Ey,<-h.1];split
  .exact .cons h ih
  .exact ih
theorem ZO{Q:Ae->Ag->Prop}(hu:A.units+1<Ez)(I:Inv X pins Z H s)(e:H a=some (.dT kvs))(eb:H b=some (.tup (k.map kV)))(rv:RelV v r)(hl:kvs.length<Ao)(h1:∀v0 w' s',gE kvs k=some v0->Inv X pins Z H s'->RelV v0 w'->Q w' s')(h2:gE kvs k=none->∀s',Inv X pins Z (aY H a (.dT (eL kvs k v))) s'->Q r s'):
  Be (Bn X.prog X.w) A (call (.builtin "dict.setdefault") [.ref a,.ref b,r]) Q E s:=by
 obtain⟨z,hd,xs,rel,dd⟩:=tT I.hok e;have hz:xs.length<=Ao:=by rw[<-Ef rel];exact z
 have hv:=rel.val k;refine Ko PySem.F.slot_dict_setdefault dd.typeIs PySem.F.entry_dict_setdefault (PySem.F.args_dict_setdefault_3 _ _ _)
  (S:=λA R s1=>(Fz (dO X.prog X.w)).room A.in1/\(Fz (dO X.prog X.w)).is s1.heap k b/\s1.heap.DictOfH (Fz (dO X.prog X.w)) a xs/\
   (∀p,Lv xs k=some p->R (.ok (.ret p.2)) {s1 with toks:=s1.toks+(k.length+1)})/\
   (Lv xs k=none->∀h',h'.DictOfH (Fz (dO X.prog X.w)) a (My xs k b r)->Eu a s1.heap h'->R (.ok (.ret r)) {s1 with heap:=h',toks:=s1.toks+(k.length+1)}))
  (.of_wp λA R s1 ⟨q0,q1,q2,q3,q4⟩=>?_) ⟨Fb hu,j0 I.hok eb,dd,λp hp=>?_,λhn h' dd' hs=>?_⟩
 .unfold Mh.«dict.setdefault»;refine Aa ?_;unfold Builtin.Dict.keyAndDefault;refine Aa (Jw q2.typeIs ?_);refine Ah ?_;dsimp only;rw[if_neg (by rw[hd];exact Ar)];exact Aa (ZM q0 q1 q2 hz (λp hp=>Ah ⟨_,rfl,q3 p hp⟩) λhn h' hm' hs'=>Ah ⟨_,rfl,q4 hn h' hm' hs'⟩)
 .rw[hp]at hv;cases q:gE kvs k with
  | none=>rw[q]at hv;exact(show False from hv).elim
  | some v0=>rw[q]at hv;exact h1 v0 _ _ q (I.tok _) hv
 .rw[hn]at hv;have q:gE kvs k=none:=by
   cases q:gE kvs k with
   | none=>rfl
   | some v0=>rw[q]at hv;exact(show False from hv).elim
  have hl':(eL kvs k v).length<=Ao:=by have:=pC kvs k v;lia
  obtain⟨q1,es,ep,hq,g2,g3,g4,_,g5⟩:=dd';refine h2 q _ (pD (t':=s.toks+(k.length+1)) I (by rw[e];exact True.intro) hs ⟨q1,hq⟩ ⟨hl',hd,_,(rel.put k eb rv).keeps λc ys ec=>?_,q1,es,ep,hq,g2,g3,g4,g5⟩);rw[bF (tB ec e (λz=>nomatch z))];exact ec
theorem ZP{Q:Ae->Ag->Prop}(hu:A.units+1<Ez)(I:Inv X pins Z H s)(e:H a=some (.dT kvs))(eb:H b=some (.tup (k.map kV)))(l:gE kvs k=some v)(h:∀w' s',Inv X pins Z (aY H a (.dT (nY kvs k))) s'->RelV v w'->Q w' s'):Be (Bn X.prog X.w) A (call (.builtin "dict.pop") [.ref a,.ref b]) Q E s:=by
 obtain⟨z,hd,xs,rel,dd⟩:=tT I.hok e;have hz:xs.length<=Ao:=by rw[<-Ef rel];exact z
 obtain⟨w',hw,rw'⟩:=fX.some_of (v:=v) (o:=(Lv xs k).map (·.2)) (by rw[<-l];exact rel.val k);obtain⟨⟨c,w2⟩,hc,rfl⟩:=Bf.mp hw;refine Ko PySem.F.slot_dict_pop dd.typeIs PySem.F.entry_dict_pop (PySem.F.args_dict_pop_2 _ _)
  (S:=λA R s1=>(Fz (dO X.prog X.w)).room A.in1/\(Fz (dO X.prog X.w)).is s1.heap k b/\s1.heap.DictOfH (Fz (dO X.prog X.w)) a xs/\
   ∀h',h'.DictOfH (Fz (dO X.prog X.w)) a (xs.filter λx=>decide (x.1≠k))->Eu a s1.heap h'->R (.ok (.ret w2)) {s1 with heap:=h',toks:=s1.toks+(k.length+1)})
  (.of_wp λA R s1 ⟨q0,q1,q2,q3⟩=>?_) ⟨Fb hu,j0 I.hok eb,dd,λh' dd' hs=>?_⟩
 .unfold Mh.«dict.pop»;refine Aa ?_;unfold Builtin.Dict.keyAndDefault;refine Aa (Jw q2.typeIs ?_);refine Ah ?_;dsimp only;rw[if_neg (show ¬((keyPart (Value.ref b)).isSome=true) from Ar)];obtain⟨o,es,ep,ho,hc',hd',he,his,hn⟩:=id q2;have hne:es.isEmpty=false:=by
   have h1:=Mj he;cases xs with
   | nil=>cases hc
   | cons x r=>rw[Array.isEmpty_eq_false_iff];intro z;rw[z]at h1;simp at h1
  refine Aa (Ib ho hd' ?_);refine Aa (Ah ?_);rw[hne,if_neg Ar];refine Aa (ZN q0 q1 q2 hz hc λh' hm' hs'=>?_);rw[if_neg (by simp)];exact Aa (Gg (Ah ⟨_,rfl,q3 h' hm' hs'⟩))
 .obtain⟨q1,es,ep,hq,g2,g3,g4,_,g5⟩:=dd';refine h w2 _ (pD (t':=s.toks+(k.length+1)) I (by rw[e];exact True.intro) hs ⟨q1,hq⟩ ⟨Az (UR kvs k) z,hd,_,(rel.drop k).keeps λc ys ec=>?_,q1,es,ep,hq,g2,g3,g4,g5⟩) rw';rw[bF (tB ec e (λz=>nomatch z))];exact ec
end
end L2
namespace L3
open PySem Spec PyProof.Rows L2
section
variable {X:Cx}
def nJ:W->List W->Mm->K3->Prop
 | d,[y],M,R=>∃o,fB M d y o/\R (o.getD .non) M
 | d,[y,v],M,R=>∃o,fB M d y o/\R (o.getD v) M
 | _,_,_,_=>False
theorem p7(hu:X.A.units+1<Ez):jE X "dict.get" (kQ X.K nJ):=by
 rintro pins s Z H x xs v us Q I rx rs ⟨wx,ws,M,R,am,ax,axs,h,k⟩
 match ws,h with
 | [y],h=>
  obtain⟨z,rfl,az⟩:=axs.one;obtain⟨o,g,r⟩:=h;obtain⟨a,rfl,g2⟩:=uK am ax az g;cases rx;obtain⟨u,rfl,ru⟩:=rs.one;rcases g2 with⟨rfl,g3⟩|⟨v0,w0,rfl,g3,av⟩
  .exact F1 hu I g3 ru λw' s' I' rw'=>⟨_,H,I',rw',k.at am .non r⟩
  .exact F1 hu I g3 ru λw' s' I' rw'=>⟨_,H,I',rw',k.at am av r⟩
 | [y,v1],h=>
  obtain⟨z,z1,rfl,az,az1⟩:=axs.two;obtain⟨o,g,r⟩:=h;obtain⟨a,rfl,g2⟩:=uK am ax az g;cases rx;obtain⟨u,u1,rfl,ru,ru1⟩:=vals2 rs;rcases g2 with⟨rfl,g3⟩|⟨v0,w0,rfl,g3,av⟩
  .exact F5 hu I g3 ru ru1 λw' s' I' rw'=>⟨_,H,I',rw',k.at am az1 r⟩
  .exact F5 hu I g3 ru ru1 λw' s' I' rw'=>⟨_,H,I',rw',k.at am av r⟩
def oK:W->List W->Mm->K3->Prop
 | .ref a,[.tup ks,v],M,R=>∃kvs k,M a=some (.dT kvs)/\ks=k.map wK/\kvs.length<Ao/\(∀w,bD kvs k=some w->R w M)/\(bD kvs k=none->R v (put M a (.dT (cA kvs k v))))
 | _,_,_,_=>False
theorem vG(hu:X.A.units+1<Ez):jE X "dict.setdefault" (kQ X.K oK):=by
 rintro pins s Z H x xs v us Q I rx rs ⟨wx,ws,M,R,am,ax,axs,h,k⟩
 match wx,ws,h with
 | .ref a,[.tup ks,v1],h=>
  obtain⟨z,z1,rfl,az,az1⟩:=axs.two;obtain⟨kvs,kk,e,rfl,hl,h1,h2⟩:=h;obtain rfl:=ax.inv;cases rx;obtain⟨u,u1,rfl,ru,ru1⟩:=vals2 rs;obtain⟨gs,e1,q⟩:=am _ _ e;cases az with
  | @tup b vs _ eb qb=>
   cases (show u=Value.ref b from ru);rw[qb.keys]at eb;have lk:=uI q kk;refine ZO hu I e1 eb ru1 (by rw[q.len];exact hl) (λv0 w' s' e2 I' rw'=>?_) λe2 s' I'=>?_
   .rcases lk with⟨_,l2⟩|⟨v2,w2,l1,l2,av⟩
    .rw[l2]at e2;cases e2
    .rw[l2]at e2;cases e2;exact⟨_,H,I',rw',k.at am av (h1 w2 l1)⟩
   .rcases lk with⟨l1,l2⟩|⟨v2,w2,l1,l2,av⟩
    .obtain⟨am3,k3⟩:=am.write (o:=.dT (cA kvs kk v1)) (u:=.dT (eL gs kk z1)) e ⟨_,cQ,(uJ q kk az1).go (pI am e)⟩;exact⟨_,_,I',ru1,k _ _ _ _ k3 am3 (az1.wr am e) (h2 l1)⟩
    .rw[l2]at e2;cases e2
def jP{U:Type}[DecidableEq U](kvs:List (U×W))(k:U):List (U×W):=kvs.filter λkv=>decide (kv.1≠k)
theorem ZQ{U:Type}[DecidableEq U]{K:Ac}{H:Hp}{M:Mm}{gs:List (U×V)}{kvs:List (U×W)}(h:bU K H M U gs kvs)(k:U):bU K H M U (nY gs k) (jP kvs k):=by
 induction h with
 | nil=>exact .nil
 | @cons p q ps qs r t ih=>
  unfold nY jP at ih⊢;rw[Ey,Ey,<-r.1];split
  .exact .cons r ih
  .exact ih
def JC:W->List W->Mm->K3->Prop
 | .ref a,[.tup ks],M,R=>∃kvs k w,M a=some (.dT kvs)/\ks=k.map wK/\bD kvs k=some w/\R w (put M a (.dT (jP kvs k)))
 | _,_,_,_=>False
theorem ZR(hu:X.A.units+1<Ez):jE X "dict.pop" (kQ X.K JC):=by
 rintro pins s Z H x xs v us Q I rx rs ⟨wx,ws,M,R,am,ax,axs,h,k⟩
 match wx,ws,h with
 | .ref a,[.tup ks],h=>
  obtain⟨z,rfl,az⟩:=axs.one;obtain⟨kvs,kk,w,e,rfl,l,r⟩:=h;obtain rfl:=ax.inv;cases rx;obtain⟨u,rfl,ru⟩:=rs.one;obtain⟨gs,e1,q⟩:=am _ _ e;cases az with
  | @tup b vs _ eb qb=>
   cases (show u=Value.ref b from ru);rw[qb.keys]at eb;rcases uI q kk with⟨l1,l2⟩|⟨v2,w2,l1,l2,av⟩
   .rw[l1]at l;cases l
   .rw[l1]at l;cases l;obtain⟨am3,k3⟩:=am.write (o:=.dT (jP kvs kk)) (u:=.dT (nY gs kk)) e ⟨_,cQ,(ZQ q kk).go (pI am e)⟩;exact ZP hu I e1 eb l2 λw' s' I' rw'=>⟨_,_,I',rw',k _ _ _ _ k3 am3 (av.wr am e) r⟩
end
section
variable {K:Ac}{H:Hp}{M:Mm}
theorem ZS(k:aE):AV K H M (kV k) (wK k):=by cases k<;>first|exact .int _|exact .str _
theorem JD:∀ks:List aE,aN K H M (ks.map kV) (ks.map wK)
 | []=>.nil
 | k::r=>.cons (ZS k) (JD r)
end
end L3
namespace PySem
namespace Zd
open PyProof.Rows L2 PySem.Spec Zt
section
variable {prog:Bt}{w:Cm}{A:Ck}{E:Ae->Ag->Prop}{s:Ag}
variable {z TI TO i1 i2 l1 l2:Addr}{xs ys:Array Ae}{S1 S2:Nat->Heap->Prop}
abbrev TK(prog:Bt)(w:Cm):=Fz (dO prog w)
def allH(es:List (List aE×Addr×Ae))(ps:List (List aE×Addr×Ae)):List (List aE×Addr×Ae):=ps.foldl (λes p=>My es p.1 p.2.1 p.2.2) es
theorem JE(es:List (List aE×Addr×Ae))(k:List aE)(a:Addr)(v:Ae):(My es k a v).length<=es.length+1:=by
 unfold My;split
 .rw[Ab];lia
 .rw[Ak,Bl];exact Ai _
theorem zL{h h':Heap}{k:List aE}{a:Addr}(x:(TK prog w).is h k a)(e:∀o,h.get? a=some o->h'.get? a=some o):(TK prog w).is h' k a:=by
 obtain⟨o,items,n,ho,r⟩:=x;exact⟨o,items,n,e o ho,r⟩
end
end Zd
end PySem
namespace L2
open PySem Spec PyProof.Rows
def oN(ks:List (List aE×V))(ps:List (List aE×V)):List (List aE×V):=ps.foldl (λk p=>eL k p.1 p.2) ks
theorem ZT{H:Hp}{qs:List (List aE×Addr×V)}{ps:List (List aE×Addr×Ae)}(h:Fs (λ(q:List aE×Addr×V) (p:List aE×Addr×Ae)=>q.1=p.1/\q.2.1=p.2.1/\RelV q.2.2 p.2.2) qs ps):
  ∀{kvs:List (List aE×V)} {es:List (List aE×Addr×Ae)},(∀q∈qs,H q.2.1=some (.tup (q.1.map kV)))->KT H kvs es->KT H (oN kvs (qs.map λq=>(q.1,q.2.2))) (Zd.allH es ps):=by
 induction h with
 | nil=>intro kvs es _ k;exact k
 | @cons q p qs ps r t ih=>
  intro kvs es hq k;obtain⟨q1,q2,q3⟩:=q;obtain⟨p1,p2,p3⟩:=p;obtain⟨rfl,rfl,r3⟩:=r;exact ih (λz hz=>hq z (Ap _ hz)) (k.put q1 (hq _ Aw) r3)
theorem JF:∀(ps:List (List aE×V)) (ks:List (List aE×V)),(oN ks ps).length<=ks.length+ps.length
 | [],ks=>Ai _
 | p::ps,ks=>by
  have h1:=JF ps (eL ks p.1 p.2);have h2:=pC ks p.1 p.2;show(oN (eL ks p.1 p.2) ps).length<=ks.length+(ps.length+1);lia
end L2
namespace L3
open PySem Spec PyProof.Rows L2
def lB(kvs:List (List aE×W))(ps:List (List aE×W)):List (List aE×W):=ps.foldl (λkvs p=>cA kvs p.1 p.2) kvs
structure Dm(K:Ac)(C:Addr)(x qual:Str)(st:Stmt)(ps:List Str)(f:Addr)(fd:Bk):Prop where
 fn:jF K x qual st f fd
 me:pB K C x f
 bi:Binds K fd ps []
structure Di(K:Ac)(C:Addr)(x qual:Str)(st:Stmt)(ps:List Str)(f:Addr)(fd:Bk):Prop where
 fn:jF K x qual st f fd
 mak:Mk K C f
 bi:Binds K fd ps []
theorem ZU{A:Ck}{k:Nat}(hr:cE k A):A.units+2<Ez:=by have:=hr.un;lia
end L3
namespace L2
open PySem Spec PyProof.Rows
def dS(a b:Int×Int):Bool:=decide (a.1<b.1)||(decide (a.1=b.1)&&decide (a.2<b.2))
section
variable {prog:Bt}{w:Cm}{A:Ck}{E:Ae->Ag->Prop}{s:Ag}
theorem JG{a b:Addr}{oa ob:Obj}{xs ys:Array Ae}{na nb:Nat}{x1 x2 y1 y2:Int}{t1 t2 u1 u2:Tok}{Q:Ae->Ag->Prop}(hu:A.units+1<Ez)(hoa:s.heap.get? a=some oa)(hca:oa.cls=.type "tuple")(hda:oa.data=.seq xs na)(hob:s.heap.get? b=some ob)(hcb:ob.cls=.type "tuple")(hdb:ob.data=.seq ys nb)(ex:xs.toList=[.int x1 t1,.int x2 t2])(ey:ys.toList=[.int y1 u1,.int y2 u2])(h:Q (.bool (dS (x1,x2) (y1,y2))) s):Be (Bn prog w) A (Cb .Lt (.ref a) (.ref b)) Q E s:=by
 have hTa:s.TypeIs (.ref a) "tuple":=⟨oa,hoa,hca⟩;have hTb:s.TypeIs (.ref b) "tuple":=⟨ob,hob,hcb⟩;show Be _ _ (richCompare .Lt (.ref a) (.ref b)) Q E s;refine wpAny_richCompare_same_room (op:=.Lt) hTa hTb PySem.F.slot_tuple_lt (Ff PySem.F.slot_tuple_lt hTa PySem.F.entry_tuple_lt ?_ (PySem.F.args_tuple_lt_2 _ _)) (Nat.lt_of_succ_lt hu);show Be _ _ (isInstance (.ref b) (.type "tuple")>>=_) _ _ s;refine Aa (Lu hTb isSubtype_tuple_tuple ?_);simp only[Jr,Dw,if_false];refine Aa (Ku hoa hda ?_);refine Aa (Ku hob hdb ?_);refine Aa ?_;rw[ex,ey];show Be _ _ (forIn [(Value.int x1 t1,Value.int y1 u1),(Value.int x2 t2,Value.int y2 u2)] _ _) _ _ s;have hsz:xs.size=2/\ys.size=2:=by
  have h1:=congrArg Eh ex;have h2:=congrArg Eh ey;simp at h1 h2;exact⟨h1,h2⟩
 refine wpAny_forIn_list _
  (λrest q s'=>q.1=none/\s'=s/\(rest=[(Value.int x1 t1,Value.int y1 u1),(Value.int x2 t2,Value.int y2 u2)]\/(rest=[(Value.int x2 t2,Value.int y2 u2)]/\x1=y1)\/(rest=[]/\x1=y1/\x2=y2)))
  _ ?_ ?_ _ _ ⟨rfl,rfl,.inl rfl⟩
 .rintro⟨u,v⟩ rest q s' ⟨hq,rfl,hc⟩;rcases hc with z|⟨z,e1⟩|⟨z,_⟩
  .simp only[Ed,De]at z;obtain⟨⟨rfl,rfl⟩,rfl⟩:=z;refine Aa (Jy ?_)
   by_cases e1:x1=y1
   .rw[show(x1==y1)=true by simpa using e1];simp only[Jr,Dw,if_false];exact Ah ⟨rfl,rfl,by simp[e1]⟩
   .rw[show(x1==y1)=false by simpa using e1];simp only[Ma,if_true];have e:dS (x1,x2) (y1,y2)=decide (x1<y1):=by simp[dS,e1]
    rw[e]at h;refine Aa (Hl (Aa (PyProof.Rows.lt_int ?_)));exact Aa (Ah (Ah (Ah ⟨_,rfl,(λe=>nomatch e),h⟩)))
  .simp only[Ed,De]at z;obtain⟨⟨rfl,rfl⟩,rfl⟩:=z;refine Aa (Jy ?_)
   by_cases e2:x2=y2
   .rw[show(x2==y2)=true by simpa using e2];simp only[Jr,Dw,if_false];exact Ah ⟨rfl,rfl,by simp[e1,e2]⟩
   .rw[show(x2==y2)=false by simpa using e2];simp only[Ma,if_true];have e:dS (x1,x2) (y1,y2)=decide (x2<y2):=by simp[dS,e1]
    rw[e]at h;refine Aa (Hl (Aa (PyProof.Rows.lt_int ?_)));exact Aa (Ah (Ah (Ah ⟨_,rfl,(λe=>nomatch e),h⟩)))
  .cases z
 .rintro⟨q1,q2⟩ s' ⟨hq,rfl,hc⟩;simp only at hq;subst hq;rcases hc with z|⟨z,_⟩|⟨_,e1,e2⟩
  .cases z
  .cases z
  .refine Ah ⟨_,rfl,(λe=>nomatch e),?_⟩;subst e1;subst e2;have e:dS (x1,x2) (x1,x2)=decide (xs.size<ys.size):=by rw[hsz.1,hsz.2];simp[dS]
   rw[e]at h;exact h
theorem ZV{a b:Addr}{oa ob:Obj}{xs ys:Array Ae}{na nb:Nat}{x1 x2 y1 y2:Int}{t1 t2 u1 u2:Tok}{Q:Ae->Ag->Prop}(hu:A.units+1<Ez)(hoa:s.heap.get? a=some oa)(hca:oa.cls=.type "tuple")(hda:oa.data=.seq xs na)(hob:s.heap.get? b=some ob)(hcb:ob.cls=.type "tuple")(hdb:ob.data=.seq ys nb)(ex:xs.toList=[.int x1 t1,.int x2 t2])(ey:ys.toList=[.int y1 u1,.int y2 u2])(h:Q (.bool (dS (y1,y2) (x1,x2))) s):Be (Bn prog w) A (Cb .Gt (.ref a) (.ref b)) Q E s:=by
 have hTa:s.TypeIs (.ref a) "tuple":=⟨oa,hoa,hca⟩;have hTb:s.TypeIs (.ref b) "tuple":=⟨ob,hob,hcb⟩;show Be _ _ (richCompare .Gt (.ref a) (.ref b)) Q E s;refine wpAny_richCompare_same_room (op:=.Gt) hTa hTb PySem.F.slot_tuple_gt (Ff PySem.F.slot_tuple_gt hTa PySem.F.entry_tuple_gt ?_ (PySem.F.args_tuple_gt_2 _ _)) (Nat.lt_of_succ_lt hu);show Be _ _ (isInstance (.ref b) (.type "tuple")>>=_) _ _ s;refine Aa (Lu hTb isSubtype_tuple_tuple ?_);simp only[Jr,Dw,if_false];refine Aa (Ku hoa hda ?_);refine Aa (Ku hob hdb ?_);refine Aa ?_;rw[ex,ey];show Be _ _ (forIn [(Value.int x1 t1,Value.int y1 u1),(Value.int x2 t2,Value.int y2 u2)] _ _) _ _ s;have hsz:xs.size=2/\ys.size=2:=by
  have h1:=congrArg Eh ex;have h2:=congrArg Eh ey;simp at h1 h2;exact⟨h1,h2⟩
 refine wpAny_forIn_list _
  (λrest q s'=>q.1=none/\s'=s/\(rest=[(Value.int x1 t1,Value.int y1 u1),(Value.int x2 t2,Value.int y2 u2)]\/(rest=[(Value.int x2 t2,Value.int y2 u2)]/\x1=y1)\/(rest=[]/\x1=y1/\x2=y2)))
  _ ?_ ?_ _ _ ⟨rfl,rfl,.inl rfl⟩
 .rintro⟨u,v⟩ rest q s' ⟨hq,rfl,hc⟩;rcases hc with z|⟨z,e1⟩|⟨z,_⟩
  .simp only[Ed,De]at z;obtain⟨⟨rfl,rfl⟩,rfl⟩:=z;refine Aa (Jy ?_)
   by_cases e1:x1=y1
   .rw[show(x1==y1)=true by simpa using e1];simp only[Jr,Dw,if_false];exact Ah ⟨rfl,rfl,by simp[e1]⟩
   .rw[show(x1==y1)=false by simpa using e1];simp only[Ma,if_true];have e:dS (y1,y2) (x1,x2)=decide (y1<x1):=by simp[dS,Bi e1]
    rw[e]at h;refine Aa (Hl (Aa (PyProof.Rows.gt_int ?_)));exact Aa (Ah (Ah (Ah ⟨_,rfl,(λe=>nomatch e),h⟩)))
  .simp only[Ed,De]at z;obtain⟨⟨rfl,rfl⟩,rfl⟩:=z;refine Aa (Jy ?_)
   by_cases e2:x2=y2
   .rw[show(x2==y2)=true by simpa using e2];simp only[Jr,Dw,if_false];exact Ah ⟨rfl,rfl,by simp[e1,e2]⟩
   .rw[show(x2==y2)=false by simpa using e2];simp only[Ma,if_true];have e:dS (y1,y2) (x1,x2)=decide (y2<x2):=by simp[dS,e1]
    rw[e]at h;refine Aa (Hl (Aa (PyProof.Rows.gt_int ?_)));exact Aa (Ah (Ah (Ah ⟨_,rfl,(λe=>nomatch e),h⟩)))
  .cases z
 .rintro⟨q1,q2⟩ s' ⟨hq,rfl,hc⟩;simp only at hq;subst hq;rcases hc with z|⟨z,_⟩|⟨_,e1,e2⟩
  .cases z
  .cases z
  .refine Ah ⟨_,rfl,(λe=>nomatch e),?_⟩;subst e1;subst e2;have e:dS (x1,x2) (x1,x2)=decide (xs.size > ys.size):=by rw[hsz.1,hsz.2];simp[dS]
   rw[e]at h;exact h
end
section
variable {X:Cx}
def rInsert:V->List V->Hp->VK->Prop:=λx vs H Q=>∃l xs y i,x=.ref l/\vs=[.int (i:Nat),y]/\H l=some (.lst xs)/\xs.length<Ao/\i<=xs.length/\Q .non (aY H l (.lst (xs.take i++y::xs.drop i)))
theorem a8.splitAt:∀{xs:List V} {us:List Ae} (i:Nat),a8 xs us->a8 (xs.take i) (us.take i)/\a8 (xs.drop i) (us.drop i)
 | _,_,0,h=>⟨.nil,h⟩
 | _,_,i+1,.nil=>⟨.nil,.nil⟩
 | _,_,i+1,.cons r t=>by
  obtain⟨h1,h2⟩:=a8.splitAt i t;exact⟨.cons r h1,h2⟩
theorem ZW:qT X "list.insert" rInsert:=by
 intro pins s Z H x vs v us Q I rx rv h;obtain⟨l,xs,y,i,rfl,rfl,hH,hz,hi,q⟩:=h;cases rx;obtain⟨u1,u2,rfl,r1,r2⟩:=vals2 rv;obtain⟨tk,rfl⟩:=r1;obtain⟨z,its,n,r,hl,e⟩:=I.lstM hH;have hlen:its.length=xs.length:=r.length.symm;have hs:Ao=16777216:=Ke;have hc0:¬(!Builtin.List.listFitsIndex ((i:Nat):Int))=true:=by
  have h1:Builtin.List.listFitsIndex ((i:Nat):Int)=true:=by
   unfold Builtin.List.listFitsIndex;rw[Co,decide_eq_true_eq,decide_eq_true_eq];lia
  rw[h1];decide
 have hs1:its.toArray.size<=Ao:=by rw[Bd];lia
 generalize hj:((i:Nat):Int)=j at hc0 e⊢;have hm:=PySem.AutoSeq1.list_insert_list_int_val_1 l its.toArray n j tk u2 hc0 hs1;refine Jz F.slot_list_insert ⟨_,e,rfl⟩ F.entry_list_insert (F.args_list_insert_3 _ _ _) hm ⟨e,?_⟩;obtain⟨h1,h2⟩:=a8.splitAt i r;refine⟨.non,_,I.lset (its':=its.take i++u2::its.drop i) hH e ?_ (h1.append (.cons r2 h2)) ?_,rfl,q⟩
 .have hk:(if j<0 then(j+(its.toArray.size:Int)).toNat else min j.toNat its.toArray.size)=i:=by
   rw[<-hj,if_neg (by lia),Dg,Bd];lia
  show(its.toArray.extract 0 (if j<0 then(j+(its.toArray.size:Int)).toNat else min j.toNat its.toArray.size)).push u2++its.toArray.extract (if j<0 then(j+(its.toArray.size:Int)).toNat else min j.toNat its.toArray.size)=_;rw[hk];apply Array.toList_inj.mp;simp[Array.toList_append,Array.toList_push];rw[Dv (by rw[Ic];lia)]
 .rw[Ak,Br,Bq,Ic];lia
end
end L2
namespace L3
open PySem Spec PyProof.Rows L2
section
variable {X:Cx}
def zM:R3:=λx y M R=>∃a b c d:Int,x=.tup [.int a,.int b]/\y=.tup [.int c,.int d]/\R (.bl (dS (a,b) (c,d))) M
def JH:R3:=λx y M R=>∃a b c d:Int,x=.tup [.int a,.int b]/\y=.tup [.int c,.int d]/\R (.bl (dS (c,d) (a,b))) M
theorem vH{pins:List (Addr×Obj)}{Z:SV}{H:Hp}{M:Mm}{s:Ag}{x:V}{v:Ae}{a b:Int}(I:Inv X pins Z H s)(rx:RelV x v)(ax:AV X.K H M x (.tup [.int a,.int b])):∃p o its n t u,v=.ref p/\s.heap.get? p=some o/\o.cls=.type "tuple"/\o.data=.seq its n/\its.toList=[.int a t,.int b u]:=by
 cases ax with
 | @tup p xs _ e q=>
  cases (show v=Value.ref p from rx);obtain⟨y,z,rfl,ay,az⟩:=q.two;obtain rfl:=ay.inv;obtain rfl:=az.inv;obtain⟨_,its,r,o,h1,h2,m,h3⟩:=(show cZ X.prog X.w H s.heap p (.tup [.int a,.int b]) from I.hok p _ e);obtain⟨u1,u2,rfl,r1,r2⟩:=vals2 r;obtain⟨t1,rfl⟩:=r1;obtain⟨t2,rfl⟩:=r2;exact⟨p,o,_,m,t1,t2,rfl,h1,h2,h3,by simp⟩
theorem JI(hu:X.A.units+1<Ez):bG X (Cb .Lt) (cL X.K zM):=by
 rintro pins s Z H x y v u Q I rx ry ⟨wx,wy,M,R,am,ax,ay,⟨a,b,c,d,rfl,rfl,r⟩,k⟩;obtain⟨p,o,its,n,t1,t2,rfl,h1,h2,h3,h4⟩:=vH I rx ax;obtain⟨p',o',its',n',t1',t2',rfl,g1,g2,g3,g4⟩:=vH I ry ay;exact JG hu h1 h2 h3 g1 g2 g3 h4 g4 ⟨.bl _,H,I,rfl,k.at am (.bl _) r⟩
theorem ZX(hu:X.A.units+1<Ez):bG X (Cb .Gt) (cL X.K JH):=by
 rintro pins s Z H x y v u Q I rx ry ⟨wx,wy,M,R,am,ax,ay,⟨a,b,c,d,rfl,rfl,r⟩,k⟩;obtain⟨p,o,its,n,t1,t2,rfl,h1,h2,h3,h4⟩:=vH I rx ax;obtain⟨p',o',its',n',t1',t2',rfl,g1,g2,g3,g4⟩:=vH I ry ay;exact ZV hu h1 h2 h3 g1 g2 g3 h4 g4 ⟨.bl _,H,I,rfl,k.at am (.bl _) r⟩
def JJ:W->List W->Mm->K3->Prop
 | .ref l,[.int i,y],M,R=>∃ws,M l=some (.lst ws)/\ws.length<Ao/\0<=i/\i<=ws.length/\R .non (put M l (.lst (ws.take i.toNat++y::ws.drop i.toNat)))
 | _,_,_,_=>False
theorem JK{K:Ac}{H:Hp}{M:Mm}:∀{vs:List V} {ws:List W} (i:Nat),aN K H M vs ws->aN K H M (vs.take i) (ws.take i)/\aN K H M (vs.drop i) (ws.drop i)
 | _,_,0,h=>⟨.nil,h⟩
 | _,_,i+1,.nil=>⟨.nil,.nil⟩
 | _,_,i+1,.cons r t=>by
  obtain⟨h1,h2⟩:=JK i t;exact⟨.cons r h1,h2⟩
theorem ZY:jE X "list.insert" (kQ X.K JJ):=by
 rintro pins s Z H x xs v us Q I rx rs ⟨wx,ws,M,R,am,ax,axs,h,k⟩
 match wx,ws,h with
 | .ref l,[.int i,y],h=>
  obtain⟨u,z,rfl,au,az⟩:=axs.two;obtain rfl:=ax.inv;obtain rfl:=au.inv;obtain⟨ws,e,hl,h0,h1,r⟩:=h;obtain⟨i,rfl⟩:=Lb h0;obtain⟨vs,f,q⟩:=am.lst e;obtain⟨q1,q2⟩:=JK i q;rw[Dg]at r;exact ZW pins s Z H _ _ v us Q I rx rs ⟨l,vs,z,i,rfl,rfl,f,by rw[q.length];exact hl,by rw[q.length];lia,pK am k e (q1.append (.cons az q2)) .non r⟩
end
end L3
namespace Rg
open PySem Spec PyProof.Rows L2 L3
theorem oO{U:Type}[DecidableEq U]{kvs:List (U×W)}{k j:U}{w:W}:bD (cA kvs k w) j=if k=j then some w else bD kvs j:=gM kvs k j w
theorem mH{U:Type}[DecidableEq U](e:U×W)(t:List (U×W))(k:U):bD (e::t) k=if e.1=k then some e.2 else bD t k:=cY e t k
theorem vI{U:Type}[DecidableEq U]{k j:U}:∀{kvs:List (U×W)},bD (jP kvs k) j=if k=j then none else bD kvs j
 | []=>by unfold jP;rw[List.filter_nil];split<;>rfl
 | e::t=>by
  have ih:=vI (k:=k) (j:=j) (kvs:=t);unfold jP at ih⊢;rw[Ey]
  by_cases h:e.1=k
  .rw[if_neg (by simp[h]),ih,mH]
   by_cases hj:k=j
   .rw[if_pos hj,if_pos hj]
   .rw[if_neg hj,if_neg hj,if_neg (by rw[h];exact hj)]
  .rw[if_pos (by simp[h]),mH,ih,mH]
   by_cases hj:k=j
   .rw[if_pos hj,if_pos hj,if_neg (by rw[<-hj];exact h)]
   .rw[if_neg hj,if_neg hj]
theorem vJ{U:Type}[DecidableEq U](kvs:List (U×W))(k:U)(w:W):(cA kvs k w).length<=kvs.length+1:=u3 kvs k w
theorem JL{U:Type}[DecidableEq U]{k:U}:∀{kvs:List (U×W)},(bD kvs k).isSome=true->(jP kvs k).length<kvs.length
 | [],h=>by cases h
 | e::t,h=>by
  unfold jP;rw[Ey];have hle:(t.filter λkv=>decide (kv.1≠k)).length<=t.length:=Hi _ _
  by_cases he:e.1=k
  .rw[if_neg (by simp[he]),Br];lia
  .rw[if_pos (by simp[he]),Br,Br];rw[mH,if_neg he]at h;have:=JL h;unfold jP at this;lia
structure eF{U:Type}(kk:U->List aE)(M0 M:Mm)(a:Addr)(kvs:List (List aE×W))(g:U->Option (List W)):Prop where
 sub:L3.Sub M0 M
 new:M0 a=none
 at_:M a=some (.dT kvs)
 non:∀k,g k=none->bD kvs (kk k)=none
 som:∀k ws,g k=some ws->∃p,bD kvs (kk k)=some (.ref p)/\p≠a/\M0 p=none/\M p=some (.lst ws)
 inj:∀k j p,bD kvs (kk k)=some (.ref p)->bD kvs (kk j)=some (.ref p)->k=j
theorem fJ{M0 M:Mm}{p:Addr}{o:MO}(h:L3.Sub M0 M)(n:M0 p=none):L3.Sub M0 (put M p o):=λa u e=>by
 rw[aU (λz=>by rw[z,n]at e;cases e)];exact h a u e
section
variable {U:Type}[DecidableEq U]{kk:U->List aE}{M0 M:Mm}{a p:Addr}{kvs:List (List aE×W)}{g:U->Option (List W)}{o:MO}{k:U}{ws:List W}
theorem eF.lift(h:eF kk M0 M a kvs g)(hp:M p=none\/∃u,M0 p=some u):eF kk (put M0 p o) (put M p o) a kvs g:=by
 have ne:∀{b:Addr},M0 b=none->(∃u,M b=some u)->b≠p:=λ{b} h0 ⟨u,h1⟩ e=>by
  subst e;rcases hp with z|⟨v,z⟩
  .rw[h1]at z;cases z
  .rw[h0]at z;cases z
 refine⟨Sub.put h.sub,?_,?_,h.non,λk ws e=>?_,h.inj⟩
 .rw[aU (ne h.new ⟨_,h.at_⟩)];exact h.new
 .rw[aU (ne h.new ⟨_,h.at_⟩)];exact h.at_
 .obtain⟨q,h1,h2,h3,h4⟩:=h.som k ws e;have:=ne h3 ⟨_,h4⟩;exact⟨q,h1,h2,by rw[aU this];exact h3,by rw[aU this];exact h4⟩
theorem eF.more(h:eF kk M0 M a kvs g)(hp:M p=none):eF kk M0 (put M p o) a kvs g:=by
 have ne:∀{b:Addr},(∃u,M b=some u)->b≠p:=λ{b} ⟨u,h1⟩ e=>by subst e;rw[hp]at h1;cases h1
 refine⟨fJ h.sub (h.sub.non hp),h.new,by rw[aU (ne ⟨_,h.at_⟩)];exact h.at_,h.non,λk ws e=>?_,h.inj⟩;obtain⟨q,h1,h2,h3,h4⟩:=h.som k ws e;exact⟨q,h1,h2,h3,by rw[aU (ne ⟨_,h4⟩)];exact h4⟩
theorem eF.has(h:eF kk M0 M a kvs g)(e:g k=some ws):∃p,bD kvs (kk k)=some (.ref p)/\M p=some (.lst ws):=by
 obtain⟨q,h1,_,_,h4⟩:=h.som k ws e;exact⟨q,h1,h4⟩
theorem eF.look(h:eF kk M0 M a kvs g)(k:U):(bD kvs (kk k)).isSome=(g k).isSome:=by
 cases e:g k with
 | none=>rw[h.non k e];rfl
 | some ws=>obtain⟨q,h1,_⟩:=h.has e;rw[h1];rfl
theorem eF.wr(h:eF kk M0 M a kvs g)(hk:bD kvs (kk k)=some (.ref p)):eF kk M0 (put M p (.lst ws)) a kvs (λj=>if k=j then some ws else g j):=by
 obtain⟨ws0,e0⟩:∃ws0,g k=some ws0:=by
  cases e:g k with
  | none=>rw[h.non k e]at hk;cases hk
  | some ws=>exact⟨_,rfl⟩
 obtain⟨q,h1,h2,h3,h4⟩:=h.som k ws0 e0;rw[hk]at h1;cases h1;refine⟨fJ h.sub h3,h.new,by rw[aU (Bi h2)];exact h.at_,λj e=>?_,λj us e=>?_,h.inj⟩
 .by_cases hj:k=j
  .rw[if_pos hj]at e;cases e
  .rw[if_neg hj]at e;exact h.non j e
 .by_cases hj:k=j
  .rw[if_pos hj]at e;cases e;subst hj;exact⟨p,hk,h2,h3,aX⟩
  .rw[if_neg hj]at e;obtain⟨q,g1,g2,g3,g4⟩:=h.som j us e;refine⟨q,g1,g2,g3,?_⟩;rw[aU (λz=>hj (h.inj k j p hk (by rw[<-z];exact g1)))];exact g4
theorem eF.add(hkk:∀k j,kk k=kk j->k=j)(h:eF kk M0 M a kvs g)(hg:g k=none)(hp:M p=none):eF kk M0 (put (put M p (.lst ws)) a (.dT (cA kvs (kk k) (.ref p)))) a (cA kvs (kk k) (.ref p)) (λj=>if k=j then some ws else g j):=by
 have ne:∀{b:Addr},(∃u,M b=some u)->b≠p:=λ{b} ⟨u,h1⟩ e=>by subst e;rw[hp]at h1;cases h1
 have hpa:p≠a:=Bi (ne ⟨_,h.at_⟩);have refs:∀j q,bD kvs (kk j)=some (.ref q)->∃u,M q=some u:=λj q e=>by
  cases eg:g j with
  | none=>rw[h.non j eg]at e;cases e
  | some us=>
   obtain⟨q',g1,_,_,g4⟩:=h.som j us eg;rw[e]at g1;cases g1;exact⟨_,g4⟩
 refine⟨fJ (fJ h.sub (h.sub.non hp)) h.new,h.new,aX,λj e=>?_,λj us e=>?_,λi j q e1 e2=>?_⟩
 .by_cases hj:k=j
  .rw[if_pos hj]at e;cases e
  .rw[if_neg hj]at e;rw[oO,if_neg (λz=>hj (hkk _ _ z))];exact h.non j e
 .by_cases hj:k=j
  .rw[if_pos hj]at e;cases e;subst hj;exact⟨p,by rw[oO,if_pos rfl],hpa,h.sub.non hp,by rw[aU hpa,aX]⟩
  .rw[if_neg hj]at e;obtain⟨q,g1,g2,g3,g4⟩:=h.som j us e;exact⟨q,by rw[oO,if_neg (λz=>hj (hkk _ _ z))];exact g1,g2,g3,by rw[aU g2,aU (ne ⟨_,g4⟩)];exact g4⟩
 .rw[oO]at e1 e2
  by_cases h1:kk k=kk i
  .by_cases h2:kk k=kk j
   .exact(hkk _ _ h1).symm.trans (hkk _ _ h2)
   .rw[if_pos h1]at e1;rw[if_neg h2]at e2;cases e1;obtain⟨u,z⟩:=refs j p e2;rw[hp]at z;cases z
  .by_cases h2:kk k=kk j
   .rw[if_neg h1]at e1;rw[if_pos h2]at e2;cases e2;obtain⟨u,z⟩:=refs i p e1;rw[hp]at z;cases z
   .rw[if_neg h1]at e1;rw[if_neg h2]at e2;exact h.inj i j q e1 e2
theorem eF.del(hkk:∀k j,kk k=kk j->k=j)(h:eF kk M0 M a kvs g):eF kk M0 (put M a (.dT (jP kvs (kk k)))) a (jP kvs (kk k)) (λj=>if k=j then none else g j):=by
 refine⟨fJ h.sub h.new,h.new,aX,λj e=>?_,λj us e=>?_,λi j q e1 e2=>?_⟩
 .rw[vI]
  by_cases hj:k=j
  .rw[if_pos (by rw[hj])]
  .rw[if_neg hj]at e;rw[if_neg (λz=>hj (hkk _ _ z))];exact h.non j e
 .by_cases hj:k=j
  .rw[if_pos hj]at e;cases e
  .rw[if_neg hj]at e;obtain⟨q,g1,g2,g3,g4⟩:=h.som j us e;exact⟨q,by rw[vI,if_neg (λz=>hj (hkk _ _ z))];exact g1,g2,g3,by rw[aU g2];exact g4⟩
 .rw[vI]at e1 e2;split at e1
  .cases e1
  .split at e2
   .cases e2
   .exact h.inj i j q e1 e2
theorem eF.same{g':U->Option (List W)}(h:eF kk M0 M a kvs g)(e:∀k,g' k=g k):eF kk M0 M a kvs g':=by
 have:g'=g:=funext e;rw[this];exact h
end
structure Cc where
 q:Addr
 s:Addr
 f:Addr
 g:Addr
 p:Addr
 h:Addr
 i:Addr
 c:Addr
 t:Addr
def cW(c:aL):W:=.tup [.int c.1,.int c.2]
def cK(c:aL):List aE:=[Sum.inl c.1,Sum.inl c.2]
theorem ZZ(c:aL):cW c=.tup ((cK c).map wK):=rfl
theorem JM:∀a b:aL,cK a=cK b->a=b:=λa b h=>by
 unfold cK at h;simp only[Ed,Kj,and_true]at h;exact Prod.ext h.1 h.2
def fT(cut:List Int):W:=.tup (cut.map W.int)
def kB(x:Nat×List Int):W:=.tup [.int x.1,fT x.2]
section
variable {O:Type}
theorem zN{U J:Type}[DecidableEq U]{t:List (U×J)}{k:U}(h:∀e∈t,e.1≠k):aD t k=none:=by
 induction t with
 | nil=>rfl
 | cons e t ih=>rw[cY,if_neg (h e Aw)];exact ih λx hx=>h x (Ap _ hx)
theorem vK{a b:aL}(h:cS a b=true):a≠b:=λe=>by subst e;exact rS h
theorem JN(c:aL)(x:O)(d:aL):∀{q:List (aL×List O)},hJ q->aD (d3 c x q) d=if c=d then some ((aD q c).getD []++[x]) else aD q d
 | [],_=>by rw[d3,cY];rfl
 | (e,xs)::r,h=>by
  obtain⟨_,h2,h3⟩:=h;rw[d3]
  by_cases h1:cS c e=true
  .rw[if_pos h1,cY,JN c x d h3,cY,cY,if_neg (Bi (vK h1))]
   by_cases hd:e=d
   .rw[if_pos hd,if_pos hd,if_neg (λz=>vK h1 (z.trans hd.symm))]
   .rw[if_neg hd,if_neg hd]
  .rw[if_neg h1]
   by_cases h4:e=c
   .subst h4;rw[if_pos rfl,cY,cY,cY,if_pos rfl]
    by_cases hd:e=d
    .rw[if_pos hd,if_pos hd];rfl
    .rw[if_neg hd,if_neg hd,if_neg hd]
   .rw[if_neg h4,cY];have hn:aD ((e,xs)::r) c=none:=zN λz hz=>by
     rcases Aj.mp hz with y|y
     .rw[y];exact h4
     .intro e1;have:=h2 z y;rw[e1]at this;exact h1 this
    rw[hn];rfl
def pos(c:aL):List aL->Nat
 | []=>0
 | d::r=>if cS c d=true then pos c r+1 else 0
theorem JO(c:aL):∀cs:List aL,pos c cs<=cs.length
 | []=>Ai _
 | d::r=>by
  rw[pos];split
  .have:=JO c r;simp;lia
  .simp
theorem zP(c:aL)(x:O):∀{q:List (aL×List O)},hJ q->(aD q c).isSome=false->(d3 c x q).map (·.1)=(q.map (·.1)).take (pos c (q.map (·.1)))++c::(q.map (·.1)).drop (pos c (q.map (·.1)))
 | [],_,_=>rfl
 | (e,xs)::r,h,hn=>by
  obtain⟨_,h2,h3⟩:=h;rw[cY]at hn
  by_cases h4:e=c
  .rw[if_pos h4]at hn;cases hn
  .rw[if_neg h4]at hn;rw[d3,Bb,pos]
   by_cases h1:cS c e=true
   .rw[if_pos h1,if_pos h1,Bb,zP c x h3 hn];rfl
   .rw[if_neg h1,if_neg h1,if_neg h4];rfl
theorem JP(c:aL)(x:O):∀{q:List (aL×List O)},hJ q->(aD q c).isSome=true->(d3 c x q).map (·.1)=q.map (·.1)
 | [],_,h=>by cases h
 | (e,xs)::r,h,hn=>by
  obtain⟨_,h2,h3⟩:=h;rw[cY]at hn;rw[d3]
  by_cases h1:cS c e=true
  .rw[if_neg (Bi (vK h1))]at hn;rw[if_pos h1,Bb,JP c x h3 hn];rfl
  .rw[if_neg h1]
   by_cases h4:e=c
   .rw[if_pos h4];rfl
   .rw[if_neg h4]at hn;obtain⟨ys,hy⟩:=Cj.mp hn;have:∃z∈r,z.1=c:=by
     have:∀{t:List (aL×List O)},aD t c=some ys->∃z∈t,z.1=c:=by
      intro t
      induction t with
      | nil=>intro e;cases e
      | cons b t ih=>
       intro e;rw[cY]at e
       by_cases hb:b.1=c
       .exact⟨b,Aw,hb⟩
       .rw[if_neg hb]at e;obtain⟨z,h1,h2⟩:=ih e;exact⟨z,Ap _ h1,h2⟩
     exact this hy
    obtain⟨z,hz,e1⟩:=this;have:=h2 z hz;rw[e1]at this;exact absurd this h1
theorem zQ:∀{q:List (aL×List O)},hJ q->q.length<=(bB q).length
 | [],_=>Ai _
 | (e,xs)::r,h=>by
  obtain⟨h1,_,h3⟩:=h;have:=zQ h3;have:=Fy.mpr h1;rw[bB,Ak,Ab,Br];lia
theorem JQ:∀{q:List (aL×List O)} {c:aL},((aD q c).getD []).length<=(bB q).length
 | [],_=>Ai _
 | (e,xs)::r,c=>by
  rw[cY,bB,Ak,Ab];split
  .show xs.length<=_;lia
  .have:=JQ (q:=r) (c:=c);lia
theorem JR:∀{q q':List (aL×List O)} {c:aL} {x:O},hJ q->iI q=some (c,x,q')->∃r ys,q=r++[(c,ys++[x])]/\q'=(if ys.isEmpty then r else r++[(c,ys)])
 | [],q',c,x,_,h=>by cases h
 | [(d,xs)],q',c,x,hf,h=>by
  obtain⟨h1,_,_⟩:=hf;rcases Ea xs with z|⟨ys,y,z⟩
  .exact absurd z h1
  .rw[Eb]at z;subst z;simp[iI]at h;obtain⟨rfl,rfl,rfl⟩:=h;refine⟨[],ys,rfl,?_⟩;cases ys<;>simp
 | e::e2::r,q',c,x,hf,h=>by
  obtain⟨_,_,h3⟩:=hf;rw[iI]at h;split at h
  .cases h
  .rename_i d1 x1 q1 e1;simp only[Ge,De]at h;obtain⟨rfl,rfl,rfl⟩:=h;obtain⟨r',ys,z1,z2⟩:=JR h3 e1;refine⟨e::r',ys,by rw[z1];rfl,?_⟩;rw[z2];split<;>rfl
theorem vL{U J:Type}[DecidableEq U]{t:List (U×J)}{k:U}{v:J}(h:∀e∈t,e.1≠k)(j:U):aD (t++[(k,v)]) j=if k=j then some v else aD t j:=by
 rw[zA]
 by_cases hj:k=j
 .subst hj;rw[if_pos rfl,if_pos rfl,zN h];rfl
 .rw[if_neg hj,if_neg hj,Option.or_none]
theorem JS:∀{r:List (aL×List O)} {c:aL} {ys:List O},hJ (r++[(c,ys)])->∀e∈r,e.1≠c
 | [],_,_,_,e,h=>nomatch h
 | b::r,c,ys,h,e,he=>by
  obtain⟨_,h2,h3⟩:=h;rcases Aj.mp he with z|z
  .rw[z];exact Bi (vK (h2 (c,ys) (by simp)))
  .exact JS h3 e z
theorem JT:∀{q:List (aL×List O)},hJ q->(q.map (·.1)).Pairwise λa b=>cS b a=true
 | [],_=>.nil
 | (e,xs)::r,h=>by
  obtain⟨_,h2,h3⟩:=h;rw[Bb,List.pairwise_cons];refine⟨λa ha=>?_,JT h3⟩;obtain⟨z,hz,rfl⟩:=Ay.mp ha;exact h2 z hz
end
theorem JU{c:aL}:∀{cs:List aL} {k:Nat},k<=cs.length->(∀i d,i<k->cs[i]? = some d->cS c d=true)->(∀i d,k<=i->cs[i]? = some d->cS c d=false)->pos c cs=k
 | [],k,h,_,_=>by simp at h;subst h;rfl
 | d::r,k,h,h1,h2=>by
  rw[pos];cases k with
  | zero=>rw[if_neg (by rw[h2 0 d (Ai _) rfl];decide)]
  | succ k=>
   rw[if_pos (h1 0 d (by lia) rfl),JU (k:=k) (by simpa using h) (λi e hi he=>h1 (i+1) e (by lia) (by simpa using he)) λi e hi he=>h2 (i+1) e (by lia) (by simpa using he)]
structure Aq where
 o:Addr
 d:Addr
 c:Addr
 w:Addr
def qf(A:Aq):List (Str×W):=[("costs",.ref A.c),("waiting",.ref A.w)]
theorem p8{A:Aq}:Ce ("costs" : Str) (qf A)=some (W.ref A.c):=by kernel_rfl
theorem p9{A:Aq}:Ce ("waiting" : Str) (qf A)=some (W.ref A.w):=by kernel_rfl
theorem Z0{A:Aq}:Ce ("place_of" : Str) (qf A)=none:=by kernel_rfl
theorem Z1{A:Aq}:Ce ("put" : Str) (qf A)=none:=by kernel_rfl
theorem Z2{A:Aq}:Ce ("take" : Str) (qf A)=none:=by kernel_rfl
theorem Z3{A:Aq}:Ce ("is_done" : Str) (qf A)=none:=by kernel_rfl
structure Qm(C:Cc)(M0 M:Mm)(A:Aq)(cs:List aL):Prop where
 sub:L3.Sub M0 M
 no:M0 A.o=none
 nc:M0 A.c=none
 ne:A.o≠A.c
 ob:M A.o=some (.ins C.q A.d (qf A))
 co:M A.c=some (.lst (cs.map cW))
abbrev Qu:=List (aL×List (Nat×List Int))
abbrev wG(q:Qu):aL->Option (List W):=λc=>(aD q c).map λxs=>xs.map kB
structure QR(C:Cc)(M0 M:Mm)(A:Aq)(q:Qu):Prop where
 fall:hJ q
 ex:∃M1 kvs,Qm C M0 M1 A (q.map (·.1))/\eF cK M1 M A.w kvs (wG q)/\kvs.length<=q.length
theorem Qm.lift{C:Cc}{M0 M:Mm}{A:Aq}{cs:List aL}{p:Addr}{o:MO}(h:Qm C M0 M A cs)(hp:M p=none\/∃u,M0 p=some u):Qm C (put M0 p o) (put M p o) A cs:=by
 have ne:∀{b:Addr},M0 b=none->(∃u,M b=some u)->b≠p:=λ{b} h0 ⟨u,h1⟩ e=>by
  subst e;rcases hp with z|⟨v,z⟩
  .rw[h1]at z;cases z
  .rw[h0]at z;cases z
 have n1:=ne h.no ⟨_,h.ob⟩;have n2:=ne h.nc ⟨_,h.co⟩;exact⟨Sub.put h.sub,by rw[aU n1];exact h.no,by rw[aU n2];exact h.nc,h.ne,by rw[aU n1];exact h.ob,by rw[aU n2];exact h.co⟩
theorem Qm.costs{C:Cc}{M0 M:Mm}{A:Aq}{cs cs':List aL}(h:Qm C M0 M A cs):Qm C M0 (put M A.c (.lst (cs'.map cW))) A cs':=
 ⟨fJ h.sub h.nc,h.no,h.nc,h.ne,by rw[aU h.ne];exact h.ob,aX⟩
theorem QR.lift{C:Cc}{M0 M:Mm}{A:Aq}{q:Qu}{p:Addr}{o:MO}(h:QR C M0 M A q)(hp:M p=none\/∃u,M0 p=some u):QR C (put M0 p o) (put M p o) A q:=by
 obtain⟨M1,kvs,h1,h2,h3⟩:=h.ex;refine⟨h.fall,put M1 p o,kvs,h1.lift ?_,h2.lift ?_,h3⟩
 .rcases hp with z|z
  .exact .inl (h2.sub.non z)
  .exact .inr z
 .rcases hp with z|⟨u,z⟩
  .exact .inl z
  .exact .inr ⟨u,h1.sub _ _ z⟩
theorem QR.more{C:Cc}{M0 M:Mm}{A:Aq}{q:Qu}{p:Addr}{o:MO}(h:QR C M0 M A q)(hp:M p=none):QR C M0 (put M p o) A q:=by
 obtain⟨M1,kvs,h1,h2,h3⟩:=h.ex;exact⟨h.fall,M1,kvs,h1,h2.more hp,h3⟩
theorem QR.sub{C:Cc}{M0 M:Mm}{A:Aq}{q:Qu}(h:QR C M0 M A q):L3.Sub M0 M:=by
 obtain⟨M1,kvs,h1,h2,h3⟩:=h.ex;exact h1.sub.trans h2.sub
theorem QR.ob{C:Cc}{M0 M:Mm}{A:Aq}{q:Qu}(h:QR C M0 M A q):M A.o=some (.ins C.q A.d (qf A)):=by
 obtain⟨M1,kvs,h1,h2,h3⟩:=h.ex;exact h2.sub _ _ h1.ob
theorem QR.co{C:Cc}{M0 M:Mm}{A:Aq}{q:Qu}(h:QR C M0 M A q):M A.c=some (.lst ((q.map (·.1)).map cW)):=by
 obtain⟨M1,kvs,h1,h2,h3⟩:=h.ex;exact h2.sub _ _ h1.co
def JV(C:Cc):bL:=λws M R=>∃M0 a dx,ws=[.ref a]/\M=put M0 a (.ins C.q dx [])/\M0 a=none/\∀M' (A:Aq),A.o=a->QR C M0 M' A []->R .non M'
def JW(C:Cc):bL:=λws M R=>∃M0 A q,ws=[.ref A.o]/\QR C M0 M A q/\R (.bl (decide (q=[]))) M
def JX(C:Cc):bL:=λws M R=>∃(A:Aq) (cs:List aL) (c:aL),ws=[.ref A.o,cW c]/\M A.o=some (.ins C.q A.d (qf A))/\M A.c=some (.lst (cs.map cW))/\cs.Pairwise (λa b=>cS b a=true)/\cs.length<10000000/\R (.int (pos c cs:Nat)) M
def zR(C:Cc):bL:=λws M R=>∃M0 A q c x,ws=[.ref A.o,cW c,kB x]/\QR C M0 M A q/\(bB (d3 c x q)).length<10000000/\∀M',QR C M0 M' A (d3 c x q)->R .non M'
def JY(C:Cc):bL:=λws M R=>∃M0 A q c x q',ws=[.ref A.o]/\QR C M0 M A q/\iI q=some (c,x,q')/\∀M',QR C M0 M' A q'->R (.tup [cW c,kB x]) M'
abbrev Z4:List Str:=["self"]
def Z5(C:Cc):aJ:=
   (aT (kA C.q (aA 0) "costs" (gR aG))
   (kA C.q (aA 0) "waiting" lZ))
abbrev Z6:List Str:=["self"]
def Z7(C:Cc):aJ:=
   (bW (aF (rEq false) (b9 eC (aB (dG C.q (aA 0) "costs") aG)) (vC (.int 0))))
abbrev Z8:List Str:=["self","cost","thing"]
def Z9(C:Cc):aJ:=
   (aT (dB (bZ (aF (rIn true) (aA 1) (dG C.q (aA 0) "waiting")))
    (aT (gS (gR aG) (iF (dG C.q (aA 0) "waiting") (aA 1)))
   (dZ (dE "list" JJ (dG C.q (aA 0) "costs") (aB (iJ C.q "place_of" (JX C) (aA 0) (aB (aA 1) aG)) (aB (aA 1) aG)))))
    eP)
   (dZ (dE "list" fF (aF aR (dG C.q (aA 0) "waiting") (aA 1)) (aB (aA 2) aG))))
abbrev zaa:List Str:=["self","cost","low","high","middle"]
def zab(C:Cc):aJ:=
   (bE 2 (vC (.int 0)))
def zac(C:Cc):aJ:=
   (bE 3 (b9 eC (aB (dG C.q (aA 0) "costs") aG)))
def zad(C:Cc):aJ:=
   (aT (bE 4 (aF yF (aF c8 (aA 2) (aA 3)) (vC (.int 2))))
   (dB (bZ (aF JH (aF aR (dG C.q (aA 0) "costs") (aA 4)) (aA 1)))
    (bE 2 (aF c8 (aA 4) (vC (.int 1))))
    (bE 3 (aA 4))))
def zae(C:Cc):aJ:=
   (pT (bZ (aF oA (aA 2) (aA 3))) (zad C))
def zaf(C:Cc):aJ:=
   (bW (aA 2))
def zag(C:Cc):aJ:=(aT (zab C) (aT (zac C) (aT (zae C) (zaf C))))
abbrev zah:List Str:=["self","cost","things","thing"]
def zai(C:Cc):aJ:=
   (bE 1 (aF aR (dG C.q (aA 0) "costs") (kS kX (vC (.int 1)))))
def zaj(C:Cc):aJ:=
   (bE 2 (aF aR (dG C.q (aA 0) "waiting") (aA 1)))
def zak(C:Cc):aJ:=
   (bE 3 (pL "list" rPop (aA 2)))
def zal(C:Cc):aJ:=
   (dB (bZ (aF (rEq false) (b9 eC (aB (aA 2) aG)) (vC (.int 0))))
    (aT (dZ (pL "list" rPop (dG C.q (aA 0) "costs")))
   (dZ (dE "dict" JC (dG C.q (aA 0) "waiting") (aB (aA 1) aG))))
    eP)
def zam(C:Cc):aJ:=
   (bW (cM (aB (aA 1) (aB (aA 3) aG))))
def zan(C:Cc):aJ:=(aT (zai C) (aT (zaj C) (aT (zak C) (aT (zal C) (zam C)))))
theorem z1:1<=Ao:=by decide
theorem z2:2<=Ao:=by decide
theorem z3:3<=Ao:=by decide
theorem z4:4<=Ao:=by decide
theorem cU{b:Bool}{P Q:Prop}(h1:b=true->P)(h2:b=false->Q):if b=true then P else Q:=by cases b;exact h2 rfl;exact h1 rfl
theorem zS{w:W}{ws:List W}{M:Mm}{R:List W->(Mm->Prop)->Mm->Prop}(e:w=.rl ws)(h:R ws (λ_=>True) M):L3.nE w M R:=by rw[e];exact h
theorem oP{M:Mm}{a:Addr}{kvs:List (List aE×W)}{k:List aE}{w:W}{R:K3}(h:M a=some (.dT kvs))(hl:bD kvs k=some w)(r:R w M):L3.aR (.ref a) (.tup (k.map wK)) M R:=⟨w,.inr ⟨kvs,k,h,rfl,hl.symm⟩,r⟩
theorem eU{M:Mm}{a:Addr}{ws:List W}(h:M a=some (.lst ws)):kU "list" (.ref a) M:=.inl ⟨rfl,_,h⟩
theorem nK{M:Mm}{a:Addr}{kvs:List (List aE×W)}(h:M a=some (.dT kvs)):kU "dict" (.ref a) M:=.inr ⟨rfl,.inr ⟨_,h⟩⟩
theorem zao{C:Cc}{ws:List W}{M:Mm}{R:K3}(h:JW C ws M R):Z7 C (bP R) (bX Z6 ws) M:=by
 obtain⟨M0,A,q,rfl,hq,r⟩:=h;refine⟨_,rfl,A.o,A.d,qf A,_,rfl,hq.ob,p8,.inl ⟨_,hq.co,M,Sub.refl _,?_⟩⟩;show R (.bl (decide (((Jt cW (q.map λx=>x.1)).length:Int)=0))) M;have e:decide (((Jt cW (q.map λx=>x.1)).length:Int)=0)=decide (q=[]):=by
  cases q<;>simp;lia
 rw[e];exact r
theorem zap{C:Cc}{ws:List W}{M:Mm}{R:K3}(h:JV C ws M R):Z5 C (bP R) (bX Z4 ws) M:=by
 obtain⟨M0,a,dx,rfl,rfl,ha,r⟩:=h;refine⟨Ca _,λp hp=>?_⟩;have hpa:p≠a:=λe=>by rw[e,aX]at hp;cases hp
 have hp0:M0 p=none:=by rw[aU hpa]at hp;exact hp
 refine⟨_,rfl,a,dx,[],rfl,by rw[aU (Bi hpa),aX],by decide,λw hw=>?_⟩;have hwa:w≠a:=λe=>by rw[e,aX]at hw;cases hw
 have hwp:w≠p:=λe=>by rw[e,aU hpa,aX]at hw;cases hw
 have hw0:M0 w=none:=by rw[aU hwa,aU hwp,aU hwa]at hw;exact hw
 refine⟨_,rfl,a,dx,cD "costs" (.ref p) [],rfl,by rw[aU (Bi hwa),aX],(show(1:Nat)<1000 by decide),_,Sub.refl _,r _ ⟨a,dx,p,w⟩ rfl ⟨trivial,put (put M0 p (.lst [])) a (.ins C.q dx (qf ⟨a,dx,p,w⟩)),[],⟨fJ (fJ (Sub.refl _) hp0) ha,ha,hp0,Bi hpa,aX,by rw[aU hpa,aX];rfl⟩,?_,Ai _⟩⟩;have e:put (put (put (put (put M0 a (.ins C.q dx [])) p (.lst [])) a (.ins C.q dx (cD "costs" (.ref p) []))) w (.dT [])) a (.ins C.q dx (cD "waiting" (.ref w) (cD "costs" (.ref p) [])))=put (put (put M0 p (.lst [])) a (.ins C.q dx (qf ⟨a,dx,p,w⟩))) w (.dT []):=by
  have eq:cD "waiting" (.ref w) (cD "costs" (.ref p) [])=qf ⟨a,dx,p,w⟩:=by
   show(if (("costs" : Str)=("waiting" : Str)) then _ else _)=_;rw[if_neg (by decide +kernel)];rfl
  rw[eq];funext b;unfold put
  by_cases h1:b=a<;>by_cases h2:b=w<;>by_cases h3:b=p<;>simp_all
 rw[e];exact⟨fJ (Sub.refl _) (by rw[aU hwa,aU hwp];exact hw0),by rw[aU hwa,aU hwp];exact hw0,aX,(λ_ _=>rfl),(λk ws e=>nomatch e),(λk j p e=>nomatch e)⟩
theorem zaq{C:Cc}{ws:List W}{M:Mm}{R:K3}(h:JX C ws M R):zag C (bP R) (bX zaa ws) M:=by
 obtain⟨A,cs,c,rfl,ho,hc,pw,hl,r⟩:=h;refine⟨_,rfl,A.o,A.d,qf A,_,rfl,ho,p8,.inl ⟨_,hc,?_⟩⟩;refine⟨λm τ M'=>∃lo hi:Nat,∃o,τ=[some (.ref A.o),some (cW c),some (.int lo),some (.int hi),o]/\M'=M/\lo<=hi/\hi<=cs.length/\(∀i d,i<lo->cs[i]? = some d->cS c d=true)/\(∀i d,hi<=i->cs[i]? = some d->cS c d=false)/\m=hi-lo,⟨_,0,cs.length,none,by rw[Ab];rfl,rfl,Ca _,Ai _,(λi d hi=>absurd hi (Nat.not_lt_zero _)),(λi d hi e=>by rw[Hj hi]at e;cases e),rfl⟩,?_⟩;rintro m τ M' ⟨lo,hi,o,rfl,rfl,h1,h2,h3,h4,rfl⟩;refine⟨_,rfl,_,rfl,_,rfl,cU (λhb=>?_) λhb=>?_⟩
 .have hlt:=of_decide_eq_true hb;refine⟨_,rfl,_,rfl,⟨by decide,by decide⟩,?_⟩;obtain⟨mid,hm⟩:∃mid,mid=(lo+hi)/2:=⟨_,rfl⟩;have em:((lo:Int)+(hi:Int))/2=(mid:Nat):=by lia
  dsimp only;rw[em];obtain⟨d,hd⟩:∃d,cs[mid]? = some d:=⟨_,Au (by lia)⟩;refine⟨_,rfl,A.o,A.d,qf A,_,rfl,ho,p8,_,rfl,.inl ⟨_,cW d,hc,fA (by rw[Ax,hd];rfl),_,rfl,d.1,d.2,c.1,c.2,rfl,rfl,_,rfl,?_⟩⟩;have pg:∀i j a b,i<j->cs[i]? = some a->cs[j]? = some b->cS b a=true:=λi j a b hij hi' hj'=>by
   obtain⟨q1,e1⟩:=An.mp hi';obtain⟨q2,e2⟩:=An.mp hj';rw[<-e1,<-e2];exact Km.mp pw i j q1 q2 hij
  show if cS c d=true then _ else _
  by_cases hcd:cS c d=true
  .rw[if_pos hcd];refine⟨_,rfl,_,_,?_,Sub.refl _,mid+1,hi,_,rfl,rfl,by lia,h2,λi e hi' he=>?_,h4,rfl⟩
   .lia
   .by_cases hi2:i<mid
    .exact rT hcd (Le.of_lt (pg i mid e d hi2 he hd))
    .have:i=mid:=by lia
     rw[this,hd]at he;cases he;exact hcd
  .rw[if_neg hcd];refine⟨_,rfl,_,_,?_,Sub.refl _,lo,mid,_,rfl,rfl,by lia,by lia,h3,λi e hi' he=>?_,rfl⟩
   .lia
   .by_cases hi2:mid<i
    .have h5:=pg mid i d e hi2 hd he;cases h6:cS c e with
     | false=>rfl
     | true=>exact absurd (rT h6 (Le.of_lt h5)) hcd
    .have:i=mid:=by lia
     rw[this,hd]at he;cases he;simpa using hcd
 .have hlt:=of_decide_eq_false hb;have:lo=hi:=by lia
  subst this;refine⟨_,rfl,_,Sub.refl _,?_⟩;rw[<-JU (c:=c) (cs:=cs) (k:=lo) h2 h3 h4];exact r
theorem zar{C:Cc}{ws:List W}{M:Mm}{R:K3}(h:zR C ws M R):Z9 C (bP R) (bX Z8 ws) M:=by
 obtain⟨M0,A,q,c,x,rfl,hq,hl,r⟩:=h;have hle:=u5 c x q;have hf:=hq.fall;have hql:=zQ hf;have hil:=JQ (q:=q) (c:=c);have hfp:=zB c x hf;obtain⟨M1,kvs,m1,t1,l1⟩:=hq.ex;refine⟨_,rfl,_,rfl,A.o,A.d,qf A,_,rfl,hq.ob,p9,.inr ⟨_,.inr ⟨kvs,cK c,t1.at_,ZZ c,rfl⟩,_,rfl,?_⟩⟩;rw[t1.look c];have wgp:∀j,wG (d3 c x q) j=if c=j then some (((aD q c).getD []).map kB++[kB x]) else wG q j:=λj=>by
  show(aD (d3 c x q) j).map _=_;rw[JN c x j hf]
  by_cases hj:c=j
  .rw[if_pos hj,if_pos hj,La,Bc];rfl
  .rw[if_neg hj,if_neg hj]
 cases hg:aD q c with
 | some xs=>
  have hgw:wG q c=some (xs.map kB):=by show(aD q c).map _=_;rw[hg];rfl
  rw[hgw];rw[hg]at hil wgp;have hil:xs.length<=(bB q).length:=hil;refine cU (λh=>nomatch (show false=true from h)) λ_=>?_;obtain⟨p,hp1,hp2⟩:=t1.has hgw;have hold:=JP c x hf (by rw[hg];rfl);refine⟨_,rfl,A.o,A.d,qf A,_,rfl,hq.ob,p9,_,rfl,oP t1.at_ hp1 ⟨eU hp2,_,rfl,_,hp2,d8 (by rw[Ab];lia),_,Sub.refl _,r _ ⟨hfp,M1,kvs,?_,(t1.wr hp1).same wgp,?_⟩⟩⟩
  .rw[hold];exact m1
  .have:=congrArg Eh hold;rw[Ab,Ab]at this;rw[this];exact l1
 | none=>
  have hgw:wG q c=none:=by show(aD q c).map _=_;rw[hg];rfl
  rw[hgw];rw[hg]at wgp;refine cU (λ_=>⟨Ca _,λp hp=>?_⟩) λh=>nomatch (show true=false from h);have t2:=t1.add JM (ws:=[]) hgw hp;have hpo:A.o≠p:=λe=>by rw[<-e,hq.ob]at hp;cases hp
  have hll:((q.map (·.1)).map cW).length=q.length:=by rw[Ab,Ab]
  have hpl:=JO c (q.map (·.1));rw[Ab]at hpl;refine⟨_,rfl,A.o,A.d,qf A,_,rfl,by rw[aU hpo];exact hq.ob,p9,_,rfl,rP (k:=cK c) (kvs:=kvs) (by rw[aU (λe=>by rw[<-e,t1.at_]at hp;cases hp)];exact t1.at_) (d8 (by lia)) ?_⟩;refine⟨_,rfl,A.o,A.d,qf A,_,rfl,t2.sub _ _ m1.ob,p8,eU (t2.sub _ _ m1.co),?_⟩;have t3:=t2.lift (p:=A.c) (o:=.lst ((((q.map (·.1)).take (pos c (q.map (·.1)))++c::(q.map (·.1)).drop (pos c (q.map (·.1)))).map cW))) (.inr ⟨_,m1.co⟩);have m3:=m1.costs (cs':=(q.map (·.1)).take (pos c (q.map (·.1)))++c::(q.map (·.1)).drop (pos c (q.map (·.1))));refine⟨_,rfl,A.o,A.d,qf A,rfl,t2.sub _ _ m1.ob,Z0,_,rfl,A,q.map (·.1),c,rfl,t2.sub _ _ m1.ob,t2.sub _ _ m1.co,JT hf,by rw[Ab];lia,_,rfl,_,t2.sub _ _ m1.co,d8 (by rw[hll];lia),by lia,by rw[hll];lia,?_⟩;have ew:((q.map (·.1)).map cW).take (Int.toNat (pos c (q.map (·.1)):Nat))++cW c::((q.map (·.1)).map cW).drop (Int.toNat (pos c (q.map (·.1)):Nat))=(((q.map (·.1)).take (pos c (q.map (·.1)))++c::(q.map (·.1)).drop (pos c (q.map (·.1)))).map cW):=by
   rw[Dg,Bc,Bb,Mq,List.map_drop]
  rw[ew];obtain⟨p',hp1,hp2⟩:=t3.has (k:=c) (ws:=[]) (by rw[if_pos rfl]);refine⟨_,rfl,A.o,A.d,qf A,_,rfl,t3.sub _ _ m3.ob,p9,_,rfl,oP t3.at_ hp1 ⟨eU hp2,_,rfl,_,hp2,d8 (by simp),_,Sub.refl _,r _ ⟨hfp,_,_,?_,(t3.wr hp1).same (λj=>?_),?_⟩⟩⟩
  .rw[zP c x hf (by rw[hg];rfl)];exact m3
  .rw[wgp j]
   by_cases hj:c=j
   .rw[if_pos hj,if_pos hj];rfl
   .rw[if_neg hj,if_neg hj,if_neg hj]
  .have h1:=congrArg Eh (zP c x hf (by rw[hg];rfl));have h2:=vJ kvs (cK c) (W.ref p);rw[Ab,Ak,Br,Bq,Ic,Ab]at h1;lia
theorem zas{C:Cc}{ws:List W}{M:Mm}{R:K3}(h:JY C ws M R):zan C (bP R) (bX zah ws) M:=by
 obtain⟨M0,A,q,c,x,q',rfl,hq,ht,r⟩:=h;have hf:=hq.fall;have ⟨_,_,_,e0,hf',_,_,_,_⟩:=oH hf (λe=>by rw[e]at ht;cases ht);rw[ht]at e0;cases e0;obtain⟨M1,kvs,m1,t1,l1⟩:=hq.ex;obtain⟨r0,ys,e1,e2⟩:=JR hf ht;have hnl:∀e∈r0,e.1≠c:=by rw[e1]at hf;exact JS hf
 have hgw:wG q c=some (ys.map kB++[kB x]):=by
  show(aD q c).map _=_;rw[e1,vL hnl,if_pos rfl,La,Bc];rfl
 obtain⟨p,hp1,hp2⟩:=t1.has hgw;have hc:M A.c=some (.lst (((r0.map (·.1)).map cW)++[cW c])):=by rw[hq.co,e1];simp
 refine⟨_,rfl,A.o,A.d,qf A,_,rfl,hq.ob,p8,.inl ⟨_,_,hc,FG _ _,_,rfl,A.o,A.d,qf A,_,rfl,hq.ob,p9,_,rfl,oP t1.at_ hp1 ⟨_,rfl,eU hp2,⟨_,_,hp2,_,rfl,.inl ⟨_,aX,_,rfl,?_⟩⟩⟩⟩⟩;have t2:=t1.wr (ws:=ys.map kB) hp1;cases ys with
 | nil=>
  refine cU (λ_=>?_) λh=>nomatch (show true=false from h);have hm1:M1 A.c=some (.lst (((r0.map (·.1)).map cW)++[cW c])):=by rw[m1.co,e1];simp
  have m2:=m1.costs (cs':=r0.map (·.1));have t3:=t2.lift (p:=A.c) (o:=.lst ((r0.map (·.1)).map cW)) (.inr ⟨_,hm1⟩);have t4:=t3.del (k:=c) JM;refine⟨_,rfl,A.o,A.d,qf A,_,rfl,t2.sub _ _ m1.ob,p8,eU (t2.sub _ _ hm1),_,_,t2.sub _ _ hm1,_,rfl,A.o,A.d,qf A,_,rfl,t3.sub _ _ m2.ob,p9,nK t3.at_,_,rfl,_,cK c,_,t3.at_,rfl,hp1,?_⟩;refine⟨_,rfl,_,rfl,z2,_,Sub.refl _,r _ ⟨hf',_,_,?_,t4.same (λj=>?_),?_⟩⟩
  .rw[e2];exact m2
  .show(aD q' j).map _=_;rw[e2,if_pos (by rfl:([]:List (Nat×List Int)).isEmpty=true)]
   by_cases hj:c=j
   .subst hj;rw[if_pos rfl,zN hnl];rfl
   .rw[if_neg hj,if_neg hj];show _=(aD q j).map _;rw[e1,vL hnl,if_neg hj]
  .have h1:=JL (kvs:=kvs) (k:=cK c) (by rw[hp1];rfl);rw[e1,Ak,Bl]at l1;rw[e2,if_pos (by rfl:([]:List (Nat×List Int)).isEmpty=true)];lia
 | cons y ys=>
  refine cU (λh=>?_) λ_=>?_
  .have h:=of_decide_eq_true (show decide (((Jt kB (y::ys)).length:Int)=0)=true from h);rw[Bb,Br]at h;lia
  refine⟨_,rfl,_,rfl,z2,_,Sub.refl _,r _ ⟨hf',_,_,?_,t2.same (λj=>?_),?_⟩⟩
  .rw[e2,if_neg (by simp)];rw[e1]at m1;simpa using m1
  .show(aD q' j).map _=_;rw[e2,if_neg (by simp),vL hnl]
   by_cases hj:c=j
   .rw[if_pos hj,if_pos hj];rfl
   .rw[if_neg hj,if_neg hj];show _=(aD q j).map _;rw[e1,vL hnl,if_neg hj]
  .rw[e1]at l1;rw[e2,if_neg (by simp)];simpa using l1
def vM:bL:=λws M R=>∃rs:List a7,ws=[.rl (rs.map gL)]/\rs.length<=400/\bH ((namesOf rs).map W.str) M R
def JZ:bL:=λws M R=>∃(r:a7) (rs:List a7),ws=[.rl ((r::rs).map gL)]/\R (.str r.name) M
abbrev zat:List Str:=["grammar","found","rule"]
def zau:aJ:=
   (bE 1 oC)
def zav:aJ:=
   (gS (vC (.bl true)) (iF (aA 1) (aF aR (aA 2) (vC (.int 0)))))
def zaw:aJ:=
   (eD (dJ fR (aA 0)) (bM 2) zav)
def zax:aJ:=
   (bW (b9 yN (aB (aA 1) aG)))
def zay:aJ:=(aT zau (aT zaw zax))
abbrev zaz:List Str:=["grammar"]
def zaA:aJ:=
   (bW (aF aR (aF aR (aA 0) (vC (.int 0))) (vC (.int 0))))
end Rg
namespace L3
open PySem Spec PyProof.Rows L2
theorem zgg{n:Bool}{i j:Str}{M:Mm}{R:K3}:L3.rIn n (.str i) (.str j) M R=R (.bl (if n then !occ i j else occ i j)) M:=rfl
theorem zgh{n:Bool}{i:Str}{ws:List W}{M:Mm}{R:K3}:L3.rIn n (.str i) (.rl ws) M R=(fE (.str i)=true/\ws.all fE=true/\R (.bl (if n then !inW (.str i) ws else inW (.str i) ws)) M):=rfl
end L3
namespace Rg
open PySem Spec PyProof.Rows L2 L3
theorem J0{P Q:Prop}(h:P):if true=true then P else Q:=h
def f9(t:Str):aE×W:=(Sum.inr t,.bl true)
theorem J1(acc:List Str)(t:Str):cA (acc.map f9) (Sum.inr t:aE) (.bl true)=(iV acc t).map f9:=by
 unfold cA iV;have e:((acc.map f9).any λkv=>decide (kv.1=Sum.inr t))=decide (t∈acc):=by
  rw[List.any_map,Dy];simp[f9,Fn]
 rw[e]
 by_cases h:t∈acc
 .rw[if_pos (decide_eq_true h),if_pos h,Bh];refine Cw λu hu=>?_;simp[f9,Fn]
 .rw[if_neg (by simpa using h),if_neg h,Bc];rfl
theorem jQ{ws:List W}{M:Mm}{R:List W->(Mm->Prop)->Mm->Prop}(h:R ws (λ_=>True) M):fR (.rl ws) M R:=h
theorem zaB{ws:List W}{M:Mm}{R:K3}(h:vM ws M R):zay (bP R) (bX zat ws) M:=by
 obtain⟨rs,rfl,hl,r⟩:=h;refine λp hp=>⟨_,rfl,jQ (pU (λi τ M'=>∃o,τ=[some (.rl (rs.map gL)),some (.ref p),o]/\M'=put M p (.dK ((namesOf (rs.take i)).map f9))) ⟨_,rfl,rfl⟩ (λ_ _ _ _ _=>trivial) ?_ ?_)⟩
 .rintro i w τ M' hw ⟨o,rfl,rfl⟩;rw[Ax]at hw;obtain⟨q,hq,rfl⟩:=Bf.mp hw;have hi:i<rs.length:=(An.mp hq).1;have e:namesOf (rs.take (i+1))=iV (namesOf (rs.take i)) q.name:=by
   rw[Cd,hq];unfold namesOf rR;simp
  have hlen:(namesOf (rs.take i)).length<=i:=by
   have:=u0 ((rs.take i).map a7.name) [];unfold namesOf rR;simp at this;simp;lia
  refine⟨_,rfl,_,rfl,_,rfl,YA aX (by rw[Ab];exact d8 (by lia)) ⟨_,Sub.refl _,_,rfl,?_⟩⟩;rw[fM,J1,e]
 .rintro τ M' ⟨o,rfl,rfl⟩;rw[Ab,Bw];refine⟨_,rfl,.inr ⟨_,aX,λq hq=>?_⟩⟩;have hpq:q≠p:=λe=>by subst e;rw[aX]at hq;cases hq
  rw[aU hpq]at hq;refine⟨_,?_,r q hq⟩;rw[Bh];exact Sub.put (Sub.new hp)
theorem zaC{ws:List W}{M:Mm}{R:K3}(h:JZ ws M R):zaA (bP R) (bX zaz ws) M:=by
 obtain⟨q,rs,rfl,r⟩:=h;exact⟨_,rfl,_,fA (j:=0) rfl,_,rfl,_,Sub.refl _,r⟩
theorem J2{t:Str}{ts:List Str}:inW (.str t) (ts.map W.str)=decide (t∈ts):=by
 unfold inW;rw[List.any_map,Dy,List.any_eq_true,decide_eq_true_eq];exact⟨λ⟨x,h,e⟩=>eq_of_beq (show(x==t)=true from e)▸h,λh=>⟨t,h,beq_self_eq_true t⟩⟩
theorem J3(ts:List Str):(ts.map W.str).all fE=true:=by
 rw[List.all_map,Ky];intro t _;rfl
def eK(k:Str×Int):List aE:=[Sum.inr k.1,Sum.inl k.2]
def jR(z:Int×aL):W:=.tup [.int z.1,cW z.2]
def jS(y:cC):W:=.tup [.int y.1,fT y.2.1,cW y.2.2]
def lC(k:K4):List aE:=[Sum.inl k.1,Sum.inl k.2.1,Sum.inl k.2.2.1,Sum.inl k.2.2.2]
def fK(f:a9):List aE:=[Sum.inr f.1,Sum.inl f.2.1,Sum.inl f.2.2]
def gA(e:aL×Nat×List Int):W:=.tup [cW e.1,.int e.2.1,fT e.2.2]
theorem nL:∀a b:Str×Int,eK a=eK b->a=b:=λa b h=>by
 unfold eK at h;simp only[Ed,Kj,Sum.inr.injEq,and_true]at h;exact Prod.ext h.1 h.2
theorem vN:∀a b:K4,lC a=lC b->a=b:=λa b h=>by
 unfold lC at h;simp only[Ed,Kj,and_true,Int.natCast_inj]at h;obtain⟨a1,a2,a3,a4⟩:=a;obtain⟨b1,b2,b3,b4⟩:=b;simp only at h;obtain⟨h1,h2,h3,h4⟩:=h;rw[h1,h2,h3,h4]
theorem nM:∀a b:a9,fK a=fK b->a=b:=λa b h=>by
 unfold fK at h;simp only[Ed,Kj,Sum.inr.injEq,and_true]at h;obtain⟨a1,a2,a3⟩:=a;obtain⟨b1,b2,b3⟩:=b;simp only at h;obtain⟨h1,h2,h3⟩:=h;rw[h1,h2,h3]
section
variable {U J:Type}[DecidableEq U]{kk:U->List aE}{f:J->W}
abbrev dU(kk:U->List aE)(f:J->W)(t:List (U×J)):List (List aE×W):=t.map λe=>(kk e.1,f e.2)
theorem lD(hkk:∀a b,kk a=kk b->a=b)(t:List (U×J))(k:U):bD (dU kk f t) (kk k)=(aD t k).map f:=by
 induction t with
 | nil=>rfl
 | cons e t ih=>
  show bD ((kk e.1,f e.2)::dU kk f t) (kk k)=_;rw[mH,cY,ih]
  by_cases h:e.1=k
  .rw[if_pos (by rw[h]),if_pos h];rfl
  .rw[if_neg (λz=>h (hkk _ _ z)),if_neg h]
theorem r9(hkk:∀a b,kk a=kk b->a=b)(t:List (U×J))(k:U)(v:J):cA (dU kk f t) (kk k) (f v)=dU kk f (bC t k v):=by
 unfold cA bC;rw[show((dU kk f t).any λkv=>decide (kv.1=kk k))=(bD (dU kk f t) (kk k)).isSome from f6 _ _,lD hkk,f6];cases aD t k with
 | none=>simp
 | some w=>
  simp only[La,Option.isSome_some,if_true,Bh];apply Cw;intro e _;simp only[Fn]
  by_cases h:e.1=k
  .rw[if_pos (by rw[h]),if_pos h]
  .rw[if_neg (λz=>h (hkk _ _ z)),if_neg h]
end
structure Env where
 rs:List a7
 own:List (aE×W)
 stp:List (List aE×W)
structure Ad where
 s:Addr
 d:Addr
 Q:Aq
 r:Addr
 b:Addr
 e:Addr
 g:Addr
def sf(E:Env)(A:Ad):List (Str×W):=[("grammar",(dA E.rs)),("own",(.dk E.own)),("steps",(.dt E.stp)),("queue",(.ref A.Q.o)),("reached",(.ref A.r)),("best",(.ref A.b)),("ends",(.ref A.e)),("begun",(.ref A.g))]
theorem J4{E:Env}{A:Ad}:Ce ("grammar" : Str) (sf E A)=some (dA E.rs):=by kernel_rfl
theorem zaD{E:Env}{A:Ad}:Ce ("own" : Str) (sf E A)=some (W.dk E.own):=by kernel_rfl
theorem zaE{E:Env}{A:Ad}:Ce ("steps" : Str) (sf E A)=some (W.dt E.stp):=by kernel_rfl
theorem zT{E:Env}{A:Ad}:Ce ("queue" : Str) (sf E A)=some (W.ref A.Q.o):=by kernel_rfl
theorem vO{E:Env}{A:Ad}:Ce ("reached" : Str) (sf E A)=some (W.ref A.r):=by kernel_rfl
theorem zU{E:Env}{A:Ad}:Ce ("best" : Str) (sf E A)=some (W.ref A.b):=by kernel_rfl
theorem J5{E:Env}{A:Ad}:Ce ("ends" : Str) (sf E A)=some (W.ref A.e):=by kernel_rfl
theorem J6{E:Env}{A:Ad}:Ce ("begun" : Str) (sf E A)=some (W.ref A.g):=by kernel_rfl
theorem vP{E:Env}{A:Ad}:Ce ("reach" : Str) (sf E A)=none:=by kernel_rfl
theorem zaF{E:Env}{A:Ad}:Ce ("take_next" : Str) (sf E A)=none:=by kernel_rfl
theorem zaG{E:Env}{A:Ad}:Ce ("step_by_name" : Str) (sf E A)=none:=by kernel_rfl
theorem zaH{E:Env}{A:Ad}:Ce ("settle" : Str) (sf E A)=none:=by kernel_rfl
structure Mn(C:Cc)(E:Env)(M0 M:Mm)(A:Ad)(rc:List (K4×aL))(bs:bN):Prop where
 sub:L3.Sub M0 M
 ns:M0 A.s=none
 nr:M0 A.r=none
 nb:M0 A.b=none
 sr:A.s≠A.r
 sb:A.s≠A.b
 rb:A.r≠A.b
 os:M A.s=some (.ins C.s A.d (sf E A))
 or:M A.r=some (.dT (dU lC cW rc))
 ob:M A.b=some (.dT (dU fK gA bs))
abbrev eG(t:List ((Str×Int)×List (Int×aL))):Str×Int->Option (List W):=λk=>(aD t k).map λxs=>xs.map jR
abbrev gG(t:List ((Str×Int)×List cC)):Str×Int->Option (List W):=λk=>(aD t k).map λxs=>xs.map jS
def Kept(M:Mm):Option (Addr×List W)->Prop
 | none=>True
 | some x=>M x.1=some (.lst x.2)
structure SK(C:Cc)(E:Env)(M0 M:Mm)(A:Ad)(st:SS)(kp:Option (Addr×List W)):Prop where
 ex:∃M1 M2 M3 e g,Mn C E M0 M1 A st.reached st.best/\eF eK M1 M2 A.e e (eG st.ends)/\eF eK M2 M3 A.g g (gG st.begun)/\QR C M3 M A.Q st.q/\e.length<=st.ends.length/\g.length<=st.begun.length/\Kept M3 kp
abbrev SR(C:Cc)(E:Env)(M0 M:Mm)(A:Ad)(st:SS):Prop:=SK C E M0 M A st none
section
variable {C:Cc}{E:Env}{M0 M:Mm}{A:Ad}{st:SS}{kp:Option (Addr×List W)}
theorem SK.os(h:SK C E M0 M A st kp):M A.s=some (.ins C.s A.d (sf E A)):=by
 obtain⟨M1,M2,M3,e,g,h1,h2,h3,h4,_⟩:=h.ex;exact h4.sub _ _ (h3.sub _ _ (h2.sub _ _ h1.os))
theorem SK.or(h:SK C E M0 M A st kp):M A.r=some (.dT (dU lC cW st.reached)):=by
 obtain⟨M1,M2,M3,e,g,h1,h2,h3,h4,_⟩:=h.ex;exact h4.sub _ _ (h3.sub _ _ (h2.sub _ _ h1.or))
theorem SK.ob(h:SK C E M0 M A st kp):M A.b=some (.dT (dU fK gA st.best)):=by
 obtain⟨M1,M2,M3,e,g,h1,h2,h3,h4,_⟩:=h.ex;exact h4.sub _ _ (h3.sub _ _ (h2.sub _ _ h1.ob))
theorem SK.fall(h:SK C E M0 M A st kp):hJ st.q:=by
 obtain⟨M1,M2,M3,e,g,h1,h2,h3,h4,_⟩:=h.ex;exact h4.fall
theorem SK.free(h:SK C E M0 M A st kp):SR C E M0 M A st:=by
 obtain⟨M1,M2,M3,e,g,h1,h2,h3,h4,h5,h6,_⟩:=h.ex;exact⟨M1,M2,M3,e,g,h1,h2,h3,h4,h5,h6,trivial⟩
theorem SK.kept{p:Addr}{ws:List W}(h:SK C E M0 M A st (some (p,ws))):M p=some (.lst ws):=by
 obtain⟨M1,M2,M3,e,g,h1,h2,h3,h4,h5,h6,h7⟩:=h.ex;exact h4.sub _ _ h7
theorem Mn.rput{M1:Mm}{rc:List (K4×aL)}{bs:bN}(h:Mn C E M0 M1 A rc bs)(rc':List (K4×aL)):Mn C E M0 (put M1 A.r (.dT (dU lC cW rc'))) A rc' bs:=
 ⟨fJ h.sub h.nr,h.ns,h.nr,h.nb,h.sr,h.sb,h.rb,by rw[aU h.sr];exact h.os,aX,by rw[aU (Bi h.rb)];exact h.ob⟩
theorem Mn.bput{M1:Mm}{rc:List (K4×aL)}{bs:bN}(h:Mn C E M0 M1 A rc bs)(bs':bN):Mn C E M0 (put M1 A.b (.dT (dU fK gA bs'))) A rc bs':=
 ⟨fJ h.sub h.nb,h.ns,h.nr,h.nb,h.sr,h.sb,h.rb,by rw[aU h.sb];exact h.os,by rw[aU h.rb];exact h.or,aX⟩
theorem SK.rput(h:SK C E M0 M A st kp)(rc':List (K4×aL)):SK C E M0 (put M A.r (.dT (dU lC cW rc'))) A {st with reached:=rc'} kp:=by
 obtain⟨M1,M2,M3,e,g,h1,h2,h3,h4,h5,h6,h7⟩:=h.ex;have k2:=h2.sub _ _ h1.or;have k3:=h3.sub _ _ k2;refine⟨_,_,_,e,g,h1.rput rc',h2.lift (.inr ⟨_,h1.or⟩),h3.lift (.inr ⟨_,k2⟩),h4.lift (.inr ⟨_,k3⟩),h5,h6,?_⟩;cases kp with
 | none=>trivial
 | some x=>
  have h7:M3 x.1=some (.lst x.2):=h7;show put M3 A.r _ x.1=some (.lst x.2);rw[aU (λz=>by rw[z,k3]at h7;cases h7)];exact h7
theorem SK.bput(h:SR C E M0 M A st)(bs':bN):SR C E M0 (put M A.b (.dT (dU fK gA bs'))) A {st with best:=bs'}:=by
 obtain⟨M1,M2,M3,e,g,h1,h2,h3,h4,h5,h6,h7⟩:=h.ex;have k2:=h2.sub _ _ h1.ob;have k3:=h3.sub _ _ k2;exact⟨_,_,_,e,g,h1.bput bs',h2.lift (.inr ⟨_,h1.ob⟩),h3.lift (.inr ⟨_,k2⟩),h4.lift (.inr ⟨_,k3⟩),h5,h6,trivial⟩
theorem SK.que(h:SK C E M0 M A st kp):∃M3,QR C M3 M A.Q st.q/\∀M' q',QR C M3 M' A.Q q'->SK C E M0 M' A {st with q:=q'} kp:=by
 obtain⟨M1,M2,M3,e,g,h1,h2,h3,h4,h5,h6,h7⟩:=h.ex;exact⟨M3,h4,λM' q' hq=>⟨M1,M2,M3,e,g,h1,h2,h3,hq,h5,h6,h7⟩⟩
theorem J7{U J:Type}[DecidableEq U]{t:List (U×J)}{k:U}{v:J}(h:(aD t k).isSome=true):(bC t k v).length=t.length:=by
 unfold bC;rw[f6,if_pos h,Ab]
theorem sA{U J:Type}[DecidableEq U]{t:List (U×J)}{k:U}{v:J}(h:aD t k=none):bC t k v=t++[(k,v)]:=by
 unfold bC;rw[f6,h,if_neg (by simp)]
theorem vQ{γ:Type}(f:γ->W)(t:List ((Str×Int)×List γ))(k:Str×Int)(z:γ)(j:Str×Int):((aD (e8 t k z) j).map λxs=>xs.map f)=if k=j then some (((aD t k).getD []).map f++[f z]) else(aD t j).map λxs=>xs.map f:=by
 unfold e8;rw[gM]
 by_cases h:k=j
 .rw[if_pos h,if_pos h,La,Bc];rfl
 .rw[if_neg h,if_neg h]
theorem SK.epush(h:SR C E M0 M A st){k:Str×Int}{z:Int×aL}{R:K3}(hn:st.ends.length<10000000)(hl:((aD st.ends k).getD []).length<10000000)(r:∀M',SR C E M0 M' A {st with ends:=e8 st.ends k z}->R .non M'):
  ∃kvs,M A.e=some (.dT kvs)/\kvs.length<Ao/\∀p,M p=none->put M p (.lst []) A.e=some (.dT kvs)/\(∀w,bD kvs (eK k)=some w->kU "list" w (put M p (.lst []))/\fF w [jR z] (put M p (.lst [])) R)/\
   (bD kvs (eK k)=none->kU "list" (.ref p) (put (put M p (.lst [])) A.e (.dT (cA kvs (eK k) (.ref p))))/\fF (.ref p) [jR z] (put (put M p (.lst [])) A.e (.dT (cA kvs (eK k) (.ref p)))) R):=by
 obtain⟨M1,M2,M3,e,g,h1,h2,h3,h4,h5,h6,h7⟩:=h.ex;have ha:M A.e=some (.dT e):=h4.sub _ _ (h3.sub _ _ h2.at_);refine⟨e,ha,d8 (by lia),λp hp=>⟨by rw[aU (λz=>by rw[<-z,ha]at hp;cases hp)];exact ha,λw hw=>?_,λhw=>?_⟩⟩
 .obtain⟨xs,hx⟩:∃xs,aD st.ends k=some xs:=by
   cases q:aD st.ends k with
   | none=>have:=h2.non k (by show(aD _ _).map _=_;rw[q];rfl);rw[hw]at this;cases this
   | some xs=>exact⟨_,rfl⟩
  have hxw:eG st.ends k=some (xs.map jR):=by show(aD _ _).map _=_;rw[hx];rfl
  obtain⟨p',hp1,hp2⟩:=h2.has hxw;rw[hw]at hp1;cases hp1;have k3:=h3.sub _ _ hp2;have h4':=h4.more (o:=.lst []) hp;have k4:=h4'.sub _ _ k3;rw[hx]at hl;refine⟨eU k4,_,k4,d8 (by rw[Ab];exact hl),r _ ⟨_,_,_,e,g,h1,(h2.wr (ws:=xs.map jR++[jR z]) hw).same λj=>?_,h3.lift (.inr ⟨_,hp2⟩),h4'.lift (.inr ⟨_,k3⟩),?_,h6,trivial⟩⟩
  .refine(vQ _ _ k z j).trans ?_;rw[hx];rfl
  .show _<=(bC _ _ _).length;rw[J7 (by rw[hx];rfl)];exact h5
 .have hx:aD st.ends k=none:=by
   cases q:aD st.ends k with
   | none=>rfl
   | some xs=>obtain⟨p',hp1,_⟩:=h2.has (k:=k) (ws:=xs.map jR) (by show(aD _ _).map _=_;rw[q];rfl);rw[hw]at hp1;cases hp1
  have hxw:eG st.ends k=none:=by show(aD _ _).map _=_;rw[hx];rfl
  have p3:=h4.sub.non hp;have p2:=h3.sub.non p3;have t2:=h2.add nL (ws:=[]) hxw p2;have hpa:p≠A.e:=λz=>by rw[z,ha]at hp;cases hp
  have t3:=(h3.lift (o:=.lst []) (.inl p3)).lift (p:=A.e) (o:=.dT (cA e (eK k) (.ref p))) (.inr ⟨.dT e,by rw[aU (Bi hpa)];exact h2.at_⟩);have t4:=(h4.lift (o:=.lst []) (.inl hp)).lift (p:=A.e) (o:=.dT (cA e (eK k) (.ref p))) (.inr ⟨.dT e,by rw[aU (Bi hpa)];exact h3.sub _ _ h2.at_⟩);have lp:bD (cA e (eK k) (.ref p)) (eK k)=some (.ref p):=by rw[oO,if_pos rfl]
  have g2:put (put M2 p (.lst [])) A.e (.dT (cA e (eK k) (.ref p))) p=some (.lst []):=by rw[aU hpa,aX]
  have k3:=t3.sub _ _ g2;have k4:=t4.sub _ _ k3;refine⟨eU k4,_,k4,d8 (by simp),r _ ⟨_,_,_,_,g,h1,(t2.wr (ws:=[jR z]) lp).same λj=>?_,t3.lift (.inr ⟨_,g2⟩),t4.lift (.inr ⟨_,k3⟩),?_,h6,trivial⟩⟩
  .refine(vQ _ _ k z j).trans ?_;rw[hx]
   by_cases hj:k=j
   .rw[if_pos hj,if_pos hj];rfl
   .rw[if_neg hj,if_neg hj,if_neg hj]
  .show _<=(bC _ _ _).length;rw[sA hx,Ak,Bl];have:=vJ e (eK k) (W.ref p);lia
theorem SK.gpush(h:SR C E M0 M A st){k:Str×Int}{z:cC}{R:K3}(hn:st.begun.length<10000000)(hl:((aD st.begun k).getD []).length<10000000)(r:∀M',SR C E M0 M' A {st with begun:=e8 st.begun k z}->R .non M'):
  ∃kvs,M A.g=some (.dT kvs)/\kvs.length<Ao/\∀p,M p=none->put M p (.lst []) A.g=some (.dT kvs)/\(∀w,bD kvs (eK k)=some w->kU "list" w (put M p (.lst []))/\fF w [jS z] (put M p (.lst [])) R)/\
   (bD kvs (eK k)=none->kU "list" (.ref p) (put (put M p (.lst [])) A.g (.dT (cA kvs (eK k) (.ref p))))/\fF (.ref p) [jS z] (put (put M p (.lst [])) A.g (.dT (cA kvs (eK k) (.ref p)))) R):=by
 obtain⟨M1,M2,M3,e,g,h1,h2,h3,h4,h5,h6,h7⟩:=h.ex;have ha:M A.g=some (.dT g):=h4.sub _ _ h3.at_;refine⟨g,ha,d8 (by lia),λp hp=>⟨by rw[aU (λz=>by rw[<-z,ha]at hp;cases hp)];exact ha,λw hw=>?_,λhw=>?_⟩⟩
 .obtain⟨xs,hx⟩:∃xs,aD st.begun k=some xs:=by
   cases q:aD st.begun k with
   | none=>have:=h3.non k (by show(aD _ _).map _=_;rw[q];rfl);rw[hw]at this;cases this
   | some xs=>exact⟨_,rfl⟩
  have hxw:gG st.begun k=some (xs.map jS):=by show(aD _ _).map _=_;rw[hx];rfl
  obtain⟨p',hp1,hp2⟩:=h3.has hxw;rw[hw]at hp1;cases hp1;have h4':=h4.more (o:=.lst []) hp;have k4:=h4'.sub _ _ hp2;rw[hx]at hl;refine⟨eU k4,_,k4,d8 (by rw[Ab];exact hl),r _ ⟨_,_,_,e,g,h1,h2,(h3.wr (ws:=xs.map jS++[jS z]) hw).same λj=>?_,h4'.lift (.inr ⟨_,hp2⟩),h5,?_,trivial⟩⟩
  .refine(vQ _ _ k z j).trans ?_;rw[hx];rfl
  .show _<=(bC _ _ _).length;rw[J7 (by rw[hx];rfl)];exact h6
 .have hx:aD st.begun k=none:=by
   cases q:aD st.begun k with
   | none=>rfl
   | some xs=>obtain⟨p',hp1,_⟩:=h3.has (k:=k) (ws:=xs.map jS) (by show(aD _ _).map _=_;rw[q];rfl);rw[hw]at hp1;cases hp1
  have hxw:gG st.begun k=none:=by show(aD _ _).map _=_;rw[hx];rfl
  have p3:=h4.sub.non hp;have t3:=h3.add nL (ws:=[]) hxw p3;have hpa:p≠A.g:=λz=>by rw[z,ha]at hp;cases hp
  have t4:=(h4.lift (o:=.lst []) (.inl hp)).lift (p:=A.g) (o:=.dT (cA g (eK k) (.ref p))) (.inr ⟨.dT g,by rw[aU (Bi hpa)];exact h3.at_⟩);have lp:bD (cA g (eK k) (.ref p)) (eK k)=some (.ref p):=by rw[oO,if_pos rfl]
  have g2:put (put M3 p (.lst [])) A.g (.dT (cA g (eK k) (.ref p))) p=some (.lst []):=by rw[aU hpa,aX]
  have k4:=t4.sub _ _ g2;refine⟨eU k4,_,k4,d8 (by simp),r _ ⟨_,_,_,e,_,h1,h2,(t3.wr (ws:=[jS z]) lp).same λj=>?_,t4.lift (.inr ⟨_,g2⟩),h5,?_,trivial⟩⟩
  .refine(vQ _ _ k z j).trans ?_;rw[hx]
   by_cases hj:k=j
   .rw[if_pos hj,if_pos hj];rfl
   .rw[if_neg hj,if_neg hj,if_neg hj]
  .show _<=(bC _ _ _).length;rw[sA hx,Ak,Bl];have:=vJ g (eK k) (W.ref p);lia
theorem SK.ends_at(h:SR C E M0 M A st)(k:Str×Int):∃kvs,M A.e=some (.dT kvs)/\((bD kvs (eK k)=none/\aD st.ends k=none)\/∃p xs,bD kvs (eK k)=some (.ref p)/\aD st.ends k=some xs/\SK C E M0 M A st (some (p,xs.map jR))):=by
 obtain⟨M1,M2,M3,e,g,h1,h2,h3,h4,h5,h6,h7⟩:=h.ex;refine⟨e,h4.sub _ _ (h3.sub _ _ h2.at_),?_⟩;cases q:aD st.ends k with
 | none=>exact .inl ⟨h2.non k (by show(aD _ _).map _=_;rw[q];rfl),rfl⟩
 | some xs=>
  obtain⟨p,hp1,hp2⟩:=h2.has (k:=k) (ws:=xs.map jR) (by show(aD _ _).map _=_;rw[q];rfl);exact .inr ⟨p,xs,hp1,rfl,M1,M2,M3,e,g,h1,h2,h3,h4,h5,h6,h3.sub _ _ hp2⟩
theorem SK.begun_at(h:SR C E M0 M A st)(k:Str×Int):∃kvs,M A.g=some (.dT kvs)/\((bD kvs (eK k)=none/\aD st.begun k=none)\/∃p xs,bD kvs (eK k)=some (.ref p)/\aD st.begun k=some xs/\SK C E M0 M A st (some (p,xs.map jS))):=by
 obtain⟨M1,M2,M3,e,g,h1,h2,h3,h4,h5,h6,h7⟩:=h.ex;refine⟨g,h4.sub _ _ h3.at_,?_⟩;cases q:aD st.begun k with
 | none=>exact .inl ⟨h3.non k (by show(aD _ _).map _=_;rw[q];rfl),rfl⟩
 | some xs=>
  obtain⟨p,hp1,hp2⟩:=h3.has (k:=k) (ws:=xs.map jS) (by show(aD _ _).map _=_;rw[q];rfl);exact .inr ⟨p,xs,hp1,rfl,M1,M2,M3,e,g,h1,h2,h3,h4,h5,h6,hp2⟩
theorem SK.eput(h:SR C E M0 M A st){nm:Str}{b:Int}{z:Int×aL}{R:K3}{τ:S3}{tk:a0}{t:dY}(e0:τ[0]? = some (some (.ref A.s)))(ek:∀M1 Q,Q (W.tup [.str nm,.int b]) M1->tk τ M1 Q)(et:∀M1 Q,Q [jR z] M1->t τ M1 Q)(hn:st.ends.length<10000000)(hl:((aD st.ends (nm,b)).getD []).length<10000000)(r:∀M',SR C E M0 M' A {st with ends:=e8 st.ends (nm,b) z}->R .non M'):
  dE "list" fF (dE "dict" oK (dG C.s (aA 0) "ends") (aB tk (aB (gR aG) aG))) t τ M R:=by
 obtain⟨kvs,h1,h2,h3⟩:=h.epush hn hl r;refine⟨_,e0,A.s,A.d,_,_,rfl,h.os,J5,nK h1,ek _ _ ⟨Ca _,λp hp=>?_⟩⟩;obtain⟨h4,h5,h6⟩:=h3 p hp;exact⟨kvs,eK (nm,b),h4,rfl,h2,λw hw=>⟨(h5 w hw).1,et _ _ (h5 w hw).2⟩,λhn=>⟨(h6 hn).1,et _ _ (h6 hn).2⟩⟩
theorem SK.gput(h:SR C E M0 M A st){nm:Str}{b:Int}{z:cC}{R:K3}{τ:S3}{tk:a0}{t:dY}(e0:τ[0]? = some (some (.ref A.s)))(ek:∀M1 Q,Q (W.tup [.str nm,.int b]) M1->tk τ M1 Q)(et:∀M1 Q,Q [jS z] M1->t τ M1 Q)(hn:st.begun.length<10000000)(hl:((aD st.begun (nm,b)).getD []).length<10000000)(r:∀M',SR C E M0 M' A {st with begun:=e8 st.begun (nm,b) z}->R .non M'):
  dE "list" fF (dE "dict" oK (dG C.s (aA 0) "begun") (aB tk (aB (gR aG) aG))) t τ M R:=by
 obtain⟨kvs,h1,h2,h3⟩:=h.gpush hn hl r;refine⟨_,e0,A.s,A.d,_,_,rfl,h.os,J6,nK h1,ek _ _ ⟨Ca _,λp hp=>?_⟩⟩;obtain⟨h4,h5,h6⟩:=h3 p hp;exact⟨kvs,eK (nm,b),h4,rfl,h2,λw hw=>⟨(h5 w hw).1,et _ _ (h5 w hw).2⟩,λhn=>⟨(h6 hn).1,et _ _ (h6 hn).2⟩⟩
end
def vR:bL:=λws M R=>∃ts:List Str,ws=[.rl (ts.map W.str)]/\ts.length<=400/\R (.dk ((ts.foldl iV []).map f9)) M
def ownOf(rs:List a7):List (aE×W):=((namesOf rs).foldl iV []).map f9
def zV:bL:=λws M R=>∃a b:aL,ws=[cW a,cW b]/\R (cW (dR a b)) M
structure Sm(st:SS)(k:Nat):Prop where
 q:(bB st.q).length+k<10000000
 r:st.reached.length+k<10000000
def sC(C:Cc):bL:=λws M R=>∃(E:Env) (M0:Mm) (A:Ad) (st:SS) (n:Nat) (cut:List Int) (c:aL) (kp:Option (Addr×List W)),ws=[.ref A.s,.int n,fT cut,cW c]/\SK C E M0 M A st kp/\cut≠[]/\Sm st 1/\∀M',SK C E M0 M' A (reach st n cut c) kp->R .non M'
def J8(C:Cc):bL:=λws M R=>∃(E:Env) (M0:Mm) (A:Ad) (st:SS) (n:Nat) (cut:List Int) (c:aL) (part:Str),ws=[.ref A.s,.int n,fT cut,cW c,.tup [.str part,.int (cut.getLastD 0)]]/\SR C E M0 M A st/\cut≠[]/\cut.length<1000/\Sm st ((aD st.ends (part,cut.getLastD 0)).getD []).length/\st.begun.length<10000000/\((aD st.begun (part,cut.getLastD 0)).getD []).length<10000000/\∀M',SR C E M0 M' A (fS st n cut c part)->R .non M'
def J9(C:Cc):bL:=λws M R=>∃(G:Sr) (E:Env) (M0:Mm) (A:Ad) (st:SS) (n:Nat) (cut:List Int) (c:aL),ws=[.ref A.s,.int n,fT cut,cW c]/\SR C E M0 M A st/\G.rs=E.rs/\n<E.rs.length/\cut≠[]/\(∀key,∀y∈(aD st.begun key).getD [],y.2.1.length<1000/\y.2.1≠[])/\Sm st ((aD st.begun (cT G n,cut.headD 0)).getD []).length/\st.best.length<10000000/\st.ends.length<10000000/\((aD st.ends (cT G n,cut.headD 0)).getD []).length<10000000/\∀M',SR C E M0 M' A (settle G st n cut c)->R .non M'
structure KA(G:Sr)(E:Env):Prop where
 rs:G.rs=E.rs
 own:∀t,(bD E.own (Sum.inr t:aE)).isSome=G.own t
 stp:∀t p,(bD E.stp (eK (t,p))=none/\G.steps t p=[])\/bD E.stp (eK (t,p))=some (.rl ((G.steps t p).map λz=>.tup [.int z.1,.int z.2]))
structure Rm(G:Sr)(st:SS):Prop where
 item:∀c n cut q',iI st.q=some (c,(n,cut),q')->cut≠[]/\cut.length<1000/\n<G.rs.length/\∃d,aD st.reached (bR n cut)=some d
 bg:∀key,∀y∈(aD st.begun key).getD [],y.2.1.length<1000/\y.2.1≠[]
 b:st.best.length<10000000
 e:st.ends.length<10000000
 g:st.begun.length<10000000
 el:∀key,((aD st.ends key).getD []).length<10000000/\Sm st ((aD st.ends key).getD []).length
 gl:∀key,((aD st.begun key).getD []).length<10000000/\Sm st ((aD st.begun key).getD []).length
 sl:∀t p,Sm st (G.steps t p).length
def KC(C:Cc):bL:=λws M R=>∃(G:Sr) (E:Env) (M0:Mm) (A:Ad) (st:SS),ws=[.ref A.s]/\SR C E M0 M A st/\KA G E/\st.q≠[]/\Rm G st/\∀M',SR C E M0 M' A (mF G st)->R .non M'
def KD(C:Cc):bL:=λws M R=>∃(M0:Mm) (s dx:Addr) (rs:List a7) (stp:List (List aE×W)),ws=[.ref s,dA rs,.dt stp]/\rs.length<=100/\M=put M0 s (.ins C.s dx [])/\M0 s=none/\∀M' (A:Ad),A.s=s->SR C ⟨rs,ownOf rs,stp⟩ M0 M' A gV->R .non M'
def zW(G:Sr):Nat->SS
 | 0=>k9 G
 | n+1=>mF G (zW G n)
def iK(G:Sr)(B:bN):Prop:=∃(S I0:Nat) (st:SS) (P:List cC) (cur:aL) (T:Nat),All G S I0 st P cur T/\st.q=[]/\st.best=B/\st=zW G T
def KG(C:Cc):bL:=λws M R=>∃(G:Sr) (E:Env) (V:List Int) (L S:Nat),ws=[dA E.rs,.rl (G.places.map W.int),.dt E.stp,.rl ((Eg G.rs.length).map λn=>.int (G.wt n))]/\E.rs.length<=100/\E.own=ownOf E.rs/\KA G E/\oJ G/\r6 G V G.rs.length L/\L<1000/\G.places.length<=1000/\(∀t p,(G.steps t p).length<=S)/\
 (j9 G).length+G.rs.length*((L+1)*(V.length*V.length))*(S+V.length)+G.rs.length*((L+1)*(V.length*V.length))+V.length+S+1<10000000/\∀B,iK G B->n9 (dU fK gA B) M R
abbrev KH:List Str:=["things"]
def zaI:aJ:=
   (bW (b9 IW (aB (eA (gF (dJ fR (aA 0)) (bM 0) i7 (cM (aB (aA 0) (aB (vC (.bl true)) aG))) [none])) aG)))
abbrev zaJ:List Str:=["cost","other"]
def zaK:aJ:=
   (bW (cM (aB (aF c8 (aF aR (aA 0) (vC (.int 0))) (aF aR (aA 1) (vC (.int 0)))) (aB (aF c8 (aF aR (aA 0) (vC (.int 1))) (aF aR (aA 1) (vC (.int 1)))) aG))))
abbrev zaL:List Str:=["self","grammar","steps"]
def zaM(C:Cc):aJ:=
   (kA C.s (aA 0) "grammar" (aA 1))
def zaN(C:Cc):aJ:=
   (kA C.s (aA 0) "own" (bV vR (aB (eA (bV vM (aB (aA 1) aG))) aG)))
def zaO(C:Cc):aJ:=
   (kA C.s (aA 0) "steps" (aA 2))
def KI(C:Cc):aJ:=
   (kA C.s (aA 0) "queue" (vF C.q (JV C) aG))
def zaP(C:Cc):aJ:=
   (kA C.s (aA 0) "reached" lZ)
def zaQ(C:Cc):aJ:=
   (kA C.s (aA 0) "best" lZ)
def zaR(C:Cc):aJ:=
   (kA C.s (aA 0) "ends" lZ)
def zaS(C:Cc):aJ:=
   (kA C.s (aA 0) "begun" lZ)
def zaT(C:Cc):aJ:=(aT (zaM C) (aT (zaN C) (aT (zaO C) (aT (KI C) (aT (zaP C) (aT (zaQ C) (aT (zaR C) (zaS C))))))))
abbrev zaU:List Str:=["self","number","cut","cost","key"]
def zaV(C:Cc):aJ:=
   (aT (bE 4 (cM (aB (aA 1) (aB (b9 eC (aB (aA 2) aG)) (aB (aF aR (aA 2) (vC (.int 0))) (aB (aF aR (aA 2) (kS kX (vC (.int 1)))) aG))))))
   (dB (iQ (bZ (aF (rIn true) (aA 4) (dG C.s (aA 0) "reached"))) (bZ (aF zM (aA 3) (aF aR (dG C.s (aA 0) "reached") (aA 4)))))
    (aT (gS (aA 3) (iF (dG C.s (aA 0) "reached") (aA 4)))
   (dZ (iJ C.q "put" (zR C) (dG C.s (aA 0) "queue") (aB (aA 3) (aB (cM (aB (aA 1) (aB (aA 2) aG))) aG)))))
    eP))
abbrev zaW:List Str:=["self","taken","cost","number","cut","parts","end","price"]
def zaX(C:Cc):aJ:=
   (bE 1 (iJ C.q "take" (JY C) (dG C.s (aA 0) "queue") aG))
def zaY(C:Cc):aJ:=
   (bE 2 (aF aR (aA 1) (vC (.int 0))))
def zaZ(C:Cc):aJ:=
   (bE 3 (aF aR (aF aR (aA 1) (vC (.int 1))) (vC (.int 0))))
def za0(C:Cc):aJ:=
   (bE 4 (aF aR (aF aR (aA 1) (vC (.int 1))) (vC (.int 1))))
def za1(C:Cc):aJ:=
   (dB (bZ (aF zM (aF aR (dG C.s (aA 0) "reached") (cM (aB (aA 3) (aB (b9 eC (aB (aA 4) aG)) (aB (aF aR (aA 4) (vC (.int 0))) (aB (aF aR (aA 4) (kS kX (vC (.int 1)))) aG)))))) (aA 2)))
    yP
    eP)
def za2(C:Cc):aJ:=
   (bE 5 (aF aR (aF aR (dG C.s (aA 0) "grammar") (aA 3)) (vC (.int 1))))
def za3(C:Cc):aJ:=
   (dB (bZ (aF yG (b9 eC (aB (aA 4) aG)) (b9 eC (aB (aA 5) aG))))
    (dZ (iJ C.s "settle" (J9 C) (aA 0) (aB (aA 3) (aB (aA 4) (aB (aA 2) aG)))))
    (dB (bZ (aF (rIn false) (aF aR (aA 5) (aF rC (b9 eC (aB (aA 4) aG)) (vC (.int 1)))) (dG C.s (aA 0) "own")))
    (dZ (iJ C.s "step_by_name" (J8 C) (aA 0) (aB (aA 3) (aB (aA 4) (aB (aA 2) (aB (cM (aB (aF aR (aA 5) (aF rC (b9 eC (aB (aA 4) aG)) (vC (.int 1)))) (aB (aF aR (aA 4) (kS kX (vC (.int 1)))) aG))) aG))))))
    (eD (dJ nE (dE "dict" nJ (dG C.s (aA 0) "steps") (aB (cM (aB (aF aR (aA 5) (aF rC (b9 eC (aB (aA 4) aG)) (vC (.int 1)))) (aB (aF aR (aA 4) (kS kX (vC (.int 1)))) aG))) (aB (gH aG) aG)))) (jM 2 (eO (bM 6) (eO (bM 7) jL)))
    (dZ (iJ C.s "reach" (sC C) (aA 0) (aB (aA 3) (aB (aF c8 (aA 4) (cM (aB (aA 6) aG))) (aB (cM (aB (aF c8 (aF aR (aA 2) (vC (.int 0))) (aA 7)) (aB (aF aR (aA 2) (vC (.int 1))) aG))) aG))))))))
def za4(C:Cc):aJ:=(aT (zaX C) (aT (zaY C) (aT (zaZ C) (aT (za0 C) (aT (za1 C) (aT (za2 C) (za3 C)))))))
abbrev za5:List Str:=["self","number","cut","cost","key","end","more"]
def za6(C:Cc):aJ:=
   (aT (dZ (dE "list" fF (dE "dict" oK (dG C.s (aA 0) "begun") (aB (aA 4) (aB (gR aG) aG))) (aB (cM (aB (aA 1) (aB (aA 2) (aB (aA 3) aG)))) aG)))
   (eD (dJ nE (dE "dict" nJ (dG C.s (aA 0) "ends") (aB (aA 4) (aB (gH aG) aG)))) (jM 2 (eO (bM 5) (eO (bM 6) jL)))
    (dZ (iJ C.s "reach" (sC C) (aA 0) (aB (aA 1) (aB (aF c8 (aA 2) (cM (aB (aA 5) aG))) (aB (bV zV (aB (aA 3) (aB (aA 6) aG))) aG)))))))
abbrev za7:List Str:=["self","number","cut","cost","key","fact","other","before","paid"]
def za8(C:Cc):aJ:=
   (bE 4 (cM (aB (aF aR (aF aR (dG C.s (aA 0) "grammar") (aA 1)) (vC (.int 0))) (aB (aF aR (aA 2) (vC (.int 0))) aG))))
def za9(C:Cc):aJ:=
   (bE 5 (aF c8 (aA 4) (cM (aB (aF aR (aA 2) (kS kX (vC (.int 1)))) aG))))
def zba(C:Cc):aJ:=
   (dB (bZ (aF (rIn false) (aA 5) (dG C.s (aA 0) "best")))
    yP
    eP)
def zbb(C:Cc):aJ:=
   (gS (cM (aB (aA 3) (aB (aA 1) (aB (aA 2) aG)))) (iF (dG C.s (aA 0) "best") (aA 5)))
def zbc(C:Cc):aJ:=
   (dZ (dE "list" fF (dE "dict" oK (dG C.s (aA 0) "ends") (aB (aA 4) (aB (gR aG) aG))) (aB (cM (aB (aF aR (aA 2) (kS kX (vC (.int 1)))) (aB (aA 3) aG))) aG)))
def zbd(C:Cc):aJ:=
   (dZ (iJ C.s "reach" (sC C) (aA 0) (aB (aA 6) (aB (aF c8 (aA 7) (cM (aB (aF aR (aA 2) (kS kX (vC (.int 1)))) aG))) (aB (bV zV (aB (aA 8) (aB (aA 3) aG))) aG)))))
def zbe(C:Cc):aJ:=
   (eD (dJ nE (dE "dict" nJ (dG C.s (aA 0) "begun") (aB (aA 4) (aB (gH aG) aG)))) (jM 3 (eO (bM 6) (eO (bM 7) (eO (bM 8) jL)))) (zbd C))
def zbf(C:Cc):aJ:=(aT (za8 C) (aT (za9 C) (aT (zba C) (aT (zbb C) (aT (zbc C) (zbe C))))))
abbrev zbg:List Str:=["grammar","places","steps","weights","search","number","place"]
def zbh(C:Cc):aJ:=
   (bE 4 (vF C.s (KD C) (aB (aA 0) (aB (aA 2) aG))))
def zbi(C:Cc):aJ:=
   (eD (dJ fR (aA 1)) (bM 6)
    (dZ (iJ C.s "reach" (sC C) (aA 4) (aB (aA 5) (aB (cM (aB (aA 6) aG)) (aB (cM (aB (aF aR (aA 3) (aA 5)) (aB (vC (.int 1)) aG))) aG))))))
def zbj(C:Cc):aJ:=
   (eD (l0 (aB (b9 eC (aB (aA 0) aG)) aG)) (bM 5) (zbi C))
def zbk(C:Cc):aJ:=
   (dZ (iJ C.s "take_next" (KC C) (aA 4) aG))
def zbl(C:Cc):aJ:=
   (pT (kT (i6 (iJ C.q "is_done" (JW C) (dG C.s (aA 4) "queue") aG))) (zbk C))
def zbm(C:Cc):aJ:=
   (bW (dG C.s (aA 4) "best"))
def zbn(C:Cc):aJ:=(aT (zbh C) (aT (zbj C) (aT (zbl C) (zbm C))))
theorem KJ:∀(ts acc:List Str),vB (acc.map f9) (ts.map f9)=(ts.foldl iV acc).map f9
 | [],acc=>rfl
 | t::r,acc=>by
  show vB (cA (acc.map f9) (Sum.inr t) (.bl true)) (r.map f9)=_;rw[J1,KJ,Dl]
theorem zbo{ws:List W}{M:Mm}{R:K3}(h:vR ws M R):zaI (bP R) (bX KH ws) M:=by
 obtain⟨ts,rfl,hl,r⟩:=h;have l:(ts.map W.str).length<=Ao:=gJ (by rw[Ab];exact Az hl (by decide));refine⟨_,rfl,jQ (uX (rest:=[]) (λw=>.tup [w,.bl true]) l (λ_ _=>trivial) (λw hw M' C sb h1=>⟨_,rfl,z2,h1⟩) (bH.frz ⟨ts.map f9,?_,by rw[Ab];exact l,_,Sub.refl _,?_⟩))⟩
 .unfold vD;rw[Bh,Bh];rfl
 .rw[show([]:List (aE×W))=([]:List Str).map f9 from rfl,KJ];exact r
theorem zbp{ws:List W}{M:Mm}{R:K3}(h:zV ws M R):zaK (bP R) (bX zaJ ws) M:=by
 obtain⟨a,b,rfl,r⟩:=h;exact⟨_,rfl,_,rfl,_,rfl,_,rfl,_,rfl,_,rfl,_,rfl,_,rfl,z2,_,Sub.refl _,r⟩
variable {O:Type}
theorem zX{cut:List Int}(h:cut≠[]):cG (cut.map W.int) 0=some (.int (cut.headD 0)):=by
 cases cut with
 | nil=>exact absurd rfl h
 | cons a t=>exact y0 _ _
theorem oQ{cut:List Int}(h:cut≠[]):cG (cut.map W.int) (-1)=some (.int (cut.getLastD 0)):=by
 rcases Ea cut with z|⟨a,b,z⟩
 .exact absurd z h
 .rw[z,Eb,Bc];refine(FG _ _).trans ?_;simp[Gj]
theorem KL{n:Nat}{cut:List Int}:W.tup [.int n,.int (cut.map W.int).length,.int (cut.headD 0),.int (cut.getLastD 0)]=.tup ((lC (bR n cut)).map wK):=by
 rw[Ab];rfl
theorem zbq{M:Mm}{a:Addr}{t:List (K4×aL)}{n:Nat}{cut:List Int}{d:aL}{R:K3}(h:M a=some (.dT (dU lC cW t)))(hd:aD t (bR n cut)=some d)(r:R (cW d) M):L3.aR (.ref a) (.tup [.int n,.int (cut.map W.int).length,.int (cut.headD 0),.int (cut.getLastD 0)]) M R:=by rw[KL];exact oP h (by rw[lD vN,hd];rfl) r
theorem KN{C:Cc}{E:Env}{M0 M:Mm}{A:Ad}{st:SS}{n:Nat}{cut:List Int}{c:aL}{R:K3}{kp:Option (Addr×List W)}(hs:SK C E M0 M A st kp)(sm:Sm st 1)(r:∀M',SK C E M0 M' A {st with reached:=bC st.reached (bR n cut) c,q:=d3 c (n,cut) st.q} kp->R .non M'):
  aT (gS (aA 3) (iF (dG C.s (aA 0) "reached") (aA 4))) (dZ (iJ C.q "put" (zR C) (dG C.s (aA 0) "queue") (aB (aA 3) (aB (cM (aB (aA 1) (aB (aA 2) aG))) aG)))) (bP R) [some (W.ref A.s),some (W.int n),some (fT cut),some (cW c),some (W.tup (Jt wK (lC (bR n cut))))] M:=by
 have h1:=sm.q;have h2:=sm.r;refine⟨_,rfl,_,rfl,A.s,A.d,_,_,rfl,hs.os,vO,_,rfl,rP hs.or (d8 (by rw[Ab];lia)) ?_⟩;rw[r9 vN];have hs1:=hs.rput (bC st.reached (bR n cut) c);obtain⟨M3,hq,back⟩:=hs1.que;exact⟨_,rfl,A.s,A.d,_,_,rfl,hs1.os,zT,A.Q.o,A.Q.d,qf A.Q,rfl,hq.ob,Z1,_,rfl,_,rfl,_,rfl,z2,M3,A.Q,_,c,(n,cut),rfl,hq,(by rw[u5];exact h1),λM' h'=>⟨M',Sub.refl _,r M' (back M' _ h')⟩⟩
theorem zbr{C:Cc}{ws:List W}{M:Mm}{R:K3}(h:sC C ws M R):zaV C (bP R) (bX zaU ws) M:=by
 obtain⟨E,M0,A,st,n,cut,c,kp,rfl,hs,hcut,sm,r⟩:=h;refine xI rfl (xI rfl (xI rfl ⟨_,zX hcut,xI rfl ⟨_,oQ hcut,z4,?_⟩⟩));rw[KL];refine xI rfl (xI rfl ⟨A.s,A.d,_,xI rfl ⟨hs.os,vO,.inr ⟨_,.inr ⟨_,_,hs.or,rfl,rfl⟩,xI rfl ?_⟩⟩⟩);rw[lD vN];cases hr:aD st.reached (bR n cut) with
 | none=>
  refine cU (λ_=>J0 (KN hs sm λM' h'=>r M' ?_)) λh=>nomatch (show true=false from h);unfold reach;rw[hr];exact h'
 | some d=>
  refine cU (λh=>nomatch (show false=true from h)) λ_=>xI rfl (xI rfl ⟨A.s,A.d,_,xI rfl ⟨hs.os,vO,xI rfl (oP hs.or (by rw[lD vN,hr];rfl) ⟨c.1,c.2,d.1,d.2,rfl,rfl,xI rfl (cU (λhl=>KN hs sm λM' h'=>r M' ?_) λhl=>⟨M,Sub.refl _,r M ?_⟩)⟩)⟩⟩)
  .unfold reach;rw[hr];simp only;rw[if_pos (show cS c d=true from hl)];exact h'
  .unfold reach;rw[hr];simp only;rw[if_neg (ne_true_of_eq_false (show cS c d=false from hl))];exact hs
theorem Sm.reach{st:SS}{k:Nat}(h:Sm st (k+1))(n:Nat)(cut:List Int)(c:aL):Sm (Rg.reach st n cut c) k:=by
 obtain⟨j,h1,h2,h3⟩:=IL st n cut c;have:=h.q;have:=h.r;exact⟨by lia,by lia⟩
theorem Sm.le{st:SS}{k j:Nat}(h:Sm st k)(hj:j<=k):Sm st j:=⟨by have:=h.q;lia,by have:=h.r;lia⟩
def e6(f:O->Nat×List Int×aL)(xs:List O)(st:SS):SS:=xs.foldl (λst x=>reach st (f x).1 (f x).2.1 (f x).2.2) st
theorem vS{f:O->Nat×List Int×aL}{xs:List O}{st:SS}{i:Nat}{x:O}(h:xs[i]? = some x):e6 f (xs.take (i+1)) st=reach (e6 f (xs.take i) st) (f x).1 (f x).2.1 (f x).2.2:=by
 unfold e6;rw[Cd,h,Cz];rfl
theorem qA{f:O->Nat×List Int×aL}:∀{xs:List O} {st:SS} {k:Nat},Sm st (xs.length+k)->Sm (e6 f xs st) k
 | [],st,k,h=>by simp at h;exact h
 | x::xs,st,k,h=>by
  show Sm (e6 f xs (reach st (f x).1 (f x).2.1 (f x).2.2)) k;exact qA (Sm.reach (by rw[Br]at h;exact h.le (by lia)) _ _ _)
theorem sD{f:O->Nat×List Int×aL}:∀{xs:List O} {st:SS},(e6 f xs st).ends=st.ends/\(e6 f xs st).begun=st.begun/\(e6 f xs st).best=st.best
 | [],st=>⟨rfl,rfl,rfl⟩
 | x::xs,st=>by
  have h1:=sD (f:=f) (xs:=xs) (st:=reach st (f x).1 (f x).2.1 (f x).2.2);have h2:∀n cut c,(reach st n cut c).ends=st.ends/\(reach st n cut c).begun=st.begun/\(reach st n cut c).best=st.best:=by
   intro n cut c;unfold reach;split
   .split<;>exact⟨rfl,rfl,rfl⟩
   .exact⟨rfl,rfl,rfl⟩
  obtain⟨a1,a2,a3⟩:=h2 (f x).1 (f x).2.1 (f x).2.2;exact⟨h1.1.trans a1,h1.2.1.trans a2,h1.2.2.trans a3⟩
theorem zbs{C:Cc}{ws:List W}{M:Mm}{R:K3}(h:J8 C ws M R):za6 C (bP R) (bX za5 ws) M:=by
 obtain⟨E,M0,A,st,n,cut,c,part,rfl,hs,hcut,hcl,sm,hb,hb2,r⟩:=h;refine SK.gput hs (z:=(n,cut,c)) rfl (λM1 Q h=>xI rfl h) (λM1 Q h=>xI rfl (xI rfl (xI rfl ⟨z3,h⟩))) hb hb2 λM1 hs1=>?_;have hf:=hs1.ends_at (part,cut.getLastD 0);obtain⟨kvs,he,hc⟩:=hf;refine xI rfl ⟨A.s,A.d,_,xI rfl ⟨hs1.os,J5,nK he,xI rfl ⟨Ca _,_,.inr ⟨kvs,eK (part,cut.getLastD 0),he,rfl,rfl⟩,?_⟩⟩⟩;rcases hc with⟨h1,h2⟩|⟨p,xs,h1,h2,hk⟩
 .rw[h1];refine zS rfl (pU (λi τ M'=>M'=M1) rfl (λ_ _ _ _ _=>trivial) (λi w τ M' hw=>nomatch hw) λτ M' e=>⟨_,Sub.refl _,r _ ?_⟩);rw[e];unfold fS;rw[show aD st.ends (part,cut.getLastD 0)=none from h2];exact hs1
 .rw[h1];obtain⟨f,hf⟩:∃f:Int×aL->Nat×List Int×aL,f=λz=>(n,cut++[z.1],dR c z.2):=⟨_,rfl⟩;obtain⟨st1,hst1⟩:∃st1,st1 = {st with begun:=e8 st.begun (part,cut.getLastD 0) (n,cut,c)}:=⟨_,rfl⟩;rw[<-hst1]at hk;have sm1:Sm st1 xs.length:=by
   rw[show aD st.ends (part,cut.getLastD 0)=some xs from h2]at sm;rw[hst1];exact⟨sm.q,sm.r⟩
  refine⟨_,hk.kept,pU (λi τ M'=>∃o5 o6,τ=[some (.ref A.s),some (.int n),some (fT cut),some (cW c),some (.tup [.str part,.int (cut.getLastD 0)]),o5,o6]/\SK C E M0 M' A (e6 f (xs.take i) st1) (some (p,xs.map jR))) ⟨_,xI rfl hk⟩ (λi τ M' _ ⟨_,_,_,h⟩=>h.kept) ?_ ?_⟩
  .rintro i w τ M' hw ⟨o5,o6,rfl,hk'⟩;rw[Ax]at hw;obtain⟨z,hz,rfl⟩:=Bf.mp hw;have hi:=(An.mp hz).1;have smi:Sm (e6 f (xs.take i) st1) 1:=qA (sm1.le (by rw[Bq];lia));have e1:W.tup (Jt W.int cut++[W.int z.1])=fT (cut++[z.1]):=by unfold fT;rw[Bc];rfl
   refine⟨rfl,rfl,xI rfl ⟨A.s,A.d,xI rfl ⟨hk'.os,vP,xI rfl (xI rfl (xI rfl ⟨z1,by simpa using hcut,by rw[Ab];exact Az hcl (gJ (by decide)),xI rfl (xI rfl ⟨c,z.2,rfl,E,M0,A,_,n,cut++[z.1],dR c z.2,_,by rw[e1],hk',by simp,smi,λM2 hk2=>⟨M2,Sub.refl _,_,xI rfl ?_⟩⟩)⟩))⟩⟩⟩;rw[vS hz,hf];rw[hf]at hk2;exact hk2
  .rintro τ M' ⟨o5,o6,rfl,hk'⟩;rw[Ab,Bw]at hk';refine⟨_,Sub.refl _,r _ ?_⟩;unfold fS;rw[show aD st.ends (part,cut.getLastD 0)=some xs from h2];rw[hst1,hf]at hk';exact hk'.free
theorem sE{rs:List a7}{n:Nat}(h:n<rs.length):∃r,rs[n]? = some r/\cG (rs.map gL) (n:Int)=some (gL r):=by
 refine⟨rs[n],Au h,fA ?_⟩;rw[Ax,Au h];rfl
theorem zbt{bs:bN}{k:a9}{v:aL×Nat×List Int}(h:aD bs k=none):cA (dU fK gA bs) (fK k) (gA v)=dU fK gA (bs++[(k,v)]):=by
 rw[r9 nM,sA h]
theorem zbu{C:Cc}{ws:List W}{M:Mm}{R:K3}(h:J9 C ws M R):zbf C (bP R) (bX za7 ws) M:=by
 obtain⟨G,E,M0,A,st,n,cut,c,rfl,hs,hG,hn,hcut,hbg,sm,hb,he,hel,r⟩:=h;obtain⟨ru,hr1,hr2⟩:=sE hn;have hfn:cT G n=ru.name:=by unfold cT;rw[hG,hr1]
 have hfact:cH G n cut=(ru.name,cut.headD 0,cut.getLastD 0):=by unfold cH;rw[hfn]
 rw[hfn]at sm hel;refine xI rfl ⟨A.s,A.d,_,xI rfl ⟨hs.os,J4,xI rfl ⟨_,hr2,xI rfl (xI rfl ⟨_,zX hcut,z2,xI rfl (xI rfl ⟨_,oQ hcut,z1,(λh=>nomatch h),z3,xI rfl (xI rfl ⟨A.s,A.d,_,xI rfl ⟨hs.os,zU,.inr ⟨_,.inr ⟨_,fK (ru.name,cut.headD 0,cut.getLastD 0),hs.ob,rfl,rfl⟩,xI rfl ?_⟩⟩⟩)⟩)⟩)⟩⟩⟩;rw[lD nM];cases hbst:aD st.best (ru.name,cut.headD 0,cut.getLastD 0) with
 | some v=>
  refine cU (λ_=>⟨M,Sub.refl _,r M ?_⟩) λh=>nomatch (show true=false from h);unfold settle;rw[hfact,hbst];exact hs
 | none=>
  refine cU (λh=>nomatch (show false=true from h)) λ_=>xI rfl (xI rfl (xI rfl ⟨z3,xI rfl ⟨A.s,A.d,_,xI rfl ⟨hs.os,zU,xI rfl (rP (k:=fK (ru.name,cut.headD 0,cut.getLastD 0)) hs.ob (d8 (by rw[Ab];exact hb)) ?_)⟩⟩⟩));rw[show cA (dU fK gA st.best) _ (W.tup [cW c,W.int n,fT cut])=_ from zbt (v:=(c,n,cut)) hbst];have hs1:=hs.bput (st.best++[((ru.name,cut.headD 0,cut.getLastD 0),c,n,cut)]);refine SK.eput hs1 (nm:=ru.name) (b:=cut.headD 0) (z:=(cut.getLastD 0,c)) rfl (λM1 Q h=>xI rfl h) (λM1 Q h=>xI rfl ⟨_,oQ hcut,xI rfl ⟨z2,h⟩⟩) he hel λM1 hs2=>?_;obtain⟨st1,hst1⟩:∃st1:SS,st1 = {st with best:=st.best++[((ru.name,cut.headD 0,cut.getLastD 0),c,n,cut)],ends:=e8 st.ends (ru.name,cut.headD 0) (cut.getLastD 0,c)}:=⟨_,rfl⟩;have hs2:SR C E M0 M1 A st1:=by rw[hst1];exact hs2
  have hset:∀xs,(aD st.begun (ru.name,cut.headD 0)).getD []=xs->settle G st n cut c=e6 (λy:cC=>(y.1,y.2.1++[cut.getLastD 0],dR y.2.2 c)) xs st1:=λxs hx=>by
   unfold settle;rw[hfact,hbst,hfn,hx,hst1];rfl
  have hbeg:st1.begun=st.begun:=by rw[hst1]
  obtain⟨kvs,hg,hc⟩:=hs2.begun_at (ru.name,cut.headD 0);refine xI rfl ⟨A.s,A.d,_,xI rfl ⟨hs2.os,J6,nK hg,xI rfl ⟨Ca _,_,.inr ⟨kvs,eK (ru.name,cut.headD 0),hg,rfl,rfl⟩,?_⟩⟩⟩;rcases hc with⟨h1,h2⟩|⟨p,xs,h1,h2,hk⟩
  .rw[h1];refine zS rfl (pU (λi τ M'=>M'=M1) rfl (λ_ _ _ _ _=>trivial) (λi w τ M' hw=>nomatch hw) λτ M' e=>⟨_,Sub.refl _,r _ ?_⟩);rw[hset [] (by rw[hbeg]at h2;rw[h2];rfl),e];exact hs2
  .rw[h1];rw[hbeg]at h2;obtain⟨f,hf⟩:∃f:cC->Nat×List Int×aL,f=λy=>(y.1,y.2.1++[cut.getLastD 0],dR y.2.2 c):=⟨_,rfl⟩;have sm1:Sm st1 xs.length:=by
    rw[h2]at sm;rw[hst1];exact⟨sm.q,sm.r⟩
   refine⟨_,hk.kept,pU (λi τ M'=>∃o6 o7 o8,τ=[some (.ref A.s),some (.int n),some (fT cut),some (cW c),some (.tup [.str ru.name,.int (cut.headD 0)]),some (.tup ([.str ru.name,.int (cut.headD 0)]++[.int (cut.getLastD 0)])),o6,o7,o8]/\SK C E M0 M' A (e6 f (xs.take i) st1) (some (p,xs.map jS))) ⟨_,_,xI rfl hk⟩ (λi τ M' _ ⟨_,_,_,_,h⟩=>h.kept) ?_ ?_⟩
   .rintro i w τ M' hw ⟨o6,o7,o8,rfl,hk'⟩;rw[Ax]at hw;obtain⟨y,hy,rfl⟩:=Bf.mp hw;have hi:=(An.mp hy).1;obtain⟨hyl,hyn⟩:=hbg (ru.name,cut.headD 0) y (by rw[h2];exact Bg hy);refine⟨rfl,rfl,xI rfl ⟨A.s,A.d,xI rfl ⟨hk'.os,vP,xI rfl (xI rfl (xI rfl ⟨_,oQ hcut,z1,by simpa using hyn,by rw[Ab];exact gJ (Az hyl (by decide)),xI rfl (xI rfl ⟨y.2.2,c,rfl,E,M0,A,_,y.1,y.2.1++[cut.getLastD 0],dR y.2.2 c,_,by rw[fT,Bc];rfl,hk',by simp,qA (sm1.le (by rw[Bq];lia)),λM2 hk2=>⟨M2,Sub.refl _,_,_,xI rfl ?_⟩⟩)⟩))⟩⟩⟩;rw[vS hy,hf];rw[hf]at hk2;exact hk2
   .rintro τ M' ⟨o6,o7,o8,rfl,hk'⟩;rw[Ab,Bw]at hk';refine⟨_,Sub.refl _,r _ ?_⟩;rw[hset xs (by rw[h2];rfl),<-hf];exact hk'.free
theorem zbv{C:Cc}{ws:List W}{M:Mm}{R:K3}(h:KC C ws M R):za4 C (bP R) (bX zaW ws) M:=by
 obtain⟨G,E,M0,A,st,rfl,hs,ev,hq,rm,r⟩:=h;obtain⟨c,x,q',e1,f1,m1,l1,_,_⟩:=oH hs.fall hq;obtain⟨n,cut⟩:=x;obtain⟨hcut,hcl,hn,d,hd⟩:=rm.item c n cut q' e1;obtain⟨M3,hQ,back⟩:=hs.que;refine xI rfl ⟨A.s,A.d,_,xI rfl ⟨hs.os,zT,A.Q.o,A.Q.d,xI rfl ⟨hQ.ob,Z2,M3,A.Q,_,c,(n,cut),q',rfl,hQ,e1,λM1 hQ1=>?_⟩⟩⟩;have hs1:=back M1 q' hQ1;have smq:∀k,Sm st k->Sm {st with q:=q'} k:=λk h=>⟨by have:=h.q;show(bB q').length+k<_;lia,h.r⟩
 have ht:mF G st=if cS d c=true then {st with q:=q'} else process G {st with q:=q'} n cut c:=by
  unfold mF;simp only[e1,hd]
 obtain⟨st1,hst1⟩:∃st1:SS,st1 = {st with q:=q'}:=⟨_,rfl⟩;have b1:st1.begun=st.begun:=by rw[hst1]
 have b2:st1.ends=st.ends:=by rw[hst1]
 have b3:st1.best=st.best:=by rw[hst1]
 have b4:st1.reached=st.reached:=by rw[hst1]
 rw[<-hst1]at hs1 smq ht;clear hst1;refine xI rfl (xI rfl (xI rfl (xI rfl (xI rfl (xI rfl (xI rfl (xI rfl (xI rfl ⟨A.s,A.d,_,xI rfl ⟨hs1.os,vO,xI rfl (xI rfl (xI rfl ⟨_,zX hcut,xI rfl ⟨_,oQ hcut,z4,zbq hs1.or (by rw[b4];exact hd) (xI rfl ⟨d.1,d.2,c.1,c.2,rfl,rfl,xI rfl (cU (λhl=>?_) λhl=>?_)⟩)⟩⟩))⟩⟩))))))))
 .rw[ht,if_pos (show cS d c=true from hl)]at r;exact⟨M1,Sub.refl _,r M1 hs1⟩
 rw[ht,if_neg (ne_true_of_eq_false (show cS d c=false from hl))]at r;rw[ev.rs]at hn;obtain⟨ru,hr1,hr2⟩:=sE hn;have hpart:dN G n cut=ru.parts[cut.length-1]?:=by unfold dN;rw[ev.rs,hr1]
 have hpos:=Fy.mpr hcut;have hlm:(Jt W.int cut).length=cut.length:=Ab _;have hlp:(Jt W.str ru.parts).length=ru.parts.length:=Ab _;refine xI rfl ⟨A.s,A.d,_,xI rfl ⟨hs1.os,J4,xI rfl ⟨_,hr2,xI rfl (xI rfl (xI rfl (xI rfl (cU (λhlen=>?_) λhlen=>?_))))⟩⟩⟩
 .have hlen:=of_decide_eq_true hlen;rw[hlm,hlp]at hlen;have hp:dN G n cut=none:=by rw[hpart];exact Hj (by lia)
  refine xI rfl ⟨A.s,A.d,xI rfl ⟨hs1.os,zaH,xI rfl (xI rfl (xI rfl ⟨G,E,M0,A,st1,n,cut,c,rfl,hs1,ev.rs,hn,hcut,by rw[b1];exact rm.bg,by rw[b1];exact smq _ (rm.gl _).2,by rw[b3];exact rm.b,by rw[b2];exact rm.e,by rw[b2];exact(rm.el _).1,λM2 hs2=>⟨M2,Sub.refl _,r M2 ?_⟩⟩))⟩⟩;unfold process;rw[hp];exact hs2
 have hlen:=of_decide_eq_false hlen;rw[hlm,hlp]at hlen;obtain⟨part,hp⟩:∃part,ru.parts[cut.length-1]? = some part:=⟨_,Au (by lia)⟩;rw[hp]at hpart;have hat:cG (ru.parts.map W.str) ((Jt W.int cut).length-1)=some (.str part):=by
  rw[hlm,show((cut.length:Int)-1)=((cut.length-1:Nat):Int) by lia];exact fA (by rw[Ax,hp];rfl)
 have hpr:process G st1 n cut c=if G.own part=true then fS st1 n cut c part else e6 (λz:Int×Int=>(n,cut++[z.1],(c.1+z.2,c.2))) (G.steps part (cut.getLastD 0)) st1:=by
  unfold process;rw[hpart];rfl
 rw[hpr]at r;refine xI rfl (xI rfl ⟨_,hat,xI rfl ⟨A.s,A.d,_,xI rfl ⟨hs1.os,zaD,_,⟨Sum.inr part,rfl,rfl⟩,xI rfl (cU (λho=>?_) λho=>?_)⟩⟩⟩)
 .rw[if_pos ((ev.own part).symm.trans ho)]at r;exact xI rfl ⟨A.s,A.d,xI rfl ⟨hs1.os,zaG,xI rfl (xI rfl (xI rfl (xI rfl (xI rfl ⟨_,hat,xI rfl ⟨_,oQ hcut,z2,E,M0,A,st1,n,cut,c,part,rfl,hs1,hcut,hcl,by rw[b2];exact smq _ (rm.el _).2,by rw[b1];exact rm.g,by rw[b1];exact(rm.gl _).1,λM2 hs2=>⟨M2,Sub.refl _,r M2 hs2⟩⟩⟩))))⟩⟩
 rw[if_neg (ne_true_of_eq_false ((ev.own part).symm.trans ho))]at r;obtain⟨xs,hxs⟩:∃xs,xs=G.steps part (cut.getLastD 0):=⟨_,rfl⟩;have sm1:Sm st1 xs.length:=by rw[hxs];exact smq _ (rm.sl _ _)
 have hval:(bD E.stp (eK (part,cut.getLastD 0))).getD (.rl [])=.rl (xs.map λz=>.tup [.int z.1,.int z.2]):=by
  rw[hxs];rcases ev.stp part (cut.getLastD 0) with⟨h1,h2⟩|h1
  .rw[h1,h2];rfl
  .rw[h1];rfl
 rw[<-hxs]at r;refine xI rfl ⟨A.s,A.d,_,xI rfl ⟨hs1.os,zaE,rfl,xI rfl (xI rfl ⟨_,hat,xI rfl ⟨_,oQ hcut,z2,Ca _,_,⟨eK (part,cut.getLastD 0),rfl,rfl⟩,zS hval (iW (λi τ M'=>∃o6 o7,τ=[some (.ref A.s),some (.tup [cW c,kB (n,cut)]),some (cW c),some (.int n),some (fT cut),some (.tup (ru.parts.map W.str)),o6,o7]/\SR C E M0 M' A (e6 (λz:Int×Int=>(n,cut++[z.1],(c.1+z.2,c.2))) (xs.take i) st1)) ⟨_,xI rfl hs1⟩ ?_ ?_)⟩⟩)⟩⟩
 .rintro i w τ M' hw ⟨o6,o7,rfl,hk⟩ D hD;rw[Ax]at hw;obtain⟨z,hz,rfl⟩:=Bf.mp hw;have hi:=(An.mp hz).1;exact⟨rfl,rfl,xI rfl ⟨A.s,A.d,xI rfl ⟨hk.os,vP,xI rfl (xI rfl (xI rfl ⟨z1,by simpa using hcut,by rw[hlm];exact Az hcl (gJ (by decide)),xI rfl (xI rfl (xI rfl (xI rfl (xI rfl ⟨z2,E,M0,A,_,n,cut++[z.1],(c.1+z.2,c.2),_,by rw[fT,Bc];rfl,hk,by simp,qA (sm1.le (by rw[Bq];lia)),λM2 hk2=>hD _ _ ⟨_,xI rfl (by rw[vS hz];exact hk2)⟩⟩))))⟩))⟩⟩⟩
 .rintro τ M' ⟨o6,o7,rfl,hk⟩;rw[Ab,Bw]at hk;exact⟨_,Sub.refl _,r _ hk⟩
theorem zbw{E:Env}{A:Ad}:cD "begun" (.ref A.g) (cD "ends" (.ref A.e) (cD "best" (.ref A.b) (cD "reached" (.ref A.r) (cD "queue" (.ref A.Q.o) ([("grammar",(dA E.rs)),("own",(W.dk E.own)),("steps",(W.dt E.stp))]:List (Str×W))))))=sf E A:=by kernel_rfl
theorem vT{C:Cc}{B Mt:Mm}{A:Aq}{q:Qu}{s dx p:Addr}{fs fs':List (Str×W)}(hQ:QR C B Mt A q)(hB:B s=some (.ins C.s dx fs))(hp:Mt p=none):p≠s/\B p=none/\put Mt p (.dT []) s=some (.ins C.s dx fs)/\QR C (put (put B p (.dT [])) s (.ins C.s dx fs')) (put (put Mt p (.dT [])) s (.ins C.s dx fs')) A q:=by
 have hs:=hQ.sub _ _ hB;have ne:p≠s:=λe=>by rw[e,hs]at hp;cases hp
 exact⟨ne,hQ.sub.non hp,by rw[aU (Bi ne)];exact hs,(hQ.lift (.inl hp)).lift (.inr ⟨_,by rw[aU (Bi ne)];exact hB⟩)⟩
theorem sF(f:Str)(w:W):∀fs:List (Str×W),(cD f w fs).length<=fs.length+1
 | []=>Ai _
 | (k,x)::r=>by
  rw[cD];split
  .simp
  .have:=sF f w r;simp only[Br];lia
theorem zbx{C:Cc}{ws:List W}{M:Mm}{R:K3}(h:KD C ws M R):zaT C (bP R) (bX zaL ws) M:=by
 obtain⟨M0,s,dx,rs,stp,rfl,hl,rfl,h0,r⟩:=h;refine xI rfl (xI rfl ⟨s,dx,xI rfl ⟨aX,by decide,?_⟩⟩);rw[fM];have e2:∀w:W,cD "own" w (cD "grammar" (dA rs) [])=([("grammar",dA rs),("own",w)]:List (Str×W)):=λw=>by kernel_rfl
 have e3:∀w:W,cD "steps" w ([("grammar",dA rs),("own",.dk (ownOf rs))]:List (Str×W))=([("grammar",dA rs),("own",.dk (ownOf rs)),("steps",w)]:List (Str×W)):=λw=>by kernel_rfl
 refine xI rfl ⟨rs,rfl,Az hl (by decide),bH.frz ⟨namesOf rs,rfl,?_,xI rfl ⟨s,dx,xI rfl ⟨aX,(show(1:Nat)<1000 by decide),xI rfl (xI rfl ⟨s,dx,xI rfl ⟨aX,?_,?_⟩⟩)⟩⟩⟩⟩
 .have:=u0 (rs.map a7.name) [];rw[Ab]at this;unfold namesOf rR;simp at this;simp;lia
 .rw[e2];exact(show(2:Nat)<1000 by decide)
 rw[fM,fM,e2];show KI C _ _ (put M0 s (.ins C.s dx (cD "steps" (.dt stp) [("grammar",dA rs),("own",.dk (ownOf rs))])));rw[e3];refine λa da ha hda hne=>?_;have hsa:s≠a:=λe=>by rw[<-e,aX]at ha;cases ha
 obtain⟨F3,hF3⟩:∃F:List (Str×W),F=([("grammar",dA rs),("own",.dk (ownOf rs)),("steps",.dt stp)]:List (Str×W)):=⟨_,rfl⟩;rw[<-hF3]at ha hda⊢;refine⟨_,a,da,rfl,rfl,ha,λM1 Aq hAq hQ=>⟨rfl,xI rfl ⟨s,dx,F3,rfl,hQ.sub _ _ aX,by rw[hF3];exact(show(3:Nat)<1000 by decide),?_⟩⟩⟩;have hQ1:=hQ.lift (p:=s) (o:=.ins C.s dx (cD "queue" (.ref a) F3)) (.inr ⟨_,aX⟩);rw[fM]at hQ1;obtain⟨F4,hF4⟩:∃F:List (Str×W),F=cD "queue" (.ref a) F3:=⟨_,rfl⟩;have l4:F4.length<=4:=by rw[hF4];have:=sF "queue" (.ref a) F3;rw[hF3]at this⊢;exact this
 rw[<-hF4]at hQ1⊢;obtain⟨Mt,hMt⟩:∃m,m=put M1 s (.ins C.s dx F4):=⟨_,rfl⟩;rw[<-hMt]at hQ1⊢;refine λp1 hp1=>?_;obtain⟨n1,b1,o1,hQ2⟩:=vT (fs':=cD "reached" (.ref p1) F4) hQ1 aX hp1;refine xI rfl ⟨s,dx,F4,rfl,o1,by lia,λp2 hp2=>?_⟩;obtain⟨n2,b2,o2,hQ3⟩:=vT (fs':=cD "best" (.ref p2) (cD "reached" (.ref p1) F4)) hQ2 aX hp2;have l5:=sF "reached" (.ref p1) F4;refine xI rfl ⟨s,dx,xI rfl ⟨o2,by lia,λp3 hp3=>?_⟩⟩;obtain⟨n3,b3,o3,hQ4⟩:=vT (fs':=cD "ends" (.ref p3) (cD "best" (.ref p2) (cD "reached" (.ref p1) F4))) hQ3 aX hp3;have l6:=sF "best" (.ref p2) (cD "reached" (.ref p1) F4);refine xI rfl ⟨s,dx,xI rfl ⟨o3,by lia,λp4 hp4=>?_⟩⟩;obtain⟨n4,b4,o4,hQ5⟩:=vT (fs':=cD "begun" (.ref p4) (cD "ends" (.ref p3) (cD "best" (.ref p2) (cD "reached" (.ref p1) F4)))) hQ4 aX hp4;have l7:=sF "ends" (.ref p3) (cD "best" (.ref p2) (cD "reached" (.ref p1) F4));refine xI rfl ⟨s,dx,xI rfl ⟨o4,by lia,_,Sub.refl _,r _ ⟨s,dx,Aq,p1,p2,p3,p4⟩ rfl ?_⟩⟩;obtain⟨A,hA⟩:∃A:Ad,A=⟨s,dx,Aq,p1,p2,p3,p4⟩:=⟨_,rfl⟩;obtain⟨E,hE⟩:∃E:Env,E=⟨rs,ownOf rs,stp⟩:=⟨_,rfl⟩;have hsf:cD "begun" (.ref p4) (cD "ends" (.ref p3) (cD "best" (.ref p2) (cD "reached" (.ref p1) F4)))=sf E A:=by
  rw[<-zbw,hF4,hF3,hA,hE,<-hAq]
 rw[hsf]at hQ5⊢;rw[<-hA,<-hE];have c21:p2≠p1:=λe=>by rw[e,aU n1,aX]at b2;cases b2
 have c31:p3≠p1:=λe=>by rw[e,aU n1,aU (Bi c21),aU n1,aX]at b3;cases b3
 have c32:p3≠p2:=λe=>by rw[e,aU n2,aX]at b3;cases b3
 have c41:p4≠p1:=λe=>by rw[e,aU n1,aU (Bi c31),aU n1,aU (Bi c21),aU n1,aX]at b4;cases b4
 have c42:p4≠p2:=λe=>by rw[e,aU n2,aU (Bi c32),aU n2,aX]at b4;cases b4
 have c43:p4≠p3:=λe=>by rw[e,aU n3,aX]at b4;cases b4
 have z1:M0 p1=none:=by rw[aU n1]at b1;exact b1
 have z2:M0 p2=none:=by rw[aU n2,aU c21,aU n2]at b2;exact b2
 have z3:M0 p3=none:=by rw[aU n3,aU c32,aU n3,aU c31,aU n3]at b3;exact b3
 have z4:M0 p4=none:=by rw[aU n4,aU c43,aU n4,aU c42,aU n4,aU c41,aU n4]at b4;exact b4
 obtain⟨N1,hN1⟩:∃m,m=put (put (put M0 s (.ins C.s dx (sf E A))) p1 (.dT [])) p2 (.dT []):=⟨_,rfl⟩;have hB:put (put (put (put (put (put (put (put (put M0 s (.ins C.s dx F4)) p1 (.dT [])) s (.ins C.s dx (cD "reached" (.ref p1) F4))) p2 (.dT [])) s (.ins C.s dx (cD "best" (.ref p2) (cD "reached" (.ref p1) F4)))) p3 (.dT [])) s (.ins C.s dx (cD "ends" (.ref p3) (cD "best" (.ref p2) (cD "reached" (.ref p1) F4))))) p4 (.dT [])) s (.ins C.s dx (sf E A))=put (put N1 p3 (.dT [])) p4 (.dT []):=by
  rw[hN1];funext b;unfold put
  by_cases g0:b=s
  .subst g0;simp[Bi n1,Bi n2,Bi n3,Bi n4]
  .simp only[if_neg g0]
 rw[hB]at hQ5;have mn:Mn C E M0 N1 A [] []:=by
  rw[hN1,hA];exact⟨fJ (fJ (fJ (Sub.refl _) h0) z1) z2,h0,z1,z2,Bi n1,Bi n2,Bi c21,by rw[aU (Bi n2),aU (Bi n1),aX],by rw[aU (Bi c21),aX];rfl,by rw[aX];rfl⟩
 have y3:N1 p3=none:=by rw[hN1,aU c32,aU c31,aU n3];exact z3
 have y4:N1 p4=none:=by rw[hN1,aU c42,aU c41,aU n4];exact z4
 have t1:eF eK N1 (put N1 p3 (.dT [])) A.e [] (eG []):=by rw[hA];exact⟨Sub.new y3,y3,aX,(λ_ _=>rfl),(λk ws e=>nomatch e),(λk j p e=>nomatch e)⟩
 have x4:put N1 p3 (.dT []) p4=none:=by rw[aU c43];exact y4
 have t2:eF eK (put N1 p3 (.dT [])) (put (put N1 p3 (.dT [])) p4 (.dT [])) A.g [] (gG []):=by rw[hA];exact⟨Sub.new x4,x4,aX,(λ_ _=>rfl),(λk ws e=>nomatch e),(λk j p e=>nomatch e)⟩
 have hAQ:A.Q=Aq:=by rw[hA]
 rw[<-hAQ]at hQ5;exact⟨N1,_,_,[],[],mn,t1,t2,hQ5,Ai _,Ai _,trivial⟩
structure Ln(st:SS)(T:Nat):Prop where
 b:st.best.length<=T
 e:st.ends.length<=T
 g:st.begun.length<=T
theorem Ln.process{G:Sr}{st:SS}{T:Nat}(h:Ln st T)(n:Nat)(cut:List Int)(c:aL):Ln (Rg.process G st n cut c) (T+1):=by
 have h1:=h.b;have h2:=h.e;have h3:=h.g;have keep:Ln st (T+1):=⟨by lia,by lia,by lia⟩;unfold Rg.process;split
 .unfold settle;split
  .exact keep
  .obtain⟨a1,a2,a3⟩:=sD (f:=λy:cC=>(y.1,y.2.1++[cut.getLastD 0],dR y.2.2 c)) (xs:=(aD st.begun (cT G n,cut.headD 0)).getD []) (st:={st with best:=st.best++[(cH G n cut,c,n,cut)],ends:=e8 st.ends (cT G n,cut.headD 0) (cut.getLastD 0,c)});refine⟨?_,?_,?_⟩
   .refine Az (Gb (congrArg Eh a3)) ?_;show(st.best++[_]).length<=_;rw[Ak,Bl];lia
   .refine Az (Gb (congrArg Eh a1)) ?_;have:=u3 st.ends (cT G n,cut.headD 0) ((aD st.ends (cT G n,cut.headD 0)).getD []++[(cut.getLastD 0,c)]);show(bC _ _ _).length<=_;lia
   .refine Az (Gb (congrArg Eh a2)) ?_;exact keep.g
 .rename_i part _;split
  .unfold fS;obtain⟨a1,a2,a3⟩:=sD (f:=λz:Int×aL=>(n,cut++[z.1],dR c z.2)) (xs:=(aD st.ends (part,cut.getLastD 0)).getD []) (st:={st with begun:=e8 st.begun (part,cut.getLastD 0) (n,cut,c)});refine⟨?_,?_,?_⟩
   .exact Az (Gb (congrArg Eh a3)) keep.b
   .exact Az (Gb (congrArg Eh a1)) keep.e
   .refine Az (Gb (congrArg Eh a2)) ?_;have:=u3 st.begun (part,cut.getLastD 0) ((aD st.begun (part,cut.getLastD 0)).getD []++[(n,cut,c)]);show(bC _ _ _).length<=_;lia
  .unfold f7;obtain⟨a1,a2,a3⟩:=sD (f:=λz:Int×Int=>(n,cut++[z.1],(c.1+z.2,c.2))) (xs:=G.steps part (cut.getLastD 0)) (st:=st);exact⟨Az (Gb (congrArg Eh a3)) keep.b,Az (Gb (congrArg Eh a1)) keep.e,Az (Gb (congrArg Eh a2)) keep.g⟩
theorem Ln.next{G:Sr}{st:SS}{T:Nat}(h:Ln st T):Ln (mF G st) (T+1):=by
 have h1:=h.b;have h2:=h.e;have h3:=h.g;have keep:Ln st (T+1):=⟨by lia,by lia,by lia⟩;have hq:∀q',Ln {st with q:=q'} T:=λq'=>⟨h1,h2,h3⟩
 unfold mF;split
 .exact keep
 .split
  .split
   .exact⟨keep.b,keep.e,keep.g⟩
   .exact(hq _).process _ _ _
  .exact⟨keep.b,keep.e,keep.g⟩
theorem zby{G:Sr}{V:List Int}{L S I0 T:Nat}{st:SS}{P:List cC}{cur:aL}(v:r6 G V G.rs.length L)(hL:L<1000)(A:All G S I0 st P cur T)(hS:∀t p,(G.steps t p).length<=S)(ln:Ln st T)(hb:I0+G.rs.length*((L+1)*(V.length*V.length))*(S+V.length)+G.rs.length*((L+1)*(V.length*V.length))+V.length+S+1<10000000):Rm G st:=by
 obtain⟨f1,f2,f3⟩:=IP v A;have hin:∀{n cut c},GI G st.best n cut c->DI G n cut c:=λ{n cut c} g=>zE (B:=st.best) (λf m n' cut' h=>rY A.ob h) g;have hr:=A.cn.rch;generalize G.rs.length*((L+1)*(V.length*V.length))=X at *;generalize X*(S+V.length)=Y at *;have h1:=ln.b;have h2:=ln.e;have h3:=ln.g;have hg:∀key,((aD st.begun key).getD []).length<=X:=λkey=>by
  have:=len_sub (b:=P) (A.cn.bnd key) λy hy=>(A.ob.bgn key y hy).1;lia
 refine⟨λc n cut q' e=>?_,λkey y hy=>?_,by lia,by lia,by lia,λkey=>?_,λkey=>?_,λt p=>?_⟩
 .have hne:st.q≠[]:=λz=>by rw[z]at e;cases e
  obtain⟨_,_,_,e1,_,m1,_⟩:=oH A.inv.fall hne;rw[e]at e1;cases e1;have hm:(c,(n,cut))∈bB st.q:=(m1 _).mpr (.inl rfl);have hd:=hin (A.inv.item _ hm);obtain⟨_,g2,g3⟩:=p0 v hd;obtain⟨d,g4,_⟩:=A.inv.ge _ hm;exact⟨hd.ne,by have g3:cut.length<=L:=g3;lia,g2,d,g4⟩
 .have hd:=hin (A.inv.pr y (A.ob.bgn key y hy).1).2.2;obtain⟨_,g2,g3⟩:=p0 v hd;exact⟨by lia,hd.ne⟩
 .have:=f2 key;exact⟨by lia,⟨by lia,by lia⟩⟩
 .have:=hg key;exact⟨by lia,⟨by lia,by lia⟩⟩
 .have:=hS t p;exact⟨by lia,by lia⟩
def lE(G:Sr)(i:Nat):List (Nat×Int):=(Eg i).flatMap λn=>G.places.map λp=>(n,p)
theorem zbz(G:Sr)(i:Nat):lE G (i+1)=lE G i++G.places.map λp=>(i,p):=by
 unfold lE;rw[List.range_succ,List.flatMap_append];simp
theorem zY(G:Sr)(i:Nat):(lE G i).length=i*G.places.length:=by
 unfold lE;rw[p5 (k:=G.places.length) λn _=>by rw[Ab],Jd]
abbrev oR(G:Sr):Nat×Int->Nat×List Int×aL:=λx=>(x.1,[x.2],(G.wt x.1,1))
theorem zbA{O:Type}{f:O->Nat×List Int×aL}{xs ys:List O}{st:SS}:e6 f (xs++ys) st=e6 f ys (e6 f xs st):=by
 unfold e6;rw[Cz]
theorem SK.told{C:Cc}{E:Env}{M0 M:Mm}{A:Ad}{st:SS}{kp:Option (Addr×List W)}(h:SK C E M0 M A st kp):M0 A.b=none/\L3.Sub (put M0 A.b (.dT (dU fK gA st.best))) M:=by
 obtain⟨M1,M2,M3,e,g,h1,h2,h3,h4,h5,h6,h7⟩:=h.ex;refine⟨h1.nb,λb u e=>?_⟩
 by_cases hb:b=A.b
 .subst hb;rw[aX]at e;cases e;exact h.ob
 .rw[aU hb]at e;exact h4.sub _ _ (h3.sub _ _ (h2.sub _ _ (h1.sub _ _ e)))
theorem zbB{n i:Nat}{w:W}(h:(j7 0 n)[i]? = some w):i<n/\w=.int (i:Nat):=by
 unfold j7 at h;rw[Ax]at h;obtain⟨j,hj,rfl⟩:=Bf.mp h;obtain⟨h1,h2⟩:=An.mp hj;rw[List.getElem_range]at h2;rw[Jd]at h1;exact⟨h1,by rw[<-h2,Kf]⟩
theorem zbC{lo:Int}{n:Nat}:(j7 lo n).length=n:=by unfold j7;simp
theorem zbD{C:Cc}{ws:List W}{M:Mm}{R:K3}(h:KG C ws M R):zbn C (bP R) (bX zbg ws) M:=by
 obtain⟨G,E,V,L,S,rfl,hrs,hown,ev,ok,v,hL,hpl,hS,hb,r⟩:=h;refine xI rfl (xI rfl (λa dx ha hdx hne=>⟨M,a,dx,E.rs,E.stp,rfl,hrs,rfl,ha,λM1 A hA hs=>⟨rfl,?_⟩⟩));rw[<-hown]at hs;have hs:SR C E M M1 A gV:=hs;subst hA;have hil:(j9 G).length=G.rs.length*G.places.length:=zY G G.rs.length;obtain⟨N,hN⟩:∃N,N=G.rs.length:=⟨_,rfl⟩;have hNE:E.rs.length=N:=by rw[hN,ev.rs]
 refine xI rfl ⟨(N:Int),by rw[Ab,hNE],by lia,by lia,?_⟩;rw[Dg];have sm0:Sm gV ((j9 G).length+1):=⟨by show 0+_<_;lia,by show 0+_<_;lia⟩;refine iW (λi τ M'=>∃o5 o6,τ=[some (dA E.rs),some (.rl (G.places.map W.int)),some (.dt E.stp),some (.rl ((Eg G.rs.length).map λn=>.int (G.wt n))),some (.ref A.s),o5,o6]/\SR C E M M' A (e6 (oR G) (lE G i) gV)) ⟨_,xI rfl hs⟩ ?_ ?_
 .rintro i w τ M2 hw ⟨o5,o6,rfl,hs2⟩ D1 hD1;obtain⟨hi,rfl⟩:=zbB hw;have hmul:(i+1)*G.places.length<=N*G.places.length:=Nat.mul_le_mul_right _ hi;rw[<-hN]at hil;refine xI rfl (jQ (iW (λj τ M'=>∃o6,τ=[some (dA E.rs),some (.rl (G.places.map W.int)),some (.dt E.stp),some (.rl ((Eg G.rs.length).map λn=>.int (G.wt n))),some (.ref A.s),some (.int i),o6]/\SR C E M M' A (e6 (oR G) ((G.places.map λp=>(i,p)).take j) (e6 (oR G) (lE G i) gV))) (xI rfl hs2) ?_ ?_))
  .rintro j w τ M3 hw ⟨o6,rfl,hs3⟩ D2 hD2;rw[Ax]at hw;obtain⟨pl,hpl',rfl⟩:=Bf.mp hw;have hj:=(An.mp hpl').1;have hx:(G.places.map λp=>(i,p))[j]? = some (i,pl):=by rw[Ax,hpl'];rfl
   have hwt:cG ((Eg G.rs.length).map λn=>W.int (G.wt n)) (i:Int)=some (.int (G.wt i)):=fA (by rw[Ax,List.getElem?_range (by lia)];rfl);have smj:Sm (e6 (oR G) ((G.places.map λp=>(i,p)).take j) (e6 (oR G) (lE G i) gV)) 1:=by
    refine qA (qA (sm0.le ?_));rw[zY,Bq,Ab,hil,Nat.succ_mul]at *;lia
   refine xI rfl ⟨A.s,A.d,xI rfl ⟨hs3.os,vP,xI rfl (xI rfl ⟨z1,xI rfl (xI rfl ⟨_,hwt,z2,E,M,A,_,i,[pl],(G.wt i,1),none,rfl,hs3,by simp,smj,λM4 hs4=>hD2 _ _ (xI rfl ?_)⟩)⟩)⟩⟩;rw[vS hx];exact hs4
  .rintro τ M3 ⟨o6,rfl,hs3⟩;refine hD1 _ _ ⟨_,xI rfl ?_⟩;rw[zbz,zbA];rw[Ab,Dv (by rw[Ab];exact Ai _)]at hs3;exact hs3
 .rintro τ M2 ⟨o5,o6,rfl,hs2⟩;rw[zbC]at hs2;have hst:e6 (oR G) (lE G N) gV=k9 G:=by rw[hN];rfl
  rw[hst]at hs2;have ln0:Ln (k9 G) 0:=by
   obtain⟨a1,a2,a3⟩:=sD (f:=oR G) (xs:=lE G N) (st:=gV);rw[hst]at a1 a2 a3;exact⟨by rw[a3];exact Ai _,by rw[a1];exact Ai _,by rw[a2];exact Ai _⟩
  obtain⟨Bm,hBm⟩:∃Bm,Bm=(j9 G).length+G.rs.length*((L+1)*(V.length*V.length))*(S+V.length):=⟨_,rfl⟩;refine IS (λm τ M'=>∃st P cur T o5 o6,τ=[some (dA E.rs),some (.rl (G.places.map W.int)),some (.dt E.stp),some (.rl ((Eg G.rs.length).map λn=>.int (G.wt n))),some (.ref A.s),o5,o6]/\SR C E M M' A st/\All G S (j9 G).length st P cur T/\Ln st T/\m=Bm-T/\st=zW G T) ⟨_,_,_,_,_,_,xI rfl ⟨hs2,Y8 ok S,ln0,rfl,rfl⟩⟩ ?_;rintro m τ M3 ⟨st,P,cur,T,o5,o6,rfl,hs3,A3,ln3,rfl,hst3⟩ D3 hD3;obtain⟨M4,hQ,back⟩:=hs3.que;refine xI rfl ⟨A.s,A.d,_,xI rfl ⟨hs3.os,zT,A.Q.o,A.Q.d,xI rfl ⟨hQ.ob,Z3,M4,A.Q,st.q,rfl,hQ,cU (b:=!decide (st.q=[])) (λh=>?_) λh=>?_⟩⟩⟩
  .have hq:¬st.q=[]:=of_decide_eq_false (by rw[<-Lg (decide _),h];rfl);have rm:=zby v hL A3 hS ln3 hb;obtain⟨_,_,f3⟩:=IP v A3;rw[<-hBm]at f3;have hpos:=Fy.mpr hq;have hql:=zQ hs3.fall;obtain⟨P',cur',A4⟩:=Y7 ok A3 hS hq;exact xI rfl ⟨A.s,A.d,xI rfl ⟨hs3.os,zaF,G,E,M,A,st,rfl,hs3,ev,hq,rm,λM5 hs5=>hD3 _ _ _ (by lia:Bm-(T+1)<Bm-T) ⟨_,P',cur',T+1,_,xI rfl ⟨hs5,A4,ln3.next,rfl,congrArg (mF G) hst3⟩⟩⟩⟩
  .have hq:st.q=[]:=of_decide_eq_true (by rw[<-Lg (decide _),h];rfl);obtain⟨y1,y2⟩:=hs3.told;exact xI rfl ⟨A.s,A.d,_,xI rfl ⟨hs3.os,zU,_,y2,r st.best ⟨S,_,st,P,cur,T,A3,hq,rfl,hst3⟩ A.b y1⟩⟩
end Rg
namespace L2
open PySem Spec PyProof.Rows
section
variable {X:Cx}{pins:List (Addr×Obj)}{Z:St}{H:Hp}{s:Ag}{a:Addr}{u:HO}
def IsDict(u:HO):Prop:=(∃ks,u=.dK ks)\/∃ks,u=.dT ks
theorem Inv.frzD(I:Inv X pins Z H s)(e:H a=some u)(hd:IsDict u):∃o,Inv X pins Z (aY H a (.frz o u)) s:=by
 obtain⟨o,ho⟩:∃o,s.heap.get? a=some o:=by
  have:=I.hok a u e;rcases hd with⟨ks,rfl⟩|⟨ks,rfl⟩
  .obtain⟨_,_,_,_,o,_,_,e,_⟩:=this;exact⟨o,e⟩
  .obtain⟨_,_,_,_,o,_,_,e,_⟩:=this;exact⟨o,e⟩
 refine⟨o,?_⟩;have ne:∀{b:Addr} {v:HO},H b=some v->v≠u->b≠a:=λ{b v} e1 h z=>by subst z;rw[e]at e1;exact h (Bx e1).symm
 have nn:∀{b:Addr},H b=none->b≠a:=λ{b} e1 z=>by subst z;rw[e]at e1;cases e1
 have kt:∀b xs,H b=some (.tup xs)->aY H a (.frz o u) b=some (.tup xs):=λb xs eb=>by
  rw[bF (ne eb (λz=>by rcases hd with⟨ks,rfl⟩|⟨ks,rfl⟩<;>cases z))];exact eb
 have ko:∀b y,H b=some (.own y)->aY H a (.frz o u) b=some (.own y):=λb y eb=>by
  rw[bF (ne eb (λz=>by rcases hd with⟨ks,rfl⟩|⟨ks,rfl⟩<;>cases z))];exact eb
 refine I.step (h':=s.heap) (g':=s.gens) (d':=s.drawn) (t':=s.toks) (ch:=[]) (λ_ z=>nomatch z) (λb o _ _ _ e1 _=>e1) (λb o _ _ _ e1 _=>⟨o.slots,e1⟩) (λb o _ _ n=>by rw[bF (nn n)];exact n) (λb o _ e1=>⟨o,e1⟩) kt
  (λb ob v eb=>?_) (λb ps eb=>⟨#[],?_⟩) (λm hm=>hm) (λb v eb=>?_) I.bare
 .rw[bF (ne eb (λz=>by rcases hd with⟨ks,rfl⟩|⟨ks,rfl⟩<;>cases z))];exact eb
 .rw[bF (ne eb (λz=>by rcases hd with⟨ks,rfl⟩|⟨ks,rfl⟩<;>cases z)),eb];simp
 .by_cases hb:b=a
  .subst hb;rw[cQ]at eb;cases eb;exact⟨ho,(I.hok b u e).stay (λ_ _ _ q=>q) (λc q=>ko c b q) kt⟩
  .rw[bF hb]at eb;exact(I.hok b v eb).stay (λ_ _ _ q=>q) (λc q=>ko c b q) kt
def zbE(Q:VK):VK:=λv H=>∃a u,v=.ref a/\H a=some u/\IsDict u/\∀o,Q v (aY H a (.frz o u))
theorem zbF{e:Expr}{t:TE}(h:PE X e t):PE X e (λZ H Q=>t Z H (zbE Q)):=λpins s Z H Q I q=>
 bA (h pins s Z H _ I q) λv s1 ⟨x,H1,I1,r1,a,u,e1,e2,e3,q1⟩=>by
  obtain⟨o,I2⟩:=I1.frzD e2 e3;exact⟨x,_,I2,r1,q1 o⟩
def vU(a:Addr)(o:Obj)(u:HO)(xs:List V):It:=
 ⟨λi H=>H a=some (.frz o u)/\i<xs.length,λi H x H'=>H'=H/\xs[i]? = some x,λi H=>H a=some (.frz o u)/\xs.length<=i⟩
theorem KO{P:Bt}{w:Cm}{K:Ac}{tg:Expr}(a it:Addr)(o:Obj)(u:HO)(xs:List V)(es:Array Ia)(ep:Nat)(hd:o.data=.dict es ep)(hn:es.size=xs.length)(hx:∀(i:Nat) (e:Ia),es[i]? = some e->∃x,xs[i]? = some x/\RelV x e.key):
  jZ P w K tg (vU a o u xs) [it] it (λi h=>h.IsKeyIter it a i es.size ep) where
 mem:=by simp
 obj:=λi h st b hb=>by
  have e:b=it:=by simpa using hb
  subst e;obtain⟨o,e,c,d⟩:=st;exact⟨o,e,λv z=>by rw[d]at z;cases z⟩
 keep:=λi h h' st k=>st.at λo e=>k it (by simp) o e
 item:=by
  intro X hP hw hK hc i pins s Z H E I hf st hg;subst hP hw hK;obtain⟨e1,hi⟩:=hg;have ho:s.heap.get? a=some o:=(show cZ X.prog X.w H s.heap a (.frz o u) from I.hok a _ e1).1;have hi2:i<es.size:=by lia
  obtain⟨x,hx1,rx⟩:=hx i es[i] (by simp[hi2]);obtain⟨f0,f1,f2,f3,f4,f5⟩:=hf it (by simp);refine VW st ho hd hi2 λh' st' sb=>?_;have I1:Inv X pins Z H {s with heap:=h'}:=I.turned (t':=s.toks) (λb o hb e=>(sb.2 b hb).trans e) f0 f1 f3 f4 f5;obtain⟨o',e,c,d⟩:=id st';exact⟨_,rfl,tJ (s:={s with heap:=h'}) e c d (by decide) ⟨x,H,I1,rx,⟨rfl,hx1⟩,st',λb hb=>(hf b hb).1⟩⟩
 done:=by
  intro X hP hw hK hc i pins s Z H E I hf st hg;subst hP hw hK;obtain⟨e1,hi⟩:=hg;have ho:s.heap.get? a=some o:=(show cZ X.prog X.w H s.heap a (.frz o u) from I.hok a _ e1).1;refine VX (I.ok.hd hc) st ho hd (by lia) λh' hk=>⟨rfl,?_⟩
  exact I.turnedT (tk:=s.toks) hf λq o hq eq=>hk q o (λz=>hq (by simp[z])) eq
 self:=λ_ _ _ _ _ st h=>wpAny_pyIter_keyiter st h
end
end L2
namespace L3
open PySem Spec PyProof.Rows L2
section
variable {X:Cx}{e:Expr}{te:a0}
def vV(t:a0):a0:=λτ M R=>t τ M λw M'=>∃p,w=.ref p/\((∃kvs,M' p=some (.dK kvs)/\R (.fk kvs) (del M' p))\/∃kvs,M' p=some (.dT kvs)/\R (.ft kvs) (del M' p))
theorem zZ{K:Ac}{H:Hp}{M:Mm}{p:Addr}{o:Obj}{u:HO}{x:MO}(am:AM K H M)(e:M p=some x)(hd:IsDict u)(hu:H p=some u):Go H M (aY H p (.frz o u)) (del M p)/\AM K (aY H p (.frz o u)) (del M p)/\Kp H M (aY H p (.frz o u)) (del M p):=by
 have nn:∀{b:Addr},M b=none->b≠p:=λ{b} h z=>by subst z;rw[e]at h;cases h
 have go:Go H M (aY H p (.frz o u)) (del M p):=by
  refine⟨λb xs eb=>?_,λb ob v eb=>?_,λb v n eb=>?_⟩
  .rw[bF (nn (am.noTup eb))];exact eb
  .rw[bF (nn (am.noFrz eb))];exact eb
  .rw[bF (nn n),kO (nn n)];exact⟨eb,n⟩
 refine⟨go,λa o2 ea=>?_,λa v n ea=>?_,λa v ea=>?_⟩
 .have ne:a≠p:=λz=>by rw[z,pH]at ea;cases ea
  rw[kO ne]at ea;exact(am a o2 ea).go go (bF ne)
 .rw[bF (nn n),kO (nn n)];exact⟨ea,n⟩
 .by_cases ha:a=p
  .subst ha;exact⟨_,cQ⟩
  .obtain⟨y,q⟩:=(am a v ea).has;exact⟨y,by rw[bF ha];exact q⟩
theorem z9(h:E3 X e te):E3 X e (vV te):=
 (zbF h).weak λZ H Q z0=>z0.el λτ M R as am h k=>⟨τ,M,_,as,am,h,λv H' w M' k' am' av ⟨p,hw,r⟩=>by
  subst hw;obtain rfl:=av.inv;rcases r with⟨kvs,e,r⟩|⟨kvs,e,r⟩
  .obtain⟨ks,f,q⟩:=am' _ _ e;refine⟨p,.dK ks,rfl,f,.inl ⟨_,rfl⟩,λo=>?_⟩;obtain⟨g,am2,k2⟩:=zZ (o:=o) am' e (.inl ⟨_,rfl⟩) f;exact k _ _ _ _ (k'.trans k2) am2 (.fk cQ q.keys (q.vals.go g)) r
  .obtain⟨ks,f,q⟩:=am' _ _ e;refine⟨p,.dT ks,rfl,f,.inr ⟨_,rfl⟩,λo=>?_⟩;obtain⟨g,am2,k2⟩:=zZ (o:=o) am' e (.inr ⟨_,rfl⟩) f;exact k _ _ _ _ (k'.trans k2) am2 (.ft cQ q.keys (q.vals.go g)) r⟩
def jT:W->Mm->(List W->(Mm->Prop)->Mm->Prop)->Prop
 | .fk kvs,M1,R=>R (kvs.map λp=>wK p.1) (λ_=>True) M1
 | .ft kvs,M1,R=>R (kvs.map λp=>.tup (p.1.map wK)) (λ_=>True) M1
 | _,_,_=>False
theorem KP{K:Ac}{H0:Hp}{M0:Mm}{a:Addr}{o:Obj}{u:HO}{xs:List V}{ws:List W}(am0:AM K H0 M0)(e:H0 a=some (.frz o u))(q0:aN K H0 M0 xs ws):iU K H0 M0 (vU a o u xs) ws λ_=>True:=by
 have st:∀H M,Kp H0 M0 H M->H a=some (.frz o u):=λH M k=>(k.fr _ _ (am0.noFrz e) e).1;refine⟨λi H M k am _ hi=>⟨st H M k,by rw[q0.length];exact hi⟩,λH M k am _=>⟨st H M k,by rw[q0.length];exact Ai _⟩,λi H M x H' k am _ hi y=>?_⟩;obtain⟨rfl,y⟩:=y;obtain⟨w,hw,av⟩:=(q0.kp am0 k).getV y;exact⟨w,hw,Kp.refl am,am,av⟩
theorem zbG{K:Ac}{H:Hp}{M:Mm}:∀k:aE,AV K H M (kV k) (wK k)
 | .inl i=>.int i
 | .inr x=>.str x
theorem zbH{P:Bt}{w:Cm}{H:Hp}{h:Heap}{a:Addr}{ks:List (aE×V)}{o:Obj}(ok:cR P w H h)(e:H a=some (.frz o (.dK ks))):
  ∃es ep,qW h a es ep/\o.data=.dict es ep/\(a==Ga)=false/\es.size=ks.length/\∀(i:Nat) (en:Ia),es[i]? = some en->∃p,ks[i]? = some p/\RelV (kV p.1) en.key/\RelV p.2 en.val:=by
 obtain⟨ho,hz,hne,vs,rkv,o2,es,ep,h1,h2,h3,h4,h5,h6⟩:=(show cZ P w H h a (.frz o (.dK ks)) from ok a _ e);rw[ho]at h1;cases h1;have l1:=rkv.length;have l2:=h5.length;rw[Gr]at l2;refine⟨es,ep,⟨o,ho,h2,h3⟩,h3,hne,by lia,λi en hen=>?_⟩;have hi:=(Array.getElem?_eq_some_iff.mp hen).1;obtain⟨⟨k,x⟩,hv⟩:∃v,vs[i]? = some v:=⟨_,Au (by lia)⟩;obtain⟨z1,z2⟩:=h5.get? (by rw[Hf];exact hen) hv;have:∀{ks:List (aE×V)} {vs:List (aE×Ae)} {i:Nat},KV ks vs->vs[i]? = some (k,x)->∃v,ks[i]? = some (k,v)/\RelV v x:=by
  intro ks vs i r
  induction r generalizing i with
  | nil=>intro h;simp at h
  | @cons p q ps qs hq t ih=>
   intro h;cases i with
   | zero=>simp at h;subst h;obtain⟨p1,p2⟩:=p;cases hq.1;exact⟨p2,rfl,hq.2⟩
   | succ i=>rw[Gw]at h⊢;exact ih h
 obtain⟨v,q1,q2⟩:=this rkv hv;exact⟨(k,v),q1,GF z1,by rw[z2];exact q2⟩
theorem zbI{P:Bt}{w:Cm}{H:Hp}{h:Heap}{a:Addr}{ks:List (List aE×V)}{o:Obj}(ok:cR P w H h)(e:H a=some (.frz o (.dT ks))):
  ∃es ep,qW h a es ep/\o.data=.dict es ep/\(a==Ga)=false/\es.size=ks.length/\∃as:List Addr,as.length=ks.length/\(∀(i:Nat) (p:List aE×V) (b:Addr),ks[i]? = some p->as[i]? = some b->H b=some (.tup (p.1.map kV)))/\
   ∀(i:Nat) (en:Ia),es[i]? = some en->∃p b,ks[i]? = some p/\as[i]? = some b/\en.key=.ref b/\RelV p.2 en.val:=by
 obtain⟨ho,hz,hne,xs,rel,o2,es,ep,h1,h2,h3,h4,h5⟩:=(show cZ P w H h a (.frz o (.dT ks)) from ok a _ e);rw[ho]at h1;cases h1;have l1:=Mj h4;have l2:=Ef rel;refine⟨es,ep,⟨o,ho,h2,h3⟩,h3,hne,by lia,xs.map λx=>x.2.1,by rw[Ab];lia,λi p b hp hb=>?_,λi en hen=>?_⟩
 .rw[Ax]at hb;obtain⟨x,hx,rfl⟩:=Bf.mp hb;have:∀{ks:List (List aE×V)} {xs:List (List aE×Addr×Ae)} {i:Nat},Fs (λ(p:List aE×V) (q:List aE×Addr×Ae)=>p.1=q.1/\H q.2.1=some (.tup (p.1.map kV))/\RelV p.2 q.2.2) ks xs->ks[i]? = some p->xs[i]? = some x->H x.2.1=some (.tup (p.1.map kV)):=by
   intro ks xs i r
   induction r generalizing i with
   | nil=>intro h;simp at h
   | @cons p q ps qs hq t ih=>
    intro h g;cases i with
    | zero=>simp at h g;subst h;subst g;exact hq.2.1
    | succ i=>rw[Gw]at h g;exact ih h g
  exact this rel hp hx
 .rw[entry_at h4 i]at hen;obtain⟨x,hx,rfl⟩:=Bf.mp hen;have:∀{ks:List (List aE×V)} {xs:List (List aE×Addr×Ae)} {i:Nat},Fs (λ(p:List aE×V) (q:List aE×Addr×Ae)=>p.1=q.1/\H q.2.1=some (.tup (p.1.map kV))/\RelV p.2 q.2.2) ks xs->xs[i]? = some x->∃p,ks[i]? = some p/\RelV p.2 x.2.2:=by
   intro ks xs i r
   induction r generalizing i with
   | nil=>intro h;simp at h
   | @cons p q ps qs hq t ih=>
    intro h;cases i with
    | zero=>simp at h;subst h;exact⟨p,rfl,hq.2.2⟩
    | succ i=>rw[Gw]at h⊢;exact ih h
  obtain⟨p,q1,q2⟩:=this rel hx;exact⟨p,x.2.1,q1,by rw[Ax,hx];rfl,rfl,q2⟩
theorem zbJ{tg:Expr}:nD X tg (uR X.K jT):=by
 rintro pins s Z H x u R' I r1 ⟨wx,M,R,ax,am,h,k⟩;cases ax<;>first|exact(show False from h).elim|skip
 case fk a o ks kvs e ke q=>
  cases (show u=Value.ref a from r1);obtain⟨es,ep,hr,hd,hne,hsz,hen⟩:=zbH I.hok e;have fp:∀b∈[s.heap.objs.size],hW X pins H b:=λb hb=>by
   have e:b=s.heap.objs.size:=by simpa using hb
   subst e;exact I.fpOk (Ai _) (I.hok.fresh (Ai _))
  refine GJ hne hr ⟨s.heap.objs.size,[s.heap.objs.size],_,vU a o (.dK ks) (ks.map λp=>kV p.1),H,rfl,I.kept (t':=s.toks) λb o e=>Af _ e,KO a _ o _ _ es ep hd (by rw[Ab];exact hsz) (λi en he=>?_),⟨_,Ba _ rfl,rfl,rfl⟩,fp,k _ _ _ _ _ (Kp.refl am) am (KP am e ?_) h⟩
  .obtain⟨p,h1,h2,_⟩:=hen i en he;exact⟨kV p.1,by rw[Ax,h1];rfl,h2⟩
  .have hk:(ks.map λp=>kV p.1)=(ks.map Dr).map kV:=by rw[Bh];rfl
   have hw:(kvs.map λp=>wK p.1)=(kvs.map Dr).map wK:=by rw[Bh];rfl
   rw[hk,hw,ke];generalize kvs.map Dr=l
   induction l with
   | nil=>exact .nil
   | cons z l ih=>exact .cons (zbG z) ih
 case ft a o ks kvs e ke q=>
  cases (show u=Value.ref a from r1);obtain⟨es,ep,hr,hd,hne,hsz,as,hl,hat,hen⟩:=zbI I.hok e;have fp:∀b∈[s.heap.objs.size],hW X pins H b:=λb hb=>by
   have e:b=s.heap.objs.size:=by simpa using hb
   subst e;exact I.fpOk (Ai _) (I.hok.fresh (Ai _))
  refine GJ hne hr ⟨s.heap.objs.size,[s.heap.objs.size],_,vU a o (.dT ks) (as.map V.ref),H,rfl,I.kept (t':=s.toks) λb o e=>Af _ e,KO a _ o _ _ es ep hd (by rw[Ab];lia) (λi en he=>?_),⟨_,Ba _ rfl,rfl,rfl⟩,fp,k _ _ _ _ _ (Kp.refl am) am (KP am e ?_) h⟩
  .obtain⟨p,b,h1,h2,h3,_⟩:=hen i en he;exact⟨.ref b,by rw[Ax,h2];rfl,by rw[h3];rfl⟩
  .have hw:(kvs.map λp=>W.tup (p.1.map wK))=(ks.map Dr).map λz=>W.tup (z.map wK):=by rw[ke,Bh];rfl
   rw[hw];have:∀(ks:List (List aE×V)) (as:List Addr),as.length=ks.length->(∀(i:Nat) (p:List aE×V) (b:Addr),ks[i]? = some p->as[i]? = some b->H b=some (.tup (p.1.map kV)))->aN X.K H M (as.map V.ref) ((ks.map Dr).map λz=>W.tup (z.map wK)):=by
    intro ks
    induction ks with
    | nil=>intro as hl _;cases as with
     | nil=>exact .nil
     | cons b r=>simp at hl
    | cons p ks ih=>
     intro as hl hat;cases as with
     | nil=>simp at hl
     | cons b r=>
      refine .cons (.tup (hat 0 p b rfl rfl) (JD p.1)) (ih r (by simpa using hl) λi p b h1 h2=>hat (i+1) p b (by simpa using h1) (by simpa using h2))
   exact this ks as hl hat
theorem qB{tg l:Expr}{tl:a0}(hl:E3 X l tl):PI X tg l (iG X.K (dJ jT tl)):=yR hl zbJ
end
end L3
namespace PySem
namespace Dt
open PyProof.Rows L2 PySem.Spec
open Zd (TK allH JE zL)
section
variable {prog:Bt}{w:Cm}{A:Ck}{E:Ae->Ag->Prop}{s:Ag}
theorem call_pairs{l:Addr}{items:Array Ae}{c:Nat}{ps:List (List aE×Addr×Ae)}{Q:Ae->Ag->Prop}(hh:A.handled=none)(hu:A.units+2<Ez)(hx:s.heap.get? l=some {cls:=.type "list",data:=.seq items c})(hn:ps.length=items.size)(hz:items.size<=Ao)(hkeys:∀p∈ps,(TK prog w).is s.heap p.1 p.2.1)(hp:∀(j:Nat) (p:List aE×Addr×Ae),ps[j]? = some p->∃(a:Addr),items[j]? = some (.ref a)/\s.heap.IsTuple a #[.ref p.2.1,p.2.2])(h:∀h' tk,(∀b o,s.heap.get? b=some o->h'.get? b=some o)->h'.DictOfH (TK prog w) s.heap.objs.size (allH [] ps)->Q (.ref s.heap.objs.size) {s with heap:=h',toks:=tk}):
  Be (Bn prog w) A (call (.type "dict") [.ref l]) Q E s:=by
 have lk:∀p∈ps,@LT.lt Nat _ p.2.1 s.heap.objs.size:=λp hp=>by
  obtain⟨o,items,n,e,_⟩:=hkeys p hp;exact Av e
 refine Dp.callG (Dd:=λi h=>∃es,es=allH [] (ps.take i)/\h.DictOfH (TK prog w) s.heap.objs.size es/\es.length<=i/\∀e∈es,@LT.lt Nat _ e.2.1 s.heap.objs.size) hh hx ⟨[],rfl,Heap.DictOfH.new s.heap,Ai _,λ_ h=>nomatch h⟩ ?_ (λ{i t} hi hd ext=>?_) λh' tk e ⟨es,d1,d2,_⟩=>h h' tk e (by rw[<-hn,Bw]at d1;rw[<-d1];exact d2)
 .rintro i h h' ⟨es,he,⟨o,en,ep,ho,hc,hdd,hee,his,hnn⟩,hl,hes⟩ hm;exact⟨es,he,⟨o,en,ep,hm _ o (Ai _) ho,hc,hdd,hee,λx hx'=>zL (his x hx') λo' e=>hm _ o' (Hc (hes x hx')) e,hnn⟩,hl,hes⟩
 obtain⟨es,he,hd,hl,hes⟩:=hd;obtain⟨p,hpi⟩:∃p,ps[i]? = some p:=⟨_,Au (by lia)⟩;have hpm:p∈ps:=Bg hpi;obtain⟨a,g1,g2⟩:=hp i p hpi;refine⟨a,_,p.2.2,g1,g2,λk=>wpAny_dictSet_heap (knd:=TK prog w) (Fb (A:=A.in1) (show(A.units+1)+1<Ez from hu)) (zL (hkeys p hpm) (ext _)) hd (λh2 d2 s2=>k h2 _ ⟨_,?_,d2,?_,λe he=>?_⟩ s2) (by lia)⟩
 .rw[he,Dp.take_at hpi];unfold allH;rw[Cz];rfl
 .have:=JE es p.1 p.2.1 p.2.2;lia
 unfold My at he;split at he
 .obtain⟨e0,he0,rfl⟩:=Ay.mp he;rw[show(putAt p.1 p.2.2 e0).2.1=e0.2.1 by unfold putAt;split<;>rfl];exact hes e0 he0
 .rcases Bo.mp he with q|q
  .exact hes e q
  .rw[Am.mp q];exact lk p hpm
end
end Dt
end PySem
namespace L3
open PySem Spec PyProof.Rows L2
section
variable {X:Cx}
def vW(ps:List (List aE×W)):List W:=ps.map λp=>.tup [.tup (p.1.map wK),p.2]
theorem KQ{pins:List (Addr×Obj)}{Z:L2.St}{H:Hp}{M:Mm}{s:Ag}(I:L2.Inv X pins Z H s):∀{ps:List (List aE×W)} {vs:List V} {its:List Ae},aN X.K H M vs (vW ps)->a8 vs its->
  ∃(qs:List (List aE×Addr×V)) (rs:List (List aE×Addr×Ae)),bU X.K H M (List aE) (qs.map λq=>(q.1,q.2.2)) ps/\(∀q∈qs,H q.2.1=some (.tup (q.1.map kV)))/\Fs (λ(q:List aE×Addr×V) (p:List aE×Addr×Ae)=>q.1=p.1/\q.2.1=p.2.1/\RelV q.2.2 p.2.2) qs rs/\rs.length=its.length/\
   (∀z∈rs,H z.2.1=some (.tup (z.1.map kV)))/\∀(j:Nat) (p:List aE×Addr×Ae),rs[j]? = some p->∃(a:Addr),its[j]? = some (.ref a)/\s.heap.IsTuple a #[.ref p.2.1,p.2.2]
 | [],_,_,.nil,.nil=>⟨[],[],.nil,(λq hq=>nomatch hq),.nil,rfl,(λq hq=>nomatch hq),λj p h=>by simp at h⟩
 | (k,w)::ps,_,_,.cons av avs,.cons rv rvs=>by
  obtain⟨qs,rs,h1,h2,h3,h4,h5,h6⟩:=KQ I avs rvs;obtain⟨a,xs,ev,e,q⟩:=av.inv;rw[ev]at rv;obtain⟨u1,u2,ex,a1,a2⟩:=q.two;obtain⟨b,zs,eu,eb,qb⟩:=a1.inv;rw[qb.keys]at eb;obtain⟨its2,r2,pl,_⟩:=I.tuple (bS.of e);rw[ex,eu]at r2;obtain⟨y1,y2,ey,x1,x2⟩:=vals2 r2;rw[ey,show y1=.ref b from x1]at pl;refine⟨(k,b,u2)::qs,(k,b,y2)::rs,.cons ⟨rfl,a2⟩ h1,List.forall_mem_cons.mpr ⟨eb,h2⟩,.cons ⟨rfl,rfl,x2⟩ h3,congrArg (· + 1) h4,List.forall_mem_cons.mpr ⟨eb,h5⟩,λj p hj=>?_⟩;cases j with
  | zero=>rw[<-Bx hj];exact⟨a,congrArg some rv,pl⟩
  | succ j=>exact h6 j p hj
def KR:List W->Mm->K3->Prop
 | [.rl ws],M,R=>∃ps:List (List aE×W),ws=vW ps/\ws.length<=Ao/\n9 (lB [] ps) M R
 | _,_,_=>False
theorem zbK(hc:X.calm=true)(hu:X.A.units+2<Ez):dX X (.type "dict") (iC X.K KR):=by
 rintro pins s Z H xs us Q I rs ⟨ws,M,R,am,axs,h,k⟩
 match ws,h with
 | [.rl ws],h=>
  obtain⟨v,rfl,av⟩:=axs.one;obtain⟨ps,rfl,hz,r⟩:=h;obtain⟨u,rfl,ru⟩:=vals1 rs;cases av with
  | rl f n q=>
   cases ru;obtain⟨z,its,c,rv,hl,e⟩:=I.lstM f;obtain⟨qs,rs',h1,h2,h3,h4,h5,h6⟩:=KQ I q rv;have hz2:ps.length<=Ao:=by simpa [vW] using hz
   have hql:qs.length=ps.length:=by have:=Ef h1;rwa [Ab]at this
   refine Dt.call_pairs (items:=its.toArray) (ps:=rs') (I.ok.hd hc) hu e (by simpa using h4) (by rw[Bd];lia) (λp hp=>j0 I.hok (h5 p hp)) (λj p hj=>by simpa using h6 j p hj) λh' tk hk dd=>?_;have hfr:=I.hok.fresh (Ai _);have len:=JF (qs.map λq=>(q.1,q.2.2)) [];rw[Ab]at len;have puts:∀{ps:List (List aE×W)} {qs:List (List aE×V)} {ks:List (List aE×V)} {kvs:List (List aE×W)},bU X.K H M (List aE) qs ps->bU X.K H M (List aE) ks kvs->bU X.K H M (List aE) (oN ks qs) (lB kvs ps):=by
    intro ps qs ks kvs h
    induction h generalizing ks kvs with
    | nil=>intro h;exact h
    | @cons q p qs ps r t ih=>
     intro h;obtain⟨q1,q2⟩:=q;obtain⟨p1,p2⟩:=p;obtain⟨rfl,r2⟩:=r;exact ih (uJ h q1 r2)
   have g:=puts (ks:=[]) (kvs:=[]) h1 .nil;refine⟨.ref s.heap.objs.size,aY H s.heap.objs.size (.dT (oN [] (qs.map λq=>(q.1,q.2.2)))),I.laid (o:=.dT (oN [] (qs.map λq=>(q.1,q.2.2)))) (t':=tk) hk (Ai _) ⟨by simp at len;lia,beq_eq_false_iff_ne.mpr (Bi (Bs I.big)),_,(ZT h3 h2 .nil).keeps λc ys ec=>?_,?_⟩,rfl,?_⟩
   .rw[bF (eR ec hfr)];exact ec
   .obtain⟨o,en,ep,r1,r2,r3,r4,_,r5⟩:=dd;exact⟨o,en,ep,r1,r2,r3,r4,r5⟩
   .obtain⟨am2,k2⟩:=am.laid (o:=.dT (lB [] ps)) (u:=.dT (oN [] (qs.map λq=>(q.1,q.2.2)))) hfr ⟨_,cQ,qX g.keys (g.vals.newL hfr)⟩;exact k _ _ _ _ k2 am2 (.ref _) (r _ (am.nonM hfr))
end
end L3
namespace L2
open PySem Spec PyProof.Rows
section
variable {X:Cx}{a:Expr}{ta:TA}{p p2 pos pos2:Pos}
def zbL(ta:TA):TE:=λZ H Q=>ta Z H λvs H1=>∃n:Nat,vs=[.int n]/\n<=1000/\∀q,H1 q=none->Q (.ref q) (aY H1 q (.lst ((Eg n).map λ(i:Nat)=>V.int i)))
theorem zbM(hc:X.calm=true)(hg:Gl X "list")(hm:X.mg "list" = none)(hg2:Gl X "range")(hm2:X.mg "range" = none)(ha:PA X [a] ta)(hs1:Bj [.Call (.Name "range" p2) [a] [] pos2] X.env=[(false,eval (.Call (.Name "range" p2) [a] [] pos2) X.env)]:=by rfl)(hs2:Bj [a] X.env=[(false,eval a X.env)]:=by rfl):
  PE X (.Call (.Name "list" p) [.Call (.Name "range" p2) [a] [] pos2] [] pos) (zbL ta):=by
 intro pins s Z H Q I h;refine El (jX I hg hm (by decide +kernel:Ct "list" = some (.type "list")) (Dx ?_ hs1 rfl));rw[hs1];refine Calls.spliced_cons (El (jX I hg2 hm2 (by decide +kernel:Ct "range" = some (.type "range")) (Dx (bA (ha pos2 pins s Z H _ I h) λus s1 ⟨vs,H1,I1,r1,q1⟩=>?_) hs2 rfl)));obtain⟨n,rfl,hn,q⟩:=q1;obtain⟨u,rfl,ru⟩:=vals1 r1;obtain⟨t,rfl⟩:=ru;refine call_range_1 (Calls.spliced_nil ?_);have sz:Builtin.Range.rangeSize 0 (n:Int) 1=(n:Nat):=by rw[rangeSize_one];split<;>lia
 refine call_list_range (n:=n) (b:=(n:Int)) (I1.ok.hd hc) (IsRange.new _ _ _ _ _ _ _) (PySem.small_one (by decide) (by decide) (by lia) (by lia)) sz (by lia) λh' tk acc c hk hS hacc=>?_;have up:∀b o,s1.heap.get? b=some o->h'.get? b=some o:=λb o e=>hk b o (Af _ e);have ez:(s1.heap.push {cls:=.type "range",data:=.fields #[.int 0 0,.int (n:Int) t,.int 1 0]}).objs.size=s1.heap.objs.size+1:=Dn _ _;refine⟨.ref _,_,I1.laid (o:=.lst ((Eg n).map λ(i:Nat)=>V.int i)) (t':=tk) up ?_ ⟨by simp[Ke];lia,acc.toList,c,?_,by rw[Array.toArray_toList];exact hS⟩,rfl,q _ (I1.hok.fresh ?_)⟩
 .first|exact Hc (Nat.lt_of_lt_of_eq (Ig _) (Dn _ _).symm)|(rw[Dn];exact Kt _)
 .refine xX (by simp[hacc.1]) λj v hv=>?_;have hv':acc[j]? = some v:=by simpa using hv
  obtain⟨t',rfl⟩:=hacc.2 j v hv';have hj:j<n:=by have:=(Array.getElem?_eq_some_iff.mp hv').1;rw[hacc.1]at this;exact this
  refine⟨.int j,?_,t',by simp⟩;simp[hj]
 .first|exact Hc (Nat.lt_of_lt_of_eq (Ig _) (Dn _ _).symm)|(rw[Dn];exact Kt _)
end
end L2
namespace L3
open PySem Spec PyProof.Rows L2
section
variable {X:Cx}{a:Expr}{ta:a0}
def KS(ta:a0):a0:=λτ M R=>ta τ M λw M1=>∃n:Nat,w=.int n/\n<=1000/\bH ((Eg n).map λ(i:Nat)=>W.int i) M1 R
theorem zbN{p p2 pos pos2:Pos}(hg:Gl X "list")(hm:X.mg "list" = none)(hg2:Gl X "range")(hm2:X.mg "range" = none)(ha:E3 X a ta)(hc:X.calm=true:=by rfl)(hs1:Bj [.Call (.Name "range" p2) [a] [] pos2] X.env=[(false,eval (.Call (.Name "range" p2) [a] [] pos2) X.env)]:=by rfl)(hs2:Bj [a] X.env=[(false,eval a X.env)]:=by rfl):
  E3 X (.Call (.Name "list" p) [.Call (.Name "range" p2) [a] [] pos2] [] pos) (KS ta):=
 (zbM hc hg hm hg2 hm2 (aC ha aH (by rw[hs2];rfl)) hs1 hs2).weak λZ H Q z0=>z0.el λτ M R as am h k=>⟨τ,M,λws M1=>∃n:Nat,ws=[.int n]/\n<=1000/\bH ((Eg n).map λ(i:Nat)=>W.int i) M1 R,as,am,(show aB ta aG τ M _ from(show ta τ M _ from by
  refine(id h:ta τ M _) |> λz=>?_
  exact Eq.mp (congrArg (ta τ M) (funext λw=>funext λM1=>propext ⟨λ⟨n,e,r⟩=>⟨n,by rw[e],r⟩,λ⟨n,e,r⟩=>⟨n,(List.cons.inj e).1,r⟩⟩)) z)),λvs H1 ws M1 k1 am1 ax ⟨n,e,hn,r⟩=>by
  subst e;obtain⟨v,rfl,av⟩:=ax.one;obtain rfl:=av.inv;refine⟨n,rfl,hn,λq hq=>jJ am1 (k.kp k1) hq ?_ r⟩;have:∀l:List Nat,aN X.K H1 M1 (l.map λ(i:Nat)=>V.int i) (l.map λ(i:Nat)=>W.int i):=by
   intro l
   induction l with
   | nil=>exact .nil
   | cons i r ih=>exact .cons (.int _) ih
  exact this _⟩
end
end L3
namespace Rg
open PySem Spec PyProof.Rows L2 L3
theorem zbO(l:List Int)(z:Int):(l++[z]).getLastD 0=z:=by simp[Gj]
theorem zbP{G:Sr}{B:bN}(h:iK G B):(B.map (·.1)).Nodup:=by
 obtain⟨S,I0,st,P,cur,T,A,hq,rfl,_⟩:=h;have o:=A.ob.ord;generalize st.best=B at o;rw[Ki,List.pairwise_map];refine Km.mpr λi j hi hj hij e=>?_;have sp:B=B.take j++B[j]::B.drop (j+1):=by rw[<-Kn hj,Jh]
 have hn:=(o _ _ _ sp).2;have hm:B[i]∈B.take j:=by
  rw[Hz];exact⟨i,by rw[Bq];lia,by rw[List.getElem_take]⟩
 unfold aD at hn;rw[Option.map_eq_none_iff,List.find?_eq_none]at hn;have:=hn _ hm;rw[decide_eq_true_eq]at this;exact this e
theorem mI{l:List Int}{e:Int}{k:Nat}(h:k<l.length):(l++[e]).getD k 0=l.getD k 0:=by
 rw[Ei,Ei,List.getElem?_append_left h]
theorem vX{l:List Int}{e:Int}:(l++[e]).getD l.length 0=e:=by
 rw[Ei,List.getElem?_concat_length];rfl
theorem getD_last{l:List Int}:l.getD (l.length-1) 0=l.getLastD 0:=by
 rw[Ei,Gj,List.getLast?_eq_getElem?]
abbrev En:=a9×aL×Nat×List Int
structure qC(G:Sr)(pre:bN)(e:En)(r:a7):Prop where
 no:aD pre e.1=none
 ru:G.rs[e.2.2.1]? = some r
 fa:e.1=(r.name,e.2.2.2.headD 0,e.2.2.2.getLastD 0)
 ln:e.2.2.2.length=r.parts.length+1
 pn:∀k t,r.parts[k]? = some t->G.own t=true->(aD pre (t,e.2.2.2.getD k 0,e.2.2.2.getD (k+1) 0)).isSome=true
 pw:∀k t,r.parts[k]? = some t->G.own t=false->∃pr,(e.2.2.2.getD (k+1) 0,pr)∈G.steps t (e.2.2.2.getD k 0)
def sG(G:Sr)(B:bN):Prop:=∀pre e post,B=pre++e::post->∃r,qC G pre e r
theorem zbQ{G:Sr}{B:bN}{n:Nat}{cut:List Int}{c:aL}(g:GI G B n cut c):∀r,G.rs[n]? = some r->cut.length<=r.parts.length+1/\0<cut.length/\
  ∀k t,k+1<cut.length->r.parts[k]? = some t->(G.own t=true->(aD B (t,cut.getD k 0,cut.getD (k+1) 0)).isSome=true)/\(G.own t=false->∃pr,(cut.getD (k+1) 0,pr)∈G.steps t (cut.getD k 0)):=by
 induction g with
 | start h1 h2=>exact λr _=>⟨Nat.le_add_left _ _,Nat.zero_lt_one,λk t h=>by simp at h⟩
 | @word r' cut c part e pr g h1 h2 h3 h4 ih=>
  intro r hr;rw[h1]at hr;cases hr;obtain⟨i1,i2,i3⟩:=ih r' h1;have hl:=(An.mp h2).1;refine⟨by simp;lia,by simp,λk t hk ht=>?_⟩;rw[Ak,Bl]at hk
  by_cases z:k+1<cut.length
  .rw[mI (by lia),mI z];exact i3 k t z ht
  .obtain rfl:k=cut.length-1:=by lia
   rw[h2]at ht;cases ht;rw[mI (by lia),getD_last,show cut.length-1+1=cut.length by lia,vX];exact⟨λz=>(by rw[h3]at z;cases z),λ_=>⟨_,h4⟩⟩
 | @name r' cut c m part e k' g h1 h2 h3 h4 ih=>
  intro r hr;rw[h1]at hr;cases hr;obtain⟨i1,i2,i3⟩:=ih r' h1;have hl:=(An.mp h2).1;refine⟨by simp;lia,by simp,λk t hk ht=>?_⟩;rw[Ak,Bl]at hk
  by_cases z:k+1<cut.length
  .rw[mI (by lia),mI z];exact i3 k t z ht
  .obtain rfl:k=cut.length-1:=by lia
   rw[h2]at ht;cases ht;rw[mI (by lia),getD_last,show cut.length-1+1=cut.length by lia,vX];exact⟨λ_=>(by rw[h4];rfl),λz=>(by rw[h3]at z;cases z)⟩
theorem vY{U J:Type}[DecidableEq U](a b:List (U×J))(k:U):aD (a++b) k=(aD a k).or (aD b k):=by
 unfold aD;rw[List.find?_append,Option.map_or]
theorem AA{G:Sr}{B:bN}(h:iK G B):sG G B:=by
 obtain⟨S,I0,st,P,cur,T,A,hq,rfl,_⟩:=h;intro pre e post hb;obtain⟨g,hn⟩:=A.ob.ord pre e post hb;have hat:aD st.best e.1=some e.2:=by rw[hb,vY,hn,cY,if_pos rfl];rfl
 obtain⟨p1,p2,_⟩:=A.ob.bst e.1 e.2.1 e.2.2.1 e.2.2.2 hat;obtain⟨r,hr⟩:=g.rule;obtain⟨i1,i2,i3⟩:=zbQ g r hr;rw[part_of hr]at p1;have p1:=Ih.mp p1;have hl:e.2.2.2.length=r.parts.length+1:=by lia
 refine⟨r,hn,hr,?_,hl,λk t ht=>(i3 k t ?_ ht).1,λk t ht=>(i3 k t ?_ ht).2⟩
 .rw[p2];unfold cH cT;rw[hr]
 all_goals have:=(An.mp ht).1;lia
section
variable (G:Sr)(fw:Str->Int->Int->W)(fr:Nat->List W->W)
def mJ(T:a9->W)(cut:List Int)(ps:List Str):List W:=ps.zipIdx.map λx=>if G.own x.1=true then T (x.1,cut.getD x.2 0,cut.getD (x.2+1) 0) else fw x.1 (cut.getD x.2 0) (cut.getD (x.2+1) 0)
def kC(n:Nat):List Str:=((G.rs[n]?).map a7.parts).getD []
def vZ(T:List (a9×W))(e:En):a9×W:=(e.1,fr e.2.2.1 (mJ G fw (λf=>(aD T f).getD .non) e.2.2.2 (kC G e.2.2.1)))
def stepT(T:List (a9×W))(e:En):List (a9×W):=T++[vZ G fw fr T e]
def lG(B:bN):List (a9×W):=B.foldl (stepT G fw fr) []
def sH(B:bN)(f:a9):W:=(aD (lG G fw fr B) f).getD .non
end
section
variable {G:Sr}{fw:Str->Int->Int->W}{fr:Nat->List W->W}
theorem KU(B:bN)(T:List (a9×W)):∃m,B.foldl (stepT G fw fr) T=T++m/\m.map Dr=B.map (·.1):=by
 induction B generalizing T with
 | nil=>exact⟨[],by simp,rfl⟩
 | cons e B ih=>
  obtain⟨m,h1,h2⟩:=ih (stepT G fw fr T e);refine⟨vZ G fw fr T e::m,?_,congrArg (e.1::·) h2⟩;rw[Dl,h1,stepT,Hr];rfl
theorem fL{U J:Type}[DecidableEq U]{t:List (U×J)}{k:U}:(aD t k).isSome=true↔k∈t.map (·.1):=by
 rw[<-f6,List.any_eq_true,Ay];exact⟨λ⟨x,h,e⟩=>⟨x,h,of_decide_eq_true e⟩,λ⟨x,h,e⟩=>⟨x,h,decide_eq_true e⟩⟩
theorem AB{B pre post:bN}{e:En}{r:a7}(hb:B=pre++e::post)(E:qC G pre e r):sH G fw fr B e.1=fr e.2.2.1 (mJ G fw (sH G fw fr B) e.2.2.2 r.parts):=by
 obtain⟨m0,a1,a2⟩:=KU (G:=G) (fw:=fw) (fr:=fr) pre [];rw[Lm]at a1;obtain⟨m,h1,h2⟩:=KU (G:=G) (fw:=fw) (fr:=fr) post (stepT G fw fr (lG G fw fr pre) e);have ht:lG G fw fr B=lG G fw fr pre++(vZ G fw fr (lG G fw fr pre) e::m):=by
  unfold lG at h1⊢;rw[hb,Cz,Dl,h1,stepT,Hr];rfl
 have hk:(lG G fw fr pre).map Dr=pre.map (·.1):=by unfold lG;rw[a1];exact a2
 have hn:aD (lG G fw fr pre) e.1=none:=by
  rw[<-Jk,fL,hk,<-fL,E.no];exact Ar
 have hp:kC G e.2.2.1=r.parts:=by unfold kC;rw[E.ru];rfl
 unfold sH;rw[ht,vY,hn,cY,if_pos (show(vZ G fw fr (lG G fw fr pre) e).1=e.1 from rfl)];show fr e.2.2.1 (mJ G fw _ e.2.2.2 (kC G e.2.2.1))=_;rw[hp];refine congrArg _ (Cw λx hx=>?_);obtain⟨t,k⟩:=x;have hx:=Hd.mp hx
 by_cases ho:G.own t=true
 .rw[if_pos ho,if_pos ho];dsimp only;rw[vY];have hs:=E.pn k t hx ho;rw[fL,<-hk,<-fL]at hs;obtain⟨v,hv⟩:=Cj.mp hs;rw[hv];rfl
 .rw[if_neg ho,if_neg ho]
end
end Rg
namespace M69
open PySem Spec PyProof.Rows L2 L3 Rg
abbrev SI:=Str×Int
inductive PP(S:Str->Int->Int->Int->List SI->Prop):List Str->Int->Int->Int->List SI->Prop
 | nil {b:Int}:PP S [] b b 0 []
 | cons {t:Str} {ts:List Str} {b m e u v:Int} {x y:List SI}:S t b m u x->PP S ts m e v y->PP S (t::ts) b e (u+v) (x++y)
theorem PP.snoc{S:Str->Int->Int->Int->List SI->Prop}{t:Str}{m e u:Int}{x:List SI}(h:S t m e u x):∀{ts:List Str} {b v:Int} {y:List SI},PP S ts b m v y->PP S (ts++[t]) b e (v+u) (y++x)
 | _,_,_,_,.nil=>by
  have:=PP.cons h (.nil (S:=S));rw[Int.add_zero,Fw]at this;rw[Kf];exact this
 | _,_,_,_,.cons h1 h2=>by
  rw[Int.add_assoc,Hr];exact .cons h1 (h2.snoc h)
theorem PP.imp{S S':Str->Int->Int->Int->List SI->Prop}(h:∀t b e v x,S t b e v x->S' t b e v x){ts:List Str}{b e v:Int}{y:List SI}(p:PP S ts b e v y):PP S' ts b e v y:=by
 induction p with
 | nil=>exact .nil
 | cons a _ ih=>exact .cons (h _ _ _ _ _ a) ih
def PS(G:Sr)(N:a9->Int->List SI->Prop)(t:Str)(b e v:Int)(x:List SI):Prop:=(G.own t=false/\(e,v)∈G.steps t b/\x=[(t,e)])\/(G.own t=true/\N (t,b,e) v x)
theorem PS.imp{G:Sr}{N N':a9->Int->List SI->Prop}(h:∀f v x,N f v x->N' f v x)(t:Str)(b e v:Int)(x:List SI)(p:PS G N t b e v x):PS G N' t b e v x:=Or.imp id (λq=>⟨q.1,h _ _ _ q.2⟩) p
theorem KW{cut:List Int}{z:Int}(h:cut≠[]):(cut++[z]).headD 0=cut.headD 0/\(cut++[z]).getLastD 0=z/\(cut++[z]).length-1=(cut.length-1)+1:=by
 cases cut with
 | nil=>exact absurd rfl h
 | cons x cut=>exact⟨rfl,by rw[<-getD_last,Ak,Bl,Nat.add_sub_cancel,vX],by simp⟩
def mK(yl:a9->List SI)(own:Str->Bool)(cut:List Int)(ps:List Str):List SI:=(ps.zipIdx.map λx=>if own x.1=true then yl (x.1,cut.getD x.2 0,cut.getD (x.2+1) 0) else [(x.1,cut.getD (x.2+1) 0)]).flatten
theorem KY{yl:a9->List SI}{own:Str->Bool}{cut:List Int}{e:Int}{ps:List Str}{t:Str}(h:ps.length+1=cut.length):mK yl own (cut++[e]) (ps++[t])=mK yl own cut ps++if own t=true then yl (t,cut.getLastD 0,e) else [(t,e)]:=by
 unfold mK;rw[List.zipIdx_append,Bc,Kb];congr 1
 .congr 1;refine Cw λx hx=>?_;have:=(List.mem_zipIdx hx).2.1;rw[mI (by lia),mI (by lia)]
 .simp only[Kx,List.zipIdx_nil,Bb,Fu,Gn,List.flatten_nil,Fw,Gp];rw[mI (by lia),show ps.length=cut.length-1 by lia,getD_last,show cut.length-1+1=cut.length by lia,vX]
theorem zbR{G:Sr}(hw:∀n,G.wt n=0){pre:bN}(yl:a9->List SI){n:Nat}{cut:List Int}{c:aL}(g:GI G pre n cut c):∃r,G.rs[n]? = some r/\cut.headD 0∈G.places/\cut.length<=r.parts.length+1/\
  PP (PS G λf v x=>(∃z,aD pre f=some z/\z.1.1=v)/\x=yl f) (r.parts.take (cut.length-1)) (cut.headD 0) (cut.getLastD 0) c.1 (mK yl G.own cut (r.parts.take (cut.length-1))):=by
 induction g with
 | @start r p hr hp=>exact⟨r,hr,hp,by simp,by rw[hw];exact .nil⟩
 | @word r cut c part e pr g hr hp ho hs ih=>
  obtain⟨r',hr',h1,h2,h3⟩:=ih;rw[hr']at hr;cases hr;obtain⟨s1,s2,s3⟩:=KW (z:=e) g.ne;have hl:=(An.mp hp).1;have hne:=Fy.mpr g.ne;refine⟨r,hr',by rw[s1];exact h1,by simp;lia,?_⟩;rw[s1,s2,s3,zJ hp,KY (by rw[Bq];lia),if_neg (by rw[ho];exact Ar)];exact h3.snoc (.inl ⟨ho,hs,rfl⟩)
 | @name r cut c m part e k g hr hp ho hb ih=>
  obtain⟨r',hr',h1,h2,h3⟩:=ih;rw[hr']at hr;cases hr;obtain⟨s1,s2,s3⟩:=KW (z:=e) g.ne;have hl:=(An.mp hp).1;have hne:=Fy.mpr g.ne;refine⟨r,hr',by rw[s1];exact h1,by simp;lia,?_⟩;rw[s1,s2,s3,zJ hp,KY (by rw[Bq];lia),if_pos ho];exact h3.snoc (.inr ⟨ho,⟨_,hb,rfl⟩,rfl⟩)
def v3(x:SI):W:=.tup [.str x.1,.int x.2]
def AD:W->List SI
 | .rl l=>l.filterMap λw=>match w with|.tup [.str t,.int e]=>some (t,e)|_=>none
 | _=>[]
theorem KZ(l:List SI):AD (.rl (l.map v3))=l:=by
 show(l.map v3).filterMap _=l;rw[Il];exact List.filterMap_some
def yT(G:Sr)(B:bN)(f:a9):List SI:=AD (sH G (λt _ e=>.rl [v3 (t,e)]) (λ_ vs=>.rl ((vs.flatMap AD).map v3)) B f)
theorem v5{G:Sr}{B pre post:bN}{e:En}{r:a7}(hb:B=pre++e::post)(E:qC G pre e r):yT G B e.1=mK (yT G B) G.own e.2.2.2 r.parts:=by
 unfold yT;rw[AB hb E,KZ];unfold mK mJ;rw[List.flatMap_def,Bh];congr 1;refine Cw λx _=>?_;simp only[Fn]
 by_cases h:G.own x.1=true
 .rw[if_pos h,if_pos h]
 .rw[if_neg h,if_neg h];exact KZ [(x.1,e.2.2.2.getD (x.2+1) 0)]
theorem zbS{G:Sr}(hw:∀n,G.wt n=0){B:bN}(h:iK G B){pre:bN}{e:En}{post:bN}(hb:B=pre++e::post):∃r,G.rs[e.2.2.1]? = some r/\e.1.1=r.name/\e.1.2.1∈G.places/\
  PP (PS G λf v x=>(∃z,aD pre f=some z/\z.1.1=v)/\x=yT G B f) r.parts e.1.2.1 e.1.2.2 e.2.1.1 (yT G B e.1):=by
 obtain⟨r0,E⟩:=AA h pre e post hb;obtain⟨S,I0,st,P,cur,T,A,hq,rfl,_⟩:=h;obtain⟨g,hn⟩:=A.ob.ord pre e post hb;obtain⟨r,hr,h1,h2,h3⟩:=zbR hw (yT G st.best) g;have:=E.ru;rw[hr]at this;cases this;have hl:=E.ln;rw[Dv (by lia),<-v5 hb E]at h3;have hf:=E.fa;refine⟨_,hr,by rw[hf],by rw[hf];exact h1,?_⟩;rw[<-show e.1.2.1=e.2.2.2.headD 0 by rw[hf],<-show e.1.2.2=e.2.2.2.getLastD 0 by rw[hf]]at h3;exact h3
theorem K0{B pre post:bN}{e:En}(hb:B=pre++e::post){f:a9}{z:aL×Nat×List Int}(h:aD pre f=some z):∃p q,pre=p++(f,z)::q/\B=p++(f,z)::(q++e::post):=by
 obtain⟨a,b,e1⟩:=mE h;exact⟨a,b,e1,by rw[hb,e1,Hr];rfl⟩
theorem zbT{G:Sr}(hw:∀n,G.wt n=0){B:bN}(h:iK G B)(Q:a9->Int->List SI->Prop)(hq:∀r∈G.rs,∀b∈G.places,∀e v y,PP (PS G Q) r.parts b e v y->Q (r.name,b,e) v y):∀(k:Nat) (pre:bN) (e:En) (post:bN),pre.length=k->B=pre++e::post->Q e.1 e.2.1.1 (yT G B e.1):=by
 intro k
 induction k using Lr with
 | ind k ih=>
  intro pre e post hk hb;obtain⟨r,hr,h1,h2,h3⟩:=zbS hw h hb;have:=hq r (Bg hr) _ h2 _ _ _ (h3.imp (PS.imp λf v x ⟨⟨z,z1,z2⟩,zx⟩=>by
   obtain⟨p,q,e1,e2⟩:=K0 hb z1;have:=ih p.length (by rw[<-hk,e1];simp) p (f,z) _ rfl e2;rw[z2]at this;rw[zx];exact this))
  rwa [<-h1]at this
abbrev dH:=Int×Str×Int
structure Mc where
 many:Nat
 arr:List dH
 ends:List Int
def iL:List Str:=["S","A","LIST","B_1"]
def jU:List Str:=["a","b","x","y"]
structure GQ(rs:List a7):Prop where
 ne:rs≠[]
 few:rs.length<=8
 fp:∀r∈rs,r.parts.length<=4
 nm:∀r∈rs,r.name∈iL
 sp:∀r∈rs,∀t∈r.parts,t∈iL\/t∈jU
 lo:∀r∈rs,0<=r.cost
structure MQ(mc:Mc):Prop where
 pos:0<mc.many
 few:mc.many<=7
 fa:mc.arr.length<=21
 fe:mc.ends.length<=4
 ar:∀a∈mc.arr,0<=a.1/\a.1<mc.many/\a.2.1∈jU/\0<=a.2.2/\a.2.2<mc.many
 en:∀e∈mc.ends,0<=e/\e<mc.many
theorem nN{t:Str}(h:t∈iL\/t∈jU):mB t:=by
 have h1:∀t∈iL,mB t:=by unfold iL mB;decide +kernel
 have h2:∀t∈jU,mB t:=by unfold jU mB;decide +kernel
 exact h.elim (h1 t) (h2 t)
def bT(n:Nat):List Int:=(Eg n).map λ(i:Nat)=>(i:Int)
theorem AE{n:Nat}{p:Int}:p∈bT n↔0<=p/\p<n:=by
 unfold bT;rw[Ay];constructor
 .rintro⟨i,h,rfl⟩;have:=Hy.mp h;lia
 .rintro⟨h1,h2⟩;exact⟨p.toNat,Hy.mpr (by lia),by lia⟩
def hU(ks:List dH)(t:Str)(p:Int):List (Int×Int):=(ks.filter λa=>decide (a.2.1=t/\a.1=p)).map λa=>(a.2.2,1)
theorem kD{ks:List dH}{t:Str}{p e c:Int}:(e,c)∈hU ks t p↔c=1/\(p,t,e)∈ks:=by
 unfold hU;rw[Ay];constructor
 .rintro⟨⟨a,b,d⟩,h,z⟩;obtain⟨h1,h2⟩:=Ej.mp h;obtain⟨rfl,rfl⟩:=of_decide_eq_true h2;cases z;exact⟨rfl,h1⟩
 .rintro⟨rfl,h⟩;exact⟨(p,t,e),Ej.mpr ⟨h,decide_eq_true ⟨rfl,rfl⟩⟩,rfl⟩
abbrev Tb:=List (Int×Int)
def nO(t:Str)(p:Int)(g:Tb)(a:dH):Tb:=if a.1=p/\a.2.1=t then bC g a.2.2 1 else g
def jA(ks:List dH)(t:Str)(p:Int):Tb:=ks.foldl (nO t p) []
def cB(rs:List a7)(mc:Mc)(ks:List dH):Sr:=⟨rs,fG rs,bT mc.many,hU ks,λ_=>0⟩
abbrev gW(rs:List a7)(mc:Mc):Sr:=cB rs mc mc.arr
theorem K1{rs:List a7}{mc:Mc}{ks:List dH}:oJ (cB rs mc ks):=⟨λn=>Ha _,λt p e c h=>by rw[(kD.mp h).1];decide⟩
theorem AF{rs:List a7}{mc:Mc}{ks:List dH}(g:GQ rs)(q:MQ mc)(hk:∀a,a∈ks↔a∈mc.arr):r6 (cB rs mc ks) (bT mc.many) rs.length 5:=by
 refine⟨λp h=>h,λt p e c h1 h2=>?_,Ai _,λr hr=>?_⟩
 .obtain⟨_,_,_,h3,h4⟩:=q.ar _ ((hk _).mp (kD.mp h2).2);exact AE.mpr ⟨h3,h4⟩
 .have:=g.fp r hr;lia
theorem zbU{G:Sr}(ok:oJ G){n:Nat}{cut:List Int}{c:aL}(h:DI G n cut c):0<=c.1:=by
 induction h with
 | start _ _=>exact ok.wt _
 | word _ _ _ _ h ih=>have:=ok.pr _ _ _ _ h;simp only;lia
 | name _ _ _ _ _ _ _ _ ih ih'=>unfold dR;simp only;lia
theorem v7{G:Sr}{n:Nat}{cut:List Int}{c:aL}(h:DI G n cut c):∃r,G.rs[n]? = some r:=by
 cases h with
 | start a _=>exact⟨_,a⟩
 | word _ a _ _ _=>exact⟨_,a⟩
 | name _ a _ _ _ _ _ _=>exact⟨_,a⟩
abbrev Tq:=List ((Str×Int)×Tb)
def btr(t:Tb)(k v:Int):Bool:=match aD t k with
 | none=>true
 | some w=>decide (v<w)
def low(t:Tb)(k v:Int):Tb:=if btr t k v=true then bC t k v else t
theorem K2{t:Tb}{k v j u:Int}(h:aD (low t k v) j=some u):(j,u)=(k,v)\/aD t j=some u:=by
 unfold low at h;split at h
 .rw[gM]at h;split at h
  .rename_i z;cases h;exact .inl (by rw[z])
  .exact .inr h
 .exact .inr h
theorem K5(t:Tb)(k v:Int):∃u,aD (low t k v) k=some u/\u<=v:=by
 unfold low
 by_cases h:btr t k v=true
 .rw[if_pos h,gM,if_pos rfl];exact⟨v,rfl,Ha _⟩
 .rw[if_neg h];unfold btr at h;cases e:aD t k with
  | none=>rw[e]at h;exact absurd rfl h
  | some w=>rw[e]at h;exact⟨w,rfl,Int.not_lt.mp λz=>h (decide_eq_true z)⟩
theorem zbV{t:Tb}{k v j w:Int}(h:aD t j=some w):∃u,aD (low t k v) j=some u/\u<=w:=by
 unfold low
 by_cases hb:btr t k v=true
 .rw[if_pos hb,gM]
  by_cases z:k=j
  .subst z;rw[if_pos rfl];unfold btr at hb;rw[h]at hb;exact⟨v,rfl,Int.le_of_lt (of_decide_eq_true hb)⟩
  .rw[if_neg z];exact⟨w,h,Ha _⟩
 .rw[if_neg hb];exact⟨w,h,Ha _⟩
theorem sI{U J:Type}[DecidableEq U]{t:List (U×J)}{k:U}{v:J}(h:(t.map (·.1)).Nodup):((bC t k v).map (·.1)).Nodup:=by
 unfold bC;split
 .rw[Bh];rw[show((λx:U×J=>x.1) ∘ λe=>if e.1=k then(e.1,v) else e)=λx=>x.1 from funext λe=>by simp only[Fn];split<;>rfl];exact h
 .rename_i z;rw[Bc,Fi];refine⟨h,by simp,λa ha b hb e=>z ?_⟩;rw[f6,fL];rw[Bb,Fu,Am]at hb;rw[show k=b from hb.symm,<-e];exact ha
theorem K6{t:Tb}{k v:Int}(h:(t.map (·.1)).Nodup):((low t k v).map (·.1)).Nodup:=by
 unfold low;split
 .exact sI h
 .exact h
theorem aget_inQ{U J:Type}[DecidableEq U]{t:List (U×J)}{k:U}{v:J}(h:aD t k=some v):(k,v)∈t:=by
 obtain⟨a,b,e⟩:=mE h;rw[e];simp
theorem in_agetQ{U J:Type}[DecidableEq U]{t:List (U×J)}(nd:(t.map (·.1)).Nodup){k:U}{v:J}(h:(k,v)∈t):aD t k=some v:=by
 induction t with
 | nil=>cases h
 | cons e t ih=>
  rw[Bb,Cs]at nd;rw[cY];rcases Aj.mp h with rfl|h
  .rw[if_pos rfl]
  .rw[if_neg (λz=>nd.1 (Ay.mpr ⟨_,h,z.symm⟩))];exact ih nd.2 h
theorem AG{t:Str}{p e u:Int}:∀{ks:List dH} {g:Tb},aD (ks.foldl (nO t p) g) e=some u↔(u=1/\(p,t,e)∈ks)\/((p,t,e)∉ks/\aD g e=some u)
 | [],g=>by simp
 | a::ks,g=>by
  rw[Dl,AG (ks:=ks)];obtain⟨a1,a2,a3⟩:=a;unfold nO;simp only[Aj,De]
  by_cases h:a1=p/\a2=t
  .obtain⟨rfl,rfl⟩:=h;rw[if_pos ⟨rfl,rfl⟩,gM]
   by_cases z:a3=e
   .subst z;rw[if_pos rfl];constructor
    .rintro(⟨rfl,h⟩|⟨_,h⟩)
     .exact .inl ⟨rfl,.inr h⟩
     .cases h;exact .inl ⟨rfl,.inl ⟨rfl,rfl,rfl⟩⟩
    .rintro(⟨rfl,_⟩|⟨h,_⟩)
     .by_cases q:(a1,a2,a3)∈ks
      .exact .inl ⟨rfl,q⟩
      .exact .inr ⟨q,rfl⟩
     .exact absurd (.inl ⟨rfl,rfl,rfl⟩) h
   .rw[if_neg z];have:¬(a1=a1/\a2=a2/\e=a3):=λq=>z q.2.2.symm;simp[this,Bi z]
  .rw[if_neg h];have:¬(p=a1/\t=a2/\e=a3):=λq=>h ⟨q.1.symm,q.2.1.symm⟩;simp[this]
theorem v8{t:Str}{p:Int}:∀{ks:List dH} {g:Tb},(g.map (·.1)).Nodup->((ks.foldl (nO t p) g).map (·.1)).Nodup
 | [],_,h=>h
 | a::ks,g,h=>v8 (ks:=ks) (by
  unfold nO;split
  .exact sI h
  .exact h)
theorem v9{ks:List dH}{t:Str}{p e u:Int}:(e,u)∈jA ks t p↔u=1/\(p,t,e)∈ks:=by
 have nd:((jA ks t p).map (·.1)).Nodup:=v8 Cq;constructor
 .intro h;rcases AG.mp (in_agetQ nd h) with h|⟨_,h⟩
  .exact h
  .cases h
 .rintro h;exact aget_inQ (AG.mpr (.inl h))
def flow(xs:Tb)(t:Tb):Tb:=xs.foldl (λt g=>low t g.1 g.2) t
theorem K7{xs:Tb}{j u:Int}:∀{t:Tb},aD (flow xs t) j=some u->(j,u)∈xs\/aD t j=some u:=by
 induction xs with
 | nil=>intro t h;exact .inr h
 | cons g xs ih=>
  intro t h;rcases ih (t:=low t g.1 g.2) h with z|z
  .exact .inl (Ap _ z)
  .rcases K2 z with z|z
   .exact .inl (by rw[z];exact Aw ..)
   .exact .inr z
theorem AH{xs:Tb}{j:Int}:∀{t:Tb} {w:Int},aD t j=some w->∃u,aD (flow xs t) j=some u/\u<=w:=by
 induction xs with
 | nil=>intro t w h;exact⟨w,h,Ha _⟩
 | cons g xs ih=>
  intro t w h;obtain⟨u,h1,h2⟩:=zbV (k:=g.1) (v:=g.2) h;obtain⟨u',h3,h4⟩:=ih h1;exact⟨u',h3,Int.le_trans h4 h2⟩
theorem K8{xs:Tb}{k v:Int}:∀{t:Tb},(k,v)∈xs->∃u,aD (flow xs t) k=some u/\u<=v:=by
 induction xs with
 | nil=>intro t h;cases h
 | cons g xs ih=>
  intro t h;rcases Aj.mp h with rfl|h
  .obtain⟨u,h1,h2⟩:=K5 t k v;obtain⟨u',h3,h4⟩:=AH (xs:=xs) h1;exact⟨u',h3,Int.le_trans h4 h2⟩
  .exact ih h
theorem K9{xs:Tb}:∀{t:Tb},(t.map (·.1)).Nodup->((flow xs t).map (·.1)).Nodup:=by
 induction xs with
 | nil=>intro t h;exact h
 | cons g xs ih=>intro t h;exact ih (K6 h)
theorem LA{O:Type}(f:O->Tb):∀(l:List O) (t:Tb),l.foldl (λt a=>flow (f a) t) t=flow (l.flatMap f) t
 | [],t=>rfl
 | a::l,t=>by
  rw[Dl,LA f l,List.flatMap_cons];unfold flow;rw[Cz]
section
variable (rs:List a7)(mc:Mc)
def inn(T:Tq)(key:Str×Int):Tb:=(aD T key).getD []
def iX(T:Tq)(part:Str)(p:Int):Tb:=if fG rs part=true then inn T (part,p) else jA mc.arr part p
def kE(T:Tq)(part:Str)(a:Int×Int):Tb:=(iX rs mc T part a.1).map λg=>(g.1,a.2+g.2)
def mL(T:Tq)(part:Str)(here:Tb):Tb:=here.foldl (λt a=>flow (kE rs mc T part a) t) []
def eI(T:Tq)(parts:List Str)(b:Int):Tb:=parts.foldl (λh p=>mL rs mc T p h) [(b,0)]
def eJ(c:Int)(st:Tb×Bool)(g:Int×Int):Tb×Bool:=if btr st.1 g.1 (c+g.2)=true then(bC st.1 g.1 (c+g.2),true) else st
def gX(r:a7)(st:Tq×Bool)(b:Int):Tq×Bool:=
 (bC st.1 (r.name,b) ((eI rs mc st.1 r.parts b).foldl (eJ 0) (inn st.1 (r.name,b),st.2)).1,((eI rs mc st.1 r.parts b).foldl (eJ 0) (inn st.1 (r.name,b),st.2)).2)
def lH(st:Tq×Bool)(r:a7):Tq×Bool:=(bT mc.many).foldl (gX rs mc r) st
def kF(T:Tq):Tq×Bool:=rs.foldl (lH rs mc) (T,false)
def wA:Nat->Tq->Prop
 | 0,_=>False
 | m+1,T=>(kF rs mc T).2=false\/wA m (kF rs mc T).1
end
section
variable {rs:List a7}{mc:Mc}
theorem AI(T:Tq)(part:Str)(here:Tb):mL rs mc T part here=flow (here.flatMap (kE rs mc T part)) []:=LA _ _ _
theorem zbW(T:Tq)(part:Str)(here:Tb):((mL rs mc T part here).map (·.1)).Nodup:=by rw[AI];exact K9 Cq
theorem zbX{T:Tq}{part:Str}{here:Tb}{e d:Int}(h:aD (mL rs mc T part here) e=some d):∃a w u,(a,w)∈here/\(e,u)∈iX rs mc T part a/\d=w+u:=by
 rw[AI]at h;rcases K7 h with h|h
 .obtain⟨⟨a,w⟩,ha,h⟩:=Dz.mp h;obtain⟨⟨g,u⟩,hg,h⟩:=Ay.mp h;cases h;exact⟨a,w,u,ha,hg,rfl⟩
 .cases h
theorem LB{T:Tq}{part:Str}{here:Tb}{a w e u:Int}(ha:(a,w)∈here)(hg:(e,u)∈iX rs mc T part a):∃d,aD (mL rs mc T part here) e=some d/\d<=w+u:=by
 rw[AI];exact K8 (Dz.mpr ⟨(a,w),ha,Ay.mpr ⟨(e,u),hg,rfl⟩⟩)
theorem sJ(T:Tq)(ps:List Str)(p:Str)(b:Int):eI rs mc T (ps++[p]) b=mL rs mc T p (eI rs mc T ps b):=by unfold eI;rw[Cz];rfl
theorem LC(T:Tq)(ps:List Str)(b:Int):((eI rs mc T ps b).map (·.1)).Nodup:=by
 rcases Ea ps with rfl|⟨l,p,rfl⟩
 .simp[eI]
 .rw[Eb,sJ];exact zbW _ _ _
theorem LD{T T':Tq}(h:∀k,inn T' k=inn T k)(ps:List Str)(b:Int):eI rs mc T' ps b=eI rs mc T ps b:=by
 unfold eI;congr 1;funext h' p;unfold mL;congr 1;funext t a;unfold kE iX;rw[h]
def fU(T:Tq)(f:a9):Option Int:=aD (inn T (f.1,f.2.1)) f.2.2
def AJ(rs:List a7)(mc:Mc)(f:a9)(v:Int):Prop:=∃n cut k,DI (gW rs mc) n cut (v,k)/\dN (gW rs mc) n cut=none/\f=cH (gW rs mc) n cut
structure IQ(rs:List a7)(mc:Mc)(T:Tq):Prop where
 nd:(T.map (·.1)).Nodup
 ni:∀key,((inn T key).map (·.1)).Nodup
 so:∀f v,fU T f=some v->AJ rs mc f v
 ky:∀key∈T.map (·.1),key∈(rs.map a7.name).flatMap λX=>(bT mc.many).map λb=>(X,b)
theorem wB{cut:List Int}{z:Int}(h:cut≠[]):(cut++[z]).headD 0=cut.headD 0/\(cut++[z]).getLastD 0=z/\(cut++[z]).length-1=(cut.length-1)+1:=by
 cases cut with
 | nil=>exact absurd rfl h
 | cons x cut=>exact⟨rfl,zbO _ _,by simp⟩
theorem wC{n:Nat}{r:a7}(h:rs[n]? = some r):cT (gW rs mc) n=r.name:=by unfold cT;rw[show(gW rs mc).rs[n]? = some r from h]
theorem zbY{T:Tq}(I:IQ rs mc T){n:Nat}{r:a7}(hr:rs[n]? = some r){b:Int}(hb:b∈bT mc.many):∀j,j<=r.parts.length->∀e d,aD (eI rs mc T (r.parts.take j) b) e=some d->
  ∃cut k,DI (gW rs mc) n cut (0+d,k)/\cut.length=j+1/\cut.headD 0=b/\cut.getLastD 0=e:=by
 intro j
 induction j with
 | zero=>
  intro _ e d h;rw[List.take_zero]at h;unfold eI at h;rw[List.foldl_nil,cY]at h;split at h
  .rename_i z;cases h;exact⟨[b],1,DI.start (G:=gW rs mc) hr hb,rfl,rfl,z⟩
  .cases h
 | succ j ih=>
  intro hj e d h;obtain⟨p,hp⟩:∃p,r.parts[j]? = some p:=⟨_,Au hj⟩;rw[Cd,hp]at h;have h:aD (eI rs mc T (r.parts.take j++[p]) b) e=some d:=h;rw[sJ]at h;obtain⟨a,w,u,ha,hg,rfl⟩:=zbX h;obtain⟨cut,k,di,l,h1,h2⟩:=ih (by lia) a w (in_agetQ (LC _ _ _) ha);unfold iX at hg
  by_cases ho:fG rs p=true
  .rw[if_pos ho]at hg;obtain⟨n',cut',k',di',p',f'⟩:=I.so (p,a,e) u (in_agetQ (I.ni _) hg);unfold cH at f';simp only[De]at f';obtain⟨f1,f2,f3⟩:=f';obtain⟨s1,s2,_⟩:=wB (z:=cut'.getLastD 0) di.ne;refine⟨cut++[cut'.getLastD 0],k+k',?_,by simp[l],by rw[s1,h1],by rw[s2,f3]⟩;have:=DI.name (G:=gW rs mc) di hr (by rw[l];exact hp) ho di' p' f1.symm (by rw[h2,f2]);unfold dR at this;rw[show 0+(w+u)=0+w+u by lia];exact this
  .rw[if_neg ho]at hg;obtain⟨s1,s2,_⟩:=wB (z:=e) di.ne;refine⟨cut++[e],k,?_,by simp[l],by rw[s1,h1],s2⟩;have:=DI.word (G:=gW rs mc) di hr (by rw[l];exact hp) (Je.mpr ho) (e:=e) (pr:=u) (by rw[h2];exact kD.mpr (v9.mp hg));rw[show 0+(w+u)=0+w+u by lia];exact this
theorem zbZ{T:Tq}(I:IQ rs mc T){r:a7}(hr:r∈rs){b:Int}(hb:b∈bT mc.many){e d:Int}(h:(e,d)∈eI rs mc T r.parts b):AJ rs mc (r.name,b,e) (0+d):=by
 obtain⟨n,hn,rfl⟩:=Hz.mp hr;have hn':rs[n]? = some rs[n]:=Au hn;obtain⟨cut,k,di,l,h1,h2⟩:=zbY I hn' hb _ (Ai _) e d (by rw[Bw];exact in_agetQ (LC _ _ _) h);refine⟨n,cut,k,di,?_,?_⟩
 .rw[part_of (G:=gW rs mc) hn',l];simp
 .unfold cH;rw[h1,h2,wC hn']
theorem wD(g:GQ rs)(q:MQ mc){f:a9}{v:Int}(h:AJ rs mc f v):f.1∈rs.map a7.name/\f.2.1∈bT mc.many/\f.2.2∈bT mc.many/\0<=v:=by
 obtain⟨n,cut,k,di,p,rfl⟩:=h;obtain⟨r,hr⟩:=v7 di;have hr:rs[n]? = some r:=hr;obtain⟨h1,_,_⟩:=p0 (AF g q λ_=>Iff.rfl) di;refine⟨?_,h1 _ (zH di.ne),h1 _ (pZ di.ne),zbU K1 di⟩;unfold cH;rw[wC hr];exact Em (Bg hr)
theorem AK(c:Int):∀(xs:Tb) (st:Tb×Bool),(xs.foldl (eJ c) st).1=flow (xs.map λg=>(g.1,c+g.2)) st.1/\((xs.foldl (eJ c) st).2=false->st.2=false/\(xs.foldl (eJ c) st).1=st.1/\∀g∈xs,btr st.1 g.1 (c+g.2)=false)/\
  ((xs.foldl (eJ c) st).2=true->st.2=true\/∃g∈xs,∀w,aD st.1 g.1=some w->∃u,aD (xs.foldl (eJ c) st).1 g.1=some u/\u<w)
 | [],st=>⟨rfl,λh=>⟨h,rfl,λ_ z=>nomatch z⟩,λh=>.inl h⟩
 | g::xs,st=>by
  obtain⟨i1,i2,i3⟩:=AK c xs (eJ c st g);have e1:(eJ c st g).1=low st.1 g.1 (c+g.2):=by unfold eJ low;split<;>rfl
  rw[Dl];refine⟨by rw[i1,e1];rfl,λh=>?_,λh=>?_⟩
  .obtain⟨j1,j2,j3⟩:=i2 h
   by_cases hb:btr st.1 g.1 (c+g.2)=true
   .unfold eJ at j1;rw[if_pos hb]at j1;cases j1
   .have e:eJ c st g=st:=by unfold eJ;rw[if_neg hb]
    rw[e]at j1 j2 j3⊢;refine⟨j1,j2,λx hx=>?_⟩;rcases Aj.mp hx with rfl|hx
    .exact Je.mpr hb
    .exact j3 x hx
  .by_cases hb:btr st.1 g.1 (c+g.2)=true
   .right;refine⟨g,Aw ..,λw hw=>?_⟩;have hv:c+g.2<w:=by unfold btr at hb;rw[hw]at hb;exact of_decide_eq_true hb
    rw[i1,e1];obtain⟨u,h1,h2⟩:=K5 st.1 g.1 (c+g.2);obtain⟨u',h3,h4⟩:=AH (xs:=xs.map λg=>(g.1,c+g.2)) h1;exact⟨u',h3,by lia⟩
   .have e:eJ c st g=st:=by unfold eJ;rw[if_neg hb]
    rw[e]at i3 h⊢;rcases i3 h with z|⟨x,hx,z⟩
    .exact .inl z
    .exact .inr ⟨x,Ap _ hx,z⟩
theorem wF(T:Tq)(key k:Str×Int)(t:Tb):inn (bC T key t) k=if key=k then t else inn T k:=by
 unfold inn;rw[gM];split<;>rfl
def lI(T T':Tq):Prop:=∀f w,fU T f=some w->∃v,fU T' f=some v/\v<=w
def oS(T T':Tq)(f:a9):Prop:=∃v,fU T' f=some v/\∀w,fU T f=some w->v<w
theorem lI.refl(T:Tq):lI T T:=λf w h=>⟨w,h,Ha _⟩
theorem lI.trans{A B C:Tq}(h:lI A B)(h':lI B C):lI A C:=λf w e=>by
 obtain⟨v,h1,h2⟩:=h f w e;obtain⟨u,h3,h4⟩:=h' f v h1;exact⟨u,h3,Int.le_trans h4 h2⟩
theorem oS.le{A B C:Tq}{f:a9}(h:oS A B f)(h':lI B C):oS A C f:=by
 obtain⟨v,h1,h2⟩:=h;obtain⟨u,h3,h4⟩:=h' f v h1;exact⟨u,h3,λw e=>Int.lt_of_le_of_lt h4 (h2 w e)⟩
theorem oS.of{A B C:Tq}{f:a9}(h:lI A B)(h':oS B C f):oS A C f:=by
 obtain⟨v,h1,h2⟩:=h';refine⟨v,h1,λw e=>?_⟩;obtain⟨u,h3,h4⟩:=h f w e;exact Int.lt_of_lt_of_le (h2 u h3) h4
def oT(rs:List a7)(mc:Mc)(T:Tq)(r:a7)(b:Int):Prop:=∀e d,aD (eI rs mc T r.parts b) e=some d->∃v,aD (inn T (r.name,b)) e=some v/\v<=0+d
structure jV(rs:List a7)(mc:Mc)(A B:Tq×Bool):Prop where
 iq:IQ rs mc B.1
 le:lI A.1 B.1
 no:B.2=false->A.2=false/\∀key,inn B.1 key=inn A.1 key
 ye:B.2=true->A.2=true\/∃f,oS A.1 B.1 f
theorem jV.trans{A B C:Tq×Bool}(h:jV rs mc A B)(h':jV rs mc B C):jV rs mc A C:=by
 refine⟨h'.iq,h.le.trans h'.le,λz=>?_,λz=>?_⟩
 .obtain⟨a1,a2⟩:=h'.no z;obtain⟨b1,b2⟩:=h.no a1;exact⟨b1,λkey=>(a2 key).trans (b2 key)⟩
 .rcases h'.ye z with z|⟨f,z⟩
  .rcases h.ye z with z|⟨f,z⟩
   .exact .inl z
   .exact .inr ⟨f,z.le h'.le⟩
  .exact .inr ⟨f,z.of h.le⟩
theorem jV.refl{A:Tq×Bool}(I:IQ rs mc A.1):jV rs mc A A:=⟨I,lI.refl _,λh=>⟨h,λ_=>rfl⟩,λh=>.inl h⟩
theorem zb0{r:a7}(hr:r∈rs){b:Int}(hb:b∈bT mc.many){st:Tq×Bool}(I:IQ rs mc st.1):jV rs mc st (gX rs mc r st b)/\((gX rs mc r st b).2=false->oT rs mc (gX rs mc r st b).1 r b):=by
 obtain⟨E,hE⟩:∃E,E=(eI rs mc st.1 r.parts b).foldl (eJ 0) (inn st.1 (r.name,b),st.2):=⟨_,rfl⟩;have hv:gX rs mc r st b=(bC st.1 (r.name,b) E.1,E.2):=by rw[hE];rfl
 obtain⟨o1,o2,o3⟩:=AK 0 (eI rs mc st.1 r.parts b) (inn st.1 (r.name,b),st.2);rw[<-hE]at o1 o2 o3;rw[hv];have lk:∀f:a9,fU (bC st.1 (r.name,b) E.1) f=if (r.name,b)=(f.1,f.2.1) then aD E.1 f.2.2 else fU st.1 f:=λf=>by
  unfold fU;rw[wF];split<;>rfl
 refine⟨⟨⟨sI I.nd,λkey=>?_,λf v h=>?_,λkey hk=>?_⟩,λf w h=>?_,λh=>?_,λh=>?_⟩,λh=>?_⟩
 .rw[wF];split
  .rw[o1];exact K9 (I.ni _)
  .exact I.ni key
 .rw[lk]at h;split at h
  .rename_i z;rw[o1]at h;rcases K7 h with h|h
   .obtain⟨⟨e,d⟩,hg,he⟩:=Ay.mp h;obtain⟨X,b',e'⟩:=f;cases z;cases he;exact zbZ I hr hb hg
   .refine I.so f v ?_;unfold fU;rw[<-z];exact h
  .exact I.so f v h
 .have:key=(r.name,b)\/key∈st.1.map (·.1):=by
   rw[<-fL]at hk⊢;rw[gM]at hk
   by_cases z:(r.name,b)=key
   .exact .inl z.symm
   .rw[if_neg z]at hk;exact .inr hk
  rcases this with rfl|h
  .exact Dz.mpr ⟨r.name,Em hr,Em hb⟩
  .exact I.ky key h
 .rw[lk];split
  .rename_i z;rw[o1];unfold fU at h;rw[<-z]at h;exact AH h
  .exact⟨w,h,Ha _⟩
 .obtain⟨j1,j2,_⟩:=o2 h;refine⟨j1,λkey=>?_⟩;rw[wF];split
  .rename_i z;rw[j2,<-z]
  .rfl
 .rcases o3 h with z|⟨⟨e,d⟩,hg,z⟩
  .exact .inl z
  .right;obtain⟨u,hu,_⟩:=K8 (t:=inn st.1 (r.name,b)) (Em (f:=λg:Int×Int=>(g.1,0+g.2)) hg);rw[<-o1]at hu;refine⟨(r.name,b,e),u,by rw[lk,if_pos rfl];exact hu,λw hw=>?_⟩;obtain⟨u',h1,h2⟩:=z w hw;rw[hu]at h1;cases h1;exact h2
 .obtain⟨j1,j2,j3⟩:=o2 h;have same:∀key,inn (bC st.1 (r.name,b) E.1) key=inn st.1 key:=λkey=>by
   rw[wF];split
   .rename_i z;rw[j2,<-z]
   .rfl
  intro e d hd;simp only at hd⊢;rw[LD same]at hd;rw[same];have:=j3 (e,d) (aget_inQ hd);unfold btr at this;simp only at this;cases q:aD (inn st.1 (r.name,b)) e with
  | none=>rw[q]at this;cases this
  | some w=>
   rw[q]at this;exact⟨w,rfl,Int.not_lt.mp (of_decide_eq_false this)⟩
theorem oT.congr{T T':Tq}(h:∀k,inn T' k=inn T k){r:a7}{b:Int}(f:oT rs mc T r b):oT rs mc T' r b:=λe d hd=>by
 rw[LD h]at hd;rw[h];exact f e d hd
theorem AL{r:a7}(hr:r∈rs):∀(l:List Int),(∀b∈l,b∈bT mc.many)->∀{st:Tq×Bool},IQ rs mc st.1->jV rs mc st (l.foldl (gX rs mc r) st)/\((l.foldl (gX rs mc r) st).2=false->∀b∈l,oT rs mc (l.foldl (gX rs mc r) st).1 r b)
 | [],_,st,I=>⟨jV.refl I,λ_ _ z=>nomatch z⟩
 | b::l,hl,st,I=>by
  obtain⟨s1,f1⟩:=zb0 hr (hl b (Aw ..)) I;obtain⟨s2,f2⟩:=AL hr l (λb hb=>hl b (Ap _ hb)) (st:=gX rs mc r st b) s1.iq;refine⟨s1.trans s2,λh c hc=>?_⟩;rcases Aj.mp hc with rfl|hc
  .obtain⟨a1,a2⟩:=s2.no h;exact(f1 a1).congr a2
  .exact f2 h c hc
theorem AN:∀(l:List a7),(∀r∈l,r∈rs)->∀{st:Tq×Bool},IQ rs mc st.1->jV rs mc st (l.foldl (lH rs mc) st)/\((l.foldl (lH rs mc) st).2=false->∀r∈l,∀b∈bT mc.many,oT rs mc (l.foldl (lH rs mc) st).1 r b)
 | [],_,st,I=>⟨jV.refl I,λ_ _ z=>nomatch z⟩
 | r::l,hl,st,I=>by
  obtain⟨s1,f1⟩:=AL (hl r (Aw ..)) (bT mc.many) (λ_ h=>h) I;obtain⟨s2,f2⟩:=AN l (λr hr=>hl r (Ap _ hr)) (st:=lH rs mc st r) s1.iq;refine⟨s1.trans s2,λh q hq=>?_⟩;rcases Aj.mp hq with rfl|hq
  .obtain⟨a1,a2⟩:=s2.no h;exact λb hb=>(f1 a1 b hb).congr a2
  .exact f2 h q hq
def wH(rs:List a7)(mc:Mc)(T:Tq):Prop:=∀r∈rs,∀b∈bT mc.many,oT rs mc T r b
theorem LF{T:Tq}(I:IQ rs mc T):jV rs mc (T,false) (kF rs mc T)/\((kF rs mc T).2=false->wH rs mc (kF rs mc T).1):=AN rs (λ_ h=>h) I
def iY(a:a9->Option Int):List a9->Nat
 | []=>0
 | f::U=>(if (a f).isNone=true then 1 else 0)+iY a U
def oU(a:a9->Option Int):List a9->Nat
 | []=>0
 | f::U=>((a f).getD 0).toNat+oU a U
theorem LG{a b:a9->Option Int}(h:∀f w,a f=some w->∃v,b f=some v/\v<=w)(h0:∀f v,b f=some v->0<=v):∀U:List a9,iY b U<=iY a U/\(iY b U=iY a U->oU b U<=oU a U)/\
  ((∃f∈U,∃v,b f=some v/\∀w,a f=some w->v<w)->iY b U<iY a U\/iY b U=iY a U/\oU b U<oU a U)
 | []=>⟨Ai _,λ_=>Ai _,λ⟨_,z,_⟩=>nomatch z⟩
 | f::U=>by
  obtain⟨i1,i2,i3⟩:=LG h h0 U;unfold iY oU;cases ea:a f with
  | some w=>
   obtain⟨v,eb,hv⟩:=h f w ea;have:=h0 f v eb;rw[eb];simp only[Option.isNone_some,Option.getD_some,Dw,if_false,Gp];refine⟨i1,λz=>?_,λ⟨x,hx,u,e1,e2⟩=>?_⟩
   .have:=i2 z;lia
   .rcases Aj.mp hx with rfl|hx
    .rw[eb]at e1;cases e1;have:=e2 w ea
     by_cases z:iY b U=iY a U
     .have:=i2 z;right;exact⟨z,by lia⟩
     .left;lia
    .rcases i3 ⟨x,hx,u,e1,e2⟩ with z|⟨z1,z2⟩
     .exact .inl z
     .right;exact⟨z1,by lia⟩
  | none=>
   cases eb:b f with
   | none=>
    simp only[Option.isNone_none,if_true,Option.getD_none];refine⟨by lia,λz=>?_,λ⟨x,hx,u,e1,e2⟩=>?_⟩
    .have:=i2 (by lia);lia
    .rcases Aj.mp hx with rfl|hx
     .rw[eb]at e1;cases e1
     .rcases i3 ⟨x,hx,u,e1,e2⟩ with z|⟨z1,z2⟩
      .left;lia
      .right;exact⟨by lia,by lia⟩
   | some v=>
    simp only[Option.isNone_none,Option.isNone_some,if_true,Dw,if_false];refine⟨by lia,λz=>?_,λ_=>.inl ?_⟩<;>lia
def wI(rs:List a7)(n:Nat):List a9:=(rs.map a7.name).flatMap λX=>(bT n).flatMap λb=>(bT n).map λe=>(X,b,e)
theorem zb1(g:GQ rs)(q:MQ mc):∀(m t:Nat) {T:Tq},IQ rs mc T->iY (fU T) (wI rs mc.many)<=m->oU (fU T) (wI rs mc.many)<=t->∃k,wA rs mc k T:=by
 intro m
 induction m using Lr with
 | _ m ihm=>
  intro t
  induction t using Lr with
  | _ t iht=>
   intro T I hm ht;obtain⟨s,_⟩:=LF I;cases hb:(kF rs mc T).2 with
   | false=>exact⟨1,.inl hb⟩
   | true=>
    have lo:∀f v,fU (kF rs mc T).1 f=some v->0<=v:=λf v h=>(wD g q (s.iq.so f v h)).2.2.2;obtain⟨l1,l2,l3⟩:=LG s.le lo (wI rs mc.many);have lt:=l3 (by
     rcases s.ye hb with z|⟨f,v,h1,h2⟩
     .cases z
     .obtain⟨c1,c2,c3,_⟩:=wD g q (s.iq.so f v h1);exact⟨f,Dz.mpr ⟨f.1,c1,Dz.mpr ⟨f.2.1,c2,Ay.mpr ⟨f.2.2,c3,rfl⟩⟩⟩,v,h1,h2⟩)
    have:∃k,wA rs mc k (kF rs mc T).1:=by
     by_cases z:iY (fU (kF rs mc T).1) (wI rs mc.many)<m
     .exact ihm _ z _ s.iq (Ai _) (Ai _)
     .rcases lt with lt|⟨lt1,lt2⟩
      .exact absurd (Bu lt hm) z
      .exact iht _ (Bu lt2 ht) s.iq (by lia) (Ai _)
    obtain⟨k,hk⟩:=this;exact⟨k+1,.inr hk⟩
theorem LH:IQ rs mc []:=⟨Cq,λ_=>Cq,λf v h=>(by cases h),λ_ h=>(by cases h)⟩
theorem zb2{T:Tq}(hf:wH rs mc T){n:Nat}{cut:List Int}{c:aL}(h:DI (gW rs mc) n cut c):∀r,rs[n]? = some r->cut.headD 0∈bT mc.many/\cut.length-1<=r.parts.length/\
  ∃d,aD (eI rs mc T (r.parts.take (cut.length-1)) (cut.headD 0)) (cut.getLastD 0)=some d/\0+d<=c.1:=by
 induction h with
 | @start n r' p h1 h2=>
  intro r hr;refine⟨h2,Ca _,0,?_,?_⟩
  .show aD (eI rs mc T (r.parts.take 0) p) p=some 0;rw[List.take_zero];unfold eI;rw[List.foldl_nil,cY,if_pos rfl]
  .exact Ha _
 | @word n r' cut c part e pr di h1 h2 h3 h4 ih=>
  intro r hr;have h1:rs[n]? = some r':=h1;rw[h1]at hr;cases hr;obtain⟨i1,i2,d,i3,i4⟩:=ih r' h1;obtain⟨s1,s2,s3⟩:=wB (z:=e) di.ne;have hl:=(An.mp h2).1;rw[s1,s2,s3,Cd,h2];refine⟨i1,by lia,?_⟩;rw[show(some part).toList=[part] from rfl,sJ];obtain⟨d',h5,h6⟩:=LB (rs:=rs) (mc:=mc) (T:=T) (part:=part) (aget_inQ i3) (e:=e) (u:=pr) (by unfold iX;rw[if_neg (by rw[show fG rs part=false from h3];exact Ar)];exact v9.mpr (kD.mp h4));exact⟨d',h5,by simp only;lia⟩
 | @name n n' r' cut cut' c m part di h1 h2 h3 di' h4 h5 h6 ih ih'=>
  intro r hr;have h1:rs[n]? = some r':=h1;rw[h1]at hr;cases hr;obtain⟨i1,i2,d,i3,i4⟩:=ih r' h1;obtain⟨s1,s2,s3⟩:=wB (z:=cut'.getLastD 0) di.ne;have hl:=(An.mp h2).1;obtain⟨q,hq⟩:=v7 di';have hq:rs[n']? = some q:=hq;obtain⟨j1,j2,d2,j3,j4⟩:=ih' q hq;rw[part_of (G:=gW rs mc) hq]at h4;rw[Dv (Ih.mp h4)]at j3;obtain⟨v,k1,k2⟩:=hf q (Bg hq) _ j1 _ _ j3;rw[wC hq]at h5;rw[h5,h6]at k1;rw[s1,s2,s3,Cd,h2];refine⟨i1,by lia,?_⟩;rw[show(some part).toList=[part] from rfl,sJ];obtain⟨d',h7,h8⟩:=LB (rs:=rs) (mc:=mc) (T:=T) (part:=part) (aget_inQ i3) (e:=cut'.getLastD 0) (u:=v) (by unfold iX;rw[if_pos (show fG rs part=true from h3)];exact aget_inQ k1);exact⟨d',h7,by unfold dR;simp only;lia⟩
theorem DI.of{G G':Sr}(h1:G'.rs=G.rs)(h2:G'.own=G.own)(h3:G'.places=G.places)(h4:G'.wt=G.wt)(h5:∀t p x,x∈G.steps t p->x∈G'.steps t p){n:Nat}{cut:List Int}{c:aL}(h:DI G n cut c):DI G' n cut c:=by
 have fe:∀n,cT G' n=cT G n:=λn=>by unfold cT;rw[h1]
 have pe:∀n cut,dN G' n cut=dN G n cut:=λn cut=>by unfold dN;rw[h1]
 induction h with
 | start a b=>rw[<-h4];exact .start (by rw[h1];exact a) (by rw[h3];exact b)
 | word _ a b c d ih=>exact .word ih (by rw[h1];exact a) b (by rw[h2];exact c) (h5 _ _ _ d)
 | name _ a b c _ d e f ih ih'=>exact .name ih (by rw[h1];exact a) b (by rw[h2];exact c) ih' (by rw[pe];exact d) (by rw[fe];exact e) f
theorem zb3{T:Tq}(I:IQ rs mc T)(hf:wH rs mc T){B:bN}{ks:List dH}(hk:∀a,a∈ks↔a∈mc.arr)(h:iK (cB rs mc ks) B)(f:a9):fU T f=(aD B f).map λv=>v.1.1:=by
 obtain⟨S,I0,st,P,cur,N,A,hq,rfl,_⟩:=h;have up:∀{n cut c},DI (gW rs mc) n cut c->DI (cB rs mc ks) n cut c:=λd=>DI.of (G:=gW rs mc) (G':=cB rs mc ks) rfl rfl rfl rfl (λt p ⟨_,_⟩ h=>kD.mpr ⟨(kD.mp h).1,(hk _).mpr (kD.mp h).2⟩) d;have dn:∀{n cut c},DI (cB rs mc ks) n cut c->DI (gW rs mc) n cut c:=λd=>DI.of (G:=cB rs mc ks) (G':=gW rs mc) rfl rfl rfl rfl (λt p ⟨_,_⟩ h=>kD.mpr ⟨(kD.mp h).1,(hk _).mp (kD.mp h).2⟩) d;have le1:∀{a b:aL},Le a b->a.1<=b.1:=λh=>by unfold Le at h;lia
 cases e:aD st.best f with
 | none=>
  cases e2:fU T f with
  | none=>rfl
  | some v=>
   obtain⟨n,cut,k,di,p,rfl⟩:=I.so f v e2;obtain⟨m,k',e3,_⟩:=IK A.inv A.ob A.ini hq (up di) p;have e3:=e.symm.trans e3;cases e3
 | some v=>
  obtain⟨m,n,cut⟩:=v;obtain⟨di,p,rfl⟩:=rY A.ob e;obtain⟨r,hr⟩:=v7 di;have hr:rs[n]? = some r:=hr;obtain⟨j1,j2,d,j3,j4⟩:=zb2 hf (dn di) r hr;rw[part_of (G:=cB rs mc ks) hr]at p;rw[Dv (Ih.mp p)]at j3;obtain⟨v,k1,k2⟩:=hf r (Bg hr) _ j1 _ _ j3;have e2:fU T (cH (cB rs mc ks) n cut)=some v:=by
   show fU T (cH (gW rs mc) n cut)=some v;unfold fU cH;rw[wC hr];exact k1
  obtain⟨n',cut',k,di',p',f'⟩:=I.so _ v e2;obtain⟨m',k',e3,l3⟩:=IK A.inv A.ob A.ini hq (up di') p';have f':cH (cB rs mc ks) n cut=cH (cB rs mc ks) n' cut':=f';rw[<-f',e]at e3;cases e3;have:=le1 l3;rw[e2];show some v=some m.1;congr 1;simp only at this;lia
end
end M69
namespace Rg
open PySem Spec PyProof.Rows L2 L3
abbrev nQ(G:Sr)(B:bN)(f:a9):W:=sH G (λt _ _=>.str t) (λn vs=>.tup [.int n,.tup vs]) B f
def LI:bL:=λws M R=>∃rs:List a7,ws=[dA rs]/\rs.length<=100/\bH (rs.map λ_=>W.int 0) M R
abbrev zb4:List Str:=["grammar"]
def zb5:aJ:=
   (bW (gF (dJ fR (aA 0)) (bM 0) i7 (vC (.int 0)) [none]))
theorem zb6{ws:List W}{M:Mm}{R:K3}(h:LI ws M R):zb5 (bP R) (bX zb4 ws) M:=by
 obtain⟨rs,rfl,hl,r⟩:=h;refine⟨_,rfl,jQ (uX (rest:=[]) (λ_=>.int 0) (gJ (by rw[Ab];lia)) (λ_ _=>trivial) (λw hw M' C sb h1=>h1) ?_)⟩
 .intro p hp;refine⟨_,Sub.refl _,?_⟩;have e:(rs.map gL).map (λ_=>W.int 0)=rs.map λ_=>W.int 0:=by rw[Bh];rfl
  rw[e];exact r p hp
def iZ(fs:List a9):List (List aE×W):=fs.map λf=>(fK f,.bl true)
theorem AQ{ws:List W}{M:Mm}{R:K3}(r:bH ws M R):bH ws M λw M'=>∃M'',L3.Sub M'' M'/\R w M'':=λp hp=>⟨_,Sub.refl _,r p hp⟩
theorem LJ{ws:List (List aE×W)}{M:Mm}{R:K3}(r:n9 ws M R):n9 ws M λw M'=>∃M'',L3.Sub M'' M'/\R w M'':=λp hp=>⟨_,Sub.refl _,r p hp⟩
theorem enum_zip(ws:List Str):∀n:Nat,g9 n (ws.map W.str)=(ws.zipIdx n).map λx=>W.tup [.int (x.2:Int),.str x.1]:=by
 induction ws with
 | nil=>intro n;rfl
 | cons w ws ih=>intro n;rw[Bb,g9,ih,Kx,Bb]
theorem zb7(ts:List Str)(n:Str):(bD (ts.map f9) (Sum.inr n:aE)).isSome=decide (n∈ts):=by
 induction ts with
 | nil=>rfl
 | cons t ts ih=>
  unfold bD at ih⊢;rw[Bb,Fj]
  by_cases h:t=n
  .subst h;simp[f9]
  .rw[show decide ((f9 t).1=(Sum.inr n:aE))=false by simp[f9,h]];rw[ih];have h2:¬n=t:=λe=>h e.symm;simp[h2]
theorem AR(rs:List a7)(t:Str):(bD (ownOf rs) (Sum.inr t:aE)).isSome=fG rs t:=by
 unfold ownOf fG;rw[zb7,Dy];simp only[decide_eq_true_eq];rw[y8];simp
theorem LK{f:Int->W}{ss:List Int}{i:Nat}{s:Int}(h:ss[i]? = some s):cG (ss.map f) (i:Int)=some (f s):=fA (by rw[Ax,h];rfl)
theorem AU(fs:List a9)(f:a9):(bD (iZ fs) (fK f)).isSome=decide (f∈fs):=by
 unfold iZ
 induction fs with
 | nil=>rfl
 | cons g fs ih=>
  rw[Bb,mH]
  by_cases h:g=f
  .subst h;rw[if_pos rfl];simp
  .rw[if_neg (λz=>h (nM _ _ z)),ih];have:¬f=g:=λz=>h z.symm;simp[this]
theorem zb8{fs:List a9}{f:a9}(h:f∉fs):cA (iZ fs) (fK f) (.bl true)=iZ (fs++[f]):=by
 unfold cA;rw[if_neg (by rw[show((iZ fs).any λkv=>decide (kv.1=fK f))=(bD (iZ fs) (fK f)).isSome from f6 _ _,AU,decide_eq_true_eq];exact h)];unfold iZ;rw[Bc];rfl
theorem LL{p:Addr}{ws:List W}{M:Mm}{R:K3}(h:M p=some (.lst ws))(r:R (.bl true) M):i8 [.ref p,.ty "list"] M R:=⟨"list",true,.inl ⟨rfl,_,h⟩,by decide,r⟩
theorem mM{x:W}{T:String}{τ:S3}{M:Mm}{R:K3}(h:i8 [x,.ty T] M R):aB (vC (.ty T)) aG τ M λxs M2=>i8 (x::xs) M2 R:=h
theorem zb9{ws:List W}{M:Mm}{R:List W->(Mm->Prop)->Mm->Prop}(h:R ws (λ_=>True) M):fR (.tup ws) M R:=h
end Rg
namespace L3
open PySem Spec PyProof.Rows L2
section
variable {X:Cx}{pos:Pos}{a b:Expr}{ta tb te:a0}
theorem cN{i:Nat}{x:Str}(hN:X.N.Nodup)(hi:X.N[i]? = some x:=by rfl)(hx:Loc X.env.scope x:=by first|exact Or.inl rfl|exact Or.inr rfl)(hf:X.fn x=true\/X.env.scope.names.lookup x=some .local:=by first|exact .inl rfl|exact .inr rfl|assumption):PG X (.Name x pos) (iE X.K (bM i)):=HG hN hi hx hf
theorem i0{i:Nat}{x:Str}(hi:X.N[i]? = some x:=by rfl)(hx:Loc X.env.scope x:=by first|exact Or.inl rfl|exact Or.inr rfl)(hN:X.N.Nodup:=by exact of_decide_eq_true (by kernel_rfl))(hf:X.fn x=true\/X.env.scope.names.lookup x=some .local:=by first|exact .inl rfl|exact .inr rfl|assumption):PG X (.Name x pos) (iE X.K (bM i)):=HG hN hi hx hf
theorem bJ{i:Nat}{x:Str}{e:Expr}{pos':Pos}(hN:X.N.Nodup)(he:E3 X e te)(hi:X.N[i]? = some x:=by rfl)(hx:Loc X.env.scope x:=by first|exact Or.inl rfl|exact Or.inr rfl)(hs:Jg e (some (.Name x pos')) pos.line X.env=pure false:=by rfl)(hf:X.fn x=true\/X.env.scope.names.lookup x=some .local:=by first|exact .inl rfl|exact .inr rfl|assumption):
  P3 X (.Assign [.Name x pos'] e pos) (bE i te):=W9 hN hi hx he hs hf
theorem sL{op:CmpOp}{r:R3}(ho:bG X (Cb op) (cL X.K r))(ha:E3 X a ta)(hb:E3 X b tb)(hm:Hw op b=false:=by first|exact ER _|with_unfolding_all rfl):E3 X (.Compare a [op] [b] pos) (aF r ta tb):=V8 ho ha hb hm
theorem cI{op:CmpOp}{r:R3}(ho:bG X (Cb op) (cL X.K r))(ha:E3 X a ta)(hb:E3 X b tb)(hm:Hw op b=false:=by first|exact ER _|with_unfolding_all rfl):T3 X (.Compare a [op] [b] pos) (bZ (aF r ta tb)):=V9 ho ha hb hm
variable {tg iter elt:Expr}{ifs:List Expr}{sc:Hh}{wi:iT}{g:e7}{tt:d7}
theorem AW{i:Nat}{x:Str}{px spos:Pos}(hN:X.N.Nodup)(N':List Str)(js:List (Option Nat))(hi:PI X tg iter (iG X.K wi))(hg:∀B,PG (d6 X sc N' B) tg (iE X.K g))(ht:∀B,i5 (d6 X sc N' B) ifs (kP X.K tt))(he:∀B,PE (d6 X sc N' B) elt (up X.K te))(hi0:X.N[i]? = some x:=by rfl)(hx:Loc X.env.scope x:=by first|exact Or.inl rfl|exact Or.inr rfl)(S0:n6 N' sc X.env.scope=true:=by kernel_rfl)(hj:fQ N' X.N sc js N'=true:=by kernel_rfl)(hc:X.calm=true:=by rfl)(hsw:Jg (.ListComp elt [⟨tg,iter,ifs,0⟩] sc pos) (some (.Name x px)) spos.line X.env=pure true:=by rfl)(hf:X.fn x=true\/X.env.scope.names.lookup x=some .local:=by first|exact .inl rfl|exact .inr rfl|assumption)(hs:∀x,Gu iter X.env x=pure x:=by intro _;rfl):P3 X (.Assign [.Name x px] (.ListComp elt [⟨tg,iter,ifs,0⟩] sc pos) spos) (bE i (eA (gF wi g tt te js))):=XU hN hi0 hx N' js hi hg ht he S0 hj hc hsw hf hs
end
theorem cJ{N ps:List Str}{sc:Hh}(a:sc.kind=.function:=by rfl)(b:sc.isCoroutine=false:=by rfl)(c:sc.isGenerator=false:=by rfl)(d:N.Nodup:=by decide +kernel)(e:N.take ps.length=ps:=by rfl)(f:∀x∈ps,sc.names.lookup x=some .local\/sc.names.lookup x=some .cell:=by decide +kernel)(g:∀y∈sc.names,y.2≠.free:=by decide +kernel):mW N ps sc:=⟨a,b,c,d,e,f,g⟩
theorem LM{C:List Ae->Prop}(h:C [])(us:List Ae)(e:us.length=0):C us:=by rw[Ex.mp e];exact h
theorem sM{C:List Ae->Prop}{n:Nat}(k:∀a us,us.length=n->C (a::us)):∀us:List Ae,us.length=n+1->C us
 | a::l,e=>k a l (Nat.succ.inj e)
theorem wJ{C:List Ae->Prop}(h:∀a,C [a]):∀us:List Ae,us.length=1->C us:=sM λa=>LM (h a)
theorem wL{C:List Ae->Prop}(h:∀a b,C [a,b]):∀us:List Ae,us.length=2->C us:=sM λa=>wJ (h a)
theorem wM{C:List Ae->Prop}(h:∀a b c,C [a,b,c]):∀us:List Ae,us.length=3->C us:=sM λa=>wL (h a)
theorem wN{C:List Ae->Prop}(h:∀a b c d,C [a,b,c,d]):∀us:List Ae,us.length=4->C us:=sM λa=>wM (h a)
theorem AX{C:List Ae->Prop}(h:∀a b c d e,C [a,b,c,d,e]):∀us:List Ae,us.length=5->C us:=sM λa=>wN (h a)
def AY(x q:Str)(st:Stmt)(ps:List Str):Prop:=∀(kV doc pm:Ae) (an:Option Addr) (cdv ct:Ae) (us:List Ae),us.length=ps.length->bindArgs (Ep x q (jB st) (gO st) (dW st) .none kV doc pm an cdv ct) ⟨us,[]⟩=pure (ps.zip us)
section
variable {K:Ac}{mg:Str->Option Ae}{h:Heap}{x q:Str}{st:Stmt}{C f:Addr}{ps:List Str}{an:Option Addr}{kV doc pm cdv ct:Ae}
theorem dF(X:K.In h)(G:h.Ns Dh mg)(hb:AY x x st ps:=by first|exact λ_ _ _ _ _ _=>wJ λ_=>rfl|exact λ_ _ _ _ _ _=>wL λ_ _=>rfl|exact λ_ _ _ _ _ _=>wM λ_ _ _=>rfl|exact λ_ _ _ _ _ _=>wN λ_ _ _ _=>rfl|exact λ_ _ _ _ _ _=>AX λ_ _ _ _ _=>rfl|exact λ_ _ _ _ _ _=>ar6 λ_ _ _ _ _ _=>rfl|exact λ_ _ _ _ _ _=>ar7 λ_ _ _ _ _ _ _=>rfl|exact λ_ _ _ _ _ _=>LM rfl)(n:PySem.W.nsIn K Dh x=some (some (.ref f)):=by kernel_rfl)(l:K.lookup f=some ⟨.type "function",none,.func (Ep x x (jB st) (gO st) (dW st) .none kV doc pm an cdv ct),#[]⟩:=by kernel_rfl)(c:Iq K cdv x=true:=by kernel_rfl)(k:Fc K (.ref f)=true:=by kernel_rfl):Df K mg x st ps f (Ep x x (jB st) (gO st) (dW st) .none kV doc pm an cdv ct):=⟨pF l c k,Kk X G n,(pF l c k).binds hb⟩
theorem dM(hb:AY x q st ps:=by first|exact λ_ _ _ _ _ _=>wJ λ_=>rfl|exact λ_ _ _ _ _ _=>wL λ_ _=>rfl|exact λ_ _ _ _ _ _=>wM λ_ _ _=>rfl|exact λ_ _ _ _ _ _=>wN λ_ _ _ _=>rfl|exact λ_ _ _ _ _ _=>AX λ_ _ _ _ _=>rfl)(a:Cg K (.ref C) x=some (some (.ref f)):=by kernel_rfl)(n:Kv K (.ref f)=true:=by kernel_rfl)(l:K.lookup f=some ⟨.type "function",none,.func (Ep x q (jB st) (gO st) (dW st) .none kV doc pm an cdv ct),#[]⟩:=by kernel_rfl)(c:Iq K cdv q=true:=by kernel_rfl)(k:Fc K (.ref f)=true:=by kernel_rfl):Dm K C x q st ps f (Ep x q (jB st) (gO st) (dW st) .none kV doc pm an cdv ct):=⟨pF l c k,⟨a,n,k⟩,(pF l c k).binds hb⟩
theorem dI(hb:AY x q st ps:=by first|exact λ_ _ _ _ _ _=>wJ λ_=>rfl|exact λ_ _ _ _ _ _=>wL λ_ _=>rfl|exact λ_ _ _ _ _ _=>wM λ_ _ _=>rfl|exact λ_ _ _ _ _ _=>wN λ_ _ _ _=>rfl|exact λ_ _ _ _ _ _=>AX λ_ _ _ _ _=>rfl)(m:PySem.W.makesIn K C=true:=by kernel_rfl)(a:Cg K (.ref C) "__init__" = some (some (.ref f)):=by kernel_rfl)(n:Kv K (.ref f)=true:=by kernel_rfl)(d:Fc K (.ref C)=true:=by kernel_rfl)(l:K.lookup f=some ⟨.type "function",none,.func (Ep x q (jB st) (gO st) (dW st) .none kV doc pm an cdv ct),#[]⟩:=by kernel_rfl)(c:Iq K cdv q=true:=by kernel_rfl)(k:Fc K (.ref f)=true:=by kernel_rfl):Di K C x q st ps f (Ep x q (jB st) (gO st) (dW st) .none kV doc pm an cdv ct):=⟨pF l c k,⟨m,a,n,d⟩,(pF l c k).binds hb⟩
variable {P:Bt}{w:Cm}{base:Heap}{fd:Bk}{N:List Str}{k:Nat}{sp:bL}{rd:aJ}
theorem zca(P:Bt)(w:Cm)(mg:Str->Option Ae)(base:Heap)(k:Nat)(F:jF K x q st f fd)(_:Binds K fd ps [])(S:mW N ps (dW st))(len:∀ws M R,sp ws M R->ws.length=ps.length)(good:∀{ws M R},sp ws M R->rd (bP R) (bX N ws) M)(tm:∀{cdv:Ae} {A:Ck} {outer:List Env} {s:Ag} {H:Hp} {E:XK},cE k (A.deeper (Jo q (dW st) s.heap.objs.size f cdv))->(A.deeper (Jo q (dW st) s.heap.objs.size f cdv)).units+1<Ez->N.Nodup->jK (kK eW P w K mg base N q (dW st) f cdv A outer s H E).nox (gO st) rd):eV P w K mg base eW (k+1) f fd ps (fZ K sp):=
 yS F S len λ_ _ _ _ _ _ _ _ _ hr h=>⟨rd,tm hr (qV hr) S.nd,good h⟩
theorem cP(P:Bt)(w:Cm)(mg:Str->Option Ae)(base:Heap)(k:Nat)(F:jF K x q st f fd)(_:Binds K fd ps [])(S:mW N ps (dW st))(good:∀{ws M R},sp ws M R->rd (bP R) (bX N ws) M)(tm:∀{cdv:Ae} {A:Ck} {outer:List Env} {s:Ag} {H:Hp} {E:XK},cE k (A.deeper (Jo q (dW st) s.heap.objs.size f cdv))->(A.deeper (Jo q (dW st) s.heap.objs.size f cdv)).units+1<Ez->N.Nodup->jK (kK eW P w K mg base N q (dW st) f cdv A outer s H E).nox (gO st) rd)(len:∀ws M R,sp ws M R->ws.length=ps.length:=by intro _ _ _ h;repeat (first|(obtain⟨rfl,_⟩:=h;exact rfl)|obtain⟨_,h⟩:=h)):eV P w K mg base eW (k+1) f fd ps (fZ K sp):=
 yS F S len λ_ _ _ _ _ _ _ _ _ hr h=>⟨rd,tm hr (qV hr) S.nd,good h⟩
end
section
variable {X:Cx}{pos p:Pos}{x:Str}{st:Stmt}{e:Expr}{es:List Expr}{t:dY}{k j:Nat}{f:Addr}{fd:Bk}{ps:List Str}{sp:bL}
theorem bY(F:eV X.prog X.w X.K X.mg X.base eW k f fd ps (fZ X.K sp))(D:Df X.K X.mg x st ps f fd)(hr:cE j X.A)(ha:A3 X (e::es) t)(hj:k<=j:=by decide)(hg:Gl X x:=by rfl)(hdb:(x==("__debug__" : Str))=false:=by decide)(he:Bj (e::es) X.env=(false,eval e X.env)::Bj es X.env:=by rfl)(hpl:(Gx pos (Bj es X.env)).any (·.1)=false:=by rfl):
  E3 X (.Call (.Name x p) (e::es) [] pos) (bV sp t):=GU F (hr.mono hj) hg D.at_ D.fn.kp D.bi ha hdb he hpl
end
end L3
namespace L2
open PySem Spec PyProof.Rows
section
variable {X:Cx}
def zcb(tk tv:TE):TE:=λZ H Q=>∀p,H p=none->tU [(tk,tv)] Z (aY H p (.dT [])) λps H2=>∃(b:Addr) (y:V) (k:List aE),ps=[(.ref b,y)]/\H2 p=some (.dT [])/\H2 b=some (.tup (k.map kV))/\Q (.ref p) (aY H2 p (.dT [(k,y)]))
theorem zcc{k v:Expr}{tk tv:TE}{pos:Pos}(hu:X.A.units+1<Ez)(hk:PE X k tk)(hv:PE X v tv):PE X (.Dict [some k] [v] pos) (zcb tk tv):=by
 intro pins s Z H Q I q;have hn:=I.hok.fresh (Ai s.heap.objs.size);have I1:=I.laid (a:=s.heap.objs.size) (o:=.dT []) (h':=s.heap.push {cls:=.type "dict",data:=.dict #[]}) (t':=s.toks) (λ_ _ q=>Af _ q) (Ai _) (FV s.heap I.big);refine wpAny_Dict_any rfl rfl (λh=>nomatch h) (by decide:1<=15) (bA (FY hk hv FX pins _ Z _ _ I1 (q _ hn)) λws s2 ⟨ps,H2,I2,rel,b,y,k,ep,e,eb,q2⟩=>?_);subst ep;cases rel with
 | @cons a1 b1 _ _ r1 r2=>
  cases r2;obtain⟨u1,u2⟩:=b1;obtain⟨ru,rv⟩:=r1;cases (show u1=Value.ref b from ru);obtain⟨z,hd,xs,rel,dd⟩:=tT I2.hok e;cases rel;unfold storeAll;rw[Lo];refine Aa (Aa (wpAny_dictSet_heap (hsz:=Ca _) (Nat.lt_of_succ_lt hu) (j0 I2.hok eb) dd λh' dd' hs=>Ah ?_));show Be _ _ (pure PUnit.unit) _ _ _;refine Ah ⟨.ref _,_,?_,rfl,q2⟩;obtain⟨q,es,ep,hq,h2,h3,h4,_,h5⟩:=dd';refine pD I2 (by rw[e];exact True.intro) hs ⟨q,hq⟩ ⟨show 1<=Ao by decide,hd,_,((show KT H2 [] [] from .nil).put k eb rv).keeps λc ys ec=>?_,q,es,ep,hq,h2,h3,h4,h5⟩;rw[bF (tB ec e (λz=>nomatch z))];exact ec
end
end L2
namespace L3
open PySem Spec PyProof.Rows L2
section
variable {X:Cx}{a b:Expr}{ta tb:a0}{pos p:Pos}
def LN(ta tb:a0):a0:=λτ M R=>∀p,M p=none->ta τ (put M p (.dT [])) λx M1=>tb τ M1 λy M2=>M2 p=some (.dT [])/\∃k:List aE,x=.tup (k.map wK)/\R (.ref p) (put M2 p (.dT [(k,y)]))
theorem zcd(hu:X.A.units+1<Ez)(ha:E3 X a ta)(hb:E3 X b tb):E3 X (.Dict [some a] [b] pos) (LN ta tb):=
 (zcc hu ha hb).weak λZ H Q z0=>z0.el λτ M R as am h k=>λp hp=>by
  obtain⟨am0,k0⟩:=am.laid (o:=.dT []) (u:=.dT []) hp ⟨[],cQ,.nil⟩;refine⟨τ,_,_,as.kp am k0,am0,h p (am.nonM hp),λx H1 wx M1 k1 am1 ax h1=>⟨τ,M1,_,(as.kp am k0).kp am0 k1,am1,h1,λy H2 wy M2 k2 am2 ay ⟨e,kk,ex,r⟩=>?_⟩⟩;subst ex;obtain⟨ks,f,q⟩:=am2 _ _ e;cases q;have ax2:=ax.kp am1 k2;exact ax2.tupE λc xs ec fc qc=>by
   obtain⟨am3,k3⟩:=am2.write (o:=.dT [(kk,wy)]) (u:=.dT [(kk,y)]) e ⟨_,cQ,.cons ⟨rfl,ay.wr am2 e⟩ .nil⟩;exact⟨c,y,kk,by rw[ec],f,by rw[<-qc.keys];exact fc,k _ _ _ _ (((k0.trans k1).trans k2).trans k3) am3 (.ref _) r⟩
variable {x:Str}{e:Expr}{es:List Expr}{t:dY}{k j i:Nat}{f:Addr}{fd:Bk}{ps:List Str}{sp:bL}
def kG(i:Nat)(f:Addr)(sp:bL)(t:dY):a0:=λτ M R=>τ[i]? = some (some (.ref f))/\bV sp t τ M R
theorem sN{g:Addr}(ef:g=f)(F:eV X.prog X.w X.K X.mg X.base eW k f fd ps (fZ X.K sp))(hr:cE j X.A)(hk:Fc X.K (.ref f)=true)(hb:Binds X.K fd ps [])(ha:A3 X (e::es) t)(hj:k<=j:=by decide)(hN:X.N[i]? = some x:=by rfl)(hv:tE X.env.scope x:=by first|exact Or.inl rfl|exact Or.inr (Or.inl rfl)|exact Or.inr (Or.inr rfl))(hd:(x==("__debug__" : Str))=false:=by decide)(hcd:(x==("__classdict__" : Str))=false:=by decide)(he:Bj (e::es) X.env=(false,eval e X.env)::Bj es X.env:=by rfl)(hpl:(Gx pos (Bj es X.env)).any (·.1)=false:=by rfl):
  E3 X (.Call (.Name x p) (e::es) [] pos) (kG i g sp t):=by
 subst ef;intro pins s Z H Q I ⟨τ,M,R,as,am,⟨h1,h⟩,k'⟩;have gc:=GS (K:=X.K) ⟨τ,M,R,as,am,h,k'⟩;obtain⟨v,e1,av⟩:=as.get h1;refine El (bA (EI (pos:=p) hN hv hd hcd pins s Z H (λw H'=>w=.ref g/\H'=H) I ⟨v,e1,av.inv,rfl⟩) λu s1 ⟨w,H1,I1,r1,ew,eH⟩=>?_);subst ew eH;cases r1;exact Ka (h₀:=X.base) I1.ok.mod.kin hk (bA (ha pos pins s1 Z H1 _ I1 gc) λus s2 ⟨vs,H2,I2,r,q⟩=>⟨I2.kIn,tO F (hr.mono hj) hb .nil pE I2 r q⟩) he hpl
theorem qD{g f:Addr}{fd:Bk}{ps:List Str}{x:Str}{pos:Pos}{st:Stmt}(ef:g=f)(D:Df X.K X.mg x st ps f fd)(hg:Gl X x:=by rfl)(hd:(x==("__debug__" : Str))=false:=by decide):E3 X (.Name x pos) (vC (.ref g)):=by
 subst ef;exact V7 (y:=.ref g) hg D.at_ rfl (λ_ _=>.ref _) hd
end
end L3
namespace PySem
namespace Et
open PyProof.Rows L2 PySem.Spec
section
variable {prog:Bt}{w:Cm}{A:Ck}{E:Ae->Ag->Prop}{s:Ag}
theorem draws(hh:A.handled=none)(it l:Addr)(hne:l≠it)(items:Array Ae):Draws prog w A it [it,l] items.size (λi v=>items[i]? = some v) (λi h=>h.IsTupleIter it l i/\h.IsTuple l items) where
 live:=λ_ _ st=>let ⟨o,ho,_⟩:=st.1;⟨o,ho⟩
 frame:=λk h h' st hk=>(Zt.side_tuple (prog:=prog) (w:=w) it l hne items).keep k h h' st λc hc o e=>hk c (by rcases hc with rfl|rfl<;>simp) o e
 item:=λi s Q E hi st hQ=>(Zt.side_tuple it l hne items).item A E s i items[i] Q st (by simp[hi]) λh' a b=>hQ _ h' s.toks (by simp[hi]) a b
 done:=λs Q E st hE=>(Zt.side_tuple it l hne items).stop A E s _ Q hh st (by simp) hE
theorem meets_new(l:Addr)(items:Array Ae)(n:Nat)(dct:Option Addr)(sl:Array (Option Ae)):
  Meets (Mh.«enumerate.__new__» ⟨[.type "enumerate",.ref l],[]⟩) (λ_ R s=>s.heap.get? l=some {cls:=.type "tuple",dict:=dct,data:=.seq items n,slots:=sl}/\
   R (.ok (.ret (.ref (s.heap.push {cls:=.type "tuple_iterator",data:=.fields #[.ref l,.int 0 0]}).objs.size)))
    {s with heap:=(s.heap.push {cls:=.type "tuple_iterator",data:=.fields #[.ref l,.int 0 0]}).push {cls:=.type "enumerate",data:=.fields #[.none,.bool false,.ref s.heap.objs.size,Jn 0,.none,.none]}}):=
 .of_wp λprog w A R s h=>by
  obtain⟨hp,g,d,tk,os⟩:=s;obtain⟨hl,h⟩:=h;have hsub:=sub_enumerate;have hL:Heap.IsTuple (Shared.heap ⟨hp,g,d,tk,os⟩) l items:=⟨_,hl,rfl,n,rfl⟩
  wp_walk using Ie hl
  refine wpAny_stack_any λst=>Ah ?_;split
  .rename_i c _ _ _ _ _;cases (c==Value.type "enumerate")
   .wp_walk using Ie hl,Hm hL
    exact⟨_,rfl,h⟩
   .wp_walk using Ie hl,Hm hL
    exact⟨_,rfl,h⟩
  .wp_walk using Ie hl,Hm hL
   exact⟨_,rfl,h⟩
theorem call_new{l:Addr}{items:Array Ae}{Q:Ae->Ag->Prop}(hL:s.heap.IsTuple l items)(h:∀h',IsEnum h' (s.heap.objs.size+1) s.heap.objs.size 0 .none->h'.IsTupleIter s.heap.objs.size l 0->(∀b o,s.heap.get? b=some o->h'.get? b=some o)->Q (.ref (s.heap.objs.size+1)) {s with heap:=h'}):
  Be (Bn prog w) A (call (.type "enumerate") [.ref l]) Q E s:=by
 obtain⟨⟨c,dct,dt,sl⟩,hl,hc,n,hd⟩:=hL;cases (show c=.type "tuple" from hc);cases (show dt=.seq items n from hd);refine callType_new F.called_enumerate (by decide) (F.typeCall_enumerate_1 _) (F.newCall_enumerate_1 _) (λobj=>F.args_object_init_2 obj _) F.entry_enumerate_new (meets_new l items n dct sl) ⟨hl,?_⟩;have hz:(s.heap.push {cls:=.type "tuple_iterator",data:=.fields #[.ref l,.int 0 0]}).objs.size=s.heap.objs.size+1:=Dn ..;show _/\_;rw[hz];have he:IsEnum ((s.heap.push {cls:=.type "tuple_iterator",data:=.fields #[.ref l,.int 0 0]}).push {cls:=.type "enumerate",data:=.fields #[.none,.bool false,.ref s.heap.objs.size,Jn 0,.none,.none]}) (s.heap.objs.size+1) s.heap.objs.size 0 .none:=by
  have:=Ba (s.heap.push {cls:=.type "tuple_iterator",data:=.fields #[.ref l,.int 0 0]}) (o:={cls:=.type "enumerate",data:=.fields #[.none,.bool false,.ref s.heap.objs.size,Jn 0,.none,.none]}) rfl;rw[hz]at this;exact this
 exact⟨⟨_,he,rfl⟩,h _ he ⟨_,Af _ (Ba _ rfl),rfl,rfl⟩ λb o x=>Af _ (Af _ x)⟩
end
end Et
end PySem
namespace L2
open PySem Spec PyProof.Rows
section
variable {X:Cx}
def LO(K:Ac)(a:Addr)(xs:List V):It:=
 ⟨λi H=>bS K H a xs/\i<xs.length,
   λi H x H'=>∃p u,xs[i]? = some u/\H p=none/\x=.ref p/\H'=aY H p (.tup [.int (i:Nat),u]),
   λi H=>bS K H a xs/\i=xs.length⟩
theorem zce{P:Bt}{w:Cm}{K:Ac}{es:List Expr}{kx:Nat}{px:Pos}(a e it:Addr)(xs:List V)(hne:e≠it)(hea:e≠a)(hia:a≠it):
  jZ P w K (.Tuple es kx px) (LO K a xs) [e,it] e (λi h=>(∃old,IsEnum h e it (i:Nat) old)/\h.IsTupleIter it a i) where
 mem:=by simp
 obj:=λi h st c hc=>by
  obtain⟨⟨old,h1⟩,⟨o4,h4,_,h4d⟩⟩:=st;simp only[Aj,Cr,or_false]at hc;rcases hc with rfl|rfl
  .exact⟨_,h1,λv q=>by cases q⟩
  .exact⟨_,h4,λv q=>by rw[h4d]at q;cases q⟩
 keep:=λi h h' st k=>by
  obtain⟨⟨old,h1⟩,⟨o4,h4,r4⟩⟩:=st;exact⟨⟨old,k e (by simp) _ h1⟩,⟨o4,k it (by simp) _ h4,r4⟩⟩
 item:=by
  intro X hP hw hK hc i pins s Z H E I hf st hg;subst hP hw hK;obtain⟨⟨old,h1⟩,h4⟩:=st;obtain⟨hqa,hi⟩:=hg;obtain⟨its,rv,pl,hz⟩:=I.tuple hqa;obtain⟨u,hu,ru⟩:=rv.get (Au hi);have hl:=rv.length;refine wpAny_pyNext_enum_itemD (Et.draws (A:=X.A.in1) (I.ok.hd hc) it a hia its.toArray) h1 ⟨h4,pl⟩ (by simp;lia) hne (by simp[hne,hea]) λx h' tk hx a1 a2 a3 a4 hk=>?_;have ex:x=u:=by
   have hx:its.toArray[i]? = some x:=hx;rw[List.getElem?_toArray,hu]at hx;exact(Bx hx).symm
  subst ex;refine⟨_,rfl,wpAny_letOwnedTupleGo_enum a1 λh'' e' sb=>?_⟩;have hfr:H s.heap.objs.size=none:=I.hok.fresh (Ai _);have lte:e<s.heap.objs.size:=Av h1;have lti:it<s.heap.objs.size:=by obtain⟨_,q,_⟩:=h4;exact Av q
  have keep2:∀q o,q∉[e,it]->s.heap.get? q=some o->h''.get? q=some o:=λq o hq eq=>by
   simp only[Aj,Cr,or_false,not_or]at hq;exact(sb.2 q hq.1).trans (hk q o hq.1 hq.2 eq)
  have hp2:h''.get? s.heap.objs.size=some {cls:=.type "tuple",data:=.seq [.int (i:Nat) tk,x].toArray}:=(sb.2 _ (Dk lte)).trans a3;have I1:Inv X pins Z (aY H s.heap.objs.size (.tup [.int (i:Nat),xs[i]])) {s with heap:=h'',toks:=tk+1}:=I.laidT (its:=[.int (i:Nat) tk,x]) hf keep2 (by show 2<=Ao;decide) (.cons ⟨_,rfl⟩ (.cons ru .nil)) hp2;refine⟨.ref s.heap.objs.size,_,I1,rfl,⟨s.heap.objs.size,xs[i],Au hi,hfr,rfl,rfl⟩,⟨⟨x,by rw[Int.natCast_add];exact e'⟩,a2.1.extBut sb.extBut hne.symm⟩,λq hq=>?_⟩;rw[bF]
  .exact(hf q hq).1
  .intro eq;subst eq;simp only[Aj,Cr,or_false]at hq;rcases hq with q|q
   .exact Dk lte q
   .exact Dk lti q
 done:=by
  intro X hP hw hK hc i pins s Z H E I hf st hg;subst hP hw hK;obtain⟨⟨old,h1⟩,h4⟩:=st;obtain⟨hqa,rfl⟩:=hg;obtain⟨its,rv,pl,hz⟩:=I.tuple hqa;have l1:=rv.length;refine wpAny_pyNext_enum_endD (Et.draws (A:=X.A.in1) (I.ok.hd hc) it a hia its.toArray) h1 (show Heap.IsTupleIter s.heap it a its.toArray.size/\Heap.IsTuple s.heap a its.toArray from⟨by rw[Bd,<-l1];exact h4,pl⟩) λh' hk=>⟨rfl,?_⟩
  exact I.turnedT (tk:=s.toks) hf λq o hq eq=>hk q o (λz=>hq (by simp[z])) eq
 self:=λ_ _ _ _ _ st h=>by
  obtain⟨⟨old,h1⟩,_⟩:=st;exact Ld h1 h
def zcf(K:Ac)(ta:TA):TI:=λZ H R=>ta Z H λvs H1=>∃a xs,vs=[.ref a]/\bS K H1 a xs/\R (LO K a xs) H1
theorem zcg{a:Expr}{ta:TA}{p pos:Pos}{es:List Expr}{kx:Nat}{px:Pos}(hg:Gl X "enumerate")(hm:X.mg "enumerate" = none)(ha:PA X [a] ta)(hs:Bj [a] X.env=[(false,eval a X.env)]:=by rfl):
  PI X (.Tuple es kx px) (.Call (.Name "enumerate" p) [a] [] pos) (zcf X.K ta):=by
 intro pins s Z H R I h;refine Call_ (jX I hg hm boot_enumerate (Dx (bA (ha pos pins s Z H _ I h) λus s1 ⟨vs,H1,I1,r1,q1⟩=>?_) hs rfl));obtain⟨a,xs,rfl,hqa,q⟩:=q1;obtain⟨u,rfl,ru⟩:=vals1 r1;cases ru;obtain⟨its,rv1,pl,hz⟩:=I1.tuple hqa;have la:a<s1.heap.objs.size:=by obtain⟨o,e,_⟩:=pl;exact Av e
 refine Et.call_new pl λh' g1 g2 k=>?_;refine Ld g1 ?_;refine⟨s1.heap.objs.size+1,[s1.heap.objs.size+1,s1.heap.objs.size],_,_,H1,rfl,I1.kept (t':=s1.toks) k,zce a _ _ xs (tY 1 (by decide)) (Bi (Bs (Nat.lt_succ_of_lt la))) (Bs la),⟨⟨_,g1⟩,g2⟩,λq hq=>?_,q⟩;have hge:s1.heap.objs.size<=q:=by
  simp only[Aj,Cr,or_false]at hq;rcases hq with e|e
  .rw[e];exact GH 1
  .rw[e];exact Ai _
 exact I1.fpOk hge (I1.hok.fresh hge)
end
end L2
namespace L3
open PySem Spec PyProof.Rows L2
section
variable {X:Cx}{a:Expr}
def AZ(ta:dY):iT:=λτ M R=>ta τ M λws M1=>∃zs,ws=[.tup zs]/\R (g9 0 zs) (λ_=>True) M1
theorem LP{tA:dY}{p pos:Pos}{es:List Expr}{kx:Nat}{px:Pos}(hg:Gl X "enumerate")(hm:X.mg "enumerate" = none)(ha:A3 X [a] tA)(hs:Bj [a] X.env=[(false,eval a X.env)]:=by rfl):PI X (.Tuple es kx px) (.Call (.Name "enumerate" p) [a] [] pos) (iG X.K (AZ tA)):=
 (zcg hg hm ha hs).weak λZ H R' z0=>z0.el λτ M R as am h k=>⟨τ,M,_,as,am,h,λvs H1 ws M1 k1 am1 ax ⟨zs,ew,r⟩=>by
  subst ew;obtain⟨v,rfl,av⟩:=ax.one;exact av.tupE λb xs eb fb qb=>⟨b,xs,by rw[eb],bS.of fb,k _ _ _ _ _ k1 am1 (by
   have st:∀H M,Kp H1 M1 H M->AM X.K H M->bS X.K H b xs:=λH M k _=>bS.of (k.fr _ _ (am1.noTup fb) fb).1;refine⟨λi H M k am kp hi=>⟨st H M k am,by rw[oG]at hi;rw[qb.length];exact hi⟩,λH M k am kp=>⟨st H M k am,by rw[oG,qb.length]⟩,λi H M x H' k am kp hi y=>?_⟩;obtain⟨pp,u,hu,hn,rfl,rfl⟩:=y;obtain⟨w,hw,av⟩:=(qb.kp am1 k).getV hu;obtain⟨am2,k2⟩:=am.tup (u:=.tup [.int (i:Nat),u]) hn;exact⟨.tup [.int ((i:Nat):Int),w],by rw[rQ,hw];simp,k2,am2,.tup cQ (.cons (.int _) (.cons (av.go (go_same hn)) .nil))⟩) r⟩⟩
end
end L3
namespace Rg
open PySem Spec PyProof.Rows L2 L3
def dC(f:a9):W:=.tup ((fK f).map wK)
def mN(own:Str->Bool)(ps:List Str)(cut:List Int):List a9:=ps.zipIdx.filterMap λx=>if own x.1=true then some (x.1,cut.getD x.2 0,cut.getD (x.2+1) 0) else none
structure Wb(G:Sr)(B:bN):Prop where
 own:∀t,G.own t=fG G.rs t
 few:G.rs.length<=100
 ord:sG G B
 bl:B.length<=1000
 pl:∀r∈G.rs,r.parts.length<=100
abbrev mO(B:bN):W:=.ft (dU fK gA B)
def LQ:bL:=λws M R=>∃(rs:List a7) (ps:List Str) (cut:List Int),ws=[.dk (ownOf rs),.tup (ps.map W.str),fT cut]/\cut.length=ps.length+1/\ps.length<=100/\bH ((mN (fG rs) ps cut).map dC) M R
def sO(G:Sr)(B:bN)(p:a9->Bool):Prop:=∀e∈B,p e.1=true->∀f∈mN G.own (kC G e.2.2.1) e.2.2.2,p f=true
def LR:bL:=λws M R=>∃(G:Sr) (B:bN) (aQ:a9),ws=[dA G.rs,mO B,dC aQ]/\Wb G B/\aQ∈B.map (·.1)/\∀p:a9->Bool,p aQ=true->sO G B p->(∀q:a9->Bool,q aQ=true->sO G B q->∀f,p f=true->q f=true)->bH (((B.map (·.1)).filter p).map dC) M R
def A0:bL:=λws M R=>∃(t:Str) (b e:Int),ws=[.str t,.int b,.int e]/\R (.str t) M
abbrev zch:List Str:=["own","parts","cut"]
def zci:aJ:=
   (bW (gF (AZ (aB (aA 1) aG)) (jM 2 (eO (bM 0) (eO (bM 1) jL))) (bZ (aF (rIn false) (aA 1) (aA 2))) (cM (aB (aA 1) (aB (aF aR (aA 3) (aA 0)) (aB (aF aR (aA 3) (aF c8 (aA 0) (vC (.int 1)))) aG)))) [none,none,some 0,some 2]))
abbrev zcj:List Str:=["grammar","best","top","own","found","waiting","told","fact"]
def zck:aJ:=
   (bE 3 (bV vR (aB (eA (bV vM (aB (aA 0) aG))) aG)))
def zcl:aJ:=
   (bE 4 (LN (aA 2) (vC (.bl true))))
def zcm:aJ:=
   (bE 5 (gR (aB (aA 2) aG)))
def zcn:aJ:=
   (aT (bE 6 (aF aR (aA 1) (pL "list" rPop (aA 5))))
   (eD (dJ fR (eA (bV LQ (aB (aA 3) (aB (aF aR (aF aR (aA 0) (aF aR (aA 6) (vC (.int 1)))) (vC (.int 1))) (aB (aF aR (aA 6) (vC (.int 2))) aG)))))) (bM 7)
    (dB (bZ (aF (rIn true) (aA 7) (aA 4)))
    (aT (gS (vC (.bl true)) (iF (aA 4) (aA 7)))
   (dZ (dE "list" fF (aA 5) (aB (aA 7) aG))))
    eP)))
def zco:aJ:=
   (pT (i6 (aA 5)) zcn)
def zcp:aJ:=
   (bW (gF (dJ jT (aA 1)) (bM 0) (bZ (aF (rIn false) (aA 0) (aA 1))) (aA 0) [none,some 4]))
def zcq:aJ:=(aT zck (aT zcl (aT zcm (aT zco zcp))))
abbrev zcr:List Str:=["word","begin","end"]
def zcs:aJ:=
   (bW (aA 0))
theorem LS{rs:List a7}(h:rs.length<=100):(namesOf rs).length<=400:=by
 have h1:=u0 (rs.map a7.name) [];rw[Ab,Jx,Gp]at h1;exact Az h1 (Az h (by decide))
theorem qE{cut:List Int}{k:Nat}(h:k<cut.length):cG (cut.map W.int) (k:Int)=some (.int (cut.getD k 0)):=fA (by rw[Ax,Ei,Au h];rfl)
theorem zct{ws:List W}{M:Mm}{R:K3}(h:A0 ws M R):zcs (bP R) (bX zcr ws) M:=by
 obtain⟨t,b,e,rfl,r⟩:=h;exact⟨_,rfl,_,Sub.refl _,r⟩
def A1(rs:List a7)(cut:List Int):W->Option W
 | .tup [.int i,.str t]=>if fG rs t=true then some (dC (t,cut.getD i.toNat 0,cut.getD (i.toNat+1) 0)) else none
 | _=>none
theorem zcu{F:W->Option W}{ws:List W}{os:List (Option W)}(h:Fs (λw o=>o=F w) ws os):os.filterMap id=ws.filterMap F:=by
 induction h with
 | nil=>rfl
 | cons a _ ih=>rw[a,Gv,Gv,ih];rfl
theorem zcv(rs:List a7)(cut:List Int)(ps:List Str):(g9 0 (ps.map W.str)).filterMap (A1 rs cut)=(mN (fG rs) ps cut).map dC:=by
 unfold mN;rw[enum_zip,Il,List.map_filterMap];refine congrArg (λf=>List.filterMap f ps.zipIdx) (funext λx=>?_);show(if fG rs x.1=true then _ else none)=_;rw[Dg]
 by_cases h:fG rs x.1=true
 .rw[if_pos h,if_pos h];rfl
 .rw[if_neg h,if_neg h];rfl
theorem zcw{ws:List W}{M:Mm}{R:K3}(h:LQ ws M R):zci (bP R) (bX zch ws) M:=by
 obtain⟨rs,ps,cut,rfl,hc,hp,r⟩:=h;refine⟨_,rfl,_,rfl,X3 (rest:=[some (.dk (ownOf rs)),some (fT cut)]) (λw o=>o=A1 rs cut w) (λw hw=>?_) (gJ (by rw[oG,Ab];lia)) (λ_ _=>trivial) (λa b hm M' C D sb h1 h2=>?_) λos po=>?_⟩
 .rw[enum_zip]at hw;obtain⟨x,_,rfl⟩:=Ay.mp hw;exact⟨_,_,rfl⟩
 .rw[enum_zip]at hm;obtain⟨⟨t,k⟩,hx,e⟩:=Ay.mp hm;cases e;have hk:=(An.mp (Hd.mp hx)).1;have ep:A1 rs cut (.tup [.int (k:Int),.str t])=if fG rs t=true then some (dC (t,cut.getD k 0,cut.getD (k+1) 0)) else none:=rfl;have ho:(bD (ownOf rs) (Sum.inr t:aE)).isSome=fG rs t:=AR rs t;exact⟨_,rfl,_,rfl,_,⟨Sum.inr t,rfl,rfl⟩,_,rfl,cU (λz=>⟨_,rfl,_,rfl,_,rfl,_,qE (by lia),_,rfl,_,rfl,_,qE (k:=k+1) (by lia),z3,h1 _ (by rw[ep,if_pos (ho.symm.trans z)];rfl)⟩) λz=>h2 (by rw[ep,if_neg (ne_true_of_eq_false (ho.symm.trans z))])⟩
 .rw[zcu po,zcv];exact AQ r
structure FW(G:Sr)(B:bN)(aQ:a9)(ex:a9->Prop)(fs wt:List a9):Prop where
 tp:aQ∈fs
 nd:fs.Nodup
 sub:∀f∈fs,f∈B.map (·.1)
 wq:∀f∈wt,f∈fs
 wl:wt.length<=fs.length
 cl:∀e∈B,e.1∈fs->e.1∈wt\/ex e.1\/∀f∈mN G.own (kC G e.2.2.1) e.2.2.2,f∈fs
 mn:∀q:a9->Bool,q aQ=true->sO G B q->∀f∈fs,q f=true
theorem FW.len{G:Sr}{B:bN}{aQ:a9}{fs wt:List a9}{ex:a9->Prop}(h:FW G B aQ ex fs wt):fs.length<=B.length:=by
 have:=len_sub h.nd h.sub;rw[Ab]at this;exact this
theorem FW.add{G:Sr}{B:bN}{aQ g:a9}{fs wt:List a9}{ex:a9->Prop}(h:FW G B aQ ex fs wt)(hg:g∉fs)(hb:g∈B.map (·.1))(hm:∀q:a9->Bool,q aQ=true->sO G B q->q g=true):FW G B aQ ex (fs++[g]) (wt++[g]):=by
 refine⟨Ci _ h.tp,?_,λf hf=>?_,λf hf=>?_,(by rw[Ak,Ak];exact Nat.add_le_add_right h.wl _),λe he hf=>?_,λq h1 h2 f hf=>(Bo.mp hf).elim (h.mn q h1 h2 f) λz=>by rw[Am.mp z];exact hm q h1 h2⟩
 .rw[Fi];exact⟨h.nd,(by simp),λa ha b hb e=>hg (by cases Am.mp hb;rw[<-e];exact ha)⟩
 .rcases Bo.mp hf with z|z
  .exact h.sub f z
  .cases Am.mp z;exact hb
 .rcases Bo.mp hf with z|z
  .exact Ci _ (h.wq f z)
  .exact Cf _ z
 .rcases Bo.mp hf with z|z
  .rcases h.cl e he z with y|y|y
   .exact .inl (Ci _ y)
   .exact .inr (.inl y)
   .exact .inr (.inr λf hf=>Ci _ (y f hf))
  .exact .inl (Cf _ z)
def lJ(fs:List a9):W->Option W
 | .tup [.str n,.int b,.int e]=>if (n,b,e)∈fs then some (.tup [.str n,.int b,.int e]) else none
 | _=>none
theorem LU(fs gs:List a9):(gs.map dC).filterMap (lJ fs)=(gs.filter λf=>decide (f∈fs)).map dC:=by
 induction gs with
 | nil=>rfl
 | cons f gs ih=>
  have e:lJ fs (dC f)=if f∈fs then some (dC f) else none:=rfl;rw[Bb,Gv,Ey,e,ih]
  by_cases h:f∈fs
  .rw[if_pos h,if_pos (decide_eq_true h),Bb]
  .rw[if_neg h,if_neg (by rw[decide_eq_false h];exact Ar)]
theorem A2{B:bN}{f:a9}(h:f∈B.map (·.1)):∃v,aD B f=some v/\bD (dU fK gA B) (fK f)=some (gA v):=by
 obtain⟨v,hv⟩:=Cj.mp (fL.mpr h);exact⟨v,hv,by rw[lD nM,hv];rfl⟩
theorem zcx{G:Sr}{B:bN}(o:sG G B){e:En}(he:e∈B):aD B e.1=some e.2:=by
 obtain⟨a,b,sp⟩:=List.append_of_mem he;obtain⟨r,E⟩:=o a e b sp;rw[sp,vY,E.no,cY,if_pos rfl];rfl
theorem LV{G:Sr}{pre:bN}{e:En}{r:a7}(E:qC G pre e r){g:a9}(hg:g∈mN G.own r.parts e.2.2.2):g∈pre.map (·.1):=by
 obtain⟨⟨t,k⟩,hx,e1⟩:=Fp.mp hg;have hx:=Hd.mp hx
 by_cases ho:G.own t=true
 .rw[if_pos ho]at e1;cases e1;exact fL.mp (E.pn k t hx ho)
 .rw[if_neg ho]at e1;cases e1
theorem wO{G:Sr}{pre:bN}{e:En}{r:a7}(E:qC G pre e r):kC G e.2.2.1=r.parts:=by unfold kC;rw[E.ru];rfl
theorem zcy{ws:List W}{M:Mm}{R:K3}(h:LR ws M R):zcq (bP R) (bX zcj ws) M:=by
 obtain⟨G,B,aQ,rfl,w,ht,r⟩:=h;have hown:G.own=fG G.rs:=funext w.own;refine xI rfl ⟨G.rs,rfl,(Az w.few (by decide)),bH.frz ⟨namesOf G.rs,rfl,LS w.few,λp hp=>xI rfl ⟨aX,fK aQ,rfl,xI rfl ⟨z1,λq hq=>?_⟩⟩⟩⟩;rw[fM]at hq⊢;have hpq:q≠p:=λe=>by rw[e,aX]at hq;cases hq
 have hq0:M q=none:=by rw[aU hpq]at hq;exact hq
 have atp:∀{X Y:MO},put (put M p X) q Y p=some X:=λ{X Y}=>by rw[aU (Bi hpq),aX]
 have setp:∀{X X' Y:MO},put (put (put M p X) q Y) p X'=put (put M p X') q Y:=λ{X X' Y}=>by rw[t9 hpq,fM]
 refine⟨λm τ M'=>∃fs wt o6 o7,τ=[some (dA G.rs),some (mO B),some (dC aQ),some (.dk (ownOf G.rs)),some (.ref p),some (.ref q),o6,o7]/\M'=put (put M p (.dT (iZ fs))) q (.lst (wt.map dC))/\FW G B aQ (λ_=>False) fs wt/\m=2*(B.length-fs.length)+wt.length,
  ⟨_,[aQ],[aQ],_,_,rfl,rfl,⟨List.mem_singleton_self _,(by simp),λf hf=>by cases Am.mp hf;exact ht,λf hf=>hf,Ai _,λe _ hf=>.inl hf,λq h1 _ f hf=>by rw[Am.mp hf];exact h1⟩,rfl⟩,?_⟩
 rintro m τ M' ⟨fs,wt,o6,o7,rfl,rfl,F,rfl⟩;refine xI rfl (.inl ⟨_,aX,cU (λh=>?_) λh=>?_⟩)
 .rcases Ea wt with e|⟨wt',f,e⟩
  .rw[e]at h;cases h
  rw[Eb]at e;subst e;obtain⟨v,hv,lv⟩:=A2 (F.sub f (F.wq f (by simp)));obtain⟨pre,post,sp⟩:=mE hv;obtain⟨ru,E⟩:=w.ord pre _ post sp;obtain⟨ru',h1,h2⟩:=sE (rs:=G.rs) (n:=v.2.1) (An.mp E.ru).1;cases (show some ru'=some ru from h1.symm.trans E.ru);refine xI rfl (xI rfl ⟨eU aX,_,_,by rw[Bc];exact aX,_,⟨fK f,rfl,lv.symm⟩,xI rfl (xI rfl (xI rfl (xI rfl ⟨_,h2,xI rfl (xI rfl (xI rfl ⟨G.rs,ru.parts,v.2.2,rfl,E.ln,w.pl ru (Bg h1),bH.frz (jQ ?_)⟩))⟩)))⟩);rw[fM,<-hown];obtain⟨pf,hpf⟩:∃pf,pf=mN G.own ru.parts v.2.2:=⟨_,rfl⟩;rw[<-hpf];have hpB:∀g∈pf,g∈B.map (·.1):=λg hg=>by
   rw[hpf]at hg;rw[sp,Bc];exact Ci _ (LV E hg)
  have hlen:=F.len;refine iW (λj τ M'=>∃fs2 wt2 o7,τ=[some (dA G.rs),some (mO B),some (dC aQ),some (.dk (ownOf G.rs)),some (.ref p),some (.ref q),some (gA v),o7]/\M'=put (put M p (.dT (iZ fs2))) q (.lst (wt2.map dC))/\(∀g∈pf.take j,g∈fs2)/\FW G B aQ (λx=>x=f) fs2 wt2/\2*(B.length-fs2.length)+wt2.length+1<=2*(B.length-fs.length)+(wt'++[f]).length) ?_ ?_ ?_
  .refine⟨fs,wt',xI rfl ⟨rfl,(λg hg=>nomatch hg),⟨F.tp,F.nd,F.sub,λx hx=>F.wq x (Ci _ hx),Az (by rw[Ak];exact Nat.le_add_right _ _) F.wl,λe he hf=>?_,F.mn⟩,by rw[Ak];exact Ai _⟩⟩;rcases F.cl e he hf with y|y|y
   .rcases Bo.mp y with y|y
    .exact .inl y
    .exact .inr (.inl (Am.mp y))
   .exact y.elim
   .exact .inr (.inr y)
  .rintro j x τ M' hx ⟨fs2,wt2,o7,rfl,rfl,hin,F2,hm⟩ D1 hD1;rw[Ax]at hx;obtain⟨g,hg,rfl⟩:=Bf.mp hx;have hgm:=Bg hg;have hl2:=F2.len;have hbl:=w.bl;refine xI rfl (xI rfl (.inr ⟨_,.inr ⟨iZ fs2,fK g,atp,rfl,rfl⟩,xI rfl ?_⟩));show if (!(bD (iZ fs2) (fK g)).isSome)=true then _ else _;rw[AU];refine cU (λhn=>?_) λhn=>?_
   .have hn:g∉fs2:=of_decide_eq_false (by rw[<-Lg (decide _),hn];rfl);have F3:=F2.add hn (hpB g hgm) λq h1 h2=>h2 (f,v) (by rw[sp];simp) (F.mn q h1 h2 f (F.wq f (by simp))) g (by rw[show kC G v.2.1=ru.parts from wO E,<-hpf];exact hgm);have hl3:=F3.len;rw[Ak,Bl]at hl3;have lw:=F2.wl;refine xI rfl (xI rfl (rP (k:=fK g) atp (by unfold iZ;rw[Ab];exact d8 (by lia)) ?_));rw[zb8 hn,setp];refine xI rfl ⟨eU aX,xI rfl ⟨_,aX,d8 (by rw[Ab];lia),hD1 _ _ ⟨fs2++[g],wt2++[g],xI rfl ⟨?_,λy hy=>?_,F3,?_⟩⟩⟩⟩
    .rw[fM,Bc];rfl
    .rw[Cd,hg]at hy;rcases Bo.mp hy with z|z
     .exact Ci _ (hin y z)
     .exact Cf _ z
    .rw[Ak,Ak,Bl];lia
   .have hn:g∈fs2:=of_decide_eq_true (by rw[<-Lg (decide _),hn];rfl);refine hD1 _ _ ⟨fs2,wt2,xI rfl ⟨rfl,λy hy=>?_,F2,hm⟩⟩;rw[Cd,hg]at hy;rcases Bo.mp hy with z|z
    .exact hin y z
    .cases Am.mp z;exact hn
  .rintro τ M' ⟨fs2,wt2,o7,rfl,rfl,hin,F2,hm⟩;rw[Ab,Bw]at hin;refine⟨_,_,hm,Sub.refl _,fs2,wt2,_,xI rfl ⟨rfl,⟨F2.tp,F2.nd,F2.sub,F2.wq,F2.wl,λe he hf=>?_,F2.mn⟩,rfl⟩⟩;rcases F2.cl e he hf with y|y|y
   .exact .inl y
   .have:=zcx w.ord he;rw[y,hv]at this;refine .inr (.inr λg hg=>hin g ?_);rw[<-Bx this,show kC G v.2.1=ru.parts from wO E]at hg;rw[hpf];exact hg
   .exact .inr (.inr y)
 .have e:wt=[]:=by
   cases wt with
   | nil=>rfl
   | cons a b=>cases h
  subst e;have hbl:=w.bl;refine xI rfl (uY (rest:=[some (.ref p)]) (lJ fs) (gJ (by rw[Ab,Ab];lia)) (λ_ _=>trivial) (λx hx M3 C D sb d1 d2=>?_) ?_)
  .rw[Bh]at hx;obtain⟨e,he,rfl⟩:=Ay.mp hx;have ei:lJ fs (dC e.1)=if e.1∈fs then some (dC e.1) else none:=rfl;refine xI rfl (xI rfl (.inr ⟨_,.inr ⟨iZ fs,fK e.1,sb _ _ atp,rfl,rfl⟩,xI rfl ?_⟩));show if (bD (iZ fs) (fK e.1)).isSome=true then _ else _;rw[AU];exact cU (λz=>xI rfl (d1 _ (by show lJ fs (dC e.1)=_;rw[ei,if_pos (of_decide_eq_true z)];rfl))) λz=>d2 (by show lJ fs (dC e.1)=_;rw[ei,if_neg (of_decide_eq_false z)])
  .have e:((dU fK gA B).map λp=>W.tup (p.1.map wK))=(B.map (·.1)).map dC:=by rw[Bh,Bh];rfl
   rw[e,LU];have z:=r (λf=>decide (f∈fs)) (decide_eq_true F.tp) λe he hf f hm=>by
    rcases F.cl e he (of_decide_eq_true hf) with y|y|y
    .cases y
    .exact y.elim
    .exact decide_eq_true (y f hm)
   have z:=z λq h1 h2 f hf=>F.mn q h1 h2 f (of_decide_eq_true hf);intro s hs;have hs1:s≠q:=λe=>by rw[e,aX]at hs;cases hs
   have hs2:s≠p:=λe=>by rw[e,atp]at hs;cases hs
   rw[aU hs1,aU hs2]at hs;exact⟨_,Sub.put (fJ (fJ (Sub.refl _) hp) hq0),z s hs⟩
theorem zcz{G:Sr}{B:bN}(o:sG G B):(B.map (·.1)).Nodup:=by
 rw[Ki,List.pairwise_map];refine Km.mpr λi j hi hj hij e=>?_;obtain⟨r,E⟩:=o (B.take j) B[j] (B.drop (j+1)) (by rw[<-Kn hj,Jh]);have hm:B[j].1∈(B.take j).map (·.1):=by
  rw[<-e];exact Em (Hz.mpr ⟨i,by rw[Bq];lia,by rw[List.getElem_take]⟩)
 rw[<-fL,E.no]at hm;cases hm
theorem zcA{l:List a9}(nd:l.Nodup){a b:List a9}{f:a9}(e:l=a++f::b){j:Nat}(h:l[j]? = some f):l.take j=a:=by
 have:j=a.length:=(List.getElem?_inj (An.mp h).1 nd).mp (h.trans (by rw[e,List.getElem?_append_right (Ai _),Nat.sub_self];rfl));rw[this,e,List.take_left]
end Rg
namespace M69
open PySem Spec PyProof.Rows L2 L3 Rg
def Wk(arr:List dH):Int->List SI->Int->Prop
 | b,[],e=>b=e
 | b,x::y,e=>(b,x.1,x.2)∈arr/\Wk arr x.2 y e
theorem Wk.cat{arr:List dH}:∀{b m e:Int} {x y:List SI},Wk arr b x m->Wk arr m y e->Wk arr b (x++y) e
 | b,m,e,[],y,h,h'=>by cases (show b=m from h);exact h'
 | b,m,e,z::x,y,h,h'=>⟨h.1,Wk.cat h.2 h'⟩
section
variable {rs:List a7}{mc:Mc}{ks:List dH}{B:bN}
theorem A5(hk:∀a,a∈ks↔a∈mc.arr)(h:iK (cB rs mc ks) B){f:a9}{x:aL×Nat×List Int}(e:aD B f=some x):((yT (cB rs mc ks) B f).length:Int)=x.1.1/\Wk mc.arr f.2.1 (yT (cB rs mc ks) B f) f.2.2:=by
 obtain⟨pre,post,hb⟩:=mE e;refine zbT (λ_=>rfl) h (λf v y=>(y.length:Int)=v/\Wk mc.arr f.2.1 y f.2.2) (λr hr b hb e v y p=>?_) _ pre (f,x) post rfl hb;show(y.length:Int)=v/\Wk mc.arr b y e;clear hr hb;generalize r.parts=ts at p
 induction p with
 | nil=>exact⟨rfl,rfl⟩
 | @cons t ts b m e u v x y hs _ ih=>
  have:(x.length:Int)=u/\Wk mc.arr b x m:=by
   rcases hs with⟨_,h1,rfl⟩|⟨_,h1⟩
   .obtain⟨rfl,h2⟩:=kD.mp h1;exact⟨rfl,(hk _).mp h2,rfl⟩
   .exact h1
  refine⟨?_,this.2.cat ih.2⟩;rw[Ak];have:=this.1;have:=ih.1;lia
def wQ(rs:List a7):Nat->W->Str->List Str->Prop
 | 0,_,_,_=>False
 | d+1,w,X,ts=>∃(n:Nat) (r:a7) (kids:List W) (ps:List (List Str)),w=.tup [.int n,.tup kids]/\rs[n]? = some r/\r.name=X/\kids.length=r.parts.length/\ps.length=r.parts.length/\ts=ps.flatten/\
   ∀(k:Nat) (t:Str) (p:List Str),r.parts[k]? = some t->ps[k]? = some p->(fG rs t=false->kids[k]? = some (W.str t)/\p=[t])/\(fG rs t=true->∃w',kids[k]? = some w'/\wQ rs d w' t p)
theorem zcB(h:iK (cB rs mc ks) B):∀(m:Nat) (pre post:bN) (e:En),B=pre++e::post->pre.length<m->wQ rs m (nQ (cB rs mc ks) B e.1) e.1.1 ((yT (cB rs mc ks) B e.1).map Dr):=by
 intro m
 induction m with
 | zero=>intro pre post e _ hm;exact absurd hm (Nat.not_lt_zero _)
 | succ m ih=>
  intro pre post e hb hm;obtain⟨r,E⟩:=AA h pre e post hb;refine⟨e.2.2.1,r,_,(r.parts.zipIdx.map λx=>if (cB rs mc ks).own x.1=true then yT (cB rs mc ks) B (x.1,e.2.2.2.getD x.2 0,e.2.2.2.getD (x.2+1) 0) else [(x.1,e.2.2.2.getD (x.2+1) 0)]).map (Jt Dr),AB hb E,E.ru,by rw[E.fa],by unfold mJ;simp,by simp,?_,λk t p ht hp=>?_⟩
  .rw[v5 hb E,mK,List.map_flatten]
  .have hz:r.parts.zipIdx[k]? = some (t,k):=by rw[Ju,ht,Gp];rfl
   rw[Ax,Ax,hz]at hp;have hp:(if (cB rs mc ks).own t=true then yT (cB rs mc ks) B (t,e.2.2.2.getD k 0,e.2.2.2.getD (k+1) 0) else [(t,e.2.2.2.getD (k+1) 0)]).map Dr=p:=Bx hp;have hkid:(mJ (cB rs mc ks) (λt _ _=>W.str t) (nQ (cB rs mc ks) B) e.2.2.2 r.parts)[k]? = some (if (cB rs mc ks).own t=true then nQ (cB rs mc ks) B (t,e.2.2.2.getD k 0,e.2.2.2.getD (k+1) 0) else .str t):=by
    unfold mJ;rw[Ax,hz];rfl
   refine⟨λho=>?_,λho=>?_⟩
   .have ho:¬(cB rs mc ks).own t=true:=by rw[show(cB rs mc ks).own t=false from ho];exact Ar
    rw[if_neg ho]at hp hkid;exact⟨hkid,hp.symm⟩
   .have ho:(cB rs mc ks).own t=true:=ho;rw[if_pos ho]at hp hkid;refine⟨_,hkid,?_⟩;obtain⟨v,hv⟩:=Cj.mp (E.pn k t ht ho);obtain⟨p1,p2,e1,e2⟩:=K0 hb hv;have:=ih p1 _ _ e2 (by rw[e1,Ak]at hm;simp at hm;lia);rw[<-hp];exact this
theorem zcC(g:GQ rs)(q:MQ mc)(hk:∀a,a∈ks↔a∈mc.arr)(h:iK (cB rs mc ks) B){f:a9}(hf:f∈B.map (·.1)):f.1∈iL/\f.2.1∈bT mc.many/\f.2.2∈bT mc.many:=by
 obtain⟨S,I0,st,P,cur,T,A,hq,rfl,_⟩:=h;obtain⟨⟨m,n,cut⟩,hv⟩:=Cj.mp (fL.mpr hf);obtain⟨di,p,rfl⟩:=rY A.ob hv;obtain⟨r,hr⟩:=v7 di;have hr':rs[n]? = some r:=hr;obtain⟨h1,_,_⟩:=p0 (AF g q hk) di;refine⟨?_,h1 _ (zH di.ne),h1 _ (pZ di.ne)⟩;unfold cH cT;rw[hr];exact g.nm r (Bg hr')
theorem A6(g:GQ rs)(q:MQ mc)(hk:∀a,a∈ks↔a∈mc.arr)(h:iK (cB rs mc ks) B):B.length<=196:=by
 have:=len_sub (b:=iL.flatMap λX=>(bT mc.many).flatMap λb=>(bT mc.many).map λe=>(X,b,e)) (zbP h) λf hf=>by
  obtain⟨h1,h2,h3⟩:=zcC g q hk h hf;exact Dz.mpr ⟨f.1,h1,Dz.mpr ⟨f.2.1,h2,Ay.mpr ⟨f.2.2,h3,rfl⟩⟩⟩
 rw[Ab]at this;refine Az this ?_;have hn:(bT mc.many).length=mc.many:=by unfold bT;simp
 simp only[List.length_flatMap,Ab,hn,List.map_const',List.sum_replicate_nat];have:=q.few;have h4:iL.length=4:=rfl;rw[h4]
 calc 4*(mc.many*mc.many)<=4*(7*7):=Nat.mul_le_mul_left _ (Jf this this)
  _=196:=rfl
theorem zcD(g:GQ rs)(q:MQ mc)(hk:∀a,a∈ks↔a∈mc.arr)(h:iK (cB rs mc ks) B){f:a9}{x:aL×Nat×List Int}(e:aD B f=some x):wQ rs 196 (nQ (cB rs mc ks) B f) f.1 ((yT (cB rs mc ks) B f).map Dr):=by
 obtain⟨pre,post,hb⟩:=mE e;refine zcB h 196 pre post (f,x) hb ?_;have:=A6 g q hk h;rw[hb,Ak]at this;simp at this;lia
theorem zcE{G:Sr}(h:sG G B){e:En}(he:e∈B){f:a9}(hf:f∈mN G.own (kC G e.2.2.1) e.2.2.2):(yT G B f).length<=(yT G B e.1).length:=by
 obtain⟨pre,post,hb⟩:=List.append_of_mem he;obtain⟨r,E⟩:=h pre e post hb;rw[wO E]at hf;obtain⟨⟨t,k⟩,h1,h2⟩:=Fp.mp hf;have ho:G.own t=true:=by
  by_cases ho:G.own t=true
  .exact ho
  .rw[if_neg ho]at h2;cases h2
 rw[if_pos ho]at h2;cases h2;rw[v5 hb E];unfold mK;rw[List.length_flatten];have hm:yT G B (t,e.2.2.2.getD k 0,e.2.2.2.getD (k+1) 0)∈r.parts.zipIdx.map λx=>if G.own x.1=true then yT G B (x.1,e.2.2.2.getD x.2 0,e.2.2.2.getD (x.2+1) 0) else [(x.1,e.2.2.2.getD (x.2+1) 0)]:=Ay.mpr ⟨(t,k),h1,by rw[if_pos ho]⟩;generalize (r.parts.zipIdx.map λx=>if G.own x.1=true then yT G B (x.1,e.2.2.2.getD x.2 0,e.2.2.2.getD (x.2+1) 0) else [(x.1,e.2.2.2.getD (x.2+1) 0)])=L at hm;clear h1 hf
 induction L with
 | nil=>cases hm
 | cons a L ih=>
  rw[Bb,Mo];rcases Aj.mp hm with z|z
  .rw[z];lia
  .have:=ih z;lia
end
end M69
namespace Rg
open PySem Spec PyProof.Rows L2 L3
def A7(P:Int->Prop):Option Int->Prop
 | none=>∀v,¬P v
 | some v=>P v/\∀u,P u->v<=u
section
variable {rs:List a7}{row ws:List Str}{B:bN}
theorem zcF{U J:Type}[DecidableEq U]{t:List (U×J)}{k:U}{v:J}(h:(t.map (·.1)).Nodup):((bC t k v).map (·.1)).Nodup:=by
 unfold bC;split
 .rw[Bh];rw[show((λx:U×J=>x.1) ∘ λe=>if e.1=k then(e.1,v) else e)=λx=>x.1 from funext λe=>by simp only[Fn];split<;>rfl];exact h
 .rename_i z;rw[Bc,Fi];refine⟨h,by simp,λa ha b hb e=>z ?_⟩;rw[f6,fL];rw[Bb,Fu,Am]at hb;rw[show k=b from hb.symm,<-e];exact ha
end
abbrev Tb:=List (Int×Int)
abbrev Tq:=List ((Str×Int)×Tb)
def btr(t:Tb)(k v:Int):Bool:=match aD t k with
 | none=>true
 | some w=>decide (v<w)
theorem aget_inQ{U J:Type}[DecidableEq U]{t:List (U×J)}{k:U}{v:J}(h:aD t k=some v):(k,v)∈t:=by
 obtain⟨a,b,e⟩:=mE h;rw[e];simp
theorem in_agetQ{U J:Type}[DecidableEq U]{t:List (U×J)}(nd:(t.map (·.1)).Nodup){k:U}{v:J}(h:(k,v)∈t):aD t k=some v:=by
 induction t with
 | nil=>cases h
 | cons e t ih=>
  rw[Bb,Cs]at nd;rw[cY];rcases Aj.mp h with rfl|h
  .rw[if_pos rfl]
  .rw[if_neg (λz=>nd.1 (Ay.mpr ⟨_,h,z.symm⟩))];exact ih nd.2 h
end Rg
namespace L2
open PySem Spec PyProof.Rows
def frzAll(H:Hp)(ob:Addr->Obj)(l:List Addr):Hp:=λb=>if b∈l then(H b).map (HO.frz (ob b)) else H b
section
variable {X:Cx}{pins:List (Addr×Obj)}{Z:St}{H H3:Hp}{s:Ag}
theorem Inv.frzAll(I:Inv X pins Z H s):∀{l:List Addr},(∀a∈l,∃u,H a=some u/\IsDict u)->∃ob,Inv X pins Z (frzAll H ob l) s
 | [],_=>⟨λ_=>default,by
   have:L2.frzAll H (λ_=>default) []=H:=funext λb=>if_neg (by simp);rw[this];exact I⟩
 | a::l,h=>by
  obtain⟨ob,I2⟩:=I.frzAll (l:=l) λb hb=>h b (Ap _ hb)
  by_cases ha:a∈l
  .refine⟨ob,?_⟩;have:L2.frzAll H ob (a::l)=L2.frzAll H ob l:=funext λb=>by
    unfold L2.frzAll
    by_cases hb:b∈l
    .rw[if_pos hb,if_pos (Ap _ hb)]
    .rw[if_neg hb,if_neg (λz=>(Aj.mp z).elim (λe=>hb (by rw[e];exact ha)) hb)]
   rw[this];exact I2
  .obtain⟨u,e,hd⟩:=h a (Aw ..);obtain⟨o,I3⟩:=I2.frzD (a:=a) (u:=u) (by unfold L2.frzAll;rw[if_neg ha];exact e) hd;refine⟨λb=>if b=a then o else ob b,?_⟩;have:L2.frzAll H (λb=>if b=a then o else ob b) (a::l)=aY (L2.frzAll H ob l) a (.frz o u):=funext λb=>by
    unfold L2.frzAll aY
    by_cases hb:b=a
    .subst hb;rw[if_pos (Aw ..),if_pos rfl,e];show some (HO.frz (if b=b then o else ob b) u)=_;rw[if_pos rfl]
    .rw[if_neg hb];dsimp only;rw[if_neg hb]
     by_cases hl:b∈l
     .rw[if_pos hl,if_pos (Ap _ hl)]
     .rw[if_neg hl,if_neg (λz=>(Aj.mp z).elim hb hl)]
   rw[this];exact I3
def thawAll(H H3:Hp)(l:List Addr):Hp:=λb=>if b∈l then H b else H3 b
theorem Inv.thawAll{pins0:List (Addr×Obj)}{σ0:St}{s0:Ag}{l:List Addr}(I0:Inv X pins0 σ0 H s0)(I:Inv X pins Z H3 s)(h:∀a∈l,∃o u,IsDict u/\H a=some u/\H3 a=some (.frz o u)):Inv X pins Z (thawAll H H3 l) s:=by
 have nn:∀{b:Addr},H3 b=none->L2.thawAll H H3 l b=none:=λ{b} e=>by
  unfold L2.thawAll;rw[if_neg (λz=>by obtain⟨o,u,_,_,e2⟩:=h b z;rw[e]at e2;cases e2)];exact e
 have kk:∀{b:Addr} {v:HO},H3 b=some v->(∀o u,v≠.frz o u)->L2.thawAll H H3 l b=some v:=λ{b v} e ne=>by
  unfold L2.thawAll;rw[if_neg (λz=>by obtain⟨o,u,_,_,e2⟩:=h b z;rw[e]at e2;cases e2;exact ne _ _ rfl)];exact e
 have kt:∀b xs,H3 b=some (.tup xs)->L2.thawAll H H3 l b=some (.tup xs):=λb xs e=>kk e λ_ _ z=>nomatch z;have ko:∀b y,H3 b=some (.own y)->L2.thawAll H H3 l b=some (.own y):=λb y e=>kk e λ_ _ z=>nomatch z;refine⟨I.ok,I.os,I.bare,⟨I.base.keep,I.base.slot,λb o e n hx=>nn (I.base.free b o e n hx),I.base.there,λb xs e=>kt b xs (I.base.tups b xs e),λb o u e=>?_,λb ps e=>?_⟩,I.loc,I.cell,nn I.free,λx c e=>nn (I.freeC x c e),λp hp=>?_,λa v e=>?_,I.len⟩
 .have e3:=I.base.frzs b o u e;unfold L2.thawAll;rw[if_neg (λz=>?_)]
  .exact e3
  .obtain⟨_,u',hd,e0,_⟩:=h b z;rw[I0.base.frzs b o u e]at e0;cases e0;rcases hd with⟨_,z⟩|⟨_,z⟩<;>cases z
 .obtain⟨m,e1⟩:=I.base.tbls b ps e;exact⟨m,kk e1 λ_ _ z=>nomatch z⟩
 .obtain⟨h1,h2,h3⟩:=I.pin p hp;exact⟨h1,nn h2,h3⟩
 .unfold L2.thawAll at e;split at e
  .rename_i hl;obtain⟨o,u,hd,e0,e3⟩:=h a hl;rw[e0]at e;cases e;exact(I.hok a _ e3).2.stay (λ_ _ _ q=>q) (λc q=>ko c a q) kt
  .exact(I.hok a v e).stay (λ_ _ _ q=>q) (λc q=>ko c a q) kt
end
end L2
namespace L3
open PySem Spec PyProof.Rows L2
section
variable {X:Cx}
def sP(i:Nat)(t:aJ):aJ:=λD τ M=>∃p kvs,τ[i]? = some (some (.ref p))/\M p=some (.dK kvs)/\t D (τ.set i (some (.fk kvs))) (del M p)
theorem LW{K:Ac}{H:Hp}{M:Mm}{Z:SV}{τ:S3}{i:Nat}{v:V}{w:W}(h:AS K H M Z τ)(e:Z[i]? = some (some v))(a:AV K H M v w):AS K H M Z (τ.set i (some w)):=by
 have:=h.set a i;rwa [show Z.set i (some v)=Z from by
  apply List.ext_getElem?;intro j;rw[List.getElem?_set];split
  .rename_i z;subst z;split
   .exact e.symm
   .rename_i q;rw[Hj (by lia)]at e;cases e
  .rfl]at this
theorem A8{i:Nat}{st:Stmt}{t:aJ}(h:P3 X st t):P3 X st (sP i t):=by
 rintro pins s Z H E I ⟨τ,M,D,as,am,⟨p,kvs,e1,e2,h'⟩,k⟩;obtain⟨ks,f,q⟩:=am _ _ e2;obtain⟨o,I2⟩:=I.frzD f (.inl ⟨_,rfl⟩);obtain⟨g,am2,k2⟩:=zZ (o:=o) am e2 (.inl ⟨_,rfl⟩) f;obtain⟨v,z1,z2⟩:=as.get e1;obtain rfl:=z2.inv;exact h pins s Z _ E I2 ⟨_,_,D,LW (as.kp am k2) z1 (.fk cQ q.keys (q.vals.go g)),am2,h',k.kp k2⟩
abbrev oV:=List (aE×Int)
def gY(tb:oV):List (aE×W):=tb.map λe=>(e.1,W.int e.2)
def qF(tb:oV):List (aE×V):=tb.map λe=>(e.1,V.int e.2)
theorem wR{K:Ac}{H:Hp}{M:Mm}:∀tb:oV,bU K H M aE (qF tb) (gY tb)
 | []=>.nil
 | e::tb=>.cons ⟨rfl,.int _⟩ (wR tb)
theorem A9{K:Ac}{H:Hp}{M:Mm}:∀{ks:List (aE×V)} {tb:oV},bU K H M aE ks (gY tb)->ks=qF tb
 | [],[],_=>rfl
 | [],_::_,h=>nomatch h
 | _::_,[],h=>nomatch h
 | p::ks,e::tb,h=>by
  cases h with
  | cons r t=>
   rw[A9 t];obtain⟨k,v⟩:=p;obtain⟨r1,r2⟩:=r;cases (show k=e.1 from r1);cases (show v=V.int e.2 from r2.inv);rfl
def LX(i:Nat)(te:a0):a0:=λτ M R=>∃(a:Addr) (ls:List (List aE×Addr×oV)),τ[i]? = some (some (.ref a))/\M a=some (.dT (ls.map λx=>(x.1,.ref x.2.1)))/\(∀x∈ls,M x.2.1=some (.dK (gY x.2.2)))/\
 te (τ.set i (some (.ft (ls.map λx=>(x.1,.fk (gY x.2.2)))))) (λ_=>none) λw M'=>∃p tb,w=.ref p/\M' p=some (.dK (gY tb))/\uA (gY tb) M R
theorem LY{K:Ac}{H:Hp}{M:Mm}:∀{ks:List (List aE×V)} {ls:List (List aE×Addr×oV)},bU K H M (List aE) ks (ls.map λx=>(x.1,.ref x.2.1))->ks=ls.map λx=>(x.1,V.ref x.2.1)
 | [],[],_=>rfl
 | [],_::_,h=>nomatch h
 | _::_,[],h=>nomatch h
 | p::ks,e::ls,h=>by
  cases h with
  | cons r t=>
   rw[LY t];obtain⟨k,v⟩:=p;obtain⟨r1,r2⟩:=r;cases (show k=e.1 from r1);cases (show v=V.ref e.2.1 from r2.inv);rfl
theorem LZ{K:Ac}{H:Hp}{M:Mm}:∀{ls:List (List aE×Addr×oV)},(∀x∈ls,∃o,H x.2.1=some (.frz o (.dK (qF x.2.2))))->aN K H M ((ls.map λx=>(x.1,V.ref x.2.1)).map Fm) ((ls.map λx=>(x.1,W.fk (gY x.2.2))).map Fm)
 | [],_=>.nil
 | x::ls,h=>.cons (by
   obtain⟨o,e⟩:=h x (Aw ..);exact .fk e (wR (K:=K) (H:=H) (M:=M) _).keys (wR _).vals) (LZ λy hy=>h y (Ap _ hy))
theorem zcG{i:Nat}{e:Expr}{te:a0}(h:E3 X e te):E3 X e (LX i te):=by
 rintro pins s Z H Q I ⟨τ,M,R,as,am,⟨a,ls,e1,e2,e3,h'⟩,k⟩;obtain⟨ks,f,q⟩:=am _ _ e2;obtain rfl:=LY q;have f3:∀x∈ls,H x.2.1=some (.dK (qF x.2.2)):=λx hx=>by
  obtain⟨ks,f,q⟩:=am _ _ (e3 x hx);rw[f,A9 q]
 let l:List Addr:=a::ls.map λx=>x.2.1
 have hm:∀b∈l,∃o,M b=some o:=λb hb=>by
  rcases Aj.mp hb with rfl|hb
  .exact⟨_,e2⟩
  .obtain⟨x,hx,rfl⟩:=Ay.mp hb;exact⟨_,e3 x hx⟩
 have hd:∀b∈l,∃u,H b=some u/\IsDict u:=λb hb=>by
  rcases Aj.mp hb with rfl|hb
  .exact⟨_,f,.inr ⟨_,rfl⟩⟩
  .obtain⟨x,hx,rfl⟩:=Ay.mp hb;exact⟨_,f3 x hx,.inl ⟨_,rfl⟩⟩
 obtain⟨ob,I2⟩:=I.frzAll hd;have inn:∀{b u},b∈l->H b=some u->frzAll H ob l b=some (.frz (ob b) u):=λ{b u} hb e=>by unfold frzAll;rw[if_pos hb,e];rfl
 have out:∀{b},b∉l->frzAll H ob l b=H b:=λ{b} hb=>if_neg hb;have go:Go H M (frzAll H ob l) (λ_=>none):=by
  have ne:∀{b:Addr},M b=none->b∉l:=λ{b} e z=>by obtain⟨o,q⟩:=hm b z;rw[e]at q;cases q
  exact⟨λb xs eb=>by rw[out (ne (am.noTup eb))];exact eb,λb o u eb=>by rw[out (ne (am.noFrz eb))];exact eb,λb o n eb=>⟨by rw[out (ne n)];exact eb,rfl⟩⟩
 have am2:AM X.K (frzAll H ob l) (λ_=>none):=λb o z=>nomatch z;obtain⟨v,z1,z2⟩:=as.get e1;obtain rfl:=z2.inv;have as2:AS X.K (frzAll H ob l) (λ_=>none) Z τ:=Paired.mapP as λp r z w e=>by
  obtain⟨v,h1,h2⟩:=z w e;exact⟨v,h1,h2.go go⟩
 have as3:=LW as2 z1 (w:=.ft (ls.map λx=>(x.1,.fk (gY x.2.2)))) (.ft (inn (Aw ..) f) (by rw[Bh,Bh];rfl) (LZ λx hx=>⟨_,inn (Ap _ (Ay.mpr ⟨x,hx,rfl⟩)) (f3 x hx)⟩));refine bA (h pins s Z _ (λv H3=>(∀b o,frzAll H ob l b=some o->H3 b=some o)/\∃p tb,v=.ref p/\frzAll H ob l p=none/\H3 p=some (.dK (qF tb))/\uA (gY tb) M R) I2 ⟨_,_,_,as3,am2,h',λv H' w M' k' am' av ⟨p,tb,ew,eM,r⟩=>?_⟩) λv s1 ⟨x,H3,I3,r3,st,p,tb,ev,hp2,hp3,r⟩=>?_
 .subst ew;obtain rfl:=av.inv;obtain⟨ks,f4,q4⟩:=am' _ _ eM;refine⟨λb o z=>(k'.fr b o rfl z).1,p,tb,rfl,?_,by rw[f4,A9 q4],r⟩;cases z:frzAll H ob l p with
  | none=>rfl
  | some o=>rw[(k'.fr p o rfl z).2]at eM;cases eM
 .subst ev;have I4:=I.thawAll I3 (l:=l) λb hb=>by
   obtain⟨u,e,d⟩:=hd b hb;exact⟨ob b,u,d,e,st b _ (inn hb e)⟩
  have stay:∀b u,H b=some u->thawAll H H3 l b=some u:=λb u e=>by
   unfold thawAll
   by_cases hb:b∈l
   .rw[if_pos hb];exact e
   .rw[if_neg hb];exact st b u (by rw[out hb];exact e)
  have pl:p∉l:=λhb=>by
   obtain⟨u,e,_⟩:=hd p hb;rw[inn hb e]at hp2;cases hp2
  have hp:H p=none:=by rw[<-out pl];exact hp2
  have Mp:M p=none:=am.nonM hp;have hp4:thawAll H H3 l p=some (.dK (qF tb)):=by unfold thawAll;rw[if_neg pl];exact hp3
  have ne:∀{b u},H b=some u->b≠p:=λ{b u} e z=>by rw[z,hp]at e;cases e
  have go4:Go H M (thawAll H H3 l) (put M p (.dK (gY tb))):=⟨λb xs e=>stay b _ e,λb o u e=>stay b _ e,λb o n e=>⟨stay b _ e,by rw[aU (ne e)];exact n⟩⟩;refine⟨.ref p,_,I4,r3,k _ _ _ (put M p (.dK (gY tb))) ⟨go4.hl,λb o e=>?_⟩ (λb o e=>?_) (.ref p) (r p Mp)⟩
  .obtain⟨u,q⟩:=(am b o e).has;exact⟨u,stay b u q⟩
  .by_cases hb:b=p
   .subst hb;rw[aX]at e;cases e;exact⟨_,hp4,wR tb⟩
   .rw[aU hb]at e;obtain⟨u,q⟩:=(am b o e).has;exact(am b o e).go go4 (by rw[stay b u q,q])
end
section
variable {X:Cx}{a b:Expr}{ta tb:a0}{pos:Pos}
def L0(ta tb:a0):a0:=λτ M R=>∀p,M p=none->ta τ (put M p (.dK [])) λx M1=>tb τ M1 λy M2=>M2 p=some (.dK [])/\∃k:aE,x=wK k/\R (.ref p) (put M2 p (.dK [(k,y)]))
theorem zcH(ha:E3 X a ta)(hb:E3 X b tb):E3 X (.Dict [some a] [b] pos) (L0 ta tb):=
 (U4 (FY ha hb FX) rfl rfl (by simp) (by simp)).weak λZ H Q z0=>z0.el λτ M R as am h k=>λp hp=>by
  obtain⟨am0,k0⟩:=am.laid (o:=.dK []) (u:=.dK []) hp ⟨[],cQ,.nil⟩;refine⟨τ,_,_,as.kp am k0,am0,h p (am.nonM hp),λx H1 wx M1 k1 am1 ax h1=>⟨τ,M1,_,(as.kp am k0).kp am0 k1,am1,h1,λy H2 wy M2 k2 am2 ay ⟨e,kk,ex,r⟩=>?_⟩⟩;subst ex;obtain⟨ks,f,q⟩:=am2 _ _ e;cases q;obtain⟨am3,k3⟩:=am2.write (o:=.dK [(kk,wy)]) (u:=.dK [(kk,y)]) e ⟨_,cQ,.cons ⟨rfl,ay.wr am2 e⟩ .nil⟩;exact⟨f,[(kk,y)],by rw[(ax.kp am1 k2).key];rfl,by simp,k _ _ _ _ (((k0.trans k1).trans k2).trans k3) am3 (.ref _) r⟩
end
end L3
namespace Rg
open PySem Spec PyProof.Rows L2 L3
def Dq(d n:Addr)(M:Mm):Prop:=d≠n/\∃(ns:List Int) (v:Int),M d=some (.lst [.ref n,.int v])/\M n=some (.lst (ns.map W.int))
def Oq(d n:Addr)(M M':Mm):Prop:=∀p o,p≠d->p≠n->M p=some o->M' p=some o
theorem Oq.refl{d n:Addr}{M:Mm}:Oq d n M M:=λ_ _ _ _ h=>h
theorem Oq.trans{d n:Addr}{M M1 M2:Mm}(h:Oq d n M M1)(g:Oq d n M1 M2):Oq d n M M2:=λp o h1 h2 e=>g p o h1 h2 (h p o h1 h2 e)
theorem Oq.put{d n p:Addr}{M M':Mm}{o:MO}(h:Oq d n M M')(hp:M p=none):Oq d n M (put M' p o):=λq u q1 q2 e=>by
 have hq:q≠p:=λz=>by subst z;rw[hp]at e;cases e
 rw[aU hq];exact h q u q1 q2 e
theorem Dq.put{d n p:Addr}{M:Mm}{o:MO}(h:Dq d n M)(hp:M p=none):Dq d n (put M p o):=by
 obtain⟨a,ns,v,b,c⟩:=h;exact⟨a,ns,v,Sub.new hp _ _ b,Sub.new hp _ _ c⟩
theorem Dq.pot{d n p:Addr}{M:Mm}{o:MO}(h:Dq d n M)(h1:p≠d)(h2:p≠n):Dq d n (L3.put M p o):=by
 obtain⟨a,ns,v,b,c⟩:=h;exact⟨a,ns,v,by rw[aU (Bi h1)];exact b,by rw[aU (Bi h2)];exact c⟩
theorem Dq.del{d n p:Addr}{M:Mm}(h:Dq d n M)(h1:p≠d)(h2:p≠n):Dq d n (del M p):=by
 obtain⟨a,ns,v,b,c⟩:=h;exact⟨a,ns,v,by rw[kO (Bi h1)];exact b,by rw[kO (Bi h2)];exact c⟩
theorem Dq.ne{d n p:Addr}{M:Mm}(h:Dq d n M)(hp:M p=none):p≠d/\p≠n:=by
 obtain⟨a,ns,v,b,c⟩:=h;exact⟨λe=>(by rw[e,b]at hp;cases hp),λe=>(by rw[e,c]at hp;cases hp)⟩
def bQ(t:Tb):List (aE×W):=gY (t.map λe=>(Sum.inl e.1,e.2))
abbrev Lq:=List ((Str×Int)×Addr×Tb)
def fV(L:Lq):Tq:=L.map λx=>(x.1,x.2.2)
def wU(T:Tq):W:=.ft (T.map λe=>(eK e.1,.fk (bQ e.2)))
structure e9(M0 M:Mm)(a:Addr)(L:Lq):Prop where
 sub:L3.Sub M0 M
 new:M0 a=none
 at_:M a=some (.dT (dU eK (λy:Addr×Tb=>W.ref y.1) L))
 inn:∀x∈L,x.2.1≠a/\M0 x.2.1=none/\M x.2.1=some (.dK (bQ x.2.2))
 inj:(L.map λx=>x.2.1).Nodup
theorem qG{lo:Int}{n i:Nat}{w:W}(h:(j7 lo n)[i]? = some w):i<n/\w=.int (lo+i):=by
 unfold j7 at h;rw[Ax]at h;obtain⟨j,hj,rfl⟩:=Bf.mp h;obtain⟨h1,h2⟩:=An.mp hj;simp at h1 h2;subst h2;exact⟨h1,rfl⟩
theorem sQ{lo:Int}{n:Nat}:(j7 lo n).length=n:=by unfold j7;simp
theorem qH{ts:List Str}{z:Int}(h0:0<=z)(h1:z<(ts.length:Int)):∃t,cG (ts.map W.str) z=some (.str t)/\t∈ts:=by
 have hz:z.toNat<ts.length:=by lia
 refine⟨ts[z.toNat],?_,List.getElem_mem hz⟩;have e:cG (ts.map W.str) ((z.toNat:Nat):Int)=some (.str ts[z.toNat]):=fA (by rw[Ax,Au hz];rfl);rwa [show((z.toNat:Nat):Int)=z by lia]at e
theorem L4{x:W}{ws:List W}{M:Mm}{R:K3}(neg:Bool)(n:Nat)(hn:n<=60)(hx:dQ M x=.rl ws)(hw:Pl n (.rl ws))(h:R (.bl (if neg then !ws.isEmpty else ws.isEmpty)) M):rEq neg x (.rl []) M R:=by
 refine HV n hn (by rw[hx];exact hw) (by cases n with|zero=>exact(show False from hw).elim|succ n=>intro w hw;cases hw) λb hb=>?_;rw[hx]at hb;have:b=ws.isEmpty:=by
  rw[Dy,hb];show W.rl ws=W.rl []↔_;cases ws<;>simp
 rw[this];exact h
theorem zcI{xs:List Str}(h:∀x∈xs,mB x):Pl 1 (.rl (xs.map W.str)):=λw hw=>by
 obtain⟨x,hx,rfl⟩:=Ay.mp hw;exact h x hx
theorem zcJ{M:Mm}{a:Addr}{ws:List W}(h:M a=some (.lst ws)):dQ M (.ref a)=.rl ws:=by simp[dQ,h]
theorem L5{P:Str->Prop}:∀{ws:List W},(∀w∈ws,∃t,P t/\w=W.str t)->∃ts:List Str,ws=ts.map W.str/\∀t∈ts,P t
 | [],_=>⟨[],rfl,λ_ h=>nomatch h⟩
 | w::ws,h=>by
  obtain⟨t,ht,rfl⟩:=h w Aw;obtain⟨ts,rfl,hts⟩:=L5 λx hx=>h x (Ap _ hx);refine⟨t::ts,rfl,λx hx=>?_⟩;rcases Aj.mp hx with rfl|hx
  .exact ht
  .exact hts x hx
theorem Paired.getP{O J:Type}{F:O->J->Prop}:∀{l1:List O} {l2:List J} {i:Nat} {a:O},Fs F l1 l2->l1[i]? = some a->∃b,l2[i]? = some b/\F a b
 | _,_,_,_,.nil,e=>by simp at e
 | _,_,0,_,.cons r _,e=>by simp at e;subst e;exact⟨_,rfl,r⟩
 | _,_,i+1,_,.cons _ t,e=>by
  obtain⟨b,h1,h2⟩:=Paired.getP (i:=i) t (by simpa using e);exact⟨b,by simpa using h1,h2⟩
theorem BA{O:Type}{xss:List (List O)}{i:Nat}{xs:List O}(h:xss[i]? = some xs):(xss.take (i+1)).flatten=(xss.take i).flatten++xs:=by
 rw[zJ h,Kb];simp
theorem zcK{O:Type}{xss:List (List O)}{i:Nat}{xs:List O}(h:xss[i]? = some xs):(xss.take i).flatten.length+xs.length<=xss.flatten.length:=by
 have e:xss=xss.take (i+1)++xss.drop (i+1):=(Jh _ _).symm;have:=congrArg (λz=>(List.flatten z).length) e;simp only[Kb,Ak]at this;rw[BA h,Ak]at this;lia
end Rg
namespace Md
open PySem PyProof.Rows
def wV(o:Option Int)(x:Int):Option Int:=match o with
 | none=>some x
 | some m=>some (if x<m then x else m)
def jW(val:Nat->Int):Nat->Option Int
 | 0=>none
 | i+1=>wV (jW val i) (val i)
def Holds(S:Addr)(o:Option Int)(h:Heap):Prop:=∃(c:Nat) (xs:Array Ae),h.get? S=some {cls:=.type "list",dict:=none,data:=.seq xs c,slots:=#[]}/\match o with
 | none=>xs = #[]
 | some m=>∃t,xs = #[.int m t,.int m t]
section
variable {prog:Bt}{w:Cm}{A:Ck}{R:Result->Ag->Prop}{I:Addr}{fp wr:List Addr}{G:Array GenState->Array GenState->Prop}{n:Nat}{P:Nat->Ae->Prop}{St:Nat->Ag->Prop}
def zcL(o:Option Int)(v:Ae):Prop:=match o with
 | none=>v=.none
 | some m=>∃t,v=.int m t
theorem zcM(W:WalksS prog w A.in1 I fp wr G n P St)(S:Addr)(hf:S∉fp)(val:Nat->Int)(vl:∀i v,P i v->∃t,v=.int (val i) t):∀(k i:Nat) (s:Ag),n-i=k->i<=n->St i s->Holds S (jW val i) s.heap->
  (∀v s',zcL (jW val n) v->Moved (S::wr) G s s'->R (.ok (.ret v)) s')->Hq (Bn prog w) A (.builtin "min.loop" ⟨[.ref I,.none,.ref S],[("default",.none)]⟩) R s:=by
 have nw:S∉wr:=λh=>hf (W.sub _ h);have sb:∀b∈wr,b∈S::wr:=λb hb=>Ap _ hb;have nm:(toString "min"++toString ".loop" : String) = "min.loop":=by decide
 have nS:∀{b:Addr},b∉S::wr->S≠b:=λhb h=>hb (by rw[h];exact Aw);intro k
 induction k with
 | zero=>
  intro i s hk hi st ⟨c,xs,hS,ho⟩ hR;cases (show i=n by lia);refine Jc F.entry_min_loop ?_;rw[Gk Gy _];show Be _ A.in1 (Na (.ref S)>>=_) _ _ s;refine Aa (Ek hS rfl ?_);refine Aa (Hb (W.done s _ _ st λs' hm=>?_));have hS':=hm.heap S _ nw hS;cases e:jW val n with
  | none=>
   rw[e]at ho hR;subst ho;exact Aa (Hl (Ah (hR _ s' rfl (hm.mono sb))))
  | some m=>
   rw[e]at ho hR;obtain⟨t,rfl⟩:=ho;refine Aa (m:=Mx S λ_=>#[]) ?_;refine Jb hS' rfl (Aa (Gg (Ah ?_)));exact hR _ _ ⟨t,rfl⟩ ((hm.mono sb).then_heap (tk:=s'.toks) (Ai _) λb o hb e=>(Dc _ _ (nS hb)).trans e)
 | succ k ih=>
  intro i s hk hi st ⟨c,xs,hS,ho⟩ hR;refine Jc F.entry_min_loop ?_;rw[Gk Gy _];show Be _ A.in1 (Na (.ref S)>>=_) _ _ s;refine Aa (Ek hS rfl ?_);refine Aa (Hb (W.item i s _ _ (by lia) st λv s' hP st' hm=>?_));have hS':=hm.heap S _ nw hS;obtain⟨t,rfl⟩:=vl i v hP;have eB:jW val (i+1)=wV (jW val i) (val i):=rfl;have put:∀(c':Nat) (xs':Array Ae),s'.heap.get? S=some {cls:=.type "list",dict:=none,data:=.seq xs' c',slots:=#[]}->jW val (i+1)=some (val i)->Hq (Bn prog w) A (.builtin "min.loop" ⟨[.ref I,.none,.ref S],[("default",.none)]⟩) R {s' with heap:=s'.heap.update S (Jp λ_=>#[.int (val i) t,.int (val i) t])}:=λc' xs' h e=>
   ih (i+1) _ (by lia) (by lia) (W.frame _ s' _ s'.toks st' (Ai _) λb hb o eb=>(Dc _ _ (λh:S=b=>hf (by rw[h];exact hb))).trans eb) ⟨_,_,Gf _ h rfl,by rw[e];exact⟨t,rfl⟩⟩ λv' s'' hv hm''=>
    hR v' s'' hv (Moved.trans W.gtrans ((hm.mono sb).then_heap (tk:=s'.toks) (Ai _) λb o hb e=>(Dc _ _ (nS hb)).trans e) hm'')
  cases e:jW val i with
  | none=>
   rw[e]at ho eB;subst ho;refine Aa (m:=pure (Value.int (val i) t)) (Ah ?_);refine Aa (m:=Mx S λ_=>#[.int (val i) t,.int (val i) t]) ?_;refine Jb hS' rfl ?_;rw[nm];exact Ah ⟨Gh Gy _,put _ _ hS' eB⟩
  | some m=>
   rw[e]at ho eB;obtain⟨u,rfl⟩:=ho;refine Aa (m:=pure (Value.int (val i) t)) (Ah ?_);show Be _ A.in1 (tryCatch (Ho [Value.int (val i) t,Value.int (val i) t] (richCompare .Lt (Value.int (val i) t) (Value.int m u)>>=_)) _>>=_) _ _ _;refine Aa (Hb (Cv (Aa (CmpOf.ints_lt (prog:=prog) (w:=w) (A:=A.in1) (P:=λ(j:Nat) v=>∃t,v=.int (if j=0 then val i else m) t) (λj=>if j=0 then val i else m) (λi v h=>h) 0 1 _ _ _ _ _ ⟨t,rfl⟩ ⟨u,rfl⟩ ?_))));refine Aa (Cv (Gs ?_));refine Aa (Gg (Ah ?_));show Be _ A.in1 (if decide (val i<m)=true then _ else _) _ _ _
   by_cases hb:val i<m
   .rw[if_pos (decide_eq_true hb)];refine Aa (m:=Mx S λ_=>#[.int (val i) t,.int (val i) t]) ?_;refine Jb hS' rfl (Aa (Gg ?_));rw[nm];exact Ah ⟨Gh Gy _,put _ _ hS' (by rw[eB];show some (if _ then _ else _)=_;rw[if_pos hb])⟩
   .rw[if_neg (by rw[decide_eq_false hb];exact Ar)];refine Aa (Gg ?_);rw[nm];refine Ah ⟨Gh Gy _,ih (i+1) _ (by lia) (by lia) st' ⟨_,_,hS',?_⟩ λv' s'' hv hm''=>hR v' s'' hv (Moved.trans W.gtrans (hm.mono sb) hm'')⟩;rw[eB,show wV (some m) (val i)=some m by show some (if _ then _ else _)=_;rw[if_neg hb]];exact⟨u,rfl⟩
end
section
variable {prog:Bt}{w:Cm}{A:Ck}{E:Ae->Ag->Prop}{s:Ag}
theorem zcN(a v:Ae):argsOk "min" ⟨[a],[("default",v)]⟩:=by unfold argsOk;kernel_rfl
theorem L6(val:Nat->Int):∀n,match jW val n with|none=>n=0|some m=>(∃j,j<n/\m=val j)/\∀j,j<n->m<=val j
 | 0=>rfl
 | n+1=>by
  have ih:=L6 val n;show match wV (jW val n) (val n) with|none=>_|some m=>_
  cases e:jW val n with
  | none=>
   rw[e]at ih;have ih:n=0:=ih;subst ih;exact⟨⟨0,Nat.zero_lt_one,rfl⟩,λj hj=>by cases (show j=0 by lia);exact Ha _⟩
  | some m=>
   rw[e]at ih;obtain⟨⟨j,hj,h1⟩,h2⟩:=ih;show(∃j,j<n+1/\(if val n<m then val n else m)=val j)/\∀j,j<n+1->(if val n<m then val n else m)<=val j;refine⟨?_,λi hi=>?_⟩
   .split
    .exact⟨n,by lia,rfl⟩
    .exact⟨j,by lia,h1⟩
   .by_cases z:i=n
    .subst z;split<;>lia
    .have:=h2 i (by lia);split<;>lia
theorem callD{l:Addr}{items:Array Ae}{ns:List Int}{Q:Ae->Ag->Prop}(hh:A.handled=none)(hl:s.heap.IsList l items)(hi:Nc items.toList ns)(h:∀v (h':Heap) (tk:Nat),(∀b o,s.heap.get? b=some o->h'.get? b=some o)->((ns=[]/\v=.none)\/∃m t,v=.int m t/\m∈ns/\∀x∈ns,m<=x)->Q v {s with heap:=h',toks:=tk}):
  Be (Bn prog w) A (call (.builtin "min") [.ref l] [("default",.none)]) Q E s:=by
 have nm:(toString "min"++toString ".loop" : String) = "min.loop":=by decide
 have hlen:items.size=ns.length:=by
  have:∀{vs:List Ae} {ns:List Int},Nc vs ns->vs.length=ns.length:=by
   intro vs ns q
   induction q with
   | nil=>rfl
   | cons _ _ _ ih=>simp[ih]
  rw[<-this hi,Gr]
 have hlt:l<s.heap.objs.size:=by obtain⟨ol,hol,_⟩:=hl;exact Av hol
 refine kmk_tree F.kind_min F.plain_min F.entry_min (zcN _ _) ?_;show Be _ A.in1 (Gq "min" ["key","default"] 0 ⟨[],[("default",Value.none)]⟩>>=_) _ _ s;refine Aa (wpAny_of_eq (show Gq "min" ["key","default"] 0 ⟨[],[("default",Value.none)]⟩=pure [none,some .none] from rfl) ?_);refine Aa (Ah ?_);refine Aa (Jm hl ?_);refine Aa (Du ?_);rw[nm];have vl:∀(i:Nat) (v:Ae),items[i]? = some v->∃t,v=.int ((λi=>ns.getD i 0) i) t:=λi v hv=>IntsAre.int_at hi i v (by rw[Hf];exact hv);have hI:(s.heap.push {cls:=.type "list_iterator",data:=.fields #[.ref l,.int 0 0]}).objs.size=s.heap.objs.size+1:=Dn _ _;have hit:(s.heap.push {cls:=.type "list_iterator",data:=.fields #[.ref l,.int 0 0]}).get? s.heap.objs.size=some {cls:=.type "list_iterator",data:=.fields #[.ref l,.int 0 0]}:=Ba _ rfl;have hS0:((s.heap.push {cls:=.type "list_iterator",data:=.fields #[.ref l,.int 0 0]}).push {cls:=.type "list",data:=.seq #[]}).get? (s.heap.objs.size+1)=some {cls:=.type "list",data:=.seq #[]}:=by rw[<-hI];exact Ba _ rfl
 rw[hI];refine Ah ⟨Gh Gy _,zcM ((Walks.list (A:=A.in1) hh s.heap.objs.size l (Bs hlt) items).toS) (s.heap.objs.size+1) (by simp;lia) (λi=>ns.getD i 0) vl _ 0 _ rfl (Ca _) ⟨⟨_,Af _ hit,rfl,rfl⟩,(hl.push _).push _⟩ ⟨0,#[],hS0,rfl⟩ λv s' hv hm=>?_⟩;obtain⟨h',g',d',tk',os'⟩:=s';cases (show g'=s.gens from hm.gens);cases (show d'=s.drawn from hm.drawn);cases (show os'=s.os from hm.os);refine h v h' tk' (λb o e=>hm.heap b o ?_ (Af _ (Af _ e))) ?_
 .have:=Av e;simp only[Aj,Jl,or_false,not_or];exact⟨by lia,by lia⟩
 .have hb:=L6 (λi=>ns.getD i 0) items.size;cases e:jW (λi=>ns.getD i 0) items.size with
  | none=>
   rw[e]at hv hb;have hb:items.size=0:=hb;exact .inl ⟨Ex.mp (by lia),hv⟩
  | some m=>
   rw[e]at hv hb;obtain⟨t,rfl⟩:=hv;obtain⟨⟨j,hj,rfl⟩,h2⟩:=hb;have hj':j<ns.length:=by lia
   refine .inr ⟨_,t,rfl,by rw[Ei,Au hj'];exact List.getElem_mem _,λx hx=>?_⟩;obtain⟨i,hi',rfl⟩:=Hz.mp hx;have:=h2 i (by lia);rwa [Ei (i:=i),Au hi']at this
end
end Md
namespace L2
open PySem Spec PyProof.Rows
section
variable {X:Cx}{a:Expr}{ta:TA}{p kp cp pos:Pos}{j:_}
def zcO(ta:TA):TE:=λZ H Q=>ta Z H λvs H1=>∃(l:Addr) (ns:List Int),vs=[.ref l]/\H1 l=some (.lst (ns.map V.int))/\(ns=[]->Q .non H1)/\∀m∈ns,(∀x∈ns,m<=x)->Q (.int m) H1
theorem L7:Ct "min" = some (.builtin "min"):=by decide +kernel
theorem zcP(hc:X.calm=true)(hg:Gl X "min")(hm:X.mg "min" = none)(ha:PA X [a] ta)(hs:Bj [a] X.env=[(false,eval a X.env)]:=by rfl):PE X (.Call (.Name "min" p) [a] [⟨some "default",.Constant .none j cp,kp⟩] pos) (zcO ta):=by
 intro pins s Z H Q I h;refine El (jX I hg hm L7 ?_);refine callWith_kw (e:=a) (rest:=[]) (bA (ha pos pins s Z H _ I h) λus s1 ⟨vs,H1,I1,r1,q1⟩=>kws_cons (Constant_none (kws_nil ?_))) (by rw[hs];rfl) (by rw[hs];rfl);obtain⟨l,ns,rfl,hl,q0,q⟩:=q1;obtain⟨u,rfl,ru⟩:=vals1 r1;cases ru;obtain⟨hz,its,n,rv,hlen,ho⟩:=I1.lstM hl;refine Md.callD (items:=its.toArray) (ns:=ns) (I1.ok.hd hc) ⟨_,ho,rfl,n,rfl⟩ (by simpa using intsAre_of rv) λv h' tk kp hv=>?_;have I2:Inv X pins Z H1 {s1 with heap:=h',toks:=tk}:=I1.kept (t':=tk) kp;rcases hv with⟨e,rfl⟩|⟨m,t,rfl,h1,h2⟩
 .exact⟨.non,H1,I2,rfl,q0 e⟩
 .exact⟨.int m,H1,I2,⟨t,rfl⟩,q m h1 h2⟩
end
end L2
namespace L3
open PySem Spec PyProof.Rows L2
def L8:W->Mm->K3->Prop
 | .rl l,M,R=>∃ns:List Int,l=ns.map W.int/\(ns=[]->R .non M)/\∀m∈ns,(∀x∈ns,m<=x)->R (.int m) M
 | _,_,_=>False
def L9(ta:a0):a0:=λτ M R=>ta τ M λw M1=>L8 w M1 R
section
variable {X:Cx}{a:Expr}{ta:a0}{p kp cp pos:Pos}{j:_}
theorem zcQ(hg:Gl X "min")(hm:X.mg "min" = none)(ha:E3 X a ta)(hc:X.calm=true:=by rfl)(hs:Bj [a] X.env=[(false,eval a X.env)]:=by rfl):E3 X (.Call (.Name "min" p) [a] [⟨some "default",.Constant .none j cp,kp⟩] pos) (L9 ta):=
 (zcP hc hg hm (aC ha aH (by rw[hs];rfl)) hs).weak λZ H Q z0=>z0.el λτ M R as am h k=>⟨τ,M,λws M1=>match ws with | [w]=>L8 w M1 R|_=>False,as,am,h,λvs H1 ws M1 k1 am1 ax r=>by
  match ws,r with
  | [w],r=>
   obtain⟨v,rfl,av⟩:=ax.one;cases av<;>first|exact(show False from r).elim|skip
   case rl a xs ws e n q=>
    obtain⟨ns,rfl,r0,r⟩:=r;rw[q.intsL]at e;exact⟨a,ns,rfl,e,λz=>(k.kp k1).at am1 .non (r0 z),λm h1 h2=>(k.kp k1).at am1 (.int _) (r m h1 h2)⟩⟩
end
end L3
namespace Rg
open PySem Spec PyProof.Rows L2 L3
def BB:Option Int->W
 | none=>.non
 | some v=>.int v
abbrev wX(rs:List a7):W:=.rl ((rs.map a7.name).map W.str)
def BC:bL:=λws M R=>∃(t:Str) (b e:Int),ws=[.str t,.int b,.int e]/\R (.rl [.str t]) M
def MA:bL:=λws M R=>∃zs:List Int,ws=[.sc (zs.map W.int)]/\∀d n M',Dq d n M'->L3.Sub M M'->M d=none->M n=none->R (.ref d) M'
def gB:bL:=λws M R=>∃(d n:Addr) (many:Int),ws=[.ref d,.int many]/\0<many/\many<=1000/\Dq d n M/\∀z M',0<=z->z<many->Dq d n M'->Oq d n M M'->R (.int z) M'
abbrev zcR:List Str:=["word","begin","end"]
def zcS:aJ:=
   (bW (gH (aB (aA 0) aG)))
abbrev zcT:List Str:=["deck","many","taken"]
def zcU:aJ:=
   (dB (uC (bZ (aF (rEq false) (aF aR (aA 0) (vC (.int 1))) (vC (.int 0)))) (bZ (aF (rEq true) (aF aR (aA 0) (vC (.int 0))) (gH aG))))
    (gS (pL "list" rPop (aF aR (aA 0) (vC (.int 0)))) (iF (aA 0) (vC (.int 1))))
    eP)
def MB:aJ:=
   (bE 2 (aF rD (aF aR (aA 0) (vC (.int 1))) (aA 1)))
def MC:aJ:=
   (gS (aF yF (aF aR (aA 0) (vC (.int 1))) (aA 1)) (iF (aA 0) (vC (.int 1))))
def MD:aJ:=
   (bW (aA 2))
def zcV:aJ:=(aT zcU (aT MB (aT MC MD)))
theorem zcW{ws:List W}{M:Mm}{R:K3}(h:BC ws M R):zcS (bP R) (bX zcR ws) M:=by
 obtain⟨t,b,e,rfl,r⟩:=h;exact xI rfl ⟨z1,_,Sub.refl _,r⟩
theorem zcX{ws:List W}{M:Mm}{R:K3}(h:gB ws M R):zcV (bP R) (bX zcT ws) M:=by
 obtain⟨d,n,many,rfl,h0,h1,dk,r⟩:=h;have rest:∀M2,Dq d n M2->Oq d n M M2->(aT MB (aT MC MD)) (bP R) [some (.ref d),some (.int many),none] M2:=λM2 dk2 o2=>by
  obtain⟨dn,ns,v,hd,hn⟩:=dk2;refine xI rfl (.inl ⟨_,_,hd,y6 _ _ _,xI rfl ⟨h0,xI rfl (.inl ⟨_,_,hd,y6 _ _ _,xI rfl ⟨⟨h0,Int.lt_of_le_of_lt h1 (by decide +kernel)⟩,xI rfl (HY hd (by decide) (show(1:Int)<2 by decide) (xI rfl ⟨_,Sub.refl _,r _ _ (Int.emod_nonneg _ (by lia)) (Int.emod_lt_of_pos _ h0) ⟨dn,ns,v/many,aX,by rw[aU (Bi dn)];exact hn⟩ λp o p1 p2 e=>?_⟩))⟩⟩)⟩⟩);rw[aU p1];exact o2 p o p1 p2 e
 obtain⟨dn,ns,v,hd,hn⟩:=id dk;refine xI rfl (.inl ⟨_,_,hd,y6 _ _ _,xI rfl (cU (λ_=>xI rfl (.inl ⟨_,_,hd,y0 _ _,Ca _,L4 true 1 (by decide) (zcJ hn) (λw hw=>?_) (xI rfl (cU (λz=>?_) λ_=>rest _ dk Oq.refl))⟩)) λ_=>rest _ dk Oq.refl)⟩)
 .obtain⟨x,_,rfl⟩:=Ay.mp hw;trivial
 rcases Ea ns with rfl|⟨ns,x,rfl⟩
 .cases z
 .rw[Eb,Bc]at hn;refine xI rfl (.inl ⟨_,_,hd,y0 _ _,eU hn,_,_,hn,xI rfl (HY (ws:=[.ref n,.int v]) (by rw[aU dn];exact hd) (by decide) (show(1:Int)<2 by decide) (rest _ ⟨dn,ns,x,by rw[aX];rfl,by rw[aU (Bi dn),aX]⟩ λp o p1 p2 e=>?_))⟩);rw[aU p1,aU p2];exact e
theorem zcY{zs:List W}{i:Nat}{w:W}(h:(g9 0 zs)[i]? = some w):∃z,zs[i]? = some z/\w=.tup [.int (i:Int),z]:=by
 rw[rQ]at h;obtain⟨z,hz,rfl⟩:=Bf.mp h;exact⟨z,hz,by simp⟩
abbrev wr(d:Addr)(hs hds:List Str)(p:Addr)(l:S3):S3:=some (.ref d)::some (.rl (hs.map W.str))::some (.rl (hds.map W.str))::some (.ref p)::l
theorem zcZ(e:Int×Int)(t:Tb):bQ (e::t)=((Sum.inl e.1:aE),W.int e.2)::bQ t:=rfl
theorem mQ(t:Tb)(k:Int):bD (bQ t) (Sum.inl k:aE)=(aD t k).map W.int:=by
 induction t with
 | nil=>rfl
 | cons e t ih=>
  rw[zcZ,mH,cY,ih]
  by_cases h:e.1=k
  .rw[if_pos (by rw[h]),if_pos h];rfl
  .rw[if_neg (λz=>h (Sum.inl.inj z)),if_neg h]
theorem zc0(t:Tb)(k v:Int):cA (bQ t) (Sum.inl k:aE) (.int v)=bQ (bC t k v):=by
 unfold cA bC;rw[show((bQ t).any λkv=>decide (kv.1=(Sum.inl k:aE)))=(bD (bQ t) (Sum.inl k:aE)).isSome from f6 _ _,mQ,f6,Iv];split
 .unfold bQ gY;rw[Bh,Bh,Bh,Bh];refine Cw λe _=>?_;simp only[Fn]
  by_cases h:e.1=k
  .rw[if_pos (by rw[h]),if_pos h]
  .rw[if_neg (λz=>h (Sum.inl.inj z)),if_neg h]
 .unfold bQ gY;rw[Bc,Bc];rfl
theorem sR(t:Tb):(bQ t).length=t.length:=by unfold bQ gY;rw[Ab,Ab]
theorem BD(t:Tb):(bQ t).map (λp=>wK p.1)=t.map λe=>W.int e.1:=by
 unfold bQ gY;rw[Bh,Bh];rfl
section
variable {rs:List a7}{row:List Str}{T:Tq}
theorem ME(rs:List a7)(t:Str):decide (t∈rs.map a7.name)=fG rs t:=by
 unfold fG;rw[decide_eq_decide,YN,Ay]
end
theorem MF{rs:List a7}{τ:S3}{M:Mm}{R:K3}{js:List (Option Nat)}(ht:τ[0]? = some (some (dA rs)))(hl:rs.length<=100)(hj:rL js τ=[none])(r:R (.rl ((rs.map a7.name).map W.str)) M):eA (gF (dJ fR (aA 0)) (bM 0) i7 (aF aR (aA 0) (vC (.int 0))) js) τ M R:=by
 refine⟨_,ht,jQ ?_⟩;rw[hj];refine XY (rest:=[]) (λw y=>∃q:a7,w=gL q/\y=.str q.name) (gJ (by rw[Ab];lia)) (λ_ _=>trivial) (λw hw M' C sb h1=>?_) λys po=>bH.frz ?_
 .obtain⟨q,_,rfl⟩:=Ay.mp hw;exact⟨_,rfl,_,fA (j:=0) rfl,h1 _ ⟨q,rfl,rfl⟩⟩
 .have e:ys=(rs.map a7.name).map W.str:=by
   clear r hl ht
   induction rs generalizing ys with
   | nil=>cases po;rfl
   | cons q rs ih=>
    cases po with
    | cons a b=>
     obtain⟨q',e1,rfl⟩:=a;have:q.name=q'.name:=by
      simp only[gL,W.tup.injEq,Ed,W.str.injEq]at e1;exact e1.1
     rw[<-this,ih _ b];rfl
  rw[e];exact r
theorem BE{M:Mm}{q:Addr}{th:Tb}{k v:Int}{Q:Mm->Prop}(h:M q=some (.dK (bQ th)))(hl:th.length<=1000)(r:Q (put M q (.dK (bQ (bC th k v))))):oE (.ref q) (.int k) (.int v) M Q:=
 YB h (d8 (by rw[sR];lia)) (by rw[zc0];exact r)
theorem sS{P Q:Prop}(h:Q):if false=true then P else Q:=h
theorem BF{kvs:List (aE×W)}{M:Mm}{R:List W->(Mm->Prop)->Mm->Prop}(h:R (kvs.map λp=>wK p.1) (λ_=>True) M):jT (.fk kvs) M R:=h
theorem zc1{D:D3}{τ:S3}{M:Mm}{q:Addr}{th:Tb}{k v:Int}{A B:aJ}{tk tv:a0}(hq:M q=some (.dK (bQ th)))(hk:∀R:K3,R (.int k) M->tk τ M R)(hv:∀R:K3,R (.int v) M->tv τ M R)(ha:btr th k v=true->A D τ M)(hb:btr th k v=false->B D τ M){i:Nat}(hi:τ[i]? = some (some (.ref q))):dB (iQ (bZ (aF (rIn true) tk (aA i))) (bZ (aF oA tv (aF aR (aA i) tk)))) A B D τ M:=by
 refine hk _ ⟨_,hi,.inr ⟨_,.inl ⟨_,Sum.inl k,hq,rfl,rfl⟩,_,rfl,?_⟩⟩;rw[mQ];unfold btr at ha hb;cases e:aD th k with
 | none=>rw[e]at ha;exact ha rfl
 | some w=>
  rw[e]at ha hb;refine sS (hv _ ⟨_,hi,hk _ (.inr ⟨.int w,.inl ⟨_,Sum.inl k,hq,rfl,by rw[mQ,e];rfl⟩,⟨_,rfl,?_⟩⟩)⟩);exact cU (λz=>ha z) λz=>hb z
section
variable {U J γ:Type}[DecidableEq U]
theorem MG(f:J->γ)(t:List (U×J))(k:U):aD (t.map λe=>(e.1,f e.2)) k=(aD t k).map f:=by
 induction t with
 | nil=>rfl
 | cons e t ih=>
  rw[Bb,cY,cY,ih]
  by_cases h:e.1=k
  .rw[if_pos h,if_pos h];rfl
  .rw[if_neg h,if_neg h]
theorem zc2(f:J->γ)(t:List (U×J))(k:U)(v:J):(bC t k v).map (λe=>(e.1,f e.2))=bC (t.map λe=>(e.1,f e.2)) k (f v):=by
 unfold bC;rw[f6,f6,MG,Iv];split
 .rw[Bh,Bh];refine Cw λe _=>?_;simp only[Fn];split<;>rfl
 .rw[Bc];rfl
theorem zc3(t:List (U×J))(k:U)(v w:J):bC (bC t k v) k w=bC t k w:=by
 have h:bC (bC t k v) k w=(bC t k v).map λe=>if e.1=k then(e.1,w) else e:=by
  generalize ht:bC t k v=t';unfold bC;rw[f6,<-ht,gM,if_pos rfl];rfl
 rw[h];unfold bC;rw[f6];split
 .rw[Bh];refine Cw λe _=>?_;simp only[Fn]
  by_cases z:e.1=k
  .rw[if_pos z,if_pos z,if_pos z]
  .rw[if_neg z,if_neg z]
 .rename_i z;rw[Bc];congr 1
  .refine(Cw λe he=>?_).trans (List.map_id _);rw[if_neg (λy=>z (fL.mpr (Ay.mpr ⟨e,he,y⟩)))];rfl
  .simp
theorem wY{t:List (U×J)}(nd:(t.map (·.1)).Nodup){k:U}{v:J}(h:aD t k=some v):bC t k v=t:=by
 unfold bC;rw[f6,h,if_pos (show(some v).isSome=true from rfl)];refine(Cw λe he=>?_).trans (List.map_id _);split
 .rename_i z;have:=in_agetQ nd (show(e.1,e.2)∈t from he);rw[z,h]at this;rw[Bx this];rfl
 .rfl
theorem sU{t:List (U×J)}{k:U}{v:J}{e:U×J}(h:e∈bC t k v):e=(k,v)\/(e∈t/\e.1≠k):=by
 unfold bC at h;split at h
 .obtain⟨x,hx,rfl⟩:=Ay.mp h;split
  .rename_i z;exact .inl (by rw[z])
  .rename_i z;exact .inr ⟨hx,z⟩
 .rename_i z;rcases Bo.mp h with h|h
  .exact .inr ⟨h,λy=>z (by rw[f6,fL];exact Ay.mpr ⟨e,h,y⟩)⟩
  .exact .inl (Am.mp h)
theorem MH{O:Type}{f:O->J}:∀{l:List O},(l.map f).Nodup->∀{x y:O},x∈l->y∈l->f x=f y->x=y
 | [],_,_,_,hx,_,_=>nomatch hx
 | a::l,nd,x,y,hx,hy,e=>by
  rw[Bb,Cs]at nd;rcases Aj.mp hx with rfl|hx
  .rcases Aj.mp hy with rfl|hy
   .rfl
   .exact absurd (Ay.mpr ⟨y,hy,e.symm⟩) nd.1
  .rcases Aj.mp hy with hy|hy
   .exact absurd (by rw[<-hy];exact Ay.mpr ⟨x,hx,e⟩) nd.1
   .exact MH nd.2 hx hy e
end
section
variable {M0 M:Mm}{a p q e:Addr}{L:Lq}{key:Str×Int}{t t':Tb}{o:MO}
theorem sW(L:Lq)(key:Str×Int):aD (fV L) key=(aD L key).map (·.2):=MG (λy:Addr×Tb=>y.2) L key
theorem MI(L:Lq)(key:Str×Int)(y:Addr×Tb):fV (bC L key y)=bC (fV L) key y.2:=zc2 (λy:Addr×Tb=>y.2) L key y
theorem e9.look(h:e9 M0 M a L):bD (dU eK (λy:Addr×Tb=>W.ref y.1) L) (eK key)=(aD L key).map λy=>.ref y.1:=lD nL L key
theorem e9.told(h:e9 M0 M a L){x:(Str×Int)×Addr×Tb}(hx:x∈L):∃u,M x.2.1=some u:=⟨_,(h.inn x hx).2.2⟩
theorem e9.more(h:e9 M0 M a L)(hq:M q=none):e9 M0 (put M q o) a L:=by
 have ne:∀{b:Addr},(∃u,M b=some u)->b≠q:=λ{b} ⟨u,z⟩ y=>by rw[y,hq]at z;cases z
 refine⟨fJ h.sub (h.sub.non hq),h.new,by rw[aU (ne ⟨_,h.at_⟩)];exact h.at_,λx hx=>?_,h.inj⟩;obtain⟨h1,h2,h3⟩:=h.inn x hx;exact⟨h1,h2,by rw[aU (ne ⟨_,h3⟩)];exact h3⟩
theorem e9.del(h:e9 M0 M a L)(h0:M0 e=none)(ha:e≠a)(hl:∀x∈L,x.2.1≠e):e9 M0 (del M e) a L:=by
 refine⟨λb u z=>?_,h.new,by rw[kO (Bi ha)];exact h.at_,λx hx=>?_,h.inj⟩
 .rw[kO (λy=>by rw[y,h0]at z;cases z)];exact h.sub b u z
 .obtain⟨h1,h2,h3⟩:=h.inn x hx;exact⟨h1,h2,by rw[kO (hl x hx)];exact h3⟩
theorem e9.wr(h:e9 M0 M a L)(nd:(L.map (·.1)).Nodup)(hk:aD L key=some (p,t)):e9 M0 (put M p (.dK (bQ t'))) a (bC L key (p,t')):=by
 have hm:(key,p,t)∈L:=aget_inQ hk;obtain⟨p1,p2,p3⟩:=h.inn _ hm;refine⟨fJ h.sub p2,h.new,?_,λx hx=>?_,?_⟩
 .rw[aU (Bi p1),h.at_,<-r9 (f:=λy:Addr×Tb=>W.ref y.1) nL];congr 2;have:=wY (t:=dU eK (λy:Addr×Tb=>W.ref y.1) L) (k:=eK key) (v:=W.ref p) ?_ ?_
  .exact this.symm
  .rw[Bh];have:((λx:List aE×W=>x.1) ∘ λe:(Str×Int)×Addr×Tb=>(eK e.1,W.ref e.2.1))=eK ∘ λe=>e.1:=rfl;rw[this,<-Bh];rw[Ki]at nd⊢;rw[List.pairwise_map];exact nd.imp λhne z=>hne (nL _ _ z)
  .have:=h.look (key:=key);rw[hk]at this;exact this
 .rcases sU hx with rfl|⟨hx,hne⟩
  .exact⟨p1,p2,aX⟩
  .obtain⟨h1,h2,h3⟩:=h.inn x hx;refine⟨h1,h2,?_⟩;rw[aU (λz=>hne (congrArg (·.1) (MH h.inj hx hm z)))];exact h3
 .have:(bC L key (p,t')).map (λx=>x.2.1)=L.map λx=>x.2.1:=by
   unfold bC;rw[f6,hk,if_pos (show(some (p,t)).isSome=true from rfl),Bh];refine Cw λx hx=>?_;simp only[Fn];split
   .rename_i z;have:=in_agetQ nd (show(x.1,x.2)∈L from hx);rw[z,hk]at this;rw[<-Bx this]
   .rfl
  rw[this];exact h.inj
theorem e9.add(h:e9 M0 M a L)(hk:aD L key=none)(hq:M q=none):e9 M0 (put (put M q (.dK (bQ []))) a (.dT (cA (dU eK (λy:Addr×Tb=>W.ref y.1) L) (eK key) (.ref q)))) a (bC L key (q,[])):=by
 have ne:∀{b:Addr},(∃u,M b=some u)->b≠q:=λ{b} ⟨u,z⟩ y=>by rw[y,hq]at z;cases z
 have hqa:q≠a:=Bi (ne ⟨_,h.at_⟩);refine⟨fJ (fJ h.sub (h.sub.non hq)) h.new,h.new,?_,λx hx=>?_,?_⟩
 .rw[aX,r9 (f:=λy:Addr×Tb=>W.ref y.1) (v:=(q,[])) nL]
 .rcases sU hx with rfl|⟨hx,_⟩
  .exact⟨hqa,h.sub.non hq,by rw[aU hqa,aX]⟩
  .obtain⟨h1,h2,h3⟩:=h.inn x hx;exact⟨h1,h2,by rw[aU h1,aU (ne ⟨_,h3⟩)];exact h3⟩
 .rw[sA hk,Bc,Fi];refine⟨h.inj,by simp,λb hb c hc z=>?_⟩;rw[Bb,Fu,Am]at hc;obtain⟨x,hx,rfl⟩:=Ay.mp hb;exact ne (h.told hx) (z.trans hc)
end
theorem zc4{L:Lq}(h:((fV L).map (·.1)).Nodup):(L.map (·.1)).Nodup:=by
 unfold fV at h;rwa [Bh]at h
theorem zc5{x:Int}{xs:List Int}:inW (.int x) (xs.map W.int)=decide (x∈xs):=by
 unfold inW;rw[List.any_map,Dy,List.any_eq_true,decide_eq_true_eq];exact⟨λ⟨y,h,e⟩=>(eq_of_beq (show(y==x)=true from e))▸h,λh=>⟨x,h,beq_self_eq_true x⟩⟩
end Rg
namespace L2
open PySem Spec PyProof.Rows
section
variable {P:Bt}{w:Cm}{H:Hp}{h h':Heap}{fs ex:List Addr}
theorem Un.but(k:∀b u,b∉ex->h.get? b=some u->h'.get? b=some u):Un fs ex H H h h':=
 ⟨λb ob q _ _ hx=>k b ob hx q,λb ob q _ _ hx=>⟨ob.slots,k b ob hx q⟩,λ_ _ _ n _=>n,λb ob q hx=>⟨ob,k b ob hx q⟩,λ_ _ q=>q,λ_ _ _ q=>q,λ_ ps q=>⟨#[],by rw[q];simp⟩⟩
theorem cR.but(x:cR P w H h)(k:∀b u,b∉ex->h.get? b=some u->h'.get? b=some u)(hn:∀b∈ex,H b=none):cR P w H h':=λa o e=>
 (x a o e).stay (λb u hb q=>k b u (λz=>by
  rcases hb with rfl|hb
  .rw[hn _ z]at e;cases e
  .rw[hn _ z]at hb;cases hb) q) (λ_ q=>q) λ_ _ q=>q
end
def wZ(X:Cx)(A:Ck)(N':List Str)(qual:Str)(sc:Hh)(f:Addr)(cd:Ae)(cl:List (Str×Addr))(s:Ag)(H:Hp):Cx where
 prog:=X.prog
 w:=X.w
 K:=X.K
 mg:=X.mg
 base:=X.base
 A:=A.deeper (PySem.W.envX qual sc s.heap.objs.size f cd cl)
 N:=N'
 s₀:=s
 H₀:=H
 env:=PySem.W.envX qual sc s.heap.objs.size f cd cl
 outer:=X.stack
 stack:=PySem.W.envX qual sc s.heap.objs.size f cd cl::X.stack
 ex:=[]
 fn:=λ_=>false
 calm:=true
 pn:=[]
 xe:=λ_ _=>False
structure BG(X:Cx)(x y:Str)(sc:Hh):Prop where
 kind:sc.kind=.function
 co:sc.isCoroutine=false
 gen:sc.isGenerator=false
 nm:sc.names=[(x,.local),(y,.free)]
 ne:(y==x)=false
 cl:X.env.scope.names.lookup y=some .cell
section
variable {X:Cx}{pins:List (Addr×Obj)}{Z:St}{H:Hp}{s:Ag}
theorem zc6{A:Ck}{x y:Str}{sc:Hh}{f c':Addr}{qual:Str}{params:Arguments}{body:Expr}{pm ctv:Ae}{j:Nat}{v b:V}{u:Ae}{Q:VK}{c:Addr}{t:TE}(I:Inv X pins Z H s)(hfr:A.frames=some X.stack)(hr:cE 1 A)(S:BG X x y sc)(hy:X.env.cells.lookup y=some c)(hj:X.N[j]? = some y)(hσ:Z[j]? = some (some b))(hf:s.heap.get? f=some (Kw "<lambda>" qual params body sc [(y,c)] pm c' ctv))(hcd:s.heap.CodeRec (.ref c') qual)(hb:bindArgs (PySem.W.kla_fn "<lambda>" qual params body sc [(y,c)] pm (.ref c') ctv) ⟨[u],[]⟩=pure [(x,u)])(rv:RelV v u)(ht:PE (wZ X A [x,y] qual sc f (.ref c') [(y,c)] s H) body t)(h:t [some v,some b] H Q):
  Hq (Bn X.prog X.w) A (.call (.ref f) ⟨[u],[]⟩) (CR eW X.stack X.prog X.w H s Q E0) s:=by
 have lk:∀z k,([(x,.local),(y,.free)]:List (Str×Hv)).lookup z=some k->(z=x/\k=.local)\/(z=y/\k=.free):=λz k e=>by
  rcases Aj.mp (Fh e) with e|e
  .cases e;exact .inl ⟨rfl,rfl⟩
  .cases Am.mp e;exact .inr ⟨rfl,rfl⟩
 have cy:∀z d,([(y,c)]:List (Str×Addr)).lookup z=some d->z=y/\d=c:=λz d e=>by
  cases Am.mp (Fh e);exact⟨rfl,rfl⟩
 refine PySem.W.kla_callFunE hr.depth hf rfl S.co S.gen rfl hcd ?_;rw[hb];refine Ah (wpAny_newFunctionEnv (λz hz=>?_) (λz hz=>?_) (λh1 hns hsb=>?_) S.kind)
 .rw[S.nm]at hz;rcases Aj.mp hz with rfl|hz
  .exact λe=>nomatch e
  .rw[Am.mp hz];exact λe=>nomatch e
 .rw[Am.mp hz,S.nm,Cy,beq_self_eq_true]
 .have hk:∀b o,s.heap.get? b=some o->h1.get? b=some o:=λb o e=>hsb.extBut b o (Bs (Av e)) (Af _ e);refine⟨I.nolimit.keeps hk,?_⟩;show Hq _ _ (.expr body (PySem.W.envX qual sc s.heap.objs.size f (.ref c') [(y,c)])) _ _;refine PySem.W.kla_codeExpr ?_;have J:Inv (wZ X A [x,y] qual sc f (.ref c') [(y,c)] s H) [] [some v,some b] H {s with heap:=h1,toks:=s.toks+1}:=by
   refine⟨⟨I.ok.mod,S.kind,rfl,rfl,Ai _,λz z' d e1 e2=>(cy z d e1).1.trans (cy z' d e2).1.symm,λz hz=>?_,(λz d e _=>nomatch e),λ_=>hr.hd,Around.frames_deeper hfr,.inr ⟨rfl,rfl⟩,(λb z=>nomatch z),I.bs,Az I.ok.bsz I.sz,(λb _ _ z=>nomatch z),(λb z=>nomatch z),I.stack,I.stkFree⟩,
    rfl,I.bare,Un.kept hk,⟨_,hns,λi z v' h1 h2 h3=>?_⟩,λz d e=>?_,I.hok.fresh (Ai _),λz d e=>?_,(λp hp=>nomatch hp),I.hok.kept hk,rfl⟩
   .have hz:sc.names.lookup z=some .cell\/sc.names.lookup z=some .free:=hz;rw[S.nm]at hz;rcases hz with hz|hz
    .rcases lk z _ hz with⟨_,e⟩|⟨_,e⟩<;>cases e
    .rcases lk z _ hz with⟨_,e⟩|⟨e,_⟩
     .cases e
     .exact⟨c,by show([(y,c)]:List (Str×Addr)).lookup z=_;rw[e,Cy,beq_self_eq_true]⟩
   .match i,h1,h2 with
    | 0,h1,h2=>
     cases (show some x=some z from h1);cases (show some (some v)=some (some v') from h2);refine⟨u,rv,.inl ⟨?_,?_⟩⟩
     .show sc.names.lookup x=_;rw[S.nm,Cy,beq_self_eq_true]
     .show Ce x [(x,u)]=_;rw[Cy,beq_self_eq_true]
    | 1,h1,h2=>
     cases (show some y=some z from h1);cases (show some (some b)=some (some v') from h2);obtain⟨m,_,hl⟩:=I.loc;obtain⟨ub,rb,q⟩:=hl j y b hj hσ (.inr (.inl S.cl));refine⟨ub,rb,.inr ⟨.inr ?_,c,?_,?_⟩⟩
     .show sc.names.lookup y=_;rw[S.nm,Cy,S.ne,Cy,beq_self_eq_true]
     .show Ce y [(y,c)]=_;rw[Cy,beq_self_eq_true]
     .rcases q with⟨e,_⟩|⟨_,c2,e,q⟩
      .rw[show X.env.kindOf y=some .cell from S.cl]at e;cases e
      .rw[hy]at e;cases e;obtain⟨o,ho,hd⟩:=q;exact⟨o,hk _ _ ho,hd⟩
    | i+2,h1,h2=>exact nomatch h1
   .obtain⟨_,rfl⟩:=cy z d e;obtain⟨v,o,ho,hd⟩:=I.cell y _ hy;exact⟨v,o,hk _ _ ho,hd⟩
   .obtain⟨_,rfl⟩:=cy z d e;exact I.freeC y _ hy
  exact Hn (ht [] _ _ H Q J h) (λu' s' ⟨v',H',J',rv',q⟩=>⟨v',H',J'.os,J'.bare,J'.base,J'.hok,rv',q⟩) λ_ _ z=>z.elim
structure Lp(X:Cx)(s2:Ag)(H2:Hp)(Φ:Hp->Prop)(It S:Addr)(s:Ag)(H:Hp):Prop where
 un:Un (fP X.stack) [It,S] H2 H s2.heap s.heap
 hok:cR X.prog X.w H s.heap
 bare:Lh s.gens
 os:s.os=s2.os
 phi:Φ H
 nI:H It=none
 nS:H S=none
def zc7(kf:Nat->Int×Int)(xs:List V)(H:Hp)(i:Nat):Option (Nat×Ae×Addr)->Prop
 | none=>i=0
 | some (b,vb,p)=>b<i/\(∃v,xs[b]? = some v/\RelV v vb)/\H p=some (.tup [.int (kf b).1,.int (kf b).2])/\∀j,j<i->dS (kf j) (kf b)=false
def zc8:Option (Nat×Ae×Addr)->Array Ae
 | none=>#[]
 | some (_,vb,p)=>#[vb,.ref p]
theorem zc9{a b c:Int×Int}(h1:dS a b=true)(h2:dS c b=false):dS c a=false:=by
 unfold dS at *;simp only[Bool.or_eq_true,Co,decide_eq_true_eq,Bool.or_eq_false_iff,Bool.and_eq_false_iff,decide_eq_false_iff_not]at *;lia
theorem MJ(a:Int×Int):dS a a=false:=by
 unfold dS;simp
theorem zda{A:Ck}{s2:Ag}{H2:Hp}{Φ:Hp->Prop}{It S f l:Addr}{fo:Obj}{xs:List V}{kf:Nat->Int×Int}{R:Result->Ag->Prop}(hh:A.in1.handled=none)(hu:A.in1.units+1<Ez)(I2:Inv X pins Z H2 s2)(hne:xs≠[])(hf:s2.heap.get? f=some fo)(hf2:H2 f=none)(hff:f∉fP X.stack)(hfI:f∉[It,S])(hlI:l≠It)(hSI:S≠It)(hSn:s2.heap.objs.size<=S)(hIn:s2.heap.objs.size<=It)(hl:∀H,Φ H->H l=some (.lst xs))(turn:∀(i:Nat) (v:V) (u:Ae),xs[i]? = some v->RelV v u->∀(s:Ag) (H:Hp),Inv X pins Z H s->s.heap.get? f=some fo->Φ H->
   Hq (Bn X.prog X.w) A.in1 (.call (.ref f) ⟨[u],[]⟩) (CR eW X.stack X.prog X.w H s (λy H'=>Φ H'/\∃p,y=.ref p/\H' p=some (.tup [.int (kf i).1,.int (kf i).2])) E0) s)(hR:∀(b:Nat) (v:V) (vb:Ae) (s:Ag) (H:Hp),xs[b]? = some v->RelV v vb->(∀j,j<xs.length->dS (kf j) (kf b)=false)->Inv X pins Z H s->Φ H->R (.ok (.ret vb)) s):
  ∀(k i:Nat) (s:Ag) (H:Hp) (o:Option (Nat×Ae×Addr)) (c:Nat),xs.length-i=k->i<=xs.length->Lp X s2 H2 Φ It S s H->s.heap.IsListIter It l i->s.heap.get? S=some (seqObj "list" (zc8 o) c)->zc7 kf xs H i o->
   Hq (Bn X.prog X.w) A (.builtin "min.loop" ⟨[.ref It,.ref f,.ref S],[]⟩) R s:=by
 have nm:(toString "min"++toString ".loop" : String) = "min.loop":=by decide
 have inv:∀{s:Ag} {H:Hp},Lp X s2 H2 Φ It S s H->Inv X pins Z H s:=λ{s H} L=>I2.call' L.os L.un L.hok L.bare λb hb=>by
  have hb:s2.heap.objs.size<=b:=by
   rcases Aj.mp hb with rfl|hb
   .exact hIn
   .rw[Am.mp hb];exact hSn
  refine⟨.inr (Az I2.sz hb),λe=>?_,λx c e z=>?_,λp hp z=>?_⟩
  .rw[e]at hb;exact absurd I2.lt (Ll.mpr hb)
  .obtain⟨v,ob,ho,_⟩:=I2.cell x c e;rw[z]at ho;exact absurd (Av ho) (Ll.mpr hb)
  .have:=(I2.pin p hp).1;rw[z]at this;exact absurd (Av this) (Ll.mpr hb)
 have atf:∀{s:Ag} {H:Hp},Lp X s2 H2 Φ It S s H->s.heap.get? f=some fo:=λ{s H} L=>L.un.keep f fo hf hf2 hff hfI;have but:∀{s:Ag} {H:Hp} {h':Heap} {tk:Nat},Lp X s2 H2 Φ It S s H->(∀b o,b∉[It,S]->s.heap.get? b=some o->h'.get? b=some o)->Lp X s2 H2 Φ It S {s with heap:=h',toks:=tk} H:=λ{s H h' tk} L k=>
  ⟨L.un.trans (Un.but k),L.hok.but k λb hb=>by
   rcases Aj.mp hb with rfl|hb
   .exact L.nI
   .rw[Am.mp hb];exact L.nS,L.bare,L.os,L.phi,L.nI,L.nS⟩
 intro k
 induction k with
 | zero=>
  intro i s H o c hk hi L hit hS ho;have hi:i=xs.length:=by lia
  obtain⟨hz,its,n,rel,lK⟩:=L.hok l _ (hl H L.phi);have hlen:its.length=xs.length:=rel.length.symm;have W:=Walks.list (prog:=X.prog) (w:=X.w) (A:=A.in1) hh It l hlI its.toArray;refine Jc PySem.F.entry_min_loop ?_;rw[Gk Gy _];show Be _ A.in1 (Na (.ref S)>>=_) _ _ _;refine Aa (Ek hS rfl ?_);show Be _ A.in1 (tryCatch (Im (.ref It)) _>>=_) _ _ _;refine Aa (Hb (W.done _ _ _ ⟨by rw[Bd,hlen,<-hi];exact hit,⟨_,lK,rfl,n,rfl⟩⟩ λh' tk' hk'=>?_))
  match o,hS,ho with
  | none,_,ho=>exact absurd (Ex.mp (hi.symm.trans ho)) hne
  | some (b,vb,p),hS,⟨h1,⟨v,h2,rv⟩,h3,h4⟩=>
   have hS':h'.get? S=some (seqObj "list" #[vb,.ref p] c):=hk' S _ (by simpa using hSI) hS;have L':Lp X s2 H2 Φ It S {s with heap:=h',toks:=tk'} H:=but L λb o hb e=>hk' b o (λz=>hb (by rw[Am.mp z];exact Aw)) e;show Be _ A.in1 (Mx S (λ_=>#[])>>=_) _ _ _;refine Aa ?_;refine Jb hS' rfl (Aa (Gg (Ah ?_)));exact(λY=>hR b v vb _ H h2 rv (λj hj=>h4 j (by lia)) (inv Y) Y.phi) (but (tk:=tk') L' λb' o' hb e=>(Dc _ _ (λz:S=b'=>hb (by rw[<-z];exact Ap _ Aw))).trans e)
 | succ k ih=>
  intro i s H o c hk hi L hit hS ho;obtain⟨hz,its,n,rel,lK⟩:=L.hok l _ (hl H L.phi);have hlen:its.length=xs.length:=rel.length.symm;have W:=Walks.list (prog:=X.prog) (w:=X.w) (A:=A.in1) hh It l hlI its.toArray;refine Jc PySem.F.entry_min_loop ?_;rw[Gk Gy _];show Be _ A.in1 (Na (.ref S)>>=_) _ _ _;refine Aa (Ek hS rfl ?_);show Be _ A.in1 (tryCatch (Im (.ref It)) _>>=_) _ _ _;refine Aa (Hb (W.item i _ _ _ (by rw[Bd];lia) ⟨hit,⟨_,lK,rfl,n,rfl⟩⟩ λu h' tk' hP hst' hk'=>?_));have hu':its[i]? = some u:=by simpa using hP
  obtain⟨v,hv,rv⟩:∃v,xs[i]? = some v/\RelV v u:=by
   have hi':i<xs.length:=by lia
   obtain⟨u',e1,e2⟩:=rel.get (Au hi');rw[hu']at e1;cases e1;exact⟨_,Au hi',e2⟩
  have L1:Lp X s2 H2 Φ It S {s with heap:=h',toks:=tk'} H:=but L λb o hb e=>hk' b o (λz=>hb (by rw[Am.mp z];exact Aw)) e;have hS1:=hk' S _ (by simpa using hSI) hS;obtain⟨oI,hoI,hoc,hod⟩:=id hst'.1;refine Aa (m:=tryCatch (Ho [u] (call (.ref f) [u])) _) (Hb (Cv (wpAny_call (Mb (turn i v u hv rv _ H (inv L1) (atf L1) L1.phi) λr s3 hr=>?_))))
  match r,hr with
  | .error e,hr=>exact hr.elim
  | .ok .next,hr=>exact hr.elim
  | .ok .brk,hr=>exact hr.elim
  | .ok .cont,hr=>exact hr.elim
  | .ok (.ret w3),⟨y,H3,os3,bare3,un3,hok3,r3,ph3,p3,ey,ep⟩=>
   subst ey;cases (show w3=Value.ref p3 from r3);have nfI:It∉fP X.stack:=λz=>by
    obtain⟨_,o',ho',_⟩:=I2.stack.mem z;exact absurd (Av ho') (Ll.mpr hIn)
   have nfS:S∉fP X.stack:=λz=>by
    obtain⟨_,o',ho',_⟩:=I2.stack.mem z;exact absurd (Av ho') (Ll.mpr hSn)
   have hS3:=un3.keep S _ hS1 L1.nS nfS (λz=>nomatch z);have hI3:=un3.keep It _ hoI L1.nI nfI (λz=>nomatch z);have L3:Lp X s2 H2 Φ It S s3 H3:=⟨L1.un.trans (un3.mono (λ_ z=>z) λ_ z=>nomatch z),hok3,bare3,os3.trans L1.os,ph3,un3.free It _ hoI L1.nI (λz=>nomatch z),un3.free S _ hS1 L1.nS (λz=>nomatch z)⟩;have hit3:s3.heap.IsListIter It l (i+1):=⟨oI,hI3,hoc,hod⟩;obtain⟨_,its3,rel3,ot3,hot3,hct3,nt3,hdt3⟩:=hok3 p3 _ ep;have put:∀b',(∀j,j<i+1->dS (kf j) (kf i)=false)->b'=i->Hq (Bn X.prog X.w) A (.builtin "min.loop" ⟨[.ref It,.ref f,.ref S],[]⟩) R {s3 with heap:=s3.heap.update S (Jp λ_=>#[u,.ref p3])}:=λb' hb _=>by
    have hub:(s3.heap.update S (Jp λ_=>#[u,.ref p3])).get? S=some (seqObj "list" #[u,.ref p3] _):=get?_update_seq hS3 λ_=>#[u,.ref p3];refine ih (i+1) _ H3 (some (i,u,p3)) _ (by lia) (by lia) (but (tk:=s3.toks) L3 λb o hb e=>?_) ⟨oI,(Dc _ _ hSI).trans hI3,hoc,hod⟩ hub ⟨by lia,⟨v,hv,rv⟩,ep,hb⟩;exact(Dc _ _ (λz:S=b=>hb (by rw[<-z];exact Ap _ Aw))).trans e
   match o,hS,hS3,ho with
   | none,_,hS3,ho=>
    have ho:i=0:=ho;refine Aa (m:=Mx S λ_=>#[u,.ref p3]) ?_;refine Jb hS3 rfl ?_;rw[nm];exact Ah ⟨Gh Gy _,put i (λj hj=>by cases (show j=i by lia);exact MJ _) rfl⟩
   | some (b,vb,p),_,hS3,⟨h1,⟨v',h2,rv'⟩,h3,h4⟩=>
    have hp3:=un3.tups p _ h3;obtain⟨_,itsb,relb,ob,hob,hcb,nb,hdb⟩:=hok3 p _ hp3;obtain⟨t1,t2,rfl⟩:∃t1 t2,its3=[.int (kf i).1 t1,.int (kf i).2 t2]:=by
     cases rel3 with
     | cons a r=>
      cases r with
      | cons b r=>cases r;obtain⟨t1,rfl⟩:=a;obtain⟨t2,rfl⟩:=b;exact⟨t1,t2,rfl⟩
    obtain⟨u1,u2,rfl⟩:∃t1 t2,itsb=[.int (kf b).1 t1,.int (kf b).2 t2]:=by
     cases relb with
     | cons a r=>
      cases r with
      | cons b r=>cases r;obtain⟨t1,rfl⟩:=a;obtain⟨t2,rfl⟩:=b;exact⟨t1,t2,rfl⟩
    show Be _ A.in1 (tryCatch (Ho [u,.ref p3] (richCompare .Lt (.ref p3) (.ref p)>>=_)) _>>=_) _ _ _;refine Aa (Hb (Cv (Aa (JG hu hot3 hct3 hdt3 hob hcb hdb rfl rfl ?_))));refine Aa (Cv (Gs ?_));refine Aa (Gg (Ah ?_));show Be _ A.in1 (if dS ((kf i).1,(kf i).2) ((kf b).1,(kf b).2)=true then _ else _) _ _ _
    by_cases hb:dS (kf i) (kf b)=true
    .rw[if_pos hb];refine Aa (m:=Mx S λ_=>#[u,.ref p3]) ?_;refine Jb hS3 rfl (Aa (Gg ?_));rw[nm];exact Ah ⟨Gh Gy _,put i (λj hj=>by
      by_cases e:j=i
      .rw[e];exact MJ _
      .exact zc9 hb (h4 j (by lia))) rfl⟩
    .rw[if_neg hb];refine Aa (Gg ?_);rw[nm];refine Ah ⟨Gh Gy _,ih (i+1) _ H3 (some (b,vb,p)) _ (by lia) (by lia) L3 hit3 hS3 ⟨by lia,⟨v',h2,rv'⟩,hp3,λj hj=>?_⟩⟩
     by_cases e:j=i
     .rw[e];exact Je.mpr hb
     .exact h4 j (by lia)
end
end L2
namespace L3
open PySem Spec PyProof.Rows L2
def BMod(K:Ac)(mg:Str->Option Ae):Prop:=∃bm o,mg "__builtins__" = some (.ref bm)/\bm≠Mf/\bm≠Dh/\K.lookup bm=some o/\o.cls=.type "module"/\o.dict=some Mf/\o.data=.plain
def BH(P:Addr)(lp:Pos)(qual:Str)(j:Nat)(tb:a0)(τ:S3)(R:K3)(w:W)(M1:Mm):Prop:=∃(ws:List W) (b:W) (kf:Nat->Int×Int),w=.rl ws/\ws≠[]/\M1 P=some (.tb lp qual)/\τ[j]? = some (some b)/\
 (∀i x,ws[i]? = some x->tb [some x,some b] M1 λy M2=>M2=M1/\y=.tup [.int (kf i).1,.int (kf i).2])/\∀i x,ws[i]? = some x->(∀j,j<ws.length->dS (kf j) (kf i)=false)->R x M1
def MK(P:Addr)(lp:Pos)(qual:Str)(j:Nat)(ta tb:a0):a0:=λτ M R=>ta τ M λw M1=>BH P lp qual j tb τ R w M1
theorem zdb(a v:Ae):argsOk "min" ⟨[a],[("key",v)]⟩:=by unfold argsOk;kernel_rfl
section
variable {X:Cx}{a:Expr}{ta tb:a0}{p kp lp pos:Pos}{x y:Str}{sc:Hh}{params:Arguments}{body:Expr}{c P:Addr}{j:Nat}
theorem zdc{pins:List (Addr×Obj)}{Z:SV}{s2:Ag}{H2:Hp}{M1:Mm}{τ:S3}{f c' l cy:Addr}{qual:Str}{pm ctv:Ae}{xs:List V}{ws:List W}{b:W}{kf:Nat->Int×Int}{Q:Ae->Ag->Prop}(hr:cE 3 X.A)(S:BG X x y sc)(hj:X.N[j]? = some y)(hbind:∀u,bindArgs (PySem.W.kla_fn "<lambda>" qual params body sc [(y,cy)] pm (.ref c') ctv) ⟨[u],[]⟩=pure [(x,u)])(hb:∀(A:Ck) (f:Addr) (cd:Ae) (cl:List (Str×Addr)) (s:Ag) (H:Hp),cE 1 A->E3 (wZ X A [x,y] qual sc f cd cl s H) body tb)(I2:Inv X pins Z H2 s2)(am:AM X.K H2 M1)(as:AS X.K H2 M1 Z τ)(hc':H2 c'=some (.ext λh=>h.CodeRec (.ref c') qual))(mc:M1 c'=none)(hl:H2 l=some (.lst xs))(ml:M1 l=none)(av:aN X.K H2 M1 xs ws)(hne:ws≠[])(hf:s2.heap.get? f=some (Kw "<lambda>" qual params body sc [(y,cy)] pm c' ctv))(hf2:H2 f=none)(hff:f∉fP X.stack)(hcy:X.env.cells.lookup y=some cy)(ej:τ[j]? = some (some b))(ht:∀i x,ws[i]? = some x->tb [some x,some b] M1 λy M2=>M2=M1/\y=.tup [.int (kf i).1,.int (kf i).2])(hQ:∀(i:Nat) (v:V) (u:Ae) (w:W) (s:Ag) (H:Hp),ws[i]? = some w->(∀j,j<ws.length->dS (kf j) (kf i)=false)->RelV v u->Inv X pins Z H s->AM X.K H M1->Kp H2 M1 H M1->AV X.K H M1 v w->Q u s):
  Be (Bn X.prog X.w) X.A (call (.builtin "min") [.ref l] [("key",.ref f)]) Q X.xe s2:=by
 have nm:(toString "min"++toString ".loop" : String) = "min.loop":=by decide
 obtain⟨bv,eσ,_⟩:=as.get ej;obtain⟨hz,its,n,rel,lK⟩:=I2.hok l _ hl;have hlt:l<s2.heap.objs.size:=Av lK;have hft:f<s2.heap.objs.size:=Av hf;refine kmk_tree F.kind_min F.plain_min F.entry_min (zdb _ _) ?_;show Be _ X.A.in1 (Gq "min" ["key","default"] 0 ⟨[],[("key",Value.ref f)]⟩>>=_) _ _ s2;refine Aa (wpAny_of_eq (show Gq "min" ["key","default"] 0 ⟨[],[("key",Value.ref f)]⟩=pure [some (.ref f),none] from rfl) ?_);refine Aa (Ah ?_);refine Aa (Jm (items:=its.toArray) ⟨_,lK,rfl,n,rfl⟩ ?_);refine Aa (Du ?_);rw[nm];have hI:(s2.heap.push {cls:=.type "list_iterator",data:=.fields #[.ref l,.int 0 0]}).objs.size=s2.heap.objs.size+1:=Dn _ _;have hit:(s2.heap.push {cls:=.type "list_iterator",data:=.fields #[.ref l,.int 0 0]}).get? s2.heap.objs.size=some {cls:=.type "list_iterator",data:=.fields #[.ref l,.int 0 0]}:=Ba _ rfl;have hS0:((s2.heap.push {cls:=.type "list_iterator",data:=.fields #[.ref l,.int 0 0]}).push {cls:=.type "list",data:=.seq #[]}).get? (s2.heap.objs.size+1)=some {cls:=.type "list",data:=.seq #[]}:=by rw[<-hI];exact Ba _ rfl
 rw[hI];have k0:∀b o,s2.heap.get? b=some o->((s2.heap.push {cls:=.type "list_iterator",data:=.fields #[.ref l,.int 0 0]}).push {cls:=.type "list",data:=.seq #[]}).get? b=some o:=λb o e=>Af _ (Af _ e);have lx:ws.length=xs.length:=av.length.symm;refine Ah ⟨Gh Gy _,zda (Φ:=λH=>AM X.K H M1/\Kp H2 M1 H M1) (kf:=kf) (fo:=Kw "<lambda>" qual params body sc [(y,cy)] pm c' ctv) (l:=l) (xs:=xs) hr.hd (by have:=hr.un;show X.A.units+1+1<_;lia) I2 (λe=>hne (Ex.mp (by rw[lx,e];rfl))) hf hf2 hff
  (λz=>(Aj.mp z).elim (Bs hft) λz=>Bs (Nat.lt_succ_of_lt hft) (Am.mp z)) (Bs hlt) (Nat.succ_ne_self _) (Kt _) (Ai _) (λH z=>(z.2.fr l _ ml hl).1) (λi v u hv rv s H I hfs z=>?_) (λi v vb s H hv rv hbest I z=>?_)
  _ 0 _ H2 none 0 rfl (Ca _) ⟨Un.kept k0,I2.hok.kept k0,I2.bare,rfl,⟨am,Kp.refl am⟩,I2.hok.fresh (Ai _),I2.hok.fresh (Kt _)⟩ ⟨_,Af _ hit,rfl,rfl⟩ hS0 rfl⟩
 .obtain⟨w,hw,aw⟩:=av.getV hv;have hrec:s.heap.CodeRec (.ref c') qual:=(I.hok c' _ (z.2.fr c' _ mc hc').1).1;obtain⟨bv',e2,ab⟩:=(as.kp am z.2).get ej;rw[eσ]at e2;cases e2;refine zc6 (A:=X.A.in1) I I.ok.frames (hr.in1.mono (by decide)) S hcy hj eσ hfs hrec (hbind u) rv (hb _ _ _ _ _ _ (hr.in1.mono (by decide))) ⟨[some w,some b],M1,_,.cons (λ_ e=>⟨v,rfl,by cases e;exact aw.kp am z.2⟩) (.cons (λ_ e=>⟨bv,rfl,by cases e;exact ab⟩) .nil),z.1,ht i w hw,λv' H' w' M' k' am' av' ⟨eM,ey⟩=>?_⟩;subst eM ey;refine⟨⟨am',z.2.trans k'⟩,?_⟩;exact av'.tupE λq xs' ev e1 e2=>by
   refine⟨q,ev,?_⟩;rw[e1];cases e2 with
   | cons z1 z2=>
    cases z2 with
    | cons z2 z3=>cases z3;rw[z1.inv,z2.inv]
 .obtain⟨w,hw,aw⟩:=av.getV hv;exact hQ i v vb w s H hw (λj hj=>hbest j (by lia)) rv I z.1 z.2 (aw.kp am z.2)
theorem zdd{pins:List (Addr×Obj)}{Z:SV}{s:Ag}{H:Hp}{M:Mm}{c':Addr}{qual:Str}{lp:Pos}{h':Heap}{tk:Nat}(I:Inv X pins Z H s)(am:AM X.K H M)(hP:H P=some (.ext λh=>h.get? P=some (Fq (m8 lp none))))(mP:M P=some (.tb lp qual))(hx:Lx P s.heap h')(hge:s.heap.objs.size<=c')(hrec:h'.CodeRec (.ref c') qual)(htb:h'.get? P=some (Fq (m8 lp (some c')))):
  ∃H2,Inv X pins Z H2 {s with heap:=h',toks:=tk}/\AM X.K H2 M/\Kp H M H2 M/\H2 c'=some (.ext λh=>h.CodeRec (.ref c') qual)/\M c'=none/\∀b,s.heap.objs.size<=b->b≠c'->H2 b=none:=by
 have nc:H c'=none:=I.hok.fresh hge;have hPl:P<s.heap.objs.size:=I.hok.lt hP;have hcP:c'≠P:=λe=>absurd (e▸hge) (Nat.not_le.mpr hPl);have mc:M c'=none:=am.nonM nc;obtain⟨H2,e2⟩:∃H2,H2=aY (aY H c' (.ext λh=>h.CodeRec (.ref c') qual)) P (.ext λh=>h.get? P=some (Fq (m8 lp (some c')))):=⟨_,rfl⟩;have aP:H2 P=some (.ext λh=>h.get? P=some (Fq (m8 lp (some c')))):=by rw[e2,cQ]
 have ac:H2 c'=some (.ext λh=>h.CodeRec (.ref c') qual):=by rw[e2,bF hcP,cQ]
 have ao:∀{b:Addr},b≠P->b≠c'->H2 b=H b:=λ{b} h1 h2=>by rw[e2,bF h1,bF h2]
 have nP:∀{b:Addr} {u:HO},H b=some u->(∀φ,u≠.ext φ)->b≠P:=λ{b u} e n z=>by rw[z,hP]at e;cases e;exact n _ rfl
 have nz:∀{b:Addr},H b=none->b≠P:=λ{b} e z=>by rw[z,hP]at e;cases e
 have nq:∀{b:Addr} {u:HO},H b=some u->b≠c':=λ{b u} e z=>by rw[z,nc]at e;cases e
 have go:Go H M H2 M:=⟨λb xs e=>by rw[ao (nP e λ_ z=>nomatch z) (nq e)];exact e,λb o u e=>by rw[ao (nP e λ_ z=>nomatch z) (nq e)];exact e,λb o n e=>⟨by rw[ao (λz=>by rw[z,mP]at n;cases n) (nq e)];exact e,n⟩⟩;refine⟨H2,I.un (h':=h') (t':=tk) ⟨λb o e n _ _=>hx b o (nz n) e,λb o e n _ _=>⟨o.slots,hx b o (nz n) e⟩,λb o e n _=>?_,λb o e _=>?_,λb xs e=>go.ht b xs e,λb o u e=>go.hf b o u e,λb ps e=>⟨#[],?_⟩⟩ (λb o e=>?_),λb o e=>?_,⟨go.hl,λb o e=>?_⟩,ac,mc,λb hb n=>?_⟩
 .rw[ao (nz n) (Bs (Bu (Av e) hge))];exact n
 .by_cases hb:b=P
  .exact⟨_,hb▸htb⟩
  .exact⟨o,hx b o hb e⟩
 .rw[ao (nP e λ_ z=>nomatch z) (nq e),e];simp
 .by_cases hb:b=P
  .subst hb;rw[aP]at e;cases e;exact⟨htb,⟨_,htb⟩,λh1 h2 e k=>k _ e⟩
  .by_cases hc:b=c'
   .subst hc;rw[ac]at e;cases e;obtain⟨c0,oc,vs,t,e0,e1,r⟩:=hrec;cases e0;exact⟨⟨_,oc,vs,t,rfl,e1,r⟩,⟨_,e1⟩,λh1 h2 ⟨c0,oc,vs,t,e0,e1,r⟩ k=>by cases e0;exact⟨_,oc,vs,t,rfl,k _ e1,r⟩⟩
   .rw[ao hb hc]at e;refine(I.hok b o e).stay (λd u hd q=>hx d u ?_ q) (λd q=>by rw[ao (nP q λ_ z=>nomatch z) (nq q)];exact q) λd xs q=>go.ht d xs q;rcases hd with rfl|hd
    .exact hb
    .exact nP hd λ_ z=>nomatch z
 .by_cases hb:b=P
  .subst hb;rw[mP]at e;cases e;exact⟨some c',aP,λc0 h0=>by cases h0;exact⟨ac,mc⟩⟩
  .have:=am b o e;obtain⟨u,hu⟩:=this.has;exact this.go go (ao hb (nq hu))
 .obtain⟨u,hu⟩:=(am b o e).has
  by_cases hb:b=P
  .exact⟨_,hb▸aP⟩
  .exact⟨u,by rw[ao hb (nq hu)];exact hu⟩
 .rw[ao (λz=>absurd (z▸hb) (Nat.not_le.mpr hPl)) n];exact I.hok.fresh hb
end
section
variable {X:Cx}{a:Expr}{ta tb:a0}{p kp lp pos:Pos}{x y:Str}{sc:Hh}{params:Arguments}{body:Expr}{c P:Addr}{j:Nat}{qual:Str}
theorem zde(hr:cE 3 X.A)(hg:Gl X "min")(hm:X.mg "min" = none)(hbm:BMod X.K X.mg)(hcode:X.env.code=.ref c)(hcd:Kr X.K c P=true)(hq:X.env.qual++"<lambda>" = qual)(ha:E3 X a ta)(hb:∀(A:Ck) (f:Addr) (cd:Ae) (cl:List (Str×Addr)) (s:Ag) (H:Hp),cE 1 A->E3 (wZ X A [x,y] qual sc f cd cl s H) body tb)(S:BG X x y sc)(hj:X.N[j]? = some y:=by rfl)(hdef:defaultsOf params X.env=([],[]):=by rfl)(hbind:∀(cy:Addr) (pm:Ae) (c':Addr) (ctv u:Ae),bindArgs (PySem.W.kla_fn "<lambda>" qual params body sc [(y,cy)] pm (.ref c') ctv) ⟨[u],[]⟩=pure [(x,u)]:=by intros;rfl)(hs:Bj [a] X.env=[(false,eval a X.env)]:=by rfl):
  E3 X (.Call (.Name "min" p) [a] [⟨some "key",.Lambda params body sc lp,kp⟩] pos) (MK P lp qual j ta tb):=by
 subst hq;rintro pins s Z H Q I ⟨τ,M,R,as,am,h,k⟩;have hA:A3 X [a] (aB ta aG):=aC ha aH (by rw[hs];rfl);refine El (jX I hg hm L7 ?_);have hns:=(I.ok.mod.glob).keeps I.bk;refine callWith_kw (e:=a) (rest:=[]) (bA (hA pos pins s Z H (λvs H1=>∃w M1,Kp H M H1 M1/\AM X.K H1 M1/\aN X.K H1 M1 vs [w]/\BH P lp (X.env.qual++"<lambda>") j tb τ R w M1) I ⟨τ,M,λws M1=>match ws with | [w]=>BH P lp (X.env.qual++"<lambda>") j tb τ R w M1|_=>False,as,am,h,λvs H1 ws M1 k1 am1 ax r=>by
   match ws,r with
   | [w],r=>exact⟨w,M1,k1,am1,ax,r⟩⟩) λus s1 ⟨vs,H1,I1,r1,w,M1,k1,am1,ax,ws,b,kf,ew,hne,mP,ej,ht,hR⟩=>kws_cons ?_) (by rw[hs];rfl) (by rw[hs];rfl)
 subst ew;obtain⟨v,rfl,av⟩:=ax.one;obtain⟨l,xs,rfl,hl,ml,avs⟩:∃l xs,v=.ref l/\H1 l=some (.lst xs)/\M1 l=none/\aN X.K H1 M1 xs ws:=by
  cases av with
  | rl e n q=>exact⟨_,_,rfl,e,n,q⟩
 obtain⟨u,rfl,ru⟩:=vals1 r1;cases (show u=Value.ref l from ru);obtain⟨o,hP,ho⟩:=am1 P _ mP;have hPo:=(I1.hok P _ hP).1;obtain⟨cy,hcy⟩:=I1.ok.has y (.inl S.cl);have hcl:closureFor sc X.env=pure [(y,cy)]:=by
  rw[xN (λz hz hk=>by
   rw[S.nm]at hz;rcases Aj.mp hz with rfl|hz
   .cases hk
   .rw[Am.mp hz];exact⟨cy,hcy⟩),S.nm]
  show pure [(y,(X.env.cells.lookup y).getD 0)]=_;rw[hcy];rfl
 have hgl:s1.heap.Ns Dh X.mg:=I1.ok.mod.glob.keeps I1.bk;have none_of:∀{b o},X.base.get? b=some o->b≠P:=λ{b o} e z=>by
  have:=(I1.bs b o e).2;rw[z,hP]at this;cases this
 have hgP:Dh≠P:=by
  obtain⟨o,es,ep,e,_⟩:=I1.ok.mod.glob;exact none_of e
 have hba:s1.heap.BuiltinsAt X.mg P:=by
  obtain⟨bm,ob,b1,b2,b3,b4,b5,b6,b7⟩:=hbm;exact⟨bm,ob,b1,b2,b3,none_of (I1.ok.mod.kin bm ob b4),I1.kIn bm ob b4,b5,b6,b7⟩
 have C:PySem.W.CodeHd s1.heap c P:=PySem.W.codeHd_of_K I1.kIn hcd;have frs_lt:∀b∈fP X.stack,b<s1.heap.objs.size:=λb hb=>by
  obtain⟨_,ob,ho,_⟩:=I1.stack.mem hb;exact Av ho
 have fin:∀(s2:Ag) (H2:Hp) (f c':Addr) (pm ctv:Ae),Inv X pins Z H2 s2->AM X.K H2 M1->Kp H1 M1 H2 M1->H2 c'=some (.ext λh=>h.CodeRec (.ref c') (X.env.qual++"<lambda>"))->M1 c'=none->s2.heap.get? f=some (Kw "<lambda>" (X.env.qual++"<lambda>") params body sc [(y,cy)] pm c' ctv)->H2 f=none->s1.heap.objs.size<=f->Be (Bn X.prog X.w) X.A (call (.builtin "min") [.ref l] [("key",.ref f)]) (EP X pins Z Q) X.xe s2:=λs2 H2 f c' pm ctv I2 am2 k2 hc' mc hf hf2 hff=>
  zdc hr S hj (hbind cy pm c' ctv) hb I2 am2 ((as.kp am k1).kp am1 k2) hc' mc (k2.fr l _ ml hl).1 ml (avs.kp am1 k2) hne hf hf2 (λz=>absurd (frs_lt f z) (Ll.mpr hff)) hcy ej ht λi v u w s H' hw hbest rv I am' k' av'=>⟨v,H',I,rv,k v H' w M1 ((k1.trans k2).trans k') am' av' (hR i w hw hbest)⟩
 cases o with
 | none=>
  refine PySem.W.kla_eval hdef (PySem.W.kla_makeFunction hcl I1.ok.glob hgl hcode C hPo trivial rfl hgP hba λc' ctv h' tk hx hge hlt hrec htb=>kws_nil ?_);obtain⟨H2,I2,am2,k2,hc',mc,hfr⟩:=zdd (tk:=tk) I1 am1 hP mP hx hge hrec htb;have hsz:s1.heap.objs.size<=h'.objs.size:=Az hge (Hc hlt);exact fin _ H2 h'.objs.size c' _ ctv (I2.kept (t':=tk) λb o e=>Af _ e) am2 k2 hc' mc (Ba _ rfl) (hfr _ hsz (Dk hlt)) hsz
 | some c'=>
  obtain⟨hc',mc⟩:=ho c' rfl;refine PySem.W.kla_eval hdef (PySem.W.kla_makeFunctionHit (cv:=.ref c') hcl I1.ok.glob hgl hcode C hPo trivial (codeAmong_snoc [] trivial rfl) hba λctv h' tk hk hsz=>kws_nil ?_);exact fin _ H1 h'.objs.size c' _ ctv (I1.kept (t':=tk) λb o e=>Af _ (hk b o e)) am1 (Kp.refl am1) hc' mc (Ba _ rfl) (I1.hok.fresh hsz) hsz
end
end L3
namespace L2
open PySem Spec PyProof.Rows
def oW(P:Addr)(lp:Pos)(o:Option Addr):HO:=.ext λh=>h.get? P=some (Fq (L3.m8 lp o))
def w4(P:Addr)(lp:Pos)(H:Hp):Prop:=(∀b,b≠P->H b=none\/∃o xs,H b=some (.frz o (.lst xs)))/\H P=some (oW P lp none)
theorem zdf{Pr:Bt}{w:Cm}{K:Ac}{mg mb:Str->Option Ae}{k:Nat}{fa a c P:Addr}{lp:Pos}{fd:Bk}{x:Str}{sp:Sp}{s1:Ag}{vs:List Ae}{ns:List Int}(KX:K.In s1.heap)(hns:s1.heap.Ns Dh mg)(hb:s1.heap.Ns Mf mb)(hbb:∀x:Str,x≠"__name__"->mb x=Ct x)(hlim:s1.heap.NoLimit)(hg:s1.gens = #[])(hP:s1.heap.get? P=some (Fq #[]))(hC:Kr K c P=true)(hPK:K.lookup P=none)(ha:s1.heap.get? a=some {cls:=.type "list",data:=.seq vs.toArray})(hi:Nc vs ns)(hl:ns.length<=Ao)(hr:cE k callerA)(F:∀base:Heap,K.In base->base.Ns Dh mg->eV Pr w K mg base eW k fa fd [x] sp)(hbind:∀(s:Ag) (u:Ae),BindsTo s fd ⟨[u],[]⟩ [(x,u)])(hsp:∀H:Hp,w4 P lp H->bK K H a (ns.map V.int)->sp [.ref a] H (λv H'=>v=.bl true/\∃o,H' P=some (oW P lp o)) λ_ _ _=>False):
  Hq (Bn Pr w) callerA (.call (.ref fa) ⟨[.ref a],[]⟩) (λr s'=>r=.ok (.ret (.bool true))/\OldK s1.heap s'.heap/\s'.os=s1.os/\Lh s'.gens) s1:=by
 have rv:=F6 hi;have lenV:=hi.length;have aP:a≠P:=λe=>by rw[e,hP]at ha;cases ha
 have tabOk:∀H:Hp,cZ Pr w H s1.heap P (oW P lp none):=λH=>⟨hP,⟨_,hP⟩,λh1 h2 e k=>k _ e⟩
 have core:∀H:Hp,w4 P lp H->bK K H a (ns.map V.int)->cR Pr w H s1.heap->(∀b,H b≠none->b=a\/b=P)->(H a≠none->K.lookup a=none)->
   Hq (Bn Pr w) callerA (.call (.ref fa) ⟨[.ref a],[]⟩) (λr s'=>r=.ok (.ret (.bool true))/\OldK s1.heap s'.heap/\s'.os=s1.os/\Lh s'.gens) s1:=by
  intro H hO hS hok hA hK;have base_of:∀{b:Addr} {o:Obj},s1.heap.get? b=some o->H b=none->(lM s1.heap H).get? b=some o:=λe n=>OY e n;have noA:∀{b:Addr} {o:Obj} {es:Array Ia} {ep:Nat},s1.heap.get? b=some o->o.data=.dict es ep->H b=none:=λ{b o es ep} e d=>by
   cases q:H b with
   | none=>rfl
   | some u=>
    rcases hA b (by rw[q];simp) with e'|e'
    .subst e';rw[ha]at e;cases e;have d':Data.seq vs.toArray _=Data.dict es ep:=d;cases d'
    .subst e';rw[hP]at e;cases e;have d':Data.fields _=Data.dict es ep:=d;cases d'
  have nsK:∀{b:Addr} {m:Str->Option Ae},s1.heap.Ns b m->(lM s1.heap H).Ns b m:=λ{b m} ⟨o,es,ep,e,d,r⟩=>⟨o,es,ep,base_of e (noA e d),d,r⟩
  have hKb:K.In (lM s1.heap H):=λb o e=>base_of (KX b o e) (by
   cases q:H b with
   | none=>rfl
   | some u=>
    rcases hA b (by rw[q];simp) with e'|e'
    .subst e';rw[hK (by rw[q];simp)]at e;cases e
    .subst e';rw[hPK]at e;cases e)
  have hM:Mod K mg (lM s1.heap H):=⟨hKb,nsK hns,⟨mb,nsK hb,hbb⟩,let ⟨mc,h1,h2⟩:=hlim;⟨mc,nsK h1,h2⟩⟩;have e0:nX Pr w K mg (lM s1.heap H) callerA [] s1 H:=⟨rfl,hM,λb o e=>OZ e,Gb (OX _ _),trivial,λb hb=>absurd (show b∈([]:List Addr) from hb) (by simp),hok,.of_eq hg⟩;refine Mb ((F _ hKb (nsK hns)).run callerA [] s1 H ⟨[.ref a],[]⟩ [.ref a] [.ref a] _ _ hr e0 (hbind s1 (.ref a)) (.cons rfl .nil) (hsp H hO hS)) λr s' h=>?_;cases r with
  | error e=>exact Fv h
  | ok fl=>
   cases fl with
   | next=>exact Fv h
   | brk=>exact Fv h
   | cont=>exact Fv h
   | ret u=>
    obtain⟨v,H',os,bare,un,hok',r',q',o',qP⟩:=h;subst q';obtain rfl:u=Value.bool true:=r';have kp:∀b o,b≠P->s1.heap.get? b=some o->s'.heap.get? b=some o:=λb o hb e=>by
     cases q:H b with
     | none=>exact un.keep b o e q (by intro z;exact absurd (show b∈([]:List Addr) from z) (by simp)) (by simp)
     | some u=>
      rcases hO.1 b hb with z|⟨ob,xs,z⟩
      .rw[q]at z;cases z
      .have z2:=un.frzs b ob _ z;obtain⟨e1,_⟩:=hok b _ z;obtain⟨e2,_⟩:=hok' b _ z2;rw[e]at e1;cases e1;exact e2
    have e2:s'.heap.get? P=some (Fq (L3.m8 lp o')):=(hok' P _ qP).1;refine⟨rfl,⟨λb o e=>?_,λb o e=>?_⟩,os,bare⟩
    .by_cases hb:b=P
     .subst hb;rw[hP]at e;cases e;exact .inr (.inl ⟨((PySem.W.codeHd_of_K KX hC).tab hP).isCodeTable,rfl,#[],L3.m8 lp o',rfl,by rw[Array.empty_append];exact e2⟩)
     .exact .inl (kp b o hb e)
    .by_cases hb:b=P
     .exact⟨_,hb▸e2⟩
     .exact⟨o,kp b o hb e⟩
 cases hk:K.lookup a with
 | some o=>
  have e:=KX a o hk;rw[ha]at e;cases e;refine core (λb=>if b=P then some (oW P lp none) else none) ⟨λb hb=>.inl (if_neg hb),if_pos rfl⟩ (.inr ⟨_,vs.toArray,_,hk,rfl,rfl,rfl,by rw[Bd,lenV];exact hl,by simpa using rv⟩) (λb u z=>?_) (λb z=>?_) λz=>absurd (if_neg aP) z
  .by_cases hb:b=P
   .subst hb;cases (if_pos rfl).symm.trans z;exact tabOk _
   .cases (if_neg hb).symm.trans z
  .by_cases hb:b=P
   .exact .inr hb
   .exact absurd (if_neg hb) z
 | none=>
  refine core (λb=>if b=P then some (oW P lp none) else if b=a then some (.frz {cls:=.type "list",data:=.seq vs.toArray} (.lst (ns.map V.int))) else none) ⟨λb hb=>?_,if_pos rfl⟩ (.inl (.inr ⟨{cls:=.type "list",data:=.seq vs.toArray},(if_neg aP).trans (if_pos rfl)⟩)) (λb u z=>?_) (λb z=>?_) λ_=>hk
  .by_cases hb2:b=a
   .exact .inr ⟨_,_,(if_neg hb).trans (if_pos hb2)⟩
   .exact .inl ((if_neg hb).trans (if_neg hb2))
  .by_cases hb:b=P
   .subst hb;cases (if_pos rfl).symm.trans z;exact tabOk _
   .have z:=(if_neg hb).symm.trans z
    by_cases hb:b=a
    .have z':=(if_pos hb).symm.trans z;cases z';subst hb;exact⟨ha,by rw[Ab];exact hl,vs,_,rv,ha⟩
    .have z':=(if_neg hb).symm.trans z;cases z'
  .by_cases hb:b=P
   .exact .inr hb
   .by_cases hb2:b=a
    .exact .inl hb2
    .exact absurd ((if_neg hb).trans (if_neg hb2)) z
theorem zdg{l:PySem.W.OpenLaw}{n k:Nat}{q:Bt}{loose:List Str}{XP:(Str->Option Ae)->Heap->Prop}{YP:Cm->Heap->Prop}{d:DefRec}{K:Params->Ac}{sp:Cm->Sp}{x:Str}{c P:Addr}{lp:Pos}(hn:l.most=some n)(hn2:n<=Ao)(hdf:d.params.defaults=[])(hr:cE k callerA)(hY:∀(w:Cm) (h:Heap),YP w h->(K w.params).In h/\h.get? P=some (Fq #[]))(hC:∀w:Cm,Kr (K w.params) c P=true)(hPK:∀w:Cm,(K w.params).lookup P=none)(F:∀(w:Cm) (mg:Str->Option Ae) (fa:Addr) (h:Heap),(K w.params).In h->h.Ns Dh mg->mg d.name=some (.ref fa)->
   ∃fd:Bk,(∀(s:Ag) (u:Ae),BindsTo s fd ⟨[u],[]⟩ [(x,u)])/\
    ∀base:Heap,(K w.params).In base->base.Ns Dh mg->eV l.prog w (K w.params) mg base eW k fa fd [x] (sp w))(hsp:∀(w:Cm) (H:Hp) (a:Addr) (ns:List Int),ns.length<=n->w4 P lp H->bK (K w.params) H a (ns.map V.int)->sp w [.ref a] H (λv H'=>v=.bl true/\∃o,H' P=some (oW P lp o)) λ_ _ _=>False):
  PySem.W.WalkO q loose XP YP l.row.toRowW d [] (λf vs=>PySem.call f vs):=by
 refine Att.attach_call hn hdf λw s₀ s1 mg mb fa o pm cd doc a vs ns G Y ho hd hcd hmg hobj hints hlen hg=>?_;have KX:=hY w _ Y;obtain⟨fd,hb,hF⟩:=F w mg fa _ KX.1 G.T.g hmg;exact zdf KX.1 G.T.g G.T.b G.T.builtins G.T.nolimit hg KX.2 (hC w) (hPK w) hobj hints (Az hlen hn2) hr hF hb (λH hO hS=>hsp w H a ns hlen hO hS)
end L2
namespace L3
open PySem Spec PyProof.Rows L2
variable {K:Ac}
def sX(P:Addr)(lp:Pos)(qual:Str):bL:=λws M R=>∃ns:List Int,ws=[.sc (ns.map W.int)]/\ns.length<=63/\M P=some (.tb lp qual)/\∀M',M' P=some (.tb lp qual)->R (.bl true) M'
theorem zdh{P:Addr}{lp:Pos}{qual:Str}{H:Hp}{a:Addr}{ns:List Int}(hl:ns.length<=63)(ho:w4 P lp H)(hs:bK K H a (ns.map V.int)):fZ K (sX P lp qual) [.ref a] H (λv H'=>v=.bl true/\∃o,H' P=some (oW P lp o)) λ_ _ _=>False:=by
 have hr:lQ K H a (ns.map V.int):=by
  rcases hs with(e|⟨o,e⟩)|e
  .by_cases hb:a=P
   .rw[hb,ho.2]at e;cases e
   .rcases ho.1 a hb with z|⟨o,xs,z⟩
    .rw[z]at e;cases e
    .rw[z]at e;cases e
  .exact .inl ⟨o,e⟩
  .exact .inr e
 refine⟨[.sc (ns.map W.int)],λb=>if b=P then some (.tb lp qual) else none,λw M'=>w=.bl true/\M' P=some (.tb lp qual),λb o e=>?_,.cons (.sc hr (aN.int ns)) .nil,⟨ns,rfl,hl,if_pos rfl,λM' e=>⟨rfl,e⟩⟩,λv H' w M' _ am av r=>?_⟩
 .by_cases hb:b=P
  .subst hb;cases (if_pos rfl).symm.trans e;exact⟨none,ho.2,λc h=>nomatch h⟩
  .cases (if_neg hb).symm.trans e
 .obtain⟨rfl,e⟩:=r;obtain⟨o,e1,_⟩:=am P _ e;exact⟨av.bl_inv,o,e1⟩
section
variable {X:Cx}{e:Expr}{ta tb:a0}
def oX(ta tb:a0):a0:=λτ M R=>ta τ M R\/tb τ M R
theorem BI(ha:E3 X e ta)(hb:E3 X e tb):E3 X e (oX ta tb):=λpins s Z H Q I ⟨τ,M,R,as,am,h,k⟩=>h.elim (λh=>ha pins s Z H Q I ⟨τ,M,R,as,am,h,k⟩) λh=>hb pins s Z H Q I ⟨τ,M,R,as,am,h,k⟩
def ML(i:Nat)(t:aJ):aJ:=λD τ M=>sP i t D τ M\/t D τ M
theorem zdi{i:Nat}{st:Stmt}{t:aJ}(h:P3 X st t):P3 X st (ML i t):=λpins s Z H E I ⟨τ,M,D,as,am,z,k⟩=>z.elim (λz=>A8 h pins s Z H E I ⟨τ,M,D,as,am,z,k⟩) λz=>h pins s Z H E I ⟨τ,M,D,as,am,z,k⟩
def w5(M M':Mm)(e e':List aE×W):Prop:=e.1=e'.1/\∃b ws,e.2=.ref b/\e'.2=.rl ws/\M b=some (.lst ws)/\M' b=none
def zdj(w:W)(M:Mm)(R:K3):Prop:=∃(a:Addr) (kvs kvs':List (List aE×W)) (M':Mm),w=.ref a/\M a=some (.dT kvs)/\Fs (w5 M M') kvs kvs'/\Sub M' M/\M' a=none/\R (.dt kvs') M'
def MM(t:a0):a0:=λτ M R=>t τ M λw M'=>zdj w M' R
theorem MN{K:Ac}{H:Hp}{M M':Mm}(am:AM K H M)(sb:Sub M' M):∀{kvs kvs':List (List aE×W)} {ks:List (List aE×V)},bU K H M (List aE) ks kvs->Fs (w5 M M') kvs kvs'->bU K H M' (List aE) ks kvs'
 | _,_,_,.nil,.nil=>.nil
 | _,_,p::ks,.cons r t,.cons ⟨e1,b,ws,e2,e3,h1,h2⟩ t'=>by
  obtain⟨vs,f,q⟩:=am.lst h1;refine .cons ⟨r.1.trans e1,?_⟩ (MN am sb t t');have r2:=r.2;rw[e2]at r2;rw[e3,show p.2=V.ref b from r2.inv];exact .rl f h2 (q.sub sb)
theorem zdk(ha:E3 X e ta):E3 X e (MM ta):=ha.weak λZ H Q z0=>z0.el λτ M R as am h k=>⟨τ,M,_,as,am,h,λv H' w M1 k' am' av ⟨a,kvs,kvs',M',ew,e1,e2,sb,n1,r⟩=>by
 subst ew;obtain rfl:=av.inv;obtain⟨ks,f,q⟩:=am' _ _ e1;have q2:=MN am' sb q e2;exact k _ H' _ M' (k'.sub sb) (am'.sub sb) (.dt f n1 q2.keys q2.vals) r⟩
end
section
variable {K:Ac}{x q:Str}{st:Stmt}{f c:Addr}{ps:List Str}{fd:Bk}{N:List Str}{sp:bL}{rd:aJ}
theorem zdl(P:Bt)(w:Cm)(mg:Str->Option Ae)(base:Heap)(k:Nat)(hc:fd.code=.ref c)(F:jF K x q st f fd)(_:Binds K fd ps [])(S:mW N ps (dW st))(good:∀{ws M R},sp ws M R->rd (bP R) (bX N ws) M)(tm:∀{A:Ck} {outer:List Env} {s:Ag} {H:Hp} {E:XK},cE k (A.deeper (Jo q (dW st) s.heap.objs.size f (.ref c)))->(A.deeper (Jo q (dW st) s.heap.objs.size f (.ref c))).units+1<Ez->N.Nodup->jK (kK eW P w K mg base N q (dW st) f (.ref c) A outer s H E).nox (gO st) rd)(len:∀ws M R,sp ws M R->ws.length=ps.length:=by intro _ _ _ h;repeat (first|(obtain⟨rfl,_⟩:=h;exact rfl)|obtain⟨_,h⟩:=h)):eV P w K mg base eW (k+1) f fd ps (fZ K sp):=by
 obtain⟨oc,od,kV,doc,pm,an,cdv,ct,osl,rfl,lk,hcd⟩:=F.ex;cases (show cdv=.ref c from hc);refine FA lk hcd S (λvs H Q E ⟨ws,M,R,am,av,h,_⟩=>by rw[av.length];exact len ws M R h) λA outer s H vs Q E hr ⟨ws,M,R,am,av,h,kk⟩=>⟨_,(tm (E:=E) hr (qV hr) S.nd).nox,bX N ws,M,bP R,?_,am,good h,⟨λσ' H' τ' M' k' am' as' ⟨M'',sb,r⟩=>kk _ H' _ M'' (k'.sub sb) (am'.sub sb) .non r,λv H' w M' k' am' av' ⟨M'',sb,r⟩=>kk v H' w M'' (k'.sub sb) (am'.sub sb) (av'.sub sb) r,λ_ _ _ _ _ _ _ z=>z.elim,λ_ _ _ _ _ _ _ z=>z.elim⟩⟩
 unfold L2.start bX;rw[av.length];exact AS.start av _
end
end L3
namespace M69
open PySem Spec PyProof.Rows L2 L3 Rg
abbrev nR(a:dH):W:=.tup [.int a.1,.str a.2.1,.int a.2.2]
def aK(a:dH):List aE:=[Sum.inl a.1,Sum.inr a.2.1,Sum.inl a.2.2]
abbrev hV(mc:Mc):W:=.tup [.int mc.many,.rl (mc.arr.map nR),.rl (mc.ends.map W.int)]
abbrev mR(z:Int×Int):W:=.tup [.int z.1,.int z.2]
abbrev wW(x:SI):W:=.str x.1
abbrev rW(x:SI):W:=.int x.2
def kH(q:a7)(mc:Mc)(B:bN):List a9:=(B.map (·.1)).filter λf=>decide (f∈mc.ends.map λe=>(q.name,(0:Int),e))
abbrev nT:Pos:=⟨172,26,172,52⟩
abbrev oY:Str:="both_let.<locals>.<lambda>"
def w6(M:Mm)(w:W)(ws:List W):Prop:=w=.rl ws\/∃a,w=.ref a/\M a=some (.lst ws)
def gK(ks:List dH)(k:Str×Int):Option (List W):=if hU ks k.1 k.2=[] then none else some ((hU ks k.1 k.2).map mR)
structure MP(M0 M:Mm)(a:Addr)(ks:List dH)(kvs:List (List aE×W)):Prop where
 tab:eF eK M0 M a kvs (gK ks)
 ky:∀e∈kvs,∃k,e.1=eK k
 nd:(kvs.map (·.1)).Nodup
 ln:kvs.length<=ks.length
def BJ:bL:=λws M R=>∃ks:List (List aE),ws=[.rl (ks.map λk=>.tup (k.map wK))]/\ks.length<=1000/\n9 (lB [] (ks.map λk=>(k,.bl true))) M R
def MR:bL:=λws M R=>∃mc:Mc,ws=[hV mc]/\MQ mc/\bH ((bT mc.many).map W.int) M R
def MS:bL:=λws M R=>∃mc:Mc,ws=[hV mc]/\MQ mc/\∀ks a kvs M',(∀z,z∈ks↔z∈mc.arr)->ks.length<=21->MP M M' a ks kvs->R (.ref a) M'
def MT(C:Cc):bL:=λws M R=>∃(rs:List a7) (mc:Mc),ws=[dA rs,hV mc]/\GQ rs/\MQ mc/\∀ks B,(∀z,z∈ks↔z∈mc.arr)->iK (cB rs mc ks) B->n9 (dU fK gA B) M R
def MU:bL:=λws M R=>∃(q:a7) (rs:List a7) (mc:Mc) (B:bN),ws=[dA (q::rs),hV mc,mO B]/\MQ mc/\B.length<=1000/\R (.rl ((kH q mc B).map dC)) M
def BK:bL:=λws M R=>∃(t:Str) (b e:Int),ws=[.str t,.int b,.int e]/\R (.rl [.int e]) M
def MV:bL:=λws M R=>∃(ls:List W) (xss:List (List W)),ws=[.rl ls]/\ls.length<=1000/\Fs (w6 M) ls xss/\xss.flatten.length<=1000000/\bH xss.flatten M R
def BL:bL:=λws M R=>∃(n:Int) (ls:List W) (xss:List (List W)),ws=[.int n,.rl ls]/\ls.length<=1000/\Fs (w6 M) ls xss/\xss.flatten.length<=1000000/\bH xss.flatten M R
def BM:bL:=λws M R=>∃(n:Nat) (vs:List W),ws=[.int n,.rl vs]/\R (.tup [.int n,.tup vs]) M
def w9(C:Cc):bL:=λws M R=>∃(G:Sr) (B:bN) (aQ:a9) (fi gi:W),ws=[dA G.rs,mO B,dC aQ,fi,gi]/\Wb G B/\aQ∈B.map (·.1)/\
 ((fi=.ref C.f/\gi=.ref C.g/\(yT G B aQ).length<=5000/\∀p M',M p=none->L3.Sub M M'->M' p=some (.lst ((yT G B aQ).map wW))->R (.ref p) M')\/
 (fi=.ref C.p/\gi=.ref C.g/\(yT G B aQ).length<=5000/\∀p M',M p=none->L3.Sub M M'->M' p=some (.lst ((yT G B aQ).map rW))->R (.ref p) M')\/
 (fi=.ref C.h/\gi=.ref C.i/\R (nQ G B aQ) M))
def MW(C:Cc):bL:=λws M R=>∃(G:Sr) (B:bN) (aQ:a9),ws=[dA G.rs,mO B,dC aQ]/\Wb G B/\aQ∈B.map (·.1)/\R (nQ G B aQ) M
def BN(C:Cc):bL:=λws M R=>∃(q:a7) (rs:List a7) (mc:Mc),ws=[dA (q::rs),hV mc]/\GQ (q::rs)/\MQ mc/\M C.t=some (.tb nT oY)/\∀ks B,(∀z,z∈ks↔z∈mc.arr)->iK (cB (q::rs) mc ks) B->
 (kH q mc B=[]->R .non M)/\∀aQ x,aQ∈kH q mc B->aD B aQ=some x->(∀f∈kH q mc B,∀y,aD B f=some y->x.1.1<=y.1.1)->x.1.1<=200/\
  ∀p p2 M',M p=none->M p2=none->p≠p2->L3.Sub M M'->M' p=some (.lst ((yT (cB (q::rs) mc ks) B aQ).map wW))->M' p2=some (.lst (.int 0::(yT (cB (q::rs) mc ks) B aQ).map rW))->R (.tup [.ref p,nQ (cB (q::rs) mc ks) B aQ,.ref p2]) M'
abbrev zdm:bL:=MA
def MX:bL:=λws M R=>∃(d n:Addr),ws=[.ref d]/\Dq d n M/\∀rs a M',GQ rs->M' a=some (.lst (rs.map gL))->M a=none->Dq d n M'->Oq d n M M'->R (.ref a) M'
def MY:bL:=λws M R=>∃(d n:Addr),ws=[.ref d]/\Dq d n M/\∀mc M',MQ mc->Oq d n M M'->R (hV mc) M'
def MZ:bL:=λws M R=>∃(rs:List a7) (mc:Mc) (T:Tq) (ps:List Str) (b:Int),ws=[.rl (mc.arr.map nR),wU T,wX rs,.tup (ps.map W.str),.int b]/\GQ rs/\MQ mc/\IQ rs mc T/\ps.length<=4/\(∀t∈ps,t∈iL\/t∈jU)/\b∈bT mc.many/\uA (bQ (eI rs mc T ps b)) M R
def NA:bL:=λws M R=>∃(q:a7) (rs:List a7) (mc:Mc),ws=[dA (q::rs),hV mc]/\GQ (q::rs)/\MQ mc/\∀o:Option Int,(∀ks B,(∀z,z∈ks↔z∈mc.arr)->iK (cB (q::rs) mc ks) B->A7 (λv=>∃e∈mc.ends,∃x,aD B (q.name,(0:Int),e)=some x/\x.1.1=v) o)->R (BB o) M
def sY:Nat->bL
 | 0=>λ_ _ _=>False
 | d+1=>λws M R=>∃(rs:List a7) (x:W) (X:Str) (ts:List Str),ws=[dA rs,x]/\GQ rs/\wQ rs d x X ts/\ts.length<=5000/\R (.tup [.str X,.rl (ts.map W.str)]) M
abbrev fN:bL:=sY 197
def NB:bL:=λws M R=>∃(mc:Mc) (p p2:Addr) (y:List SI) (e:Int),ws=[hV mc,.ref p,.ref p2]/\MQ mc/\M p=some (.lst (y.map wW))/\M p2=some (.lst (.int 0::y.map rW))/\y.length<=5000/\e∈mc.ends/\Wk mc.arr 0 y e/\R (.bl true) M
abbrev zdn(C:Cc):bL:=sX C.t nT oY
def zdo:aJ:=
   (bW (b9 KR (aB (eA (gF (dJ fR (aA 0)) (bM 0) i7 (cM (aB (aA 0) (aB (vC (.bl true)) aG))) [none])) aG)))
abbrev zdp:List Str:=["machine"]
def zdq:aJ:=
   (bW (KS (aF aR (aA 0) (vC (.int 0)))))
abbrev zdr:List Str:=["machine","steps","arrow"]
def zds:aJ:=
   (bE 1 lZ)
def zdt:aJ:=
   (dZ (dE "list" fF (dE "dict" oK (aA 1) (aB (cM (aB (aF aR (aA 2) (vC (.int 1))) (aB (aF aR (aA 2) (vC (.int 0))) aG))) (aB (gR aG) aG))) (aB (cM (aB (aF aR (aA 2) (vC (.int 2))) (aB (vC (.int 1)) aG))) aG)))
def zdu:aJ:=
   (eD (dJ jT (vV (bV BJ (aB (aF aR (aA 0) (vC (.int 1))) aG)))) (bM 2) zdt)
def zdv:aJ:=
   (bW (aA 1))
def zdw:aJ:=(aT zds (aT zdu zdv))
abbrev zdx:List Str:=["grammar","machine"]
def zdy(C:Cc):aJ:=
   (bW (bV (KG C) (aB (aA 0) (aB (eA (bV MR (aB (aA 1) aG))) (aB (MM (bV MS (aB (aA 1) aG))) (aB (eA (bV LI (aB (aA 0) aG))) aG))))))
abbrev zdz:List Str:=["grammar","machine","told","wanted"]
def zdA:aJ:=
   (aT (bE 3 (bV BJ (aB (eA (gF (dJ fR (aF aR (aA 1) (vC (.int 2)))) (bM 0) i7 (cM (aB (bV JZ (aB (aA 1) aG)) (aB (vC (.int 0)) (aB (aA 0) aG)))) [none,some 0])) aG)))
   (bW (eA (gF (dJ jT (aA 2)) (bM 0) (bZ (aF (rIn false) (aA 0) (aA 1))) (aA 0) [none,some 3]))))
abbrev zdB:List Str:=["word","begin","end"]
def zdC:aJ:=
   (bW (gH (aB (aA 2) aG)))
abbrev zdD:List Str:=["lists","whole","one"]
def zdE:aJ:=
   (bE 1 (gR aG))
def zdF:aJ:=
   (dZ (dE "list" HF (aA 1) (aB (aA 2) aG)))
def zdG:aJ:=
   (eD (dJ fR (aA 0)) (bM 2) zdF)
def zdH:aJ:=
   (bW (aA 1))
def zdI:aJ:=(aT zdE (aT zdG zdH))
abbrev zdJ:List Str:=["number","lists"]
def zdK:aJ:=
   (bW (bV MV (aB (aA 1) aG)))
abbrev zdL:List Str:=["number","children"]
def zdM:aJ:=
   (bW (cM (aB (aA 0) (aB (b9 uO (aB (aA 1) aG)) aG))))
abbrev BO:List Str:=["grammar","best","top","of_word","of_rule","own","made","fact","number","cut","values","k","part"]
def zdN(C:Cc):aJ:=
   (bE 5 (bV vR (aB (eA (bV vM (aB (aA 0) aG))) aG)))
def zdO(C:Cc):aJ:=
   (bE 6 lZ)
def zdP(C:Cc):aJ:=
   (aT (bE 8 (aF aR (aF aR (aA 1) (aA 7)) (vC (.int 1))))
   (aT (bE 9 (aF aR (aF aR (aA 1) (aA 7)) (vC (.int 2))))
   (aT (bE 10 (gR aG))
   (aT (eD (AZ (aB (aF aR (aF aR (aA 0) (aA 8)) (vC (.int 1))) aG)) (jM 2 (eO (bM 11) (eO (bM 12) jL)))
    (dB (bZ (aF (rIn false) (aA 12) (aA 5)))
    (dZ (dE "list" fF (aA 10) (aB (aF aR (aA 6) (cM (aB (aA 12) (aB (aF aR (aA 9) (aA 11)) (aB (aF aR (aA 9) (aF c8 (aA 11) (vC (.int 1)))) aG))))) aG)))
    (dZ (dE "list" fF (aA 10) (aB (oX (kG 3 C.f BC (aB (aA 12) (aB (aF aR (aA 9) (aA 11)) (aB (aF aR (aA 9) (aF c8 (aA 11) (vC (.int 1)))) aG)))) (oX (kG 3 C.p BK (aB (aA 12) (aB (aF aR (aA 9) (aA 11)) (aB (aF aR (aA 9) (aF c8 (aA 11) (vC (.int 1)))) aG)))) (kG 3 C.h A0 (aB (aA 12) (aB (aF aR (aA 9) (aA 11)) (aB (aF aR (aA 9) (aF c8 (aA 11) (vC (.int 1)))) aG)))))) aG)))))
   (gS (oX (kG 4 C.g BL (aB (aA 8) (aB (eA (aA 10)) aG))) (kG 4 C.i BM (aB (aA 8) (aB (eA (aA 10)) aG)))) (iF (aA 6) (aA 7)))))))
def zdQ(C:Cc):aJ:=
   (eD (dJ fR (eA (bV LR (aB (aA 0) (aB (aA 1) (aB (aA 2) aG)))))) (bM 7) (zdP C))
def zdR(C:Cc):aJ:=
   (bW (aF aR (aA 6) (aA 2)))
def BP(C:Cc):aJ:=(aT (zdN C) (aT (zdO C) (aT (zdQ C) (zdR C))))
abbrev zdS:List Str:=["grammar","best","top"]
def zdT(C:Cc):aJ:=
   (bW (bV (w9 C) (aB (aA 0) (aB (aA 1) (aB (aA 2) (aB (vC (.ref C.h)) (aB (vC (.ref C.i)) aG)))))))
abbrev zdU:List Str:=["grammar","machine","best","common","top","row","walk"]
def zdV(C:Cc):aJ:=
   (bE 2 (vV (bV (MT C) (aB (aA 0) (aB (aA 1) aG)))))
def zdW(C:Cc):aJ:=
   (bE 3 (bV MU (aB (aA 0) (aB (aA 1) (aB (aA 2) aG)))))
def zdX(C:Cc):aJ:=
   (dB (bZ (aF (rEq false) (b9 eC (aB (aA 3) aG)) (vC (.int 0))))
    (bW (vC .non))
    eP)
def zdY(C:Cc):aJ:=
   (bE 4 (MK C.t ⟨172,26,172,52⟩ "both_let.<locals>.<lambda>" 2 (aA 3) (aF aR (aF aR (aA 1) (aA 0)) (vC (.int 0)))))
def zdZ(C:Cc):aJ:=
   (bE 5 (bV (w9 C) (aB (aA 0) (aB (aA 2) (aB (aA 4) (aB (vC (.ref C.f)) (aB (vC (.ref C.g)) aG)))))))
def zd0(C:Cc):aJ:=
   (bE 6 (aF uD (gH (aB (vC (.int 0)) aG)) (bV (w9 C) (aB (aA 0) (aB (aA 2) (aB (aA 4) (aB (vC (.ref C.p)) (aB (vC (.ref C.g)) aG))))))))
def zd1(C:Cc):aJ:=
   (bW (cM (aB (aA 5) (aB (bV (MW C) (aB (aA 0) (aB (aA 2) (aB (aA 4) aG)))) (aB (aA 6) aG)))))
def zd2(C:Cc):aJ:=(aT (zdV C) (aT (zdW C) (aT (zdX C) (aT (zdY C) (aT (zdZ C) (aT (zd0 C) (zd1 C)))))))
abbrev zd3:List Str:=["script","numbers","k","cell","number","turn","one"]
def zd4:aJ:=
   (bE 1 (gR aG))
def zd5:aJ:=
   (aT (bE 4 (b9 HZ (aB (aA 3) aG)))
   (aT (dB (bZ (aF oA (aA 4) (aF GX (vC (.int 10)) (vC (.int 18)))))
    (eD (l0 (aB (vC (.int 6)) aG)) (bM 5)
    (aT (bE 6 (aF rD (aF c8 (aF c8 (aF c8 (aA 4) (aF pV (vC (.int 7877)) (aA 2))) (aF pV (vC (.int 13)) (aA 5))) (vC (.int 1))) (vC (.int 2305843009213693951))))
   (aT (bE 6 (aF rD (aF pV (aA 6) (aA 6)) (vC (.int 2305843009213693951))))
   (bE 4 (aF c8 (aF pV (aA 4) (vC (.int 2305843009213693951))) (aF rD (aF pV (aA 6) (vC (.int 3037000493))) (vC (.int 2305843009213693951))))))))
    eP)
   (dZ (dE "list" fF (aA 1) (aB (aA 4) aG)))))
def zd6:aJ:=
   (eD (ID (aB (rO (aA 0) rF (rG (vC (.int 63)))) aG)) (jM 2 (eO (bM 2) (eO (bM 3) jL))) zd5)
def zd7:aJ:=
   (dZ (pL "list" IA (aA 1)))
def zd8:aJ:=
   (bW (gR (aB (aA 1) (aB (vC (.int 0)) aG))))
def zd9:aJ:=(aT zd4 (aT zd6 (aT zd7 zd8)))
abbrev zea:List Str:=["deck","some","heads","rules","head","parts","turn","part"]
def zeb:aJ:=
   (bE 1 (rO (gH (aB (vC (.str "S")) (aB (vC (.str "A")) (aB (vC (.str "LIST")) (aB (vC (.str "B_1")) aG))))) rF (rG (aF c8 (vC (.int 1)) (bV gB (aB (aA 0) (aB (vC (.int 4)) aG)))))))
def NC:aJ:=
   (bE 2 (aF c8 (gH (aB (aF aR (aA 1) (vC (.int 0))) aG)) (eA (gF (l0 (aB (bV gB (aB (aA 0) (aB (vC (.int 8)) aG))) aG)) (bM 0) i7 (aF aR (aA 1) (bV gB (aB (aA 2) (aB (b9 eC (aB (aA 1) aG)) aG)))) [none,some 1,some 0]))))
def ND:aJ:=
   (bE 3 (gR aG))
def zec:aJ:=
   (aT (bE 5 (gR aG))
   (aT (eD (l0 (aB (bV gB (aB (aA 0) (aB (aF aR (gH (aB (vC (.int 5)) (aB (vC (.int 5)) (aB (vC (.int 5)) (aB (vC (.int 4)) aG))))) (aF rC (b9 eC (aB (aA 1) aG)) (vC (.int 1)))) aG))) aG)) (bM 6)
    (aT (bE 7 (aF aR (gH (aB (vC (.str "b")) (aB (vC (.str "a")) (aB (vC (.str "x")) aG)))) (bV gB (aB (aA 0) (aB (vC (.int 3)) aG)))))
   (dZ (dE "list" fF (aA 5) (aB (aF aR (gH (aB (aA 7) (aB (aF aR (aA 2) (bV gB (aB (aA 0) (aB (b9 eC (aB (aA 2) aG)) aG)))) aG))) (bV gB (aB (aA 0) (aB (vC (.int 2)) aG)))) aG)))))
   (dZ (dE "list" fF (aA 3) (aB (cM (aB (aA 4) (aB (b9 uO (aB (aA 5) aG)) (aB (bV gB (aB (aA 0) (aB (vC (.int 3)) aG))) aG)))) aG)))))
def BQ:aJ:=
   (eD (dJ fR (aA 2)) (bM 4) zec)
def NF:aJ:=
   (bW (aA 3))
def zed:aJ:=(aT zeb (aT NC (aT ND (aT BQ NF))))
abbrev zee:List Str:=["deck","many","arrows","k","word","ends"]
def zef:aJ:=
   (bE 1 (aF c8 (vC (.int 1)) (bV gB (aB (aA 0) (aB (aF aR (gH (aB (vC (.int 5)) (aB (vC (.int 7)) aG))) (bV gB (aB (aA 0) (aB (vC (.int 2)) aG)))) aG)))))
def NG:aJ:=
   (bE 2 (gR aG))
def zeg:aJ:=
   (aT (bE 4 (aF aR (gH (aB (vC (.str "a")) (aB (vC (.str "b")) (aB (vC (.str "x")) (aB (vC (.str "y")) aG))))) (bV gB (aB (aA 0) (aB (vC (.int 4)) aG)))))
   (dZ (dE "list" fF (aA 2) (aB (cM (aB (bV gB (aB (aA 0) (aB (aA 1) aG))) (aB (aA 4) (aB (bV gB (aB (aA 0) (aB (aA 1) aG))) aG)))) aG))))
def NH:aJ:=
   (eD (l0 (aB (bV gB (aB (aA 0) (aB (vC (.int 21)) aG))) aG)) (bM 3) zeg)
def NI:aJ:=
   (bE 5 (eA (gF (l0 (aB (bV gB (aB (aA 0) (aB (vC (.int 4)) aG))) aG)) (bM 0) i7 (bV gB (aB (aA 1) (aB (aA 2) aG))) [none,some 0,some 1])))
def NJ:aJ:=
   (bW (cM (aB (aA 1) (aB (aF c8 (aA 2) (rO (aA 2) rF (rG (bV gB (aB (aA 0) (aB (vC (.int 2)) aG)))))) (aB (aF c8 (aA 5) (rO (aA 5) rF (rG (bV gB (aB (aA 0) (aB (vC (.int 2)) aG)))))) aG)))))
def zeh:aJ:=(aT zef (aT NG (aT NH (aT NI NJ))))
abbrev zei:List Str:=["arrows","known","heads","parts","room","here","part","there","at","goals","begin","word","goal"]
def zej:aJ:=
   (bE 5 (L0 (aA 4) (vC (.int 0))))
def zek:aJ:=
   (aT (bE 7 oC)
   (aT (sP 5 (eD (dJ jT (aA 5)) (bM 8)
    (aT (bE 9 oC)
   (aT (dB (bZ (aF (rIn false) (aA 6) (aA 2)))
    (bE 9 (dE "dict" nJ (aA 1) (aB (cM (aB (aA 6) (aB (aA 8) aG))) (aB (vV oC) aG))))
    (eD (dJ nE (aA 0)) (jM 3 (eO (bM 10) (eO (bM 11) (eO (bM 12) jL))))
    (dB (uC (bZ (aF (rEq false) (aA 10) (aA 8))) (bZ (aF (rEq false) (aA 11) (aA 6))))
    (gS (vC (.int 1)) (iF (aA 9) (aA 12)))
    eP)))
   (ML 9 (eD (dJ jT (aA 9)) (bM 12)
    (gS (b9 yO (aB (aF c8 (aF aR (aA 5) (aA 8)) (aF aR (aA 9) (aA 12))) (aB (dE "dict" nJ (aA 7) (aB (aA 12) (aB (aF c8 (aF aR (aA 5) (aA 8)) (aF aR (aA 9) (aA 12))) aG))) aG))) (iF (aA 7) (aA 12)))))))))
   (bE 5 (aA 7))))
def zel:aJ:=
   (eD (dJ fR (aA 3)) (bM 6) zek)
def zem:aJ:=
   (bW (aA 5))
def zen:aJ:=(aT zej (aT zel zem))
abbrev zeo:List Str:=["rules","machine","heads","known","more","head","parts","cost","room","goals","own","goal","found"]
def zep:aJ:=
   (bE 2 (eA (gF (dJ fR (aA 0)) (bM 0) i7 (aF aR (aA 0) (vC (.int 0))) [none])))
def zeq:aJ:=
   (bE 3 lZ)
def zer:aJ:=
   (bE 4 (vC (.bl true)))
def zes:aJ:=
   (aT (bE 4 (vC (.bl false)))
   (eD (dJ nE (aA 0)) (jM 3 (eO (bM 5) (eO (bM 6) (eO (bM 7) jL))))
    (eD (l0 (aB (aF aR (aA 1) (vC (.int 0))) aG)) (bM 8)
    (aT (bE 9 (LX 3 (bV MZ (aB (aF aR (aA 1) (vC (.int 1))) (aB (aA 3) (aB (aA 2) (aB (aA 6) (aB (aA 8) aG))))))))
   (aT (bE 10 (dE "dict" oK (aA 3) (aB (cM (aB (aA 5) (aB (aA 8) aG))) (aB oC aG))))
   (sP 9 (eD (dJ jT (aA 9)) (bM 11)
    (dB (iQ (bZ (aF (rIn true) (aA 11) (aA 10))) (bZ (aF oA (aF aR (aA 9) (aA 11)) (aF aR (aA 10) (aA 11)))))
    (aT (gS (aF aR (aA 9) (aA 11)) (iF (aA 10) (aA 11)))
   (bE 4 (vC (.bl true))))
    eP))))))))
def zet:aJ:=
   (pT (i6 (aA 4)) zes)
def zeu:aJ:=
   (bE 12 (dE "dict" nJ (aA 3) (aB (cM (aB (aF aR (aA 2) (vC (.int 0))) (aB (vC (.int 0)) aG))) (aB (eA oC) aG))))
def BR:aJ:=
   (bW (L9 (eA (gF (dJ fR (aF aR (aA 1) (vC (.int 2)))) (bM 0) (bZ (aF (rIn false) (aA 0) (aA 1))) (aF aR (aA 1) (aA 0)) [none,some 12]))))
def zev:aJ:=(aT zep (aT zeq (aT zer (aT zet (aT zeu BR)))))
abbrev NK:List Str:=["rules","tree","heads","row","head","parts","cost","part","child","inner"]
def zew(fN:bL):aJ:=
   (dB (iQ (kT (i6 (b9 i8 (aB (aA 1) (aB (vC (.ty "tuple")) aG))))) (iQ (bZ (aF (rEq true) (b9 eC (aB (aA 1) aG)) (vC (.int 2)))) (kT (i6 (b9 i8 (aB (aF aR (aA 1) (vC (.int 1))) (aB (vC (.ty "tuple")) aG)))))))
    (bW (vC .non))
    eP)
def zex(fN:bL):aJ:=
   (dB (iQ (kT (i6 (b9 i8 (aB (aF aR (aA 1) (vC (.int 0))) (aB (vC (.ty "int")) aG))))) (iQ (i6 (b9 i8 (aB (aF aR (aA 1) (vC (.int 0))) (aB (vC (.ty "bool")) aG)))) (kT (bZ (yU GZ oA (vC (.int 0)) (aF aR (aA 1) (vC (.int 0))) (b9 eC (aB (aA 0) aG)))))))
    (bW (vC .non))
    eP)
def zey(fN:bL):aJ:=
   (bE 2 (eA (gF (dJ fR (aA 0)) (bM 0) i7 (aF aR (aA 0) (vC (.int 0))) [none])))
def zez(fN:bL):aJ:=
   (bE 3 (gR aG))
def zeA(fN:bL):aJ:=
   (gS (aF aR (aA 0) (aF aR (aA 1) (vC (.int 0)))) (jM 3 (eO (bM 4) (eO (bM 5) (eO (bM 6) jL)))))
def zeB(fN:bL):aJ:=
   (dB (bZ (aF (rEq true) (b9 eC (aB (aA 5) aG)) (b9 eC (aB (aF aR (aA 1) (vC (.int 1))) aG))))
    (bW (vC .non))
    eP)
def zeC(fN:bL):aJ:=
   (dB (bZ (aF (rIn false) (aA 7) (aA 2)))
    (aT (bE 9 (bV fN (aB (aA 0) (aB (aA 8) aG))))
   (aT (dB (iQ (bZ (aF (oB false) (aA 9) (vC .non))) (bZ (aF (rEq true) (aF aR (aA 9) (vC (.int 0))) (aA 7))))
    (bW (vC .non))
    eP)
   (bE 3 (aF uD (aA 3) (aF aR (aA 9) (vC (.int 1)))))))
    (dB (bZ (aF (rEq true) (aA 8) (aA 7)))
    (bW (vC .non))
    (dZ (dE "list" fF (aA 3) (aB (aA 7) aG)))))
def zeD(fN:bL):aJ:=
   (eD (IE (aB (aA 5) (aB (aF aR (aA 1) (vC (.int 1))) aG))) (jM 2 (eO (bM 7) (eO (bM 8) jL))) (zeC fN))
def zeE(fN:bL):aJ:=
   (bW (cM (aB (aA 4) (aB (eA (aA 3)) aG))))
def zeF(fN:bL):aJ:=(aT (zew fN) (aT (zex fN) (aT (zey fN) (aT (zez fN) (aT (zeA fN) (aT (zeB fN) (aT (zeD fN) (zeE fN))))))))
abbrev zeG:List Str:=["machine","row","walk","k"]
def zeH:aJ:=
   (dB (iQ (kT (i6 (b9 i8 (aB (aA 2) (aB (vC (.ty "list")) aG))))) (bZ (aF (rEq true) (b9 eC (aB (aA 2) aG)) (aF c8 (b9 eC (aB (aA 1) aG)) (vC (.int 1))))))
    (bW (vC (.bl false)))
    eP)
def zeI:aJ:=
   (dB (iQ (bZ (aF (rEq true) (aF aR (aA 2) (vC (.int 0))) (vC (.int 0)))) (bZ (aF (rIn true) (aF aR (aA 2) (kS kX (vC (.int 1)))) (aF aR (aA 0) (vC (.int 2))))))
    (bW (vC (.bl false)))
    eP)
def zeJ:aJ:=
   (dB (bZ (aF (vE true) (cM (aB (aF aR (aA 2) (aA 3)) (aB (aF aR (aA 1) (aA 3)) (aB (aF aR (aA 2) (aF c8 (aA 3) (vC (.int 1)))) aG)))) (aF aR (aA 0) (vC (.int 1)))))
    (bW (vC (.bl false)))
    eP)
def zeK:aJ:=
   (eD (l0 (aB (b9 eC (aB (aA 1) aG)) aG)) (bM 3) zeJ)
def zeL:aJ:=
   (bW (aF (rEq false) (eA (gF (dJ fR (aA 2)) (bM 0) (i6 (b9 i8 (aB (aA 0) (aB (vC (.ty "bool")) aG)))) (aA 0) [none])) (gH aG)))
def zeM:aJ:=(aT zeH (aT zeI (aT zeK zeL)))
abbrev zeN:List Str:=["script","deck","rules","machine","due","handed","found","again"]
def zeO(C:Cc):aJ:=
   (bE 1 (bV zdm (aB (aA 0) aG)))
def zeP(C:Cc):aJ:=
   (bE 2 (eA (bV MX (aB (aA 1) aG))))
def zeQ(C:Cc):aJ:=
   (bE 3 (bV MY (aB (aA 1) aG)))
def zeR(C:Cc):aJ:=
   (bE 4 (bV NA (aB (aA 2) (aB (aA 3) aG))))
def zeS(C:Cc):aJ:=
   (dB (uC (bZ (aF (oB true) (aA 4) (vC .non))) (bZ (aF yG (aA 4) (vC (.int 200)))))
    (bW (vC (.bl true)))
    eP)
def NL(C:Cc):aJ:=
   (bE 5 (gH (aB (b9 uS (aB (aA 2) aG)) (aB (cM (aB (aF aR (aA 3) (vC (.int 0))) (aB (b9 uS (aB (aF aR (aA 3) (vC (.int 1))) aG)) (aB (b9 uS (aB (aF aR (aA 3) (vC (.int 2))) aG)) aG)))) aG))))
def NM(C:Cc):aJ:=
   (bE 6 (bV (BN C) (aB (aF aR (aA 5) (vC (.int 0))) (aB (aF aR (aA 5) (vC (.int 1))) aG))))
def NN(C:Cc):aJ:=
   (dB (bZ (aF (rEq true) (aA 5) (gH (aB (aA 2) (aB (aA 3) aG)))))
    (bW (vC (.bl false)))
    eP)
def NO(C:Cc):aJ:=
   (dB (bZ (aF (oB false) (aA 4) (vC .non)))
    (bW (aF (oB false) (aA 6) (vC .non)))
    eP)
def NP(C:Cc):aJ:=
   (dB (iQ (kT (i6 (b9 i8 (aB (aA 6) (aB (vC (.ty "tuple")) aG))))) (bZ (aF (rEq true) (b9 eC (aB (aA 6) aG)) (vC (.int 3)))))
    (bW (vC (.bl false)))
    eP)
def NQ(C:Cc):aJ:=
   (dB (iQ (kT (i6 (b9 i8 (aB (aF aR (aA 6) (vC (.int 0))) (aB (vC (.ty "list")) aG))))) (bZ (aF (rEq true) (b9 eC (aB (aF aR (aA 6) (vC (.int 0))) aG)) (aA 4))))
    (bW (vC (.bl false)))
    eP)
def NR(C:Cc):aJ:=
   (dB (bZ (aF (rEq true) (bV fN (aB (aA 2) (aB (aF aR (aA 6) (vC (.int 1))) aG))) (cM (aB (aF aR (aF aR (aA 2) (vC (.int 0))) (vC (.int 0))) (aB (aF aR (aA 6) (vC (.int 0))) aG)))))
    (bW (vC (.bl false)))
    eP)
def NS(C:Cc):aJ:=
   (dB (kT (i6 (bV NB (aB (aA 3) (aB (aF aR (aA 6) (vC (.int 0))) (aB (aF aR (aA 6) (vC (.int 2))) aG))))))
    (bW (vC (.bl false)))
    eP)
def NT(C:Cc):aJ:=
   (dZ (dE "list" fF (aF aR (aA 6) (vC (.int 0))) (aB (vC (.str "a")) aG)))
def NU(C:Cc):aJ:=
   (dZ (dE "list" fF (aF aR (aA 6) (vC (.int 2))) (aB (vC (.int 0)) aG)))
def NV(C:Cc):aJ:=
   (bE 7 (bV (BN C) (aB (aA 2) (aB (aA 3) aG))))
def NW(C:Cc):aJ:=
   (bW (yB (b9 i8 (aB (aA 7) (aB (vC (.ty "tuple")) aG))) (yB (aF (rEq false) (b9 eC (aB (aF aR (aA 7) (vC (.int 0))) aG)) (aA 4)) (aF (rEq false) (b9 eC (aB (aF aR (aA 7) (vC (.int 2))) aG)) (aF c8 (aA 4) (vC (.int 1)))))))
def zeT(C:Cc):aJ:=(aT (zeO C) (aT (zeP C) (aT (zeQ C) (aT (zeR C) (aT (zeS C) (aT (NL C) (aT (NM C) (aT (NN C) (aT (NO C) (aT (NP C) (aT (NQ C) (aT (NR C) (aT (NS C) (aT (NT C) (aT (NU C) (aT (NV C) (NW C)))))))))))))))))
theorem zeU{ws:List W}{M:Mm}{R:K3}(h:BJ ws M R):zdo (bP R) (bX KH ws) M:=by
 obtain⟨ks,rfl,hl,r⟩:=h;have l:(ks.map λk=>W.tup (k.map wK)).length<=Ao:=gJ (by rw[Ab];exact Az hl (by decide));refine xI rfl (jQ (uX (rest:=[]) (λw=>.tup [w,.bl true]) l (λ_ _=>trivial) (λw hw M' C sb h1=>xI rfl ⟨z2,h1⟩) (bH.frz ⟨ks.map λk=>(k,.bl true),?_,by rw[Ab];exact l,LJ r⟩)));unfold vW;rw[Bh,Bh];rfl
theorem zeV{ws:List W}{M:Mm}{R:K3}(h:MR ws M R):zdq (bP R) (bX zdp ws) M:=by
 obtain⟨mc,rfl,q,r⟩:=h;have:=q.few;exact xI rfl (xI rfl ⟨mc.many,rfl,by lia,AQ (by unfold bT at r;rw[Bh]at r;exact r)⟩)
theorem zeW{ws:List W}{M:Mm}{R:K3}(h:BK ws M R):zdC (bP R) (bX zdB ws) M:=by
 obtain⟨t,b,e,rfl,r⟩:=h;exact xI rfl ⟨z1,_,Sub.refl _,r⟩
theorem zeX{ws:List W}{M:Mm}{R:K3}(h:MV ws M R):zdI (bP R) (bX zdD ws) M:=by
 obtain⟨ls,xss,rfl,hl,hp,ht,r⟩:=h;refine⟨Ca _,λp hpn=>xI rfl (jQ ?_)⟩;have hlen:=Ef hp;have big:∀{n:Nat},n<=1000000->n<=Ao:=λh=>Az h (by decide);refine mG (λi τ M'=>∃o,τ=[some (.rl ls),some (.ref p),o]/\M'=put M p (.lst (xss.take i).flatten)) (xI rfl rfl) ?_ ?_
 .rintro i w τ M' hw ⟨o,rfl,rfl⟩;obtain⟨xs,hxs,hat⟩:=Paired.getP hp hw;have hfl:=big (Az (zcK hxs) ht);have e2:(xss.take (i+1)).flatten=(xss.take i).flatten++xs:=BA hxs;rcases hat with rfl|⟨a,rfl,e⟩
  .exact xI rfl ⟨eU aX,xI rfl ⟨_,aX,hfl,_,Sub.refl _,xI rfl (by rw[fM,e2])⟩⟩
  .exact xI rfl ⟨eU aX,xI rfl ⟨_,_,aX,by rw[aU (λz=>by rw[z,hpn]at e;cases e)];exact e,hfl,_,Sub.refl _,xI rfl (by rw[fM,e2])⟩⟩
 .rintro τ M' ⟨o,rfl,rfl⟩;rw[hlen,Bw];exact xI rfl ⟨_,Sub.refl _,r p hpn⟩
theorem zeY{ws:List W}{M:Mm}{R:K3}(h:BL ws M R):zdK (bP R) (bX zdJ ws) M:=by
 obtain⟨n,ls,xss,rfl,h1,h2,h3,r⟩:=h;exact xI rfl ⟨ls,xss,rfl,h1,h2,h3,AQ r⟩
theorem zeZ{ws:List W}{M:Mm}{R:K3}(h:BM ws M R):zdM (bP R) (bX zdL ws) M:=by
 obtain⟨n,vs,rfl,r⟩:=h;exact xI rfl (xI rfl ⟨z2,_,Sub.refl _,r⟩)
theorem NX{kvs:List (List aE×W)}{M:Mm}{R:List W->(Mm->Prop)->Mm->Prop}(h:R (kvs.map λp=>.tup (p.1.map wK)) (λ_=>True) M):jT (.ft kvs) M R:=h
def mS(acc:List dH)(a:dH):List dH:=if a∈acc then acc else acc++[a]
theorem ze0{a b:dH}(h:aK a=aK b):a=b:=by
 obtain⟨a1,a2,a3⟩:=a;obtain⟨b1,b2,b3⟩:=b;unfold aK at h;simp only[Ed,Kj,Sum.inr.injEq,and_true]at h;obtain⟨rfl,rfl,rfl⟩:=h;rfl
theorem NY:∀(l acc:List dH) (kvs:List (List aE×W)),kvs.map (·.1)=acc.map aK->(lB kvs (l.map λa=>(aK a,.bl true))).map (·.1)=(l.foldl mS acc).map aK
 | [],acc,kvs,h=>h
 | a::l,acc,kvs,h=>by
  show(lB (cA kvs (aK a) (.bl true)) _).map _=_;refine NY l (mS acc a) _ ?_;have hi:(kvs.any λkv=>decide (kv.1=aK a))=true↔a∈acc:=by
   rw[f6,fL,h,Ay];exact⟨λ⟨b,hb,e⟩=>ze0 e▸hb,λhb=>⟨a,hb,rfl⟩⟩
  unfold cA mS
  by_cases z:a∈acc
  .rw[if_pos (hi.mpr z),if_pos z,<-h,Bh];exact Cw λe _=>by simp only[Fn];split<;>rfl
  .rw[if_neg (λy=>z (hi.mp y)),if_neg z,Bc,Bc,h];rfl
theorem ze1(l:List dH):∀acc z,z∈l.foldl mS acc↔z∈acc\/z∈l:=by
 induction l with
 | nil=>intro acc z;simp
 | cons a l ih=>
  intro acc z;rw[Dl,ih];unfold mS;split
  .rename_i h;constructor
   .rintro(h|h)
    .exact .inl h
    .exact .inr (Ap _ h)
   .rintro(h'|h')
    .exact .inl h'
    .rcases Aj.mp h' with rfl|h'
     .exact .inl h
     .exact .inr h'
  .rw[Bo,Am,Aj,or_assoc]
theorem ze2(l:List dH):∀acc,(l.foldl mS acc).length<=acc.length+l.length:=by
 induction l with
 | nil=>intro acc;exact Ai _
 | cons a l ih=>
  intro acc;refine Az (ih _) ?_;have:(mS acc a).length<=acc.length+1:=by unfold mS;split<;>simp
  rw[Br];lia
theorem ze3(ks:List dH)(z:dH)(t:Str)(p:Int):hU (ks++[z]) t p=hU ks t p++if z.2.1=t/\z.1=p then [(z.2.2,1)] else []:=by
 unfold hU;rw[List.filter_append,Bc,Ey]
 by_cases h:z.2.1=t/\z.1=p
 .rw[if_pos (decide_eq_true h),if_pos h];rfl
 .rw[if_neg (by rw[decide_eq_false h];exact Ar),if_neg h];rfl
theorem NZ(ks:List dH)(z:dH)(k:Str×Int):gK (ks++[z]) k=if (z.2.1,z.1)=k then some ((gK ks (z.2.1,z.1)).getD []++[mR (z.2.2,1)]) else gK ks k:=by
 obtain⟨t,p⟩:=k;unfold gK;rw[ze3]
 by_cases h:z.2.1=t/\z.1=p
 .obtain⟨rfl,rfl⟩:=h;show(if hU ks z.2.1 z.1++(if z.2.1=z.2.1/\z.1=z.1 then [(z.2.2,(1:Int))] else [])=[] then none else some ((hU ks z.2.1 z.1++(if z.2.1=z.2.1/\z.1=z.1 then [(z.2.2,(1:Int))] else [])).map mR))=if (z.2.1,z.1)=(z.2.1,z.1) then some ((if hU ks z.2.1 z.1=[] then none else some ((hU ks z.2.1 z.1).map mR)).getD []++[mR (z.2.2,1)]) else _;rw[show(if z.2.1=z.2.1/\z.1=z.1 then [(z.2.2,(1:Int))] else [])=[(z.2.2,1)] from if_pos ⟨rfl,rfl⟩,if_neg (by simp),if_pos rfl,Bc];congr 2;split
  .rename_i e;rw[e];rfl
  .rfl
 .rw[if_neg h,Fw];exact(if_neg (λe=>h (by cases e;exact⟨rfl,rfl⟩))).symm
theorem ze4{ws:List W}{M:Mm}{R:K3}(h:MS ws M R):zdw (bP R) (bX zdr ws) M:=by
 obtain⟨mc,rfl,q,r⟩:=h;have hf:=q.fa;refine λa ha=>xI rfl (xI rfl ⟨mc.arr.map aK,?_,by rw[Ab];lia,λd hd=>⟨d,rfl,.inr ⟨_,aX,?_⟩⟩⟩)
 .show [W.rl (mc.arr.map nR)]=_;rw[Bh];rfl
 rw[jG hd];obtain⟨ks,hks⟩:∃ks,ks=mc.arr.foldl mS []:=⟨_,rfl⟩;have hkm:∀z,z∈ks↔z∈mc.arr:=λz=>by rw[hks,ze1];simp
 have hkl:ks.length<=21:=Az (by rw[hks];exact ze2 mc.arr []) (by simpa using hf);have hk0:=NY mc.arr [] [] rfl;rw[<-hks]at hk0;rw[Bh];refine NX ?_;have e0:((lB [] (mc.arr.map ((λk=>(k,W.bl true)) ∘ aK))).map λp=>W.tup (p.1.map wK))=ks.map nR:=by
  rw[show(λp:List aE×W=>W.tup (p.1.map wK))=(λk:List aE=>W.tup (k.map wK)) ∘ (λp=>p.1) from rfl,<-Bh];rw[show(λk=>(k,W.bl true)) ∘ aK=λa=>(aK a,W.bl true) from rfl,hk0,Bh];rfl
 rw[e0];refine mG (λi τ M'=>∃kvs o,τ=[some (hV mc),some (.ref a),o]/\MP M M' a (ks.take i) kvs) ⟨[],xI rfl ⟨⟨Sub.new ha,ha,aX,λ_ _=>rfl,λk ws h=>(nomatch h),λk j p h=>(nomatch h)⟩,(λ_ h=>nomatch h),Cq,Ca _⟩⟩ ?_ ?_
 .rintro i w τ M' hw ⟨kvs,o,rfl,st⟩;rw[Ax]at hw;obtain⟨z,hz,rfl⟩:=Bf.mp hw;have hi:=(An.mp hz).1;have htk:ks.take (i+1)=ks.take i++[z]:=by rw[Cd,hz];rfl
  have hln:=st.ln;have hta:=st.tab.at_;have hkv:kvs.length<21:=Ft hln (by rw[Bq];lia);have ky':∀v,∀e∈cA kvs (eK (z.2.1,z.1)) v,∃k,e.1=eK k:=λv e he=>by
   rcases sU he with rfl|⟨he,_⟩
   .exact⟨_,rfl⟩
   .exact st.ky e he
  refine xI rfl ⟨nK hta,xI rfl (xI rfl (xI rfl (xI rfl ⟨z2,Ca _,λb hb=>?_⟩)))⟩;have hba:b≠a:=λe=>by rw[e,hta]at hb;cases hb
  refine⟨kvs,eK (z.2.1,z.1),by rw[aU (Bi hba)];exact hta,rfl,d8 (by lia),λw hw=>?_,λhn=>?_⟩
  .have hs:(gK (ks.take i) (z.2.1,z.1)).isSome=true:=by rw[<-st.tab.look,hw];rfl
   obtain⟨xs,hxs⟩:=Cj.mp hs;obtain⟨p,e1,e2⟩:=st.tab.has hxs;rw[hw]at e1;cases e1;have hpb:p≠b:=λe=>by rw[e,hb]at e2;cases e2
   have hxl:xs.length<=21:=by
    unfold gK at hxs;split at hxs
    .cases hxs
    .cases hxs;rw[Ab];unfold hU;rw[Ab];exact Az (Hi _ _) (by rw[Bq];lia)
   refine⟨eU (by rw[aU hpb];exact e2),xI rfl (xI rfl ⟨z2,_,by rw[aU hpb];exact e2,d8 (by lia),put M' p (.lst (xs++[mR (z.2.2,1)])),Sub.put (Sub.new hb),kvs,xI rfl ⟨?_,st.ky,st.nd,by rw[htk,Ak];lia⟩⟩)⟩;rw[htk];exact(st.tab.wr (ws:=xs++[mR (z.2.2,1)]) hw).same λk=>by rw[NZ,hxs];rfl
  .have hg:gK (ks.take i) (z.2.1,z.1)=none:=by
    rw[<-Jk,<-st.tab.look,hn];exact Ar
   refine⟨eU (by rw[aU hba,aX]),xI rfl (xI rfl ⟨z2,_,by rw[aU hba,aX],by decide,put (put M' b (.lst [mR (z.2.2,1)])) a (.dT (cA kvs (eK (z.2.1,z.1)) (.ref b))),?_,cA kvs (eK (z.2.1,z.1)) (.ref b),xI rfl ⟨?_,ky' _,zcF st.nd,Az (vJ kvs (eK (z.2.1,z.1)) (.ref b)) (by rw[htk,Ak];exact Nat.succ_le_succ hln)⟩⟩)⟩
   .rw[t9 (Bi hba),fM];exact Sub.refl _
   .rw[htk];exact(st.tab.add (ws:=[mR (z.2.2,1)]) nL hg hb).same λk=>by rw[NZ,hg];rfl
 .rintro τ M' ⟨kvs,o,rfl,st⟩;rw[Ab,Bw]at st;exact xI rfl ⟨_,Sub.refl _,r ks a kvs M' hkm hkl st⟩
theorem N0{O J:Type}{P:O->J->Prop}:∀{l:List O},(∀a∈l,∃b,P a b)->∃l',Fs P l l'
 | [],_=>⟨[],.nil⟩
 | a::l,h=>by
  obtain⟨b,hb⟩:=h a Aw;obtain⟨l',hl⟩:=N0 (l:=l) λx hx=>h x (Ap _ hx);exact⟨b::l',.cons hb hl⟩
theorem N2{M M':Mm}{k:List aE}:∀{kvs kvs':List (List aE×W)},Fs (w5 M M') kvs kvs'->(bD kvs k=none/\bD kvs' k=none)\/∃b ws,bD kvs k=some (.ref b)/\bD kvs' k=some (.rl ws)/\M b=some (.lst ws)
 | _,_,.nil=>.inl ⟨rfl,rfl⟩
 | e::kvs,e'::kvs',.cons ⟨h1,b,ws,h2,h3,h4,_⟩ t=>by
  rw[mH,mH,<-h1]
  by_cases z:e.1=k
  .rw[if_pos z,if_pos z];exact .inr ⟨b,ws,by rw[h2],by rw[h3],h4⟩
  .rw[if_neg z,if_neg z];exact N2 t
theorem ze5{C:Cc}{ws:List W}{M:Mm}{R:K3}(h:MT C ws M R):zdy C (bP R) (bX zdx ws) M:=by
 obtain⟨rs,mc,rfl,g,q,r⟩:=h;have hf:=g.few;have h7:=q.few;refine xI rfl (xI rfl ⟨mc,rfl,q,bH.frz (xI rfl ⟨mc,rfl,q,λks a kvs M' hk hl st=>?_⟩)⟩);obtain⟨kvs',hp⟩:∃kvs',Fs (w5 M' M) kvs kvs':=N0 λe he=>by
  obtain⟨k,ek⟩:=st.ky e he;have hlk:bD kvs (eK k)=some e.2:=by rw[<-ek];exact in_agetQ st.nd he
  cases hg:gK ks k with
  | none=>rw[st.tab.non k hg]at hlk;cases hlk
  | some ws=>
   obtain⟨b,h1,_,h3,h4⟩:=st.tab.som k ws hg;rw[hlk]at h1;exact⟨(e.1,.rl ws),rfl,b,ws,Bx h1,rfl,h4,h3⟩
 refine⟨a,kvs,kvs',M,rfl,st.tab.at_,hp,st.tab.sub,st.tab.new,xI rfl ⟨rs,rfl,by lia,bH.frz ?_⟩⟩;have hn:(bT mc.many).length=mc.many:=by unfold bT;simp
 have hst:∀t p,(hU ks t p).length<=21:=λt p=>by
  unfold hU;rw[Ab];exact Az (Hi _ _) hl
 refine⟨cB rs mc ks,⟨rs,ownOf rs,kvs'⟩,bT mc.many,5,21,?_,by show rs.length<=100;lia,rfl,⟨rfl,AR rs,λt p=>?_⟩,K1,AF g q hk,by decide,by show(bT mc.many).length<=1000;lia,hst,?_,λB hB=>LJ (r ks B hk hB)⟩
 .show [_,_,_,_]=[_,_,_,_];congr 4;show W.rl (rs.map (λ_=>W.int 0))=W.rl ((Eg rs.length).map λn=>W.int 0);rw[List.map_const',List.map_const',Jd]
 .rcases N2 (k:=eK (t,p)) hp with⟨h1,h2⟩|⟨b,ws,h1,h2,h3⟩
  .refine .inl ⟨h2,?_⟩;have:=st.tab.look (t,p);rw[h1]at this;show hU ks t p=[];unfold gK at this;split at this
   .assumption
   .cases this
  .refine .inr (h2.trans ?_);cases hg:gK ks (t,p) with
   | none=>rw[st.tab.non _ hg]at h1;cases h1
   | some xs=>
    obtain⟨c,e1,e2⟩:=st.tab.has hg;rw[h1]at e1;cases e1;rw[h3]at e2;cases e2;unfold gK at hg;split at hg
    .cases hg
    .cases hg;rfl
 .have e1:(j9 (cB rs mc ks)).length=rs.length*(bT mc.many).length:=zY (cB rs mc ks) rs.length;rw[e1,hn];show rs.length*mc.many+rs.length*((5+1)*(mc.many*mc.many))*(21+mc.many)+rs.length*((5+1)*(mc.many*mc.many))+mc.many+21+1<10000000;have k2:=Jf h7 h7;have k3:=Jf hf (Nat.mul_le_mul_left (5+1) k2);have k4:=Jf k3 (Ij h7 21);have k5:=Jf hf h7;lia
theorem N3{k:List aE}:∀{ks:List (List aE)} {kvs:List (List aE×W)},(bD (lB kvs (ks.map λk=>(k,.bl true))) k).isSome=true↔(bD kvs k).isSome=true\/k∈ks
 | [],kvs=>by show(bD kvs k).isSome=true↔_;simp
 | j::ks,kvs=>by
  show(bD (lB (cA kvs j (.bl true)) _) k).isSome=true↔_;rw[N3 (ks:=ks),oO,Aj]
  by_cases z:j=k
  .rw[if_pos z];simp[z]
  .rw[if_neg z];simp[Bi z]
theorem ze6{ws:List W}{M:Mm}{R:K3}(h:MU ws M R):zdA (bP R) (bX zdz ws) M:=by
 obtain⟨q,rs,mc,B,rfl,qm,hl,r⟩:=h;have he:=qm.fe;refine xI rfl (xI rfl (jQ (uX (rest:=[some (dA (q::rs))]) (λw=>.tup [.str q.name,.int 0,w]) (gJ (by rw[Ab];lia)) (λ_ _=>trivial) (λw hw M' C sb h1=>xI rfl ⟨q,rs,rfl,xI rfl ⟨z3,h1⟩⟩) (bH.frz ⟨mc.ends.map λe=>fK (q.name,0,e),?_,by rw[Ab];lia,λd hd=>?_⟩))))
 .show [W.rl _]=[W.rl _];rw[Bh,Bh];rfl
 .refine xI rfl (NX (uY (rest:=[some (.ref d)]) (lJ (mc.ends.map λe=>(q.name,(0:Int),e))) (gJ (by rw[Ab,Ab];lia)) (λ_ _=>trivial) (λx hx M3 C D sb d1 d2=>?_) (bH.frz ?_)))
  .rw[Bh]at hx;obtain⟨e,he,rfl⟩:=Ay.mp hx;have ei:lJ (mc.ends.map λe=>(q.name,(0:Int),e)) (dC e.1)=if e.1∈mc.ends.map (λe=>(q.name,(0:Int),e)) then some (dC e.1) else none:=rfl;refine xI rfl (xI rfl (.inr ⟨_,.inr ⟨_,fK e.1,sb _ _ aX,rfl,rfl⟩,xI rfl ?_⟩));have hi:(bD (lB [] ((mc.ends.map λe=>fK (q.name,0,e)).map λk=>(k,W.bl true))) (fK e.1)).isSome=true↔e.1∈mc.ends.map (λe=>(q.name,(0:Int),e)):=by
    rw[N3,Ay,Ay];exact⟨λh=>h.elim (λh=>nomatch h) λ⟨a,ha,e⟩=>⟨a,ha,nM _ _ e⟩,λ⟨a,ha,e⟩=>.inr ⟨a,ha,by rw[e]⟩⟩
   exact cU (λz=>xI rfl (d1 _ (by show lJ _ (dC e.1)=_;rw[ei,if_pos (hi.mp z)];rfl))) λz=>d2 (by show lJ _ (dC e.1)=_;rw[ei,if_neg (λy=>by rw[hi.mpr y]at z;cases z)])
  .have e:((dU fK gA B).map λp=>W.tup (p.1.map wK))=(B.map (·.1)).map dC:=by rw[Bh,Bh];rfl
   rw[e,LU];exact⟨_,Sub.new hd,r⟩
theorem ze7{C:Cc}{ws:List W}{M:Mm}{R:K3}(h:MW C ws M R):zdT C (bP R) (bX zdS ws) M:=by
 obtain⟨G,B,aQ,rfl,w,ht,r⟩:=h;exact xI rfl (xI rfl (xI rfl ⟨G,B,aQ,_,_,rfl,w,ht,.inr (.inr ⟨rfl,rfl,_,Sub.refl _,r⟩)⟩))
theorem ze8{rs:List a7}{mc:Mc}{ks:List dH}{B:bN}(g:GQ rs)(q:MQ mc)(hk:∀z,z∈ks↔z∈mc.arr)(hB:iK (cB rs mc ks) B):Wb (cB rs mc ks) B:=
 ⟨λ_=>rfl,Az g.few (by decide),AA hB,Az (A6 g q hk hB) (by decide),λr hr=>Az (g.fp r hr) (by decide)⟩
theorem ze9{a b:Int×Int}(h:dS a b=false):b.1<=a.1:=by
 unfold dS at h;simp only[Bool.or_eq_false_iff,decide_eq_false_iff_not]at h;lia
theorem zfa{C:Cc}{ws:List W}{M:Mm}{R:K3}(h:BN C ws M R):zd2 C (bP R) (bX zdU ws) M:=by
 obtain⟨q,rs,mc,rfl,g,qm,mt,r⟩:=h;refine xI rfl (xI rfl ⟨q::rs,mc,rfl,g,qm,λks B hk hB p hp=>⟨p,rfl,.inr ⟨_,aX,?_⟩⟩⟩);rw[jG hp];obtain⟨r1,r2⟩:=r ks B hk hB;have w:=ze8 g qm hk hB;obtain⟨G,hG⟩:∃G,G=cB (q::rs) mc ks:=⟨_,rfl⟩;rw[<-hG]at w;have hGr:G.rs=q::rs:=by rw[hG];rfl
 obtain⟨F,hF⟩:∃F,F=kH q mc B:=⟨_,rfl⟩;have hFB:∀f∈F,f∈B.map (·.1):=λf hf=>by rw[hF]at hf;exact(Ej.mp hf).1
 refine xI rfl (xI rfl (xI rfl ⟨q,rs,mc,B,rfl,qm,Az (A6 g qm hk hB) (by decide),?_⟩));rw[<-hF];refine xI rfl (xI rfl ?_);show if decide (((F.map dC).length:Int)=0)=true then _ else _;refine cU (λz=>?_) λz=>?_
 .exact⟨_,Sub.refl _,r1 (by rw[<-hF];exact Ex.mp (by have:=of_decide_eq_true z;rw[Ab]at this;lia))⟩
 have hne:F.map dC≠[]:=λe=>by rw[e]at z;exact absurd z (by decide)
 have at_:∀{i x},(F.map dC)[i]? = some x->∃f v,F[i]? = some f/\x=dC f/\aD B f=some v/\bD (dU fK gA B) (fK f)=some (gA v):=λ{i x} hx=>by
  rw[Ax]at hx;obtain⟨f,hf,rfl⟩:=Bf.mp hx;obtain⟨v,h1,h2⟩:=A2 (hFB f (Bg hf));exact⟨f,v,hf,rfl,h1,h2⟩
 obtain⟨kf,hkf⟩:∃kf:Nat->Int×Int,kf=λi=>((F[i]?).bind λf=>(aD B f).map λv=>v.1).getD (0,0):=⟨_,rfl⟩;have kat:∀{i f v},F[i]? = some f->aD B f=some v->kf i=v.1:=λ{i f v} h1 h2=>by rw[hkf];simp only[h1,Option.bind_some,h2];rfl
 refine xI rfl ⟨_,_,kf,rfl,hne,mt,rfl,λi x hx=>?_,λi x hx hb=>?_⟩
 .obtain⟨f,v,h1,rfl,h2,h3⟩:=at_ hx;refine xI rfl (xI rfl ⟨_,⟨fK f,rfl,h3.symm⟩,xI rfl ⟨rfl,?_⟩⟩);rw[kat h1 h2];rfl
 obtain⟨aQ,x,h1,rfl,h2,h3⟩:=at_ hx;have htF:aQ∈F:=Bg h1;obtain⟨hx2,r3⟩:=r2 aQ x (by rw[<-hF];exact htF) h2 λf hf y hy=>by
  rw[<-hF]at hf;obtain⟨j,hj,rfl⟩:=Hz.mp hf;have hj':=Au hj;have:=ze9 (hb j (by rw[Ab];exact hj));rwa [kat h1 h2,kat hj' hy]at this
 rw[<-hG]at r3;have hy:(yT G B aQ).length<=5000:=by
  have:=(A5 hk hB h2).1;rw[<-hG]at this;lia
 refine xI rfl (xI rfl (xI rfl ⟨G,B,aQ,_,_,by rw[hGr],w,hFB aQ htF,.inl ⟨rfl,rfl,hy,λp1 M1 n1 s1 e1=>?_⟩⟩));refine⟨z1,xI rfl (xI rfl (xI rfl ⟨G,B,aQ,_,_,by rw[hGr],w,hFB aQ htF,.inr (.inl ⟨rfl,rfl,hy,λp2 M2 n2 s2 e2=>?_⟩)⟩))⟩;have e1':=s2 _ _ e1;refine⟨_,e2,by rw[Ab];exact Az (Ij hy _) (gJ (by decide)),λp3 n3=>?_⟩;have h13:p1≠p3:=λe=>by rw[<-e,e1']at n3;cases n3
 have n3':M p3=none:=(s1.trans s2).non n3;refine xI rfl (xI rfl (xI rfl (xI rfl ⟨G,B,aQ,by rw[hGr],w,hFB aQ htF,xI rfl ⟨z3,_,Sub.refl _,?_⟩⟩)));exact r3 p1 p3 _ n1 n3' h13 (fJ (s1.trans s2) n3') (by rw[aU h13];exact e1') aX
structure zfb(Vl:Addr->a9->W->Mm->Prop)(M0 M:Mm)(p:Addr)(A:List (a9×W)):Prop where
 sub:L3.Sub M0 M
 new:M0 p=none
 at_:M p=some (.dT (dU fK (λw=>w) A))
 inn:∀x∈A,Vl p x.1 x.2 M
abbrev wz(rs:List a7)(B:bN)(aQ:a9)(fi gi:W)(p:Addr)(l:S3):S3:=some (dA rs)::some (mO B)::some (dC aQ)::some fi::some gi::some (.dk (ownOf rs))::some (.ref p)::l
def N4(C:Cc):a0:=(oX (kG 3 C.f BC (aB (aA 12) (aB (aF aR (aA 9) (aA 11)) (aB (aF aR (aA 9) (aF c8 (aA 11) (vC (.int 1)))) aG)))) (oX (kG 3 C.p BK (aB (aA 12) (aB (aF aR (aA 9) (aA 11)) (aB (aF aR (aA 9) (aF c8 (aA 11) (vC (.int 1)))) aG)))) (kG 3 C.h A0 (aB (aA 12) (aB (aF aR (aA 9) (aA 11)) (aB (aF aR (aA 9) (aF c8 (aA 11) (vC (.int 1)))) aG))))))
def zfc(C:Cc):a0:=(oX (kG 4 C.g BL (aB (aA 8) (aB (eA (aA 10)) aG))) (kG 4 C.i BM (aB (aA 8) (aB (eA (aA 10)) aG))))
def zfd(G:Sr)(Vl:a9->W->Prop)(fw:Str->Int->Int->W)(cut:List Int)(ps:List Str)(kids:List W):Prop:=kids.length=ps.length/\∀k t,ps[k]? = some t->∃y,kids[k]? = some y/\(G.own t=true->Vl (t,cut.getD k 0,cut.getD (k+1) 0) y)/\(G.own t=false->y=fw t (cut.getD k 0) (cut.getD (k+1) 0))
theorem N5{C:Cc}{G:Sr}{B:bN}{aQ:a9}{fi gi:W}{M:Mm}{R:K3}{Vl:Addr->a9->W->Mm->Prop}{fw:Str->Int->Int->W}{ok:a9->Bool}(w:Wb G B)(ht:aQ∈B.map (·.1))(kt:ok aQ=true)(kc:sO G B ok)(stV:∀p f w M1 M2,Vl p f w M1->(∀a o,a≠p->M a=none->M1 a=some o->M2 a=some o)->Vl p f w M2)(hw:∀p (o7 o8 o10:Option W) (t:Str) (k:Nat) (cut:List Int) (M1:Mm) (Q:K3),k+1<cut.length->Q (fw t (cut.getD k 0) (cut.getD (k+1) 0)) M1->N4 C (wz G.rs B aQ fi gi p [o7,o8,some (fT cut),o10,some (.int (k:Int)),some (.str t)]) M1 Q)(hr:∀p q (pre post:bN) (f:a9) (v:aL×Nat×List Int) (ru:a7) (kids:List W) (M1:Mm) (Q:K3) (o7 o9 o11 o12:Option W),M p=none->B=pre++(f,v)::post->qC G pre (f,v) ru->ok f=true->M1 q=none->ru.parts.length<=100->(∀a o,M a=some o->M1 a=some o)->(∃o,M1 p=some o)->zfd G (λf w=>Vl p f w M1) fw v.2.2 ru.parts kids->
   (∀y M2,(∀a o,M1 a=some o->M2 a=some o)->Vl p f y M2->Q y M2)->zfc C (wz G.rs B aQ fi gi p [o7,some (.int v.2.1),o9,some (.ref q),o11,o12]) (put M1 q (.lst kids)) Q)(r:∀p y M',M p=none->L3.Sub M M'->Vl p aQ y M'->(bP R).rt y M'):BP C (bP R) (bX BO [dA G.rs,mO B,dC aQ,fi,gi]) M:=by
 have hown:G.own=fG G.rs:=funext w.own;have nd:=zcz w.ord;refine xI rfl ⟨G.rs,rfl,(Az w.few (by decide)),bH.frz ⟨namesOf G.rs,rfl,LS w.few,λp hp=>xI rfl (xI rfl (xI rfl ⟨G,B,aQ,rfl,w,ht,λP hP hcl hmin=>bH.frz (jQ ?_)⟩))⟩⟩;obtain⟨F,hF⟩:∃F,F=(B.map (·.1)).filter P:=⟨_,rfl⟩;rw[<-hF];have ndF:F.Nodup:=by rw[hF];exact nd.filter _
 have lF:F.length<=1000:=Az (by rw[hF];exact Hi _ _) (by rw[Ab];exact w.bl);refine iW (λj τ M'=>∃(A:List (a9×W)) (o:Option W×Option W×Option W×Option W×Option W×Option W),τ=wz G.rs B aQ fi gi p [o.1,o.2.1,o.2.2.1,o.2.2.2.1,o.2.2.2.2.1,o.2.2.2.2.2]/\zfb Vl M M' p A/\A.map (·.1)=F.take j) ⟨[],(_,_,_,_,_,_),rfl,⟨Sub.new hp,hp,aX,λ_ h=>nomatch h⟩,rfl⟩ ?_ ?_
 .rintro j x τ M' hx ⟨A,o,rfl,md,hA⟩ D1 hD1;rw[Ax]at hx;obtain⟨f,hf,rfl⟩:=Bf.mp hx;have hfm2:=Bg hf;rw[hF]at hfm2;obtain⟨hfB,hfP⟩:=Ej.mp hfm2;obtain⟨v,hv,lv⟩:=A2 hfB;obtain⟨pre,post,sp⟩:=mE hv;obtain⟨ru,E⟩:=w.ord pre _ post sp;obtain⟨ru',h1,h2⟩:=sE (rs:=G.rs) (n:=v.2.1) (An.mp E.ru).1;cases (show some ru'=some ru from h1.symm.trans E.ru);have hpl:=w.pl ru (Bg h1);have hcutl:v.2.2.length=ru.parts.length+1:=E.ln;have htk:F.take j=(pre.map (·.1)).filter P:=zcA ndF (by rw[hF,sp,Bc,Bb,List.filter_append,Ey,if_pos hfP]) hf;have hpf:∀k t,ru.parts[k]? = some t->G.own t=true->∃b,aD A (t,v.2.2.getD k 0,v.2.2.getD (k+1) 0)=some b:=λk t hk ho=>by
   have hg:(t,v.2.2.getD k 0,v.2.2.getD (k+1) 0)∈mN G.own ru.parts v.2.2:=Fp.mpr ⟨(t,k),Hd.mpr hk,by rw[if_pos ho]⟩;refine Cj.mp (fL.mpr ?_);rw[hA,htk];refine Ej.mpr ⟨LV E hg,hcl (f,v) (by rw[sp];simp) hfP _ ?_⟩;rw[wO E];exact hg
  have hnf:aD A f=none:=by
   rw[<-Jk,fL,hA,htk];intro z;have:=(Ej.mp z).1;rw[<-fL,E.no]at this;cases this
  refine xI rfl (xI rfl ⟨_,⟨fK f,rfl,lv.symm⟩,xI rfl (xI rfl (xI rfl ⟨_,⟨fK f,rfl,lv.symm⟩,xI rfl ⟨Ca _,λq hq=>?_⟩⟩))⟩);have hM2:∀{X:MO} {a:Addr} {o:MO},M' a=some o->put M' q X a=some o:=λ{X a o} e=>by rw[aU (λz=>by rw[z,hq]at e;cases e)];exact e
  obtain⟨kids,hk⟩:∃kids:List W,kids=ru.parts.zipIdx.map λx=>if G.own x.1=true then(aD A (x.1,v.2.2.getD x.2 0,v.2.2.getD (x.2+1) 0)).getD .non else fw x.1 (v.2.2.getD x.2 0) (v.2.2.getD (x.2+1) 0):=⟨_,rfl⟩;have hkl:kids.length=ru.parts.length:=by rw[hk,Ab,List.length_zipIdx]
  have hka:∀k t,ru.parts[k]? = some t->kids[k]? = some (if G.own t=true then(aD A (t,v.2.2.getD k 0,v.2.2.getD (k+1) 0)).getD .non else fw t (v.2.2.getD k 0) (v.2.2.getD (k+1) 0)):=λk t ht=>by
   rw[hk,Ax,Ju,ht,Gp];rfl
  refine xI rfl (xI rfl ⟨_,h2,xI rfl (xI rfl ?_)⟩);refine iW (λk τ M2=>∃o11 o12,τ=wz G.rs B aQ fi gi p [some (dC f),some (.int v.2.1),some (fT v.2.2),some (.ref q),o11,o12]/\M2=put M' q (.lst (kids.take k))) ⟨_,xI rfl rfl⟩ ?_ ?_
  .rintro k x τ M2 hx ⟨o11,o12,rfl,rfl⟩ D2 hD2;rw[rQ,Ax]at hx;cases hs:ru.parts[k]? with
   | none=>rw[hs]at hx;cases hx
   | some t=>
    rw[hs]at hx;cases hx;have hk1:=(An.mp hs).1;have ho:(bD (ownOf G.rs) (Sum.inr t:aE)).isSome=G.own t:=by rw[hown];exact AR G.rs t
    have lk:(kids.take k).length<Ao:=d8 (by rw[Bq];lia);have fin:∀y,kids[k]? = some y->put (put M' q (.lst (kids.take k))) q (.lst (kids.take k++[y]))=put M' q (.lst (kids.take (k+1))):=λy hy=>by rw[fM,Cd,hy];rfl
    refine⟨rfl,rfl,xI rfl (xI rfl ⟨_,⟨Sum.inr t,rfl,rfl⟩,xI rfl (cU (λz=>?_) λz=>?_)⟩)⟩
    .have z:=ho.symm.trans z;have c1:cG (v.2.2.map W.int) ((0+k:Nat):Int)=some (.int (v.2.2.getD k 0)):=by rw[Gp];exact qE (by lia)
     have c2:cG (v.2.2.map W.int) (((0+k:Nat):Int)+1)=some (.int (v.2.2.getD (k+1) 0)):=by rw[Gp];exact qE (k:=k+1) (by lia)
     obtain⟨b,hb⟩:=hpf k t hs z;exact xI rfl ⟨eU aX,xI rfl (xI rfl (xI rfl (xI rfl ⟨_,c1,xI rfl (xI rfl ⟨_,c2,z3,oP (k:=fK (t,v.2.2.getD k 0,v.2.2.getD (k+1) 0)) (hM2 md.at_) (by rw[lD nM,hb];rfl) ⟨_,aX,lk,hD2 _ _ ⟨_,xI rfl (fin _ (by rw[hka k t hs,if_pos z,hb];rfl))⟩⟩⟩)⟩)))⟩
    .have z:=ho.symm.trans z;refine xI rfl ⟨eU aX,hw p _ _ _ t (0+k) v.2.2 _ _ (by lia) ⟨_,aX,lk,hD2 _ _ ⟨_,xI rfl (fin _ ?_)⟩⟩⟩;rw[hka k t hs,if_neg (ne_true_of_eq_false z),Gp]
  .rintro τ M2 ⟨o11,o12,rfl,rfl⟩;rw[oG,Ab,<-hkl,Bw];refine hr p q pre post f v ru kids M' _ _ _ _ _ hp sp E (hmin ok kt kc f hfP) hq hpl md.sub ⟨_,md.at_⟩ ⟨hkl,λk t hs=>⟨_,hka k t hs,λz=>?_,λz=>by rw[if_neg (ne_true_of_eq_false z)]⟩⟩ λy M2 s2 vy=>?_
   .obtain⟨b,hb⟩:=hpf k t hs z;rw[if_pos z,hb];exact md.inn _ (aget_inQ hb)
   .refine xI rfl (xI rfl (rP (k:=fK f) (s2 _ _ md.at_) (d8 (by rw[Ab,<-Ab (f:=Dr),hA,Bq];lia)) (hD1 _ _ ⟨bC A f y,(_,_,_,_,_,_),rfl,⟨fJ (md.sub.trans s2) md.new,md.new,?_,λx hx=>?_⟩,?_⟩)))
    .rw[aX,r9 (f:=λw=>w) nM]
    .rcases sU hx with rfl|⟨hx,_⟩
     .exact stV _ _ _ _ _ vy λa o n _ e=>by rw[aU n];exact e
     .exact stV _ _ _ _ _ (md.inn x hx) λa o n _ e=>by rw[aU n];exact s2 a o e
    .rw[sA hnf,Bc,hA,Cd,hf];rfl
 .rintro τ M' ⟨A,o,rfl,md,hA⟩;rw[Ab,Bw]at hA;obtain⟨b,hb⟩:=Cj.mp (fL.mpr (show aQ∈A.map (·.1) by rw[hA,hF];exact Ej.mpr ⟨ht,hP⟩));exact xI rfl (xI rfl (oP (k:=fK aQ) md.at_ (by rw[lD nM,hb];rfl) (r p b M' hp md.sub (md.inn _ (aget_inQ hb)))))
theorem N6{O J:Type}{P:O->J->Prop}:∀{l:List O} {l':List J},l.length=l'.length->(∀(k:Nat) a b,l[k]? = some a->l'[k]? = some b->P a b)->Fs P l l'
 | [],[],_,_=>.nil
 | [],_::_,h,_=>nomatch h
 | _::_,[],h,_=>nomatch h
 | a::l,b::l',h,k=>.cons (k 0 a b rfl rfl) (N6 (Nat.succ.inj h) λi x y hx hy=>k (i+1) x y hx hy)
theorem N7{C:Cc}{G:Sr}{B:bN}{aQ:a9}{fi:W}{M:Mm}{R:K3}(ew:SI->W)(w:Wb G B)(ht:aQ∈B.map (·.1))(hy:(yT G B aQ).length<=5000)(hw:∀p (o7 o8 o10:Option W) (t:Str) (k:Nat) (cut:List Int) (M1:Mm) (Q:K3),k+1<cut.length->Q (.rl [ew (t,cut.getD (k+1) 0)]) M1->N4 C (wz G.rs B aQ fi (.ref C.g) p [o7,o8,some (fT cut),o10,some (.int (k:Int)),some (.str t)]) M1 Q)(r:∀p M',M p=none->L3.Sub M M'->M' p=some (.lst ((yT G B aQ).map ew))->R (.ref p) M'):BP C (bP R) (bX BO [dA G.rs,mO B,dC aQ,fi,.ref C.g]) M:=by
 refine N5 (Vl:=λp f w M1=>∃a,w=.ref a/\a≠p/\M a=none/\M1 a=some (.lst ((yT G B f).map ew))) (fw:=λt _ e=>.rl [ew (t,e)]) (ok:=λf=>decide ((yT G B f).length<=5000)) w ht (decide_eq_true hy) (λe he ho f hf=>decide_eq_true (Az (zcE w.ord he hf) (of_decide_eq_true ho)))
  (λp f w M1 M2 ⟨a,h1,h2,h3,h4⟩ k=>⟨a,h1,h2,h3,k a _ h2 h3 h4⟩) hw (λp q pre post f v ru kids M1 Q o7 o9 o11 o12 hp sp E ok hq hpl sb hpp kid hQ=>?_) λp y M' hp sb ⟨a,h1,h2,h3,h4⟩=>⟨_,Sub.refl _,by rw[h1];exact r a M' h3 sb h4⟩
 obtain⟨xss,hxs⟩:∃xss:List (List W),xss=ru.parts.zipIdx.map λx=>(if G.own x.1=true then yT G B (x.1,v.2.2.getD x.2 0,v.2.2.getD (x.2+1) 0) else [(x.1,v.2.2.getD (x.2+1) 0)]).map ew:=⟨_,rfl⟩;have ey:xss.flatten=(yT G B f).map ew:=by
  rw[hxs,v5 sp E,mK,List.map_flatten,Bh];rfl
 have pa:Fs (w6 M1) kids xss:=N6 (by rw[kid.1,hxs];simp) λk a b ha hb=>by
  have hk:k<ru.parts.length:=by rw[<-kid.1];exact(An.mp ha).1
  have ht:=Au hk;obtain⟨y,h1,h2,h3⟩:=kid.2 k _ ht;rw[ha]at h1;cases h1;rw[hxs,Ax,Ju,ht,Gp]at hb;have hb:=Bx hb;rw[<-hb];show w6 M1 a (Jt ew (if G.own ru.parts[k]=true then yT G B (ru.parts[k],v.2.2.getD k 0,v.2.2.getD (k+1) 0) else [(ru.parts[k],v.2.2.getD (k+1) 0)]))
  by_cases ho:G.own ru.parts[k]=true
  .rw[if_pos ho];obtain⟨c,e1,_,_,e4⟩:=h2 ho;exact .inr ⟨c,e1,e4⟩
  .rw[if_neg ho];exact .inl (h3 (Je.mpr ho))
 refine .inl ⟨rfl,xI rfl (xI rfl (.inl ⟨_,aX,?_⟩))⟩;rw[jG hq];refine⟨v.2.1,kids,xss,rfl,by rw[kid.1];lia,pa,by rw[ey,Ab];exact Az (of_decide_eq_true ok) (by decide),λb hb=>?_⟩;rw[ey];obtain⟨o,eo⟩:=hpp;exact hQ (.ref b) _ (Sub.new hb) ⟨b,rfl,(λe=>by rw[e,eo]at hb;cases hb),Sub.non sb hb,aX⟩
theorem zfe{C:Cc}{ws:List W}{M:Mm}{R:K3}(h:w9 C ws M R):BP C (bP R) (bX BO ws) M:=by
 obtain⟨G,B,aQ,fi,gi,rfl,w,ht,h⟩:=h;have c1:∀{k:Nat} {cut:List Int},k+1<cut.length->cG (cut.map W.int) (k:Int)=some (.int (cut.getD k 0)):=λh=>qE (by lia);have c2:∀{k:Nat} {cut:List Int},k+1<cut.length->cG (cut.map W.int) ((k:Int)+1)=some (.int (cut.getD (k+1) 0)):=λ{k cut} h=>qE (k:=k+1) h;rcases h with⟨rfl,rfl,hy,r⟩|⟨rfl,rfl,hy,r⟩|⟨rfl,rfl,r⟩
 .exact N7 wW w ht hy (λp o7 o8 o10 t k cut M1 Q hk hQ=>.inl ⟨rfl,xI rfl (xI rfl (xI rfl ⟨_,c1 hk,xI rfl (xI rfl ⟨_,c2 hk,t,_,xI rfl hQ⟩)⟩))⟩) r
 .exact N7 rW w ht hy (λp o7 o8 o10 t k cut M1 Q hk hQ=>.inr (.inl ⟨rfl,xI rfl (xI rfl (xI rfl ⟨_,c1 hk,xI rfl (xI rfl ⟨_,c2 hk,t,_,xI rfl hQ⟩)⟩))⟩)) r
 .refine N5 (Vl:=λ_ f w _=>w=nQ G B f) (fw:=λt _ _=>.str t) (ok:=λ_=>true) w ht rfl (λ_ _ _ _ _=>rfl) (λ_ _ _ _ _ h _=>h) (λp o7 o8 o10 t k cut M1 Q hk hQ=>.inr (.inr ⟨rfl,xI rfl (xI rfl (xI rfl ⟨_,c1 hk,xI rfl (xI rfl ⟨_,c2 hk,t,_,xI rfl hQ⟩)⟩))⟩)) (λp q pre post f v ru kids M1 Q o7 o9 o11 o12 hp sp E ok hq hpl sb hpp kid hQ=>?_) λp y M' hp sb e=>⟨M,sb,by rw[e];exact r⟩
  refine .inr ⟨rfl,xI rfl (xI rfl (.inl ⟨_,aX,?_⟩))⟩;rw[jG hq];refine⟨v.2.1,kids,rfl,hQ _ _ (λ_ _ h=>h) ?_⟩;refine Eq.trans ?_ (AB sp E).symm;show W.tup [_,.tup kids]=.tup [_,.tup _];congr 3;show W.tup _=W.tup _;congr 1;apply List.ext_getElem?;intro k;cases hs:ru.parts[k]? with
  | none=>
   have:=Ih.mp hs;rw[Hj (by rw[kid.1];exact this),Hj (by unfold mJ;simp;exact this)]
  | some t=>
   obtain⟨y,h1,h2,h3⟩:=kid.2 k t hs;rw[h1];unfold mJ;rw[Ax,Ju,hs,Gp];show some y=some (if G.own t=true then _ else _)
   by_cases ho:G.own t=true
   .rw[if_pos ho,h2 ho]
   .rw[if_neg ho,h3 (Je.mpr ho)]
theorem _root_.Rg.Oq.non{d n p:Addr}{M M':Mm}(h:Oq d n M M')(e:M' p=none)(h1:p≠d)(h2:p≠n):M p=none:=by
 cases z:M p with
 | none=>rfl
 | some o=>rw[h p o h1 h2 z]at e;cases e
theorem _root_.Rg.Oq.del{d n p:Addr}{M M':Mm}(h:Oq d n M M')(e:M p=none):Oq d n M (L3.del M' p):=λq o h1 h2 z=>by
 rw[kO (λy=>by rw[y,e]at z;cases z)];exact h q o h1 h2 z
theorem N8{d n:Addr}{k:Nat}{te:a0}{keep:Mm->Prop}{o:Option W}{rest:S3}{M1:Mm}{R:K3}(P:W->Prop)(hk:k<=1000)(hkeep:∀M,keep M)(dk:Dq d n M1)(hte:∀(o:Option W) M (C:K3),Dq d n M->(∀w M',P w->Dq d n M'->Oq d n M M'->C w M')->te (o::rest) M C)(r:∀(xs:List W) M',xs.length=k->(∀x∈xs,P x)->Dq d n M'->Oq d n M1 M'->R (.rl xs) M'):
  oF (j7 0 k) keep (bM 0) i7 te (o::rest) M1 λw M'=>frz w M' R:=by
 intro p hp;refine⟨λi τ acc M=>∃(o:Option W),τ=o::rest/\acc.length=i/\(∀x∈acc,P x)/\Dq d n M/\Oq d n M1 M,⟨o,rfl,rfl,(λ_ h=>nomatch h),dk,Oq.refl⟩,λ_ _ _ _ _ _ _ _=>hkeep _,?_,?_⟩
 .rintro vs i w τ acc M hw hMp ⟨o,rfl,hl,hP,dk2,oq⟩;obtain⟨hi,rfl⟩:=qG hw;obtain⟨p1,p2⟩:=dk2.ne hMp;refine hte _ _ _ (dk2.put hMp) λz M' hz dk3 o3=>?_;have e1:=o3 p _ p1 p2 aX;refine⟨e1,d8 (by lia),_,Sub.refl _,_,rfl,by rw[Ak,Bl,hl],λx hx=>?_,dk3.del p1 p2,((oq.put hp).trans o3).del hp⟩;rcases Bo.mp hx with z1|z1
  .exact hP x z1
  .rw[Am.mp z1];exact hz
 .rintro τ acc M hMp ⟨o,rfl,hl,hP,dk2,oq⟩;rw[sQ]at hl;exact bH.frz (r acc M hl hP dk2 oq) p hMp
theorem zff{ws:List W}{M:Mm}{R:K3}(h:MA ws M R):zd9 (bP R) (bX zd3 ws) M:=by
 obtain⟨zs,rfl,r⟩:=h;refine⟨Ca _,λn hn=>xI rfl (xI rfl ?_)⟩;obtain⟨cells,hcut⟩:∃cells,cells=fD (zs.map W.int) none (some 63):=⟨_,rfl⟩;have hcm:cells.length<=63:=by
  rw[hcut]
  by_cases hz:(63:Int)<=(zs.map W.int).length
  .rw[y7 (by decide) hz,Bq];exact Nat.min_le_left _ _
  .exact Az X8 (by lia)
 show rJ (g9 0 (fD (zs.map W.int) none (some 63))) (λ_=>True) _ _ _ _ _;rw[<-hcut];have hc:∀w∈cells,∃i,w=W.int i:=λw hw=>by rw[hcut]at hw;exact L3.ints_map zs w (X7 hw)
 refine mG (λi τ M'=>∃(ns:List Int) (o2 o3 o4 o5 o6:Option W),τ=[some (.sc (zs.map W.int)),some (.ref n),o2,o3,o4,o5,o6]/\M'=put M n (.lst (ns.map W.int))/\ns.length<=i) ⟨[],_,_,_,_,xI rfl ⟨rfl,Ai _⟩⟩ ?_ ?_
 .rintro i w τ M' hw ⟨ns,o2,o3,o4,o5,o6,rfl,rfl,hl⟩;obtain⟨z,hz,rfl⟩:=zcY hw;obtain⟨c,rfl⟩:=hc z (Bg hz);have hil:i<63:=Bu (An.mp hz).1 hcm;have fin:∀(x:Int) (o5 o6:Option W),(dZ (dE "list" fF (aA 1) (aB (aA 4) aG))) {(bP R) with nx:=λτ' M'=>∃M'',L3.Sub M'' M'/\∃(ns:List Int) (o2 o3 o4 o5 o6:Option W),τ'=[some (.sc (zs.map W.int)),some (.ref n),o2,o3,o4,o5,o6]/\M''=put M n (.lst (ns.map W.int))/\ns.length<=i+1} [some (.sc (zs.map W.int)),some (.ref n),some (.int i),some (.int c),some (.int x),o5,o6] (put M n (.lst (ns.map W.int))):=λx o5 o6=>
   ⟨_,rfl,eU aX,_,rfl,_,aX,d8 (by rw[Ab];lia),_,Sub.refl _,ns++[x],_,_,_,_,_,rfl,by rw[fM,Bc];rfl,by rw[Ak,Bl];lia⟩
  refine⟨rfl,rfl,xI rfl (xI rfl ⟨⟨by decide,by decide,by decide⟩,xI rfl (cU (λ_=>?_) λ_=>fin _ _ _)⟩)⟩;refine xI rfl ⟨by decide,by decide,mG (λj τ M2=>∃(x:Int) (o5 o6:Option W),τ=[some (W.sc (zs.map W.int)),some (.ref n),some (.int (i:Int)),some (.int c),some (.int x),o5,o6]/\M2=put M n (.lst (ns.map W.int))) ⟨_,_,xI rfl rfl⟩ ?_ ?_⟩
  .rintro j w τ M2 hw ⟨x,o5,o6,rfl,rfl⟩;obtain⟨hj,rfl⟩:=qG hw;have m61:(0:Int)<2305843009213693951:=by decide
   have b1:=λy:Int=>Int.emod_nonneg y (show(2305843009213693951:Int)≠0 by decide);have b2:=λy:Int=>Int.emod_lt_of_pos y m61;refine xI rfl (xI rfl ⟨.inl (.inl ⟨by decide,by decide⟩),xI rfl ⟨.inl (.inl ⟨by decide,by decide⟩),m61,xI rfl (xI rfl ⟨.inl (.inl ⟨?_,?_⟩),m61,xI rfl ⟨.inl (.inr ⟨by decide,by decide⟩),xI rfl ⟨.inl (.inr ⟨by decide,by decide⟩),m61,_,Sub.refl _,_,_,xI rfl rfl⟩⟩⟩)⟩⟩)
   .exact Int.le_trans (by decide) (b1 _)
   .exact Int.lt_of_lt_of_le (b2 _) (by decide)
  .rintro τ M2 ⟨x,o5,o6,rfl,rfl⟩;exact fin x o5 o6
 .rintro τ M' ⟨ns,o2,o3,o4,o5,o6,rfl,rfl,hl⟩;refine xI rfl ⟨eU aX,_,aX,xI rfl ⟨z2,λd hd=>?_⟩⟩;rw[fM]at hd⊢;have hdn:d≠n:=λe=>by subst e;rw[aX]at hd;cases hd
  have hdM:M d=none:=by rw[aU hdn]at hd;exact hd
  exact⟨_,Sub.refl _,r d n _ ⟨hdn,ns.reverse,0,aX,by rw[aU (Bi hdn),aX,List.map_reverse]⟩ ((Sub.new hn).trans (Sub.new hd)) hdM hn⟩
theorem zfg{ws:List W}{M:Mm}{R:K3}(h:MX ws M R):zed (bP R) (bX zea ws) M:=by
 obtain⟨d,n,rfl,dk,r⟩:=h;refine⟨z4,xI rfl ⟨d,n,4,rfl,by decide,by decide,dk,λc1 M1 c10 c11 dk1 o1=>xI rfl ?_⟩⟩;obtain⟨hs,ehs,l1,l4,sh,em⟩:∃hs:List Str,fD (iL.map W.str) none (some (1+c1))=hs.map W.str/\1<=hs.length/\hs.length<=4/\(∀t∈hs,t∈iL)/\∃mm:Int,cG [W.int 5,.int 5,.int 5,.int 4] ((hs.length:Int)-1)=some (.int mm)/\0<mm/\mm<=5:=by
  refine⟨iL.take (1+c1).toNat,?_,?_,?_,λt ht=>Ds ht,?_⟩
  .rw[y7 (by lia) (by rw[Ab];show 1+c1<=4;lia),Mq]
  .rw[Bq];show 1<=min _ 4;lia
  .rw[Bq];exact Nat.min_le_right _ _
  .have:c1=0\/c1=1\/c1=2\/c1=3:=by lia
   rcases this with rfl|rfl|rfl|rfl
   .exact⟨5,fA (j:=0) rfl,by decide,by decide⟩
   .exact⟨5,fA (j:=1) rfl,by decide,by decide⟩
   .exact⟨5,fA (j:=2) rfl,by decide,by decide⟩
   .exact⟨4,fA (j:=3) rfl,by decide,by decide⟩
 show(aT NC (aT ND (aT BQ NF))) (bP R) [some (.ref d),some (.rl (fD (iL.map W.str) none (some (1+c1)))),none,none,none,none,none,none] M1;rw[ehs];obtain⟨X0,eX0,mX0⟩:=qH (ts:=hs) (z:=0) (by decide) (by lia);refine xI rfl ⟨_,eX0,z1,xI rfl ⟨d,n,8,rfl,by decide,by decide,dk1,λc2 M2 c20 c21 dk2 o2=>xI rfl ⟨by lia,by lia,?_⟩⟩⟩;refine N8 (rest:=[some (.rl (hs.map W.str)),some (.ref d)]) (λw=>∃t,t∈hs/\w=.str t) (by lia) (λ_=>trivial) dk2 (λo M3 C dk3 c=>?_) λxs M3 hx hP dk3 o3=>?_
 .refine xI rfl (xI rfl (xI rfl ⟨d,n,xI rfl ⟨by rw[Ab];lia,by rw[Ab];lia,dk3,λz M4 z0 z1 dk4 o4=>?_⟩⟩));rw[Ab]at z1;obtain⟨t,et,mt⟩:=qH (ts:=hs) z0 z1;exact⟨_,et,c _ _ ⟨t,mt,rfl⟩ dk4 o4⟩
 obtain⟨ts,rfl,hts⟩:=L5 hP;rw[Ab]at hx;refine⟨by rw[Ab];exact gJ (by show 1+ts.length<=_;lia),Ca _,λp hp=>?_⟩;obtain⟨pd,pn⟩:=dk3.ne hp;obtain⟨hds,hh⟩:∃hds,hds=X0::ts:=⟨_,rfl⟩;have hhs:∀t∈hds,t∈hs:=λt ht=>by
  rw[hh]at ht;rcases Aj.mp ht with rfl|ht
  .exact mX0
  .exact hts t ht
 have hl:1<=hds.length/\hds.length<=8:=by rw[hh,Br];lia
 show BQ _ [some (.ref d),some (.rl (hs.map W.str)),some (.rl ((X0::ts).map W.str)),some (.ref p),none,none,none,none] _;rw[<-hh];obtain⟨mm,emm,m0,m5⟩:=em;have oM:Oq d n M M3:=(o1.trans o2).trans o3;have pM:M p=none:=oM.non hp pd pn;rw[<-Ab (f:=W.str)]at emm;refine xI rfl (jQ (iW (λi τ M'=>∃(xs:List a7) (o4 o5 o6 o7:Option W),τ=wr d hs hds p [o4,o5,o6,o7]/\M' p=some (.lst (xs.map gL))/\xs.length=i/\(∀x∈xs,x.name∈hds/\(x.parts.length:Int)<mm/\0<=x.cost/\∀t∈x.parts,t∈iL\/t∈jU)/\Dq d n M'/\Oq d n M M') ⟨[],_,_,_,xI rfl ⟨aX,rfl,(λ_ h=>nomatch h),dk3.put hp,oM.put pM⟩⟩ ?_ ?_))
 .rintro i w τ M' hw ⟨xs,o4,o5,o6,o7,rfl,mp,hxl,hok,dk4,oM4⟩ D1 hD1;rw[Ax]at hw;obtain⟨hd,hhd,rfl⟩:=Bf.mp hw;have hil:=(An.mp hhd).1;refine⟨Ca _,λq hq=>?_⟩;obtain⟨qd,qn⟩:=dk4.ne hq;have hqp:q≠p:=λe=>by rw[e,mp]at hq;cases hq
  refine xI rfl ⟨z4,xI rfl ⟨_,emm,d,n,mm,rfl,m0,by lia,dk4.put hq,λc3 M3 c30 c31 dk5 o5=>xI rfl ⟨by lia,by lia,?_⟩⟩⟩;have qM:M q=none:=oM4.non hq qd qn;have mp3:M3 p=some (.lst (xs.map gL)):=o5 p _ pd pn (by rw[aU (Bi hqp)];exact mp);refine iW (λj τ M2=>∃(ps:List Str) (o6 o7:Option W),τ=wr d hs hds p [some (.str hd),some (.ref q),o6,o7]/\M2 q=some (.lst (ps.map W.str))/\M2 p=some (.lst (xs.map gL))/\ps.length<=j/\(∀t∈ps,t∈iL\/t∈jU)/\Dq d n M2/\Oq d n M M2) ⟨[],_,xI rfl ⟨o5 q _ qd qn aX,mp3,Ai _,(λ_ h=>nomatch h),dk5,(oM4.put (oM4.non hq qd qn)).trans o5⟩⟩ ?_ ?_
  .rintro j w τ M2 hw ⟨ps,o6,o7,rfl,mq,mp2,hpl,hps,dk6,oM6⟩ D2 hD2;obtain⟨hj,rfl⟩:=qG hw;refine⟨z3,xI rfl ⟨d,n,3,rfl,by decide,by decide,dk6,λc4 M4 c40 c41 dk7 o7=>?_⟩⟩;obtain⟨t1,et1,mt1⟩:=qH (ts:=["b","a","x"]) c40 c41;refine⟨_,et1,xI rfl ⟨eU (o7 q _ qd qn mq),xI rfl (xI rfl (xI rfl (xI rfl ⟨d,n,xI rfl ⟨by rw[Ab];lia,by rw[Ab];lia,dk7,λc5 M5 c50 c51 dk8 o8=>?_⟩⟩)))⟩⟩;rw[Ab]at c51;obtain⟨t2,et2,mt2⟩:=qH (ts:=hds) c50 c51;refine⟨_,et2,z2,xI rfl ⟨d,n,2,rfl,by decide,by decide,dk8,λc6 M6 c60 c61 dk9 o9=>?_⟩⟩;obtain⟨t3,et3,mt3⟩:=qH (ts:=[t1,t2]) c60 c61;have mq6:=o9 q _ qd qn (o8 q _ qd qn (o7 q _ qd qn mq));refine⟨_,et3,_,mq6,d8 (by rw[Ab];lia),hD2 _ _ ⟨ps++[t3],_,xI rfl ⟨by rw[aX,Bc];rfl,by rw[aU (Bi hqp)];exact o9 p _ pd pn (o8 p _ pd pn (o7 p _ pd pn mp2)),by rw[Ak,Bl];lia,λt ht=>?_,dk9.pot qd qn,(((oM6.trans o7).trans o8).trans o9).put qM⟩⟩⟩;rcases Bo.mp ht with ht|ht
   .exact hps t ht
   .rw[Am.mp ht];rcases Aj.mp mt3 with rfl|mt3
    .have:∀t∈(["b","a","x"]:List Str),t∈jU:=by unfold jU;decide +kernel
     exact .inr (this _ mt1)
    .rw[Am.mp mt3];exact .inl (sh _ (hhs _ mt2))
  .rintro τ M2 ⟨ps,o6,o7,rfl,mq,mp2,hpl,hps,dk6,oM6⟩;rw[sQ]at hpl;refine xI rfl ⟨eU mp2,xI rfl (xI rfl ⟨_,mq,xI rfl ⟨d,n,3,rfl,by decide,by decide,dk6,λc7 M7 c70 c71 dk7 o7=>⟨z3,_,o7 p _ pd pn mp2,d8 (by rw[Ab];lia),hD1 _ _ ⟨xs++[⟨hd,ps,c7⟩],_,_,_,xI rfl ⟨by rw[aX,Bc];rfl,by rw[Ak,Bl,hxl],λx hx=>?_,dk7.pot pd pn,(oM6.trans o7).put pM⟩⟩⟩⟩⟩)⟩;rcases Bo.mp hx with hx|hx
   .exact hok x hx
   .rw[Am.mp hx];exact⟨Bg hhd,by show(ps.length:Int)<mm;lia,c70,hps⟩
 .rintro τ M' ⟨xs,o4,o5,o6,o7,rfl,mp,hxl,hok,dk4,oM4⟩;rw[Ab]at hxl;exact xI rfl ⟨_,Sub.refl _,r xs p _ ⟨λz=>by rw[z]at hxl;exact absurd hxl (by rw[Jx];lia),by lia,λx hx=>by have:=(hok x hx).2.1;lia,λx hx=>sh _ (hhs _ (hok x hx).1),λx hx=>(hok x hx).2.2.2,λx hx=>(hok x hx).2.2.1⟩ mp pM dk4 oM4⟩
theorem N9{O:Type}{f:O->W}{xs:List O}{c:Int}(h:0<=c):fD (xs.map f) none (some c)=(xs.take c.toNat).map f:=by
 by_cases hl:c<=(xs.map f).length
 .rw[y7 h hl,Mq]
 .obtain⟨j,rfl⟩:=Lb h;rw[Dg,Dv (by rw[Ab]at hl;lia)];unfold fD;rw[HT.sIx_none,HT.sIx_nat,Nat.min_eq_right (by lia)];simp;exact Dv (by simp)
theorem OA{P:Int->Prop}:∀{ws:List W},(∀w∈ws,∃t,P t/\w=W.int t)->∃ts:List Int,ws=ts.map W.int/\∀t∈ts,P t
 | [],_=>⟨[],rfl,λ_ h=>nomatch h⟩
 | w::ws,h=>by
  obtain⟨t,h1,rfl⟩:=h w Aw;obtain⟨ts,rfl,h2⟩:=OA (ws:=ws) λx hx=>h x (Ap _ hx);exact⟨t::ts,rfl,λx hx=>(Aj.mp hx).elim (λe=>e▸h1) (h2 x)⟩
abbrev wq(d:Addr)(many:Int)(a:Addr)(l:S3):S3:=some (.ref d)::some (.int many)::some (.ref a)::l
theorem zfh{ws:List W}{M:Mm}{R:K3}(h:MY ws M R):zeh (bP R) (bX zee ws) M:=by
 obtain⟨d,n,rfl,dk,r⟩:=h;refine xI rfl ⟨z2,xI rfl ⟨d,n,2,rfl,by decide,by decide,dk,λc1 M1 c10 c11 dk1 o1=>?_⟩⟩;obtain⟨mm,emm,m0,m7⟩:∃mm:Int,cG [W.int 5,.int 7] c1=some (.int mm)/\0<mm/\mm<=7:=by
  have:c1=0\/c1=1:=by lia
  rcases this with rfl|rfl
  .exact⟨5,fA (j:=0) rfl,by decide,by decide⟩
  .exact⟨7,fA (j:=1) rfl,by decide,by decide⟩
 refine⟨_,emm,d,n,mm,rfl,m0,by lia,dk1,λc2 M2 c20 c21 dk2 o2=>?_⟩;obtain⟨many,hm⟩:∃many,many=1+c2:=⟨_,rfl⟩;show(aT NG (aT NH (aT NI NJ))) (bP R) [some (.ref d),some (.int (1+c2)),none,none,none,none] M2;rw[<-hm];refine⟨Ca _,λa ha=>?_⟩;obtain⟨ad,an⟩:=dk2.ne ha;have oM2:=o1.trans o2;have aM:M a=none:=oM2.non ha ad an;refine xI rfl ⟨d,n,21,rfl,by decide,by decide,dk2.put ha,λc3 M3 c30 c31 dk3 o3=>xI rfl ⟨by lia,by lia,?_⟩⟩;refine iW (λi τ M'=>∃(xs:List dH) (o3 o4 o5:Option W),τ=wq d many a [o3,o4,o5]/\M' a=some (.lst (xs.map nR))/\xs.length<=i/\(∀x∈xs,0<=x.1/\x.1<many/\x.2.1∈jU/\0<=x.2.2/\x.2.2<many)/\Dq d n M'/\Oq d n M M') ⟨[],_,_,xI rfl ⟨o3 a _ ad an aX,Ai _,(λ_ h=>nomatch h),dk3,(oM2.put aM).trans o3⟩⟩ ?_ ?_
 .rintro i w τ M' hw ⟨xs,o3,o4,o5,rfl,ma,hl,hok,dk4,oM4⟩ D1 hD1;obtain⟨hi,rfl⟩:=qG hw;refine⟨z4,xI rfl ⟨d,n,4,rfl,by decide,by decide,dk4,λc4 M4 c40 c41 dk5 o5=>?_⟩⟩;obtain⟨t,et,mt⟩:=qH (ts:=jU) c40 c41;refine⟨_,et,xI rfl ⟨eU (o5 a _ ad an ma),xI rfl (xI rfl ⟨d,n,many,rfl,by lia,by lia,dk5,λc5 M5 c50 c51 dk6 o6=>xI rfl (xI rfl (xI rfl ⟨d,n,many,rfl,by lia,by lia,dk6,λc6 M6 c60 c61 dk7 o7=>⟨z3,_,o7 a _ ad an (o6 a _ ad an (o5 a _ ad an ma)),d8 (by rw[Ab];lia),hD1 _ _ ⟨xs++[(c5,t,c6)],_,_,xI rfl ⟨by rw[aX,Bc];rfl,by rw[Ak,Bl];lia,λx hx=>?_,dk7.pot ad an,(((oM4.trans o5).trans o6).trans o7).put aM⟩⟩⟩⟩))⟩)⟩⟩;rcases Bo.mp hx with hx|hx
  .exact hok x hx
  .rw[Am.mp hx];exact⟨c50,c51,mt,c60,c61⟩
 .rintro τ M' ⟨xs,o3,o4,o5,rfl,ma,hl,hok,dk4,oM4⟩;rw[sQ]at hl;refine xI rfl ⟨d,n,4,rfl,by decide,by decide,dk4,λc7 M7 c70 c71 dk7 o7=>xI rfl ⟨by lia,by lia,?_⟩⟩;refine N8 (rest:=[some (.ref d),some (.int many)]) (λw=>∃t,(0<=t/\t<many)/\w=.int t) (by lia) (λ_=>trivial) dk7 (λo M3 C dk3 c=>xI rfl (xI rfl ⟨d,n,many,rfl,by lia,by lia,dk3,λz M4 z0 z1 dk4 o4=>c _ _ ⟨z,⟨z0,z1⟩,rfl⟩ dk4 o4⟩)) λys M8 hy hP dk8 o8=>?_;obtain⟨es,rfl,hes⟩:=OA hP;rw[Ab]at hy;have ma8:=o8 a _ ad an (o7 a _ ad an ma);refine xI rfl (xI rfl (xI rfl (xI rfl ⟨d,n,2,rfl,by decide,by decide,dk8,λc9 M9 c90 c91 dk9 o9=>?_⟩)));have ma9:=o9 a _ ad an ma8;refine xI rfl ⟨_,ma9,?_⟩;show c8 _ (.rl (fD (xs.map nR) none (some c9))) M9 _;rw[N9 c90];refine⟨_,ma9,?_,xI rfl (xI rfl (xI rfl ⟨d,n,2,rfl,by decide,by decide,dk9,λc10 M10 c100 c101 dk10 o10=>?_⟩))⟩
  .rw[Ab,Ab,Bq];exact gJ (by lia)
  refine xI rfl ?_;dsimp only[yW];rw[N9 c100];refine⟨by rw[Ab,Ab,Bq];exact gJ (by lia),z3,_,Sub.refl _,?_⟩;rw[<-Bc,<-Bc];obtain⟨k,rfl⟩:=Lb (show 0<=many by lia);refine r ⟨k,xs++xs.take c9.toNat,es++es.take c10.toNat⟩ M10 ⟨by show 0<k;lia,by show k<=7;lia,?_,?_,λx hx=>hok x ?_,λe he=>hes e ?_⟩ ((((oM4.trans o7).trans o8).trans o9).trans o10)
  .show(xs++xs.take c9.toNat).length<=21;rw[Ak,Bq];lia
  .show(es++es.take c10.toNat).length<=4;rw[Ak,Bq];lia
  .exact(Bo.mp hx).elim id Ds
  .exact(Bo.mp he).elim id Ds
structure fW(n:Nat)(t:Tb):Prop where
 nd:(t.map (·.1)).Nodup
 inn:∀k∈t.map (·.1),k∈bT n
theorem fW.len{n:Nat}{t:Tb}(h:fW n t):t.length<=n:=by
 have:=len_sub h.nd h.inn;rwa [Ab,show(bT n).length=n by unfold bT;simp]at this
theorem fW.low{n:Nat}{t:Tb}(h:fW n t){k v:Int}(hk:k∈bT n):fW n (low t k v):=by
 refine⟨K6 h.nd,λj hj=>?_⟩;rw[<-fL]at hj;obtain⟨u,hu⟩:=Cj.mp hj;rcases K2 hu with z|z
 .cases z;exact hk
 .exact h.inn j (fL.mp (by rw[z];rfl))
theorem fW.flow{n:Nat}:∀{xs t:Tb},fW n t->(∀e∈xs,e.1∈bT n)->fW n (flow xs t)
 | [],t,h,_=>h
 | e::xs,t,h,hx=>(h.low (hx e (Aw ..))).flow λy hy=>hx y (Ap _ hy)
section
variable {rs:List a7}{mc:Mc}{T:Tq}
theorem OB(g:GQ rs)(q:MQ mc)(I:IQ rs mc T){t:Str}{a:Int}(ha:a∈bT mc.many):∀e∈iX rs mc T t a,e.1∈bT mc.many:=λe he=>by
 unfold iX at he;split at he
 .obtain⟨_,_,h,_⟩:=wD g q (I.so (t,a,e.1) e.2 (in_agetQ (I.ni _) he));exact h
 .obtain⟨_,_,_,h3,h4⟩:=q.ar _ (v9.mp (show(e.1,e.2)∈jA mc.arr t a from he)).2;exact AE.mpr ⟨h3,h4⟩
theorem zfi(I:IQ rs mc T){t:Str}{a:Int}:((iX rs mc T t a).map (·.1)).Nodup:=by
 unfold iX;split
 .exact I.ni _
 .exact v8 Cq
theorem zfj(g:GQ rs)(q:MQ mc)(I:IQ rs mc T){t:Str}{a:Int×Int}(ha:a.1∈bT mc.many):∀e∈kE rs mc T t a,e.1∈bT mc.many:=λe he=>by
 unfold kE at he;obtain⟨x,hx,rfl⟩:=Ay.mp he;exact OB g q I ha x hx
theorem BS(g:GQ rs)(q:MQ mc)(I:IQ rs mc T){t:Str}:∀{here th:Tb},fW mc.many th->(∀a∈here,a.1∈bT mc.many)->fW mc.many (here.foldl (λth a=>flow (kE rs mc T t a) th) th)
 | [],th,h,_=>h
 | a::here,th,h,hh=>by
  have:=BS g q I (t:=t) (here:=here) (th:=flow (kE rs mc T t a) th) (h.flow (zfj g q I (hh a (Aw ..)))) λy hy=>hh y (Ap _ hy);exact this
theorem OC(g:GQ rs)(q:MQ mc)(I:IQ rs mc T){b:Int}(hb:b∈bT mc.many)(ps:List Str):fW mc.many (eI rs mc T ps b):=by
 have:∀(ps:List Str) (h:Tb),fW mc.many h->fW mc.many (ps.foldl (λh p=>mL rs mc T p h) h):=by
  intro ps
  induction ps with
  | nil=>intro h hh;exact hh
  | cons p ps ih=>
   intro h hh;exact ih _ (BS g q I ⟨Cq,λ_ z=>nomatch z⟩ λa ha=>hh.inn a.1 (Em ha))
 exact this ps _ ⟨by simp,λk hk=>by rw[Bb,Fu,Am]at hk;rw[hk];exact hb⟩
end
theorem zfk{t:Tb}{k v:Int}(nd:(t.map (·.1)).Nodup):bC t k (if ((aD t k).getD v)<v then(aD t k).getD v else v)=low t k v:=by
 unfold low btr;cases h:aD t k with
 | none=>rw[if_pos rfl];simp
 | some w=>
  show bC t k (if w<v then w else v)=if decide (v<w)=true then bC t k v else t
  by_cases z:v<w
  .rw[if_pos (decide_eq_true z),if_neg (by lia)]
  .rw[decide_eq_false z];show bC t k (if w<v then w else v)=t
   by_cases y:w<v
   .rw[if_pos y];exact wY nd h
   .rw[if_neg y,show v=w by lia];exact wY nd h
theorem zfl{M:Mm}{a:Addr}{kvs:List (aE×W)}(h:M a=some (.dK kvs)):kU "dict" (.ref a) M:=.inr ⟨rfl,.inl ⟨_,h⟩⟩
abbrev ww(rs:List a7)(mc:Mc)(T:Tq)(ps:List Str)(b:Int)(l:S3):S3:=some (.rl (mc.arr.map nR))::some (wU T)::some (wX rs)::some (.tup (ps.map W.str))::some (.int b)::l
theorem zfm{ws:List W}{M:Mm}{R:K3}(h:MZ ws M R):zen (bP R) (bX zei ws) M:=by
 obtain⟨rs,mc,T,ps,b,rfl,g,q,I,hp4,sp,hb,r⟩:=h;have h7:=q.few;have hfa:=q.fa;refine λp hp=>xI rfl ⟨aX,Sum.inl b,rfl,?_⟩;rw[fM];refine xI rfl (zb9 (mG (ws:=ps.map W.str) (λi τ M'=>∃(p:Addr) (o:Option W×Option W×Option W×Option W×Option W×Option W×Option W),τ=ww rs mc T ps b [some (.ref p),o.1,o.2.1,o.2.2.1,o.2.2.2.1,o.2.2.2.2.1,o.2.2.2.2.2.1,o.2.2.2.2.2.2]/\M p=none/\M'=put M p (.dK (bQ (eI rs mc T (ps.take i) b)))) ⟨p,(_,_,_,_,_,_,_),rfl,hp,rfl⟩ ?_ ?_))
 .rintro i x τ M' hx ⟨p,o,rfl,hp,rfl⟩;rw[Ax]at hx;obtain⟨t,ht,rfl⟩:=Bf.mp hx;obtain⟨here,hhere⟩:∃here,here=eI rs mc T (ps.take i) b:=⟨_,rfl⟩;have hok:fW mc.many here:=by rw[hhere];exact OC g q I hb _
  have hst:=nN (sp t (Bg ht));have hnext:eI rs mc T (ps.take (i+1)) b=mL rs mc T t here:=by rw[Cd,ht,hhere];exact sJ _ _ _ _
  rw[<-hhere,hnext];intro c hc;have hcp:c≠p:=λe=>by rw[e,aX]at hc;cases hc
  have hcM:M c=none:=by rw[aU hcp]at hc;exact hc
  refine⟨p,bQ here,rfl,by rw[aU (Bi hcp),aX],xI rfl (BF ?_)⟩;rw[show del (put (put M p (.dK (bQ here))) c (.dK [])) p=put M c (.dK (bQ [])) by
   rw[t9 (Bi hcp),jG (by rw[aU (Bi hcp)];exact hp)];rfl]
  refine mG (ws:=(bQ here).map λp=>wK p.1) (λj τ M'=>∃(o:Option W×Option W×Option W×Option W×Option W),τ=ww rs mc T ps b [some (.fk (bQ here)),some (.str t),some (.ref c),o.1,o.2.1,o.2.2.1,o.2.2.2.1,o.2.2.2.2]/\M'=put M c (.dK (bQ ((here.take j).foldl (λth a=>flow (kE rs mc T t a) th) [])))) ⟨(_,_,_,_,_),rfl,rfl⟩ ?_ ?_
  .rintro j x τ M' hx ⟨o,rfl,rfl⟩;rw[BD,Ax]at hx;obtain⟨a,haj,rfl⟩:=Bf.mp hx;have ham:a∈here:=Bg haj;have ha:=hok.inn a.1 (Em ham);obtain⟨th,hth⟩:∃th,th=(here.take j).foldl (λth a=>flow (kE rs mc T t a) th) []:=⟨_,rfl⟩;have thok:fW mc.many th:=by rw[hth];exact BS g q I ⟨Cq,λ_ z=>nomatch z⟩ λa ha=>hok.inn a.1 (Em (Ds ha))
   rw[<-hth];obtain⟨G,hG⟩:∃G,G=iX rs mc T t a.1:=⟨_,rfl⟩;have gnd:(G.map (·.1)).Nodup:=by rw[hG];exact zfi I
   have loop:∀(D:D3) (M1:Mm),M1 c=some (.dK (bQ th))->(∀(o:Option W×Option W×Option W×Option W×Option W),D.nx (ww rs mc T ps b [some (.fk (bQ here)),some (.str t),some (.ref c),o.1,o.2.1,o.2.2.1,o.2.2.2.1,o.2.2.2.2]) (put M1 c (.dK (bQ ((here.take (j+1)).foldl (λth a=>flow (kE rs mc T t a) th) [])))))->∀o10 o11 o12:Option W,
     (eD (dJ jT (aA 9)) (bM 12) (gS (b9 yO (aB (aF c8 (aF aR (aA 5) (aA 8)) (aF aR (aA 9) (aA 12))) (aB (dE "dict" nJ (aA 7) (aB (aA 12) (aB (aF c8 (aF aR (aA 5) (aA 8)) (aF aR (aA 9) (aA 12))) aG))) aG))) (iF (aA 7) (aA 12))))
     D (ww rs mc T ps b [some (.fk (bQ here)),some (.str t),some (.ref c),some (.int a.1),some (.fk (bQ G)),o10,o11,o12]) M1:=λD M1 hM1 hD o10 o11 o12=>by
    refine xI rfl (BF (iW (λk τ M'=>∃o12:Option W,τ=ww rs mc T ps b [some (.fk (bQ here)),some (.str t),some (.ref c),some (.int a.1),some (.fk (bQ G)),o10,o11,o12]/\M'=put M1 c (.dK (bQ (flow ((G.take k).map λg=>(g.1,a.2+g.2)) th)))) (xI rfl (GK hM1).symm) ?_ ?_))
    .rintro k x τ M' hx ⟨o12,rfl,rfl⟩ D2 hD2;rw[BD,Ax]at hx;obtain⟨e,hek,rfl⟩:=Bf.mp hx;have hem:e∈G:=Bg hek;obtain⟨tk,htk⟩:∃tk,tk=flow ((G.take k).map λg=>(g.1,a.2+g.2)) th:=⟨_,rfl⟩;have tkok:fW mc.many tk:=by
      rw[htk];refine thok.flow λx hx=>?_;obtain⟨y,hy,rfl⟩:=Ay.mp hx;have hy:=Ds hy;rw[hG]at hy;exact OB g q I ha y hy
     have hnx:flow ((G.take (k+1)).map λg=>(g.1,a.2+g.2)) th=low tk e.1 (a.2+e.2):=by
      rw[Cd,hek,htk];unfold flow;rw[Bc,Cz];rfl
     have la:bD (bQ here) (Sum.inl a.1:aE)=some (.int a.2):=by rw[mQ,in_agetQ hok.nd ham];rfl
     have le:bD (bQ G) (Sum.inl e.1:aE)=some (.int e.2):=by rw[mQ,in_agetQ gnd hem];rfl
     have hlen:=tkok.len;have sum:∀{τ:S3} {M:Mm} {R:K3},τ[5]? = some (some (.fk (bQ here)))->τ[8]? = some (some (.int a.1))->τ[9]? = some (some (.fk (bQ G)))->τ[12]? = some (some (.int e.1))->R (.int (a.2+e.2)) M->(aF c8 (aF aR (aA 5) (aA 8)) (aF aR (aA 9) (aA 12))) τ M R:=λh5 h8 h9 h12 h=>xI h5 (xI h8 ⟨_,⟨Sum.inl a.1,rfl,la.symm⟩,xI h9 (xI h12 ⟨_,⟨Sum.inl e.1,rfl,le.symm⟩,h⟩)⟩);rw[<-htk];refine sum rfl rfl rfl rfl (xI rfl ⟨zfl aX,xI rfl (sum rfl rfl rfl rfl ⟨_,.inl ⟨_,Sum.inl e.1,aX,rfl,rfl⟩,?_⟩)⟩);rw[mQ,show((aD tk e.1).map W.int).getD (.int (a.2+e.2))=.int ((aD tk e.1).getD (a.2+e.2)) by cases aD tk e.1<;>rfl];refine xI rfl (xI rfl (BE aX (by lia) (hD2 _ _ (xI rfl ?_))));rw[fM,zfk tkok.nd,hnx]
    .rintro τ M' ⟨o12,rfl,rfl⟩;have e:flow ((G.take ((bQ G).map λp=>wK p.1).length).map λg=>(g.1,a.2+g.2)) th=(here.take (j+1)).foldl (λth a=>flow (kE rs mc T t a) th) []:=by
      rw[Ab,sR,Bw,Cd,haj,Cz,<-hth,hG];rfl
     rw[e];exact hD (_,_,_,_,_)
   refine λd hd=>xI rfl (xI rfl ⟨rfl,J3 _,xI rfl ?_⟩);have hdc:d≠c:=λe=>by rw[e,aX]at hd;cases hd
   have cat:put (put M c (.dK (bQ th))) d (.dK []) c=some (.dK (bQ th)):=by rw[aU (Bi hdc),aX]
   show if inW (.str t) ((rs.map a7.name).map W.str)=true then _ else _;rw[J2,ME];refine cU (λz=>?_) λz=>?_
   .refine xI rfl ⟨rfl,xI rfl (xI rfl ⟨z2,λf hf=>⟨f,rfl,.inl ⟨_,aX,⟨_,⟨eK (t,a.1),rfl,rfl⟩,?_⟩⟩⟩⟩)⟩;rw[jG hf];have e:(bD (T.map λe=>(eK e.1,W.fk (bQ e.2))) (eK (t,a.1))).getD (.fk [])=.fk (bQ G):=by
     rw[lD (f:=λt=>W.fk (bQ t)) nL,hG];unfold iX inn;rw[if_pos z];cases aD T (t,a.1)<;>rfl
    rw[e];refine .inr (loop _ _ cat ?_ _ _ _);refine λo=>⟨_,?_,o,rfl,rfl⟩
    rw[aU hdc]at hd;rw[t9 hdc,fM];exact Sub.new ((aU hdc).trans hd)
   .refine xI rfl ?_;refine iW (ws:=mc.arr.map nR) (λk τ M'=>∃(o:Option W×Option W×Option W),τ=ww rs mc T ps b [some (.fk (bQ here)),some (.str t),some (.ref c),some (.int a.1),some (.ref d),o.1,o.2.1,o.2.2]/\M'=put (put M c (.dK (bQ th))) d (.dK (bQ (jA (mc.arr.take k) t a.1)))) ⟨(_,_,_),rfl,rfl⟩ ?_ ?_
    .rintro k x τ M' hx ⟨o,rfl,rfl⟩ D2 hD2;rw[Ax]at hx;obtain⟨y,hy,rfl⟩:=Bf.mp hx;have hst:jA (mc.arr.take (k+1)) t a.1=nO t a.1 (jA (mc.arr.take k) t a.1) y:=by
      rw[Cd,hy];unfold jA;rw[Cz];rfl
     have hln:(jA (mc.arr.take k) t a.1).length<=7:=by
      have nd:((jA (mc.arr.take k) t a.1).map (·.1)).Nodup:=v8 Cq;have:=len_sub (b:=bT mc.many) nd λx hx=>by
       obtain⟨w,hw,rfl⟩:=Ay.mp hx;obtain⟨_,_,_,h3,h4⟩:=q.ar _ (Ds (v9.mp (show(w.1,w.2)∈jA (mc.arr.take k) t a.1 from hw)).2);exact AE.mpr ⟨h3,h4⟩
      rw[Ab,show(bT mc.many).length=mc.many by unfold bT;simp]at this;lia
     have no:¬(y.1=a.1/\y.2.1=t)->D2.nx (ww rs mc T ps b [some (.fk (bQ here)),some (.str t),some (.ref c),some (.int a.1),some (.ref d),some (.int y.1),some (.str y.2.1),some (.int y.2.2)]) (put (put M c (.dK (bQ th))) d (.dK (bQ (jA (mc.arr.take k) t a.1)))):=λz=>hD2 _ _ ⟨(_,_,_),rfl,by rw[hst];unfold nO;rw[if_neg z]⟩;refine⟨rfl,rfl,xI rfl (xI rfl (xI rfl ?_))⟩;refine cU (λz1=>xI rfl (xI rfl (xI rfl (cU (λz2=>?_) λz2=>no λz=>of_decide_eq_false z2 z.2)))) λz1=>no λz=>of_decide_eq_false z1 z.1;refine xI rfl (xI rfl (BE aX (by lia) (hD2 _ _ ⟨(_,_,_),rfl,?_⟩)));rw[fM,hst];unfold nO;rw[if_pos ⟨of_decide_eq_true z1,of_decide_eq_true z2⟩]
    .rintro τ M' ⟨o,rfl,rfl⟩;rw[Ab,Bw,show jA mc.arr t a.1=G by rw[hG];unfold iX;rw[if_neg (ne_true_of_eq_false z)]];refine .inl ⟨d,_,rfl,aX,?_⟩;have hd':put M c (.dK (bQ th)) d=none:=hd;rw[jG hd'];refine loop _ _ aX ?_ _ _ _;exact λo=>⟨_,Sub.refl _,o,rfl,by rw[fM]⟩
  .rintro τ M' ⟨o,rfl,rfl⟩;rw[Ab,sR,Bw];exact xI rfl ⟨_,Sub.refl _,c,(_,_,_,_,_,_,_),rfl,hcM,rfl⟩
 .rintro τ M' ⟨p,o,rfl,hp,rfl⟩;rw[Ab,Bw];exact xI rfl ⟨_,Sub.refl _,r p hp⟩
theorem zfn{rs:List a7}{mc:Mc}{T:Tq}(g:GQ rs)(q:MQ mc)(I:IQ rs mc T)(X:Str)(b:Int):fW mc.many (inn T (X,b)):=by
 refine⟨I.ni _,λk hk=>?_⟩;rw[<-fL]at hk;obtain⟨v,hv⟩:=Cj.mp hk;exact(wD g q (I.so (X,b,k) v hv)).2.2.1
theorem zfo{rs:List a7}{mc:Mc}{L:Lq}(g:GQ rs)(q:MQ mc)(I:IQ rs mc (fV L)):L.length<=100:=by
 have:=len_sub I.nd I.ky;rw[Ab,p5 (k:=mc.many) (λX _=>by unfold bT;simp),Ab]at this;unfold fV at this;rw[Ab]at this;have k2:=Jf g.few q.few;lia
theorem zfp{n j:Nat}{x:W}(h:(j7 0 n)[j]? = some x):∃b:Int,(bT n)[j]? = some b/\x=.int b:=by
 obtain⟨hj,rfl⟩:=qG h;refine⟨(j:Int),?_,by rw[Kf]⟩;unfold bT;rw[Ax,List.getElem?_range hj];rfl
abbrev wv(rs:List a7)(mc:Mc)(a:Addr)(fl:Bool)(l:S3):S3:=some (dA rs)::some (hV mc)::some (wX rs)::some (.ref a)::some (.bl fl)::l
theorem OD{rs:List a7}{mc:Mc}{M:Mm}{a e p:Addr}{ru:a7}{b:Int}{sv:Tq×Bool}{L1:Lq}{M3:Mm}{D:D3}{o11 o12:Option W}(g:GQ rs)(q:MQ mc)(hbm:b∈bT mc.many)(iqv:IQ rs mc sv.1)(ct:e9 M M3 a L1)(nd1:(L1.map (·.1)).Nodup)(hk:aD L1 (ru.name,b)=some (p,inn sv.1 (ru.name,b)))(ht:fV L1=bC sv.1 (ru.name,b) (inn sv.1 (ru.name,b)))(he:M3 e=some (.dK (bQ (eI rs mc sv.1 ru.parts b))))(hea:e≠a)(hel:∀x∈L1,x.2.1≠e)(hM:M e=none)(hD:∀(L:Lq) (o9 o10 o11:Option W) M',e9 M M' a L->fV L=(gX rs mc ru sv b).1->D.nx (wv rs mc a (gX rs mc ru sv b).2 [some (.str ru.name),some (.tup (ru.parts.map W.str)),some (.int ru.cost),some (.int b),o9,o10,o11,o12]) M'):
  (sP 9 (eD (dJ jT (aA 9)) (bM 11)
    (dB (iQ (bZ (aF (rIn true) (aA 11) (aA 10))) (bZ (aF oA (aF aR (aA 9) (aA 11)) (aF aR (aA 10) (aA 11)))))
    (aT (gS (aF aR (aA 9) (aA 11)) (iF (aA 10) (aA 11)))
   (bE 4 (vC (.bl true))))
    eP))) D (wv rs mc a sv.2 [some (.str ru.name),some (.tup (ru.parts.map W.str)),some (.int ru.cost),some (.int b),some (.ref e),some (.ref p),o11,o12]) M3:=by
 have h7:=q.few;obtain⟨E,hE⟩:∃E,E=eI rs mc sv.1 ru.parts b:=⟨_,rfl⟩;have eok:fW mc.many E:=by rw[hE];exact OC g q iqv hbm _
 rw[<-hE]at he;have hv:gX rs mc ru sv b=(bC sv.1 (ru.name,b) (E.foldl (eJ 0) (inn sv.1 (ru.name,b),sv.2)).1,(E.foldl (eJ 0) (inn sv.1 (ru.name,b),sv.2)).2):=by rw[hE];rfl
 obtain⟨t0,h0⟩:∃t0,t0=inn sv.1 (ru.name,b):=⟨_,rfl⟩;have tok:fW mc.many t0:=by rw[h0];exact zfn g q iqv _ _
 rw[hv]at hD;rw[<-h0]at hk ht hD;refine⟨e,_,rfl,he,xI rfl (BF (iW (λk τ M'=>∃(Lk:Lq) (o11:Option W),τ=wv rs mc a ((E.take k).foldl (eJ 0) (t0,sv.2)).2 [some (.str ru.name),some (.tup (ru.parts.map W.str)),some (.int ru.cost),some (.int b),some (.fk (bQ E)),some (.ref p),o11,o12]/\e9 M M' a Lk/\(Lk.map (·.1)).Nodup/\aD Lk (ru.name,b)=some (p,((E.take k).foldl (eJ 0) (t0,sv.2)).1)/\fV Lk=bC sv.1 (ru.name,b) ((E.take k).foldl (eJ 0) (t0,sv.2)).1) ⟨L1,xI rfl ⟨ct.del hM hea hel,nd1,hk,ht⟩⟩ ?_ ?_))⟩
 .rintro k x τ M' hx ⟨Lk,o11,rfl,ctk,ndk,hkk,htk⟩ D2 hD2;rw[BD,Ax]at hx;obtain⟨x,hxk,rfl⟩:=Bf.mp hx;have hxm:=Bg hxk;obtain⟨sk,hsk⟩:∃sk,sk=(E.take k).foldl (eJ 0) (t0,sv.2):=⟨_,rfl⟩;have skok:fW mc.many sk.1:=by
   rw[hsk,(AK 0 (E.take k) (t0,sv.2)).1];refine tok.flow λy hy=>?_;obtain⟨z,hz,rfl⟩:=Ay.mp hy;exact eok.inn z.1 (Em (Ds hz))
  have hnx:(E.take (k+1)).foldl (eJ 0) (t0,sv.2)=eJ 0 sk x:=by rw[Cd,hxk,Cz,<-hsk];rfl
  rw[hnx]at hD2;rw[<-hsk]at hkk htk⊢;have hMp:M' p=some (.dK (bQ sk.1)):=(ctk.inn _ (aget_inQ hkk)).2.2;have le:bD (bQ E) (Sum.inl x.1:aE)=some (.int x.2):=by rw[mQ,in_agetQ eok.nd hxm];rfl
  have hlen:=skok.len;refine zc1 (q:=p) (th:=sk.1) (k:=x.1) (v:=x.2) hMp ?_ ?_ (λz=>?_) (λz=>?_) rfl
  .exact λR h=>xI rfl h
  .exact λR h=>xI rfl (xI rfl ⟨_,⟨Sum.inl x.1,rfl,le.symm⟩,h⟩)
  .have e1:eJ 0 sk x=(bC sk.1 x.1 x.2,true):=by unfold eJ;rw[Kf];exact if_pos z
   rw[e1]at hD2;refine xI rfl (xI rfl ⟨_,⟨Sum.inl x.1,rfl,le.symm⟩,xI rfl (xI rfl (BE hMp (by lia) (hD2 _ _ ⟨bC Lk (ru.name,b) (p,bC sk.1 x.1 x.2),xI rfl ⟨ctk.wr ndk hkk,sI ndk,by rw[gM,if_pos rfl],?_⟩⟩)))⟩);rw[MI,htk,zc3]
  .have e1:eJ 0 sk x=sk:=by unfold eJ;rw[Kf];exact if_neg (by rw[show btr sk.1 x.1 x.2=false from z];exact Ar)
   rw[e1]at hD2;exact hD2 _ _ ⟨Lk,xI rfl ⟨ctk,ndk,hkk,htk⟩⟩
 .rintro τ M' ⟨Lk,o11,rfl,ctk,ndk,hkk,htk⟩;rw[Ab,sR,Bw]at htk;rw[Ab,sR,Bw];exact hD Lk _ _ _ M' ctk htk
def OE(t:Tb):W->Option W
 | .int e=>(aD t e).map W.int
 | _=>none
theorem zfq(t:Tb)(es:List Int):(es.map W.int).filterMap (OE t)=(es.filterMap (aD t)).map W.int:=by
 rw[Il,List.map_filterMap];rfl
theorem zfr{rs:List a7}{mc:Mc}{t:Tb}{fw:W}{M:Mm}{R:K3}{τ:S3}(q:MQ mc)(h1:τ[1]? = some (some (hV mc)))(hj:rL [none,some 12] τ=[none,some fw])(hf:(∃p,fw=.ref p/\M p=some (.dK (bQ t)))\/(fw=.dk []/\t=[]))(r:∀o,A7 (λv=>∃e∈mc.ends,aD t e=some v) o->(bP R).rt (BB o) M):BR (bP R) τ M:=by
 have he:=q.fe;refine xI h1 (xI rfl (jQ ?_));rw[hj];refine uY (rest:=[some fw]) (OE t) (gJ (by rw[Ab];lia)) (λ_ _=>trivial) (λx hx M3 C D sb d1 d2=>?_) (bH.frz ?_)
 .obtain⟨e,_,rfl⟩:=Ay.mp hx;rcases hf with⟨p,rfl,hp⟩|⟨rfl,rfl⟩
  .refine xI rfl (xI rfl (.inr ⟨_,.inl ⟨_,Sum.inl e,sb _ _ hp,rfl,rfl⟩,xI rfl ?_⟩));rw[mQ];cases h:aD t e with
   | none=>exact d2 (by show(aD t e).map W.int=none;rw[h];rfl)
   | some v=>exact xI rfl (xI rfl (.inr ⟨.int v,.inl ⟨_,Sum.inl e,sb _ _ hp,rfl,by rw[mQ,h];rfl⟩,d1 _ (by show(aD t e).map W.int=_;rw[h];rfl)⟩))
  .exact xI rfl (xI rfl ⟨none,⟨Sum.inl e,rfl,rfl⟩,xI rfl (d2 rfl)⟩)
 .rw[zfq];refine⟨_,rfl,λhn=>r none λv ⟨e,he,hv⟩=>?_,λm hm hl=>r (some m) ⟨?_,λu ⟨e,he,hv⟩=>hl u (Fp.mpr ⟨e,he,hv⟩)⟩⟩
  .have:v∈mc.ends.filterMap (aD t):=Fp.mpr ⟨e,he,hv⟩;rw[hn]at this;cases this
  .obtain⟨e,he,hv⟩:=Fp.mp hm;exact⟨e,he,hv⟩
theorem zfs{ws:List W}{M:Mm}{R:K3}(h:NA ws M R):zev (bP R) (bX zeo ws) M:=by
 obtain⟨q0,rs0,mc,rfl,g,q,r⟩:=h;obtain⟨rs,hrs⟩:∃rs,rs=q0::rs0:=⟨_,rfl⟩;have e0:cG ((rs.map a7.name).map W.str) 0=some (.str q0.name):=by rw[hrs];exact fA (j:=0) rfl
 rw[<-hrs]at g r⊢;have h7:=q.few;have hrf:=g.few;refine MF rfl (by lia) rfl (λa ha=>?_);obtain⟨m0,hm0⟩:=zb1 (mc:=mc) g q _ _ (LH (rs:=rs) (mc:=mc)) (Ai _) (Ai _);have ct0:e9 M (put M a (.dT [])) a []:=⟨Sub.new ha,ha,aX,(λ_ h=>nomatch h),Cq⟩;refine IS (λm τ M'=>∃(L:Lq) (fl:Bool) (o:Option W×Option W×Option W×Option W×Option W×Option W×Option W),τ=wv rs mc a fl [o.1,o.2.1,o.2.2.1,o.2.2.2.1,o.2.2.2.2.1,o.2.2.2.2.2.1,o.2.2.2.2.2.2,none]/\e9 M M' a L/\IQ rs mc (fV L)/\(fl=false->wH rs mc (fV L))/\(fl=true->wA rs mc m (fV L))) ⟨m0,[],true,(_,_,_,_,_,_,_),rfl,ct0,LH,(λh=>nomatch h),λ_=>hm0⟩ ?_;rintro m τ M' ⟨L,fl,o,rfl,ct,iq,hfix,hend⟩ D0 hD0;refine xI rfl (cU (λhfl=>?_) λhfl=>?_)
 .have hend:=hend hfl;obtain⟨T,hT⟩:∃T,T=fV L:=⟨_,rfl⟩;rw[<-hT]at iq hend;refine xI rfl (iW (ws:=rs.map gL) (λi τ M'=>∃(L:Lq) (o:Option W×Option W×Option W×Option W×Option W×Option W×Option W),τ=wv rs mc a ((rs.take i).foldl (lH rs mc) (T,false)).2 [o.1,o.2.1,o.2.2.1,o.2.2.2.1,o.2.2.2.2.1,o.2.2.2.2.2.1,o.2.2.2.2.2.2,none]/\e9 M M' a L/\fV L=((rs.take i).foldl (lH rs mc) (T,false)).1) ⟨L,(_,_,_,_,_,_,_),rfl,ct,hT.symm⟩ ?_ ?_)
  .rintro i x τ M' hx ⟨L,o,rfl,ct,hL⟩ D1 hD1;rw[Ax]at hx;obtain⟨ru,hru,rfl⟩:=Bf.mp hx;have hrm:=Bg hru;obtain⟨st,hst⟩:∃st,st=(rs.take i).foldl (lH rs mc) (T,false):=⟨_,rfl⟩;have iqs:IQ rs mc st.1:=by rw[hst];exact(AN (rs.take i) (λr hr=>Ds hr) (st:=(T,false)) iq).1.iq
   have hnext:(rs.take (i+1)).foldl (lH rs mc) (T,false)=lH rs mc st ru:=by rw[Cd,hru,Cz,<-hst];rfl
   rw[hnext]at hD1;rw[<-hst]at hL⊢;refine⟨rfl,rfl,xI rfl ⟨_,rfl,xI rfl ⟨by lia,by lia,?_⟩⟩⟩;rw[Dg];refine mG (λj τ M'=>∃(L:Lq) (o:Option W×Option W×Option W×Option W),τ=wv rs mc a (((bT mc.many).take j).foldl (gX rs mc ru) st).2 [some (.str ru.name),some (.tup (ru.parts.map W.str)),some (.int ru.cost),o.1,o.2.1,o.2.2.1,o.2.2.2,none]/\e9 M M' a L/\fV L=(((bT mc.many).take j).foldl (gX rs mc ru) st).1) ⟨L,(_,_,_,_),rfl,ct,hL⟩ ?_ ?_
   .rintro j x τ M' hx ⟨L,o,rfl,ct,hL⟩;obtain⟨b,hb,rfl⟩:=zfp hx;have hbm:=Bg hb;obtain⟨sv,hsv⟩:∃sv,sv=((bT mc.many).take j).foldl (gX rs mc ru) st:=⟨_,rfl⟩;have iqv:IQ rs mc sv.1:=by rw[hsv];exact(AL hrm _ (λb hb=>Ds hb) iqs).1.iq
    have hnv:((bT mc.many).take (j+1)).foldl (gX rs mc ru) st=gX rs mc ru sv b:=by rw[Cd,hb,Cz,<-hsv];rfl
    rw[hnv];rw[<-hsv]at hL⊢;have eft:W.ft ((L.map λx=>(eK x.1,x.2.1,x.2.2.map λe=>((Sum.inl e.1:aE),e.2))).map λx=>(x.1,W.fk (gY x.2.2)))=wU (fV L):=by
     unfold wU fV;rw[Bh,Bh];rfl
    have ndL:(L.map (·.1)).Nodup:=zc4 (by rw[hL];exact iqv.nd);have lL:=zfo g q (L:=L) (by rw[hL];exact iqv);refine⟨a,L.map λx=>(eK x.1,x.2.1,x.2.2.map λe=>((Sum.inl e.1:aE),e.2)),rfl,by rw[Bh];exact ct.at_,λx hx=>?_,?_⟩
    .obtain⟨y,hy,rfl⟩:=Ay.mp hx;exact(ct.inn y hy).2.2
    rw[eft,hL];refine xI rfl ⟨_,rfl,xI rfl (xI rfl (xI rfl (xI rfl ⟨rs,mc,sv.1,ru.parts,b,rfl,g,q,iqv,g.fp ru hrm,g.sp ru hrm,hbm,λp _=>⟨p,_,rfl,aX,λe he=>?_⟩⟩)))⟩;have Me:M e=none:=ct.sub.non he;have hea:e≠a:=λz=>by rw[z,ct.at_]at he;cases he
    have hel:∀x∈L,x.2.1≠e:=λx hx z=>by rw[<-z,(ct.inn x hx).2.2]at he;cases he
    have ct2:=ct.more (o:=.dK (bQ (eI rs mc sv.1 ru.parts b))) he;refine xI rfl ⟨nK ct2.at_,xI rfl (xI rfl ⟨z2,λc hc=>⟨_,eK (ru.name,b),(ct2.more hc).at_,rfl,d8 (by rw[Ab];lia),λw' hw=>?_,λhn=>?_⟩⟩)⟩
    .rw[(ct2.more (o:=.dK []) hc).look]at hw;obtain⟨y,hy,rfl⟩:=Bf.mp hw;have e1:y.2=inn sv.1 (ru.name,b):=by unfold inn;rw[<-hL,sW,hy];rfl
     have hqe:e≠c:=λz=>by rw[<-z,aX]at hc;cases hc
     have hg:aD sv.1 (ru.name,b)=some (inn sv.1 (ru.name,b)):=by rw[<-e1,<-hL,sW,hy];rfl
     refine OD g q hbm iqv (ct2.more (o:=.dK []) hc) ndL (by rw[hy,<-e1]) (by rw[hL,wY iqv.nd hg]) (by rw[aU hqe,aX];rfl) hea hel Me ?_;exact λL' o9 o10 o11 M' c l=>⟨_,Sub.refl _,L',(_,_,_,_),rfl,c,l⟩
    .rw[(ct2.more (o:=.dK []) hc).look]at hn;have hy:aD L (ru.name,b)=none:=Option.map_eq_none_iff.mp hn;have e1:inn sv.1 (ru.name,b)=[]:=by unfold inn;rw[<-hL,sW,hy];rfl
     have hqe:e≠c:=λz=>by rw[<-z,aX]at hc;cases hc
     have ct3:=ct2.add hy hc;refine OD (p:=c) (L1:=bC L (ru.name,b) (c,[])) g q hbm iqv ct3 (sI ndL) (by rw[gM,if_pos rfl,e1]) (by rw[MI,hL,e1]) (by rw[aU hea,aU hqe,aX];rfl) hea (λx hx z=>?_) Me ?_
     .rcases sU hx with rfl|⟨hx,_⟩
      .exact hqe z.symm
      .exact hel x hx z
     .exact λL' o9 o10 o11 M' c l=>⟨_,Sub.refl _,L',(_,_,_,_),rfl,c,l⟩
   .rintro τ M' ⟨L,o,rfl,ct,hL⟩;rw[sQ]at hL;rw[sQ];have e:(bT mc.many).take mc.many=bT mc.many:=Dv (by unfold bT;simp);rw[e]at hL⊢;exact hD1 _ _ ⟨L,(_,_,_,_,_,_,_),rfl,ct,hL⟩
  .rintro τ M' ⟨L,o,rfl,ct,hL⟩;rw[Ab,Bw]at hL;rw[Ab,Bw];have hL:fV L=(kF rs mc T).1:=hL;obtain⟨s,f⟩:=LF iq;cases m with
   | zero=>exact hend.elim
   | succ m=>
    refine hD0 m _ _ (Ig _) ⟨L,(kF rs mc T).2,(_,_,_,_,_,_,_),rfl,ct,by rw[hL];exact s.iq,λz=>by rw[hL];exact f z,λz=>?_⟩;rcases hend with h|h
    .rw[h]at z;cases z
    .rw[hL];exact h
 .have hf:=hfix hfl;have fin:∀(fw:W) (t:Tb),inn (fV L) (q0.name,0)=t->((∃p,fw=.ref p/\M' p=some (.dK (bQ t)))\/(fw=.dk []/\t=[]))->BR (bP R) (wv rs mc a fl [o.1,o.2.1,o.2.2.1,o.2.2.2.1,o.2.2.2.2.1,o.2.2.2.2.2.1,o.2.2.2.2.2.2,some fw]) M':=λfw t ht hfw=>
   zfr (rs:=rs) q rfl rfl hfw λoo ho=>⟨M,ct.sub,r oo λks B hk hB=>by
    have due:=λe=>zb3 iq hf hk hB (q0.name,(0:Int),e);unfold fU at due;simp only[ht]at due;have e:(λv=>∃e∈mc.ends,∃x,aD B (q0.name,(0:Int),e)=some x/\x.1.1=v)=λv=>∃e∈mc.ends,aD t e=some v:=funext λv=>propext ⟨λ⟨e,h1,x,h2,h3⟩=>⟨e,h1,by rw[due,h2];exact congrArg some h3⟩,λ⟨e,h1,h2⟩=>by
     rw[due]at h2;obtain⟨x,h3,h4⟩:=Bf.mp h2;exact⟨e,h1,x,h3,h4⟩⟩
    rw[e];exact ho⟩
  refine xI rfl ⟨nK ct.at_,xI rfl ⟨_,e0,z2,λb hb=>.inr (.inl ⟨_,aX,?_⟩)⟩⟩;rw[jG hb];refine⟨_,.inr ⟨_,eK (q0.name,0),ct.at_,rfl,rfl⟩,?_⟩;rw[ct.look];cases hy:aD L (q0.name,0) with
  | none=>exact fin _ [] (by unfold inn;rw[sW,hy];rfl) (.inr ⟨rfl,rfl⟩)
  | some y=>exact fin _ y.2 (by unfold inn;rw[sW,hy];rfl) (.inl ⟨y.1,rfl,(ct.inn _ (aget_inQ hy)).2.2⟩)
theorem zft{ps:List (List Str)}{k:Nat}:(ps.take k).flatten.length<=ps.flatten.length:=by
 conv=>rhs;rw[<-Jh k ps,Kb,Ak]
 exact Nat.le_add_right _ _
theorem zfu{d:Nat}{ws:List W}{M:Mm}{R:K3}(h:sY (d+1) ws M R):zeF (sY d) (bP R) (bX NK ws) M:=by
 obtain⟨rs,x,X,ts,rfl,g,tr,hts,r⟩:=h;cases d with
 | zero=>exact tr.elim
 | succ d=>
  obtain⟨n,ru,kids,ps,rfl,hru,rfl,hkl,hpl,rfl,hk⟩:=tr;have hrf:=g.few;have hrm:=Bg hru;have hp4:=g.fp ru hrm;obtain⟨ru',h1,hat⟩:=sE (rs:=rs) (n:=n) (An.mp hru).1;cases (show some ru'=some ru from h1.symm.trans hru);have hn:=(An.mp hru).1;refine xI rfl (mM ⟨"tuple",true,rfl,by decide,xI rfl (xI rfl (cU (λh=>nomatch (show false=true from h)) λ_=>xI rfl (xI rfl (mM ⟨"tuple",true,rfl,by decide,?_⟩))))⟩);refine xI rfl (xI rfl (mM ⟨"int",true,rfl,by decide,xI rfl (xI rfl (mM ⟨"int",false,rfl,by decide,?_⟩))⟩));refine xI rfl (xI rfl (xI rfl (cU (λ_=>xI rfl (xI rfl (cU (λz=>?_) λz=>?_))) λz=>?_)))
  .have z:=of_decide_eq_false (show decide ((n:Int)<(rs.map gL).length)=false by rw[<-Lg (decide _),show(!decide ((n:Int)<(rs.map gL).length))=true from z];rfl);rw[Ab]at z;lia
  .refine MF rfl (by lia) rfl ⟨Ca _,λp hp=>xI rfl (xI rfl (xI rfl ⟨_,hat,rfl,rfl,xI rfl (xI rfl (xI rfl (xI rfl (cU (λh=>?_) λ_=>?_))))⟩))⟩
   .rw[show(!decide (((ru.parts.map W.str).length:Int)=(kids.length:Nat)))=false by rw[Ab,hkl,decide_eq_true rfl];rfl]at h;cases h
   refine xI rfl (xI rfl (xI rfl ?_));refine mG (ws:=i9 (ru.parts.map W.str) kids) (λk τ M'=>∃(p:Addr) (o7 o8 o9:Option W),τ=[some (dA rs),some (.tup [.int n,.tup kids]),some (wX rs),some (.ref p),some (.str ru.name),some (.tup (ru.parts.map W.str)),some (.int ru.cost),o7,o8,o9]/\M p=none/\M'=put M p (.lst ((ps.take k).flatten.map W.str))) ⟨p,_,_,xI rfl ⟨hp,rfl⟩⟩ ?_ ?_
   .rintro k y τ M' hy ⟨p,o7,o8,o9,rfl,hp,rfl⟩;obtain⟨t,kid,pc,ht,hkid,hpc,rfl⟩:∃t kid pc,ru.parts[k]? = some t/\kids[k]? = some kid/\ps[k]? = some pc/\y=.tup [.str t,kid]:=by
     have hk:=(An.mp hy).1;rw[mC,Ab,hkl,Nat.min_self]at hk;have e1:ru.parts[k]? = some ru.parts[k]:=Au hk;have e2:kids[k]? = some (kids[k]'(by rw[hkl];exact hk)):=Au (by rw[hkl];exact hk);rw[uZ (by rw[Ax,e1];rfl) e2]at hy;cases hy;exact⟨_,_,_,e1,e2,Au (by rw[hpl];exact hk),rfl⟩
    have f1:(ps.take (k+1)).flatten=(ps.take k).flatten++pc:=BA hpc;have fl1:=zft (ps:=ps) (k:=k+1);obtain⟨hw,hnm⟩:=hk k t pc ht hpc;have tt:(!decide (t=t))=false:=by rw[decide_eq_true rfl];rfl
    rw[f1,Ak]at fl1;rw[f1];refine⟨rfl,rfl,xI rfl (xI rfl ⟨rfl,J3 _,xI rfl ?_⟩)⟩;show if inW (.str t) ((rs.map a7.name).map W.str)=true then _ else _;rw[J2,ME];cases ho:fG rs t with
    | false=>
     obtain⟨a1,a2⟩:=hw ho;rw[hkid]at a1;cases a1;subst a2;refine sS (xI rfl (xI rfl (xI rfl (cU (λh=>absurd (tt.symm.trans h) Ar) λ_=>xI rfl ⟨eU aX,xI rfl ⟨_,aX,d8 (by rw[Ab];lia),_,Sub.refl _,p,_,_,xI rfl ⟨hp,?_⟩⟩⟩))));rw[fM,Bc];rfl
    | true=>
     obtain⟨w',a1,a2⟩:=hnm ho;rw[hkid]at a1;cases a1;refine J0 (xI rfl (xI rfl ⟨rs,kid,t,pc,rfl,g,a2,by lia,xI rfl (xI rfl (xI rfl ⟨_,fA (j:=0) rfl,xI rfl (xI rfl (cU (λh=>absurd (tt.symm.trans h) Ar) λ_=>?_))⟩))⟩));refine xI rfl (xI rfl ⟨_,fA (j:=1) rfl,_,aX,gJ (by rw[Ab,Ab];lia),λp' hp'=>?_⟩);have hpp:p'≠p:=λe=>by rw[e,aX]at hp';cases hp'
     rw[aU hpp]at hp';refine⟨put M p' (.lst (((ps.take k).flatten++pc).map W.str)),?_,p',_,_,xI rfl ⟨hp',rfl⟩⟩;rw[Bc];exact Sub.put (Sub.new hp)
   .rintro τ M' ⟨p,o7,o8,o9,rfl,hp,rfl⟩;rw[mC,Ab,hkl,Nat.min_self,<-hpl,Bw];refine xI rfl (xI rfl (.inl ⟨_,aX,z2,?_⟩));rw[jG hp];exact⟨_,Sub.refl _,r⟩
  .exact absurd (Int.natCast_nonneg n) (of_decide_eq_false z)
theorem zfv(n:Nat):∀ws M R,sY n ws M R->ws.length=2:=by
 cases n with
 | zero=>exact λ_ _ _ h=>h.elim
 | succ n=>rintro ws M R ⟨_,_,_,_,rfl,_⟩;rfl
theorem OF:∀{xs:List Int},(xs.map W.int).all fE=true
 | []=>rfl
 | _::xs=>OF (xs:=xs)
theorem zfw{xs:List W}{w:W}:cG (xs++[w]) (-1)=some w:=by
 have e:hZ (xs++[w]).length (-1)=some xs.length:=by
  unfold hZ;rw[if_neg (by decide),Ak,Bl,if_pos (by lia)];congr 1;lia
 unfold cG;rw[e];simp
theorem OG{arr:List dH}:∀{y:List SI} {b e:Int},Wk arr b y e->∃l:List Int,b::y.map Fm=l++[e]
 | [],b,e,h=>⟨[],by cases (show b=e from h);rfl⟩
 | x::y,b,e,h=>by
  obtain⟨l,hl⟩:=OG h.2;exact⟨b::l,by rw[Bb,hl];rfl⟩
theorem BU{arr:List dH}:∀{y:List SI} {b e:Int} {k:Nat} {x:SI},Wk arr b y e->y[k]? = some x->∃c,(b::y.map Fm)[k]? = some c/\(b::y.map Fm)[k+1]? = some x.2/\(c,x.1,x.2)∈arr
 | z::y,b,e,0,x,h,hx=>by cases (show some z=some x from hx);exact⟨b,rfl,rfl,h.1⟩
 | z::y,b,e,k+1,x,h,hx=>BU (k:=k) h.2 hx
theorem zfx{M:Mm}{x:W}{ws:List W}{R:K3}(n:Nat)(hn:n<=60)(px:Pl n x)(pw:∀w∈ws,Pl n w)(hx:x∈ws)(r:R (.bl false) M):vE true x (.rl ws) M R:=by
 obtain⟨dx,sx,cx,dd⟩:=uV (M:=M) px;have:∀{ws:List W},(∀w∈ws,Pl n w)->∃ds,iD M ws ds/\(∀d∈ds,n8 d)/\(x∈ws->(ds.any λd=>Gd d dx)=true):=λ{ws}=>by
  induction ws with
  | nil=>exact λ_=>⟨[],.nil,(λ_ h=>nomatch h),λh=>nomatch h⟩
  | cons w ws ih=>
   intro hw;obtain⟨ds,h1,h2,h3⟩:=ih λy hy=>hw y (Ap _ hy);obtain⟨d,sd,cd,d1⟩:=uV (M:=M) (hw w Aw);refine⟨d::ds,.cons sd h1,λy hy=>?_,λhm=>?_⟩
   .rcases Aj.mp hy with rfl|hy
    .exact⟨cd,Az d1 hn⟩
    .exact h2 y hy
   .rw[Er];rcases Aj.mp hm with e|hm
    .rw[(yY (hw w Aw) px sd sx).mpr e.symm];rfl
    .rw[h3 hm,Bool.or_true]
 obtain⟨ds,h1,h2,h3⟩:=this pw;refine⟨ws,dx,ds,.inl rfl,sx,h1,⟨cx,Az dd hn⟩,h2,?_⟩;rw[h3 hx];exact r
theorem zfy{ws:List W}{M:Mm}{R:K3}(h:NB ws M R):zeM (bP R) (bX zeG ws) M:=by
 obtain⟨mc,p,p2,y,e,rfl,q,mp,mp2,hl,he,wk,r⟩:=h;have hee:=q.fe;have e1:(W.int 0::y.map rW)=((0:Int)::y.map Fm).map W.int:=by rw[Bb,Bh];rfl
 rw[e1]at mp2;obtain⟨l,hll⟩:=OG wk;have el:cG (((0:Int)::y.map Fm).map W.int) (-1)=some (.int e):=by rw[hll,Bc];exact zfw
 refine xI rfl (mM (LL mp2 (xI rfl (.inl ⟨_,mp2,xI rfl (.inl ⟨_,mp,xI rfl ?_⟩)⟩))));show if (!decide (((((0:Int)::y.map Fm).map W.int).length:Int)=((y.map wW).length:Int)+1))=true then _ else _;rw[decide_eq_true (by simp)];refine sS (xI rfl (.inl ⟨_,_,mp2,fA (j:=0) rfl,xI rfl (xI rfl (.inl ⟨_,_,mp2,el,xI rfl ⟨_,rfl,rfl,OF,xI rfl ?_⟩⟩))⟩));show if (!inW (.int e) (mc.ends.map W.int))=true then _ else _;rw[zc5,decide_eq_true he];refine sS ?_;refine xI rfl (.inl ⟨_,mp,xI rfl ⟨by rw[Ab];lia,by rw[Ab];lia,?_⟩⟩);rw[Ab,Dg];refine iW (λi τ M'=>M'=M/\∃o,τ=[some (hV mc),some (.ref p),some (.ref p2),o]) ⟨rfl,_,rfl⟩ ?_ ?_
 .rintro i w τ M' hw ⟨rfl,o,rfl⟩ D hD;obtain⟨hi,rfl⟩:=qG hw;obtain⟨c,k1,k2,k3⟩:=BU wk (Au hi);rw[Kf];refine xI rfl (xI rfl (.inl ⟨_,_,mp2,LK k1,xI rfl (xI rfl (.inl ⟨_,_,mp,fA (by rw[Ax,Au hi];rfl),xI rfl (xI rfl (.inl ⟨_,_,mp2,LK (i:=i+1) k2,z3,xI rfl ⟨_,rfl,zfx 1 (by decide) ?_ ?_ ?_ (xI rfl (hD _ _ ⟨rfl,_,rfl⟩))⟩⟩))⟩))⟩))
  .intro w hw;rcases Aj.mp hw with rfl|hw
   .trivial
   .rcases Aj.mp hw with rfl|hw
    .exact nN (.inr (q.ar _ k3).2.2.1)
    .rw[Am.mp hw];trivial
  .intro w hw;obtain⟨z,hz,rfl⟩:=Ay.mp hw;intro w hw;rcases Aj.mp hw with rfl|hw
   .trivial
   .rcases Aj.mp hw with rfl|hw
    .exact nN (.inr (q.ar _ hz).2.2.1)
    .rw[Am.mp hw];trivial
  .exact Ay.mpr ⟨_,k3,rfl⟩
 .rintro τ M' ⟨rfl,o,rfl⟩;refine xI rfl ⟨_,mp2,uY (rest:=[]) (λ_=>none) (gJ (by simp;lia)) (λ_ sb=>sb _ _ mp2) (λx hx M3 C D sb d1 d2=>?_) (bH.frz ?_)⟩
  .obtain⟨z,_,rfl⟩:=Ay.mp hx;exact xI rfl (mM ⟨"int",false,rfl,by decide,d2 rfl⟩)
  .rw[List.filterMap_eq_nil_iff.mpr λ_ _=>rfl];exact⟨Ca _,L4 false 1 (by decide) rfl (λ_ h=>nomatch h) ⟨_,Sub.refl _,r⟩⟩
theorem zfz{rs:List a7}(g:GQ rs):Pl 3 (dA rs):=λx hx=>by
 obtain⟨q,hq,rfl⟩:=Ay.mp hx;intro y hy;rcases Aj.mp hy with rfl|hy
 .exact nN (.inl (g.nm q hq))
 rcases Aj.mp hy with rfl|hy
 .intro z hz;obtain⟨t,ht,rfl⟩:=Ay.mp hz;exact nN (g.sp q hq t ht)
 .rw[Am.mp hy];trivial
theorem zfA{mc:Mc}(q:MQ mc):Pl 3 (hV mc):=λx hx=>by
 rcases Aj.mp hx with rfl|hx
 .trivial
 rcases Aj.mp hx with rfl|hx
 .intro y hy;obtain⟨a,ha,rfl⟩:=Ay.mp hy;intro z hz;rcases Aj.mp hz with rfl|hz
  .trivial
  rcases Aj.mp hz with rfl|hz
  .exact nN (.inr (q.ar a ha).2.2.1)
  .rw[Am.mp hz];trivial
 .rw[Am.mp hx];intro y hy;obtain⟨e,_,rfl⟩:=Ay.mp hy;trivial
theorem zfB{M:Mm}{X:Str}{ts:List Str}{p:Addr}{R:K3}(hX:mB X)(ht:∀t∈ts,mB t)(mp:M p=some (.lst (ts.map W.str)))(r:R (.bl false) M):rEq true (.tup [.str X,.rl (ts.map W.str)]) (.tup [.str X,.ref p]) M R:=by
 have pl:Pl 2 (.tup [.str X,.rl (ts.map W.str)]):=λw hw=>by
  rcases Aj.mp hw with rfl|hw
  .exact hX
  .rw[Am.mp hw];exact zcI ht
 obtain⟨d,sd,cd,dd⟩:=uV (M:=M) pl;have fl:n8 d:=⟨cd,Az dd (by decide)⟩;have sd2:Snap M (.tup [.str X,.ref p]) d:=by
  cases sd with
  | tup h=>
   cases h with
   | cons h1 h2=>
    cases h2 with
    | cons h2 h3=>
     cases h2 with
     | rl h2=>exact .tup (.cons h1 (.cons (.ref mp h2) h3))
 refine⟨d,d,sd,sd2,fl,fl,?_⟩;rw[(yY pl pl sd sd).mpr rfl];exact r
theorem BV{q:a7}{mc:Mc}{B:bN}{f:a9}:f∈kH q mc B↔(∃x,aD B f=some x)/\∃e∈mc.ends,f=(q.name,0,e):=by
 unfold kH;rw[Ej,decide_eq_true_eq,<-fL,Cj,Ay];exact and_congr_right λ_=>⟨λ⟨e,h1,h2⟩=>⟨e,h1,h2.symm⟩,λ⟨e,h1,h2⟩=>⟨e,h1,h2.symm⟩⟩
theorem OH{q:a7}{mc:Mc}{B:bN}{o:Option Int}(ho:A7 (λv=>∃e∈mc.ends,∃x,aD B (q.name,(0:Int),e)=some x/\x.1.1=v) o):
  (kH q mc B=[]->o=none)/\∀aQ x,aQ∈kH q mc B->aD B aQ=some x->(∀f∈kH q mc B,∀y,aD B f=some y->x.1.1<=y.1.1)->o=some x.1.1/\∃e∈mc.ends,aQ=(q.name,0,e):=by
 refine⟨λhn=>?_,λaQ x ht hx hm=>?_⟩
 .cases o with
  | none=>rfl
  | some v=>
   obtain⟨⟨e,h1,x,h2,_⟩,_⟩:=ho;have:(q.name,0,e)∈kH q mc B:=BV.mpr ⟨⟨x,h2⟩,e,h1,rfl⟩;rw[hn]at this;cases this
 .obtain⟨_,e,h1,rfl⟩:=BV.mp ht;refine⟨?_,e,h1,rfl⟩;cases o with
  | none=>exact absurd ⟨e,h1,x,hx,rfl⟩ (ho x.1.1)
  | some v=>
   obtain⟨⟨e',h2,y,h3,rfl⟩,h4⟩:=ho;have a:=h4 x.1.1 ⟨e,h1,x,hx,rfl⟩;have b:=hm _ (BV.mpr ⟨⟨y,h3⟩,e',h2,rfl⟩) y h3;rw[Int.le_antisymm a b]
theorem zfC{C:Cc}{ws:List W}{M:Mm}{R:K3}(h:zdn C ws M R):zeT C (bP R) (bX zeN ws) M:=by
 obtain⟨zs,rfl,hz,mt,r⟩:=h;refine xI rfl ⟨zs,rfl,λd n M1 dk sb1 hd hn=>xI rfl ⟨d,n,rfl,dk,λrs a M2 g ma na dk2 o2=>.inl ⟨_,ma,?_⟩⟩⟩;obtain⟨ad,an⟩:=dk.ne na;have td:C.t≠d:=λe=>by rw[e,hd]at mt;cases mt
 have tn:C.t≠n:=λe=>by rw[e,hn]at mt;cases mt
 have ta:C.t≠a:=λe=>by have:=sb1 _ _ mt;rw[e,na]at this;cases this
 have mt2:del M2 a C.t=some (.tb nT oY):=by rw[kO ta];exact o2 _ _ td tn (sb1 _ _ mt)
 refine xI rfl ⟨d,n,rfl,dk2.del ad an,λmc M3 qm o3=>?_⟩;have mt3:=o3 _ _ td tn mt2;obtain⟨q,rs,rfl⟩:∃q rs',rs=q::rs':=by
  cases rs with
  | nil=>exact(g.ne rfl).elim
  | cons q rs=>exact⟨_,_,rfl⟩
 have e0:cG ((q::rs).map gL) 0=some (gL q):=fA (j:=0) rfl;have same:∀{M:Mm} {R:K3},R (.bl false) M->rEq true (.rl [dA (q::rs),hV mc]) (.rl [dA (q::rs),hV mc]) M R:=λh=>XX (neg:=true) 4 (by decide) (λw1 hw=>by
  rcases Aj.mp hw with rfl|hw
  .exact zfz g
  .rw[Am.mp hw];exact zfA qm) rfl h
 refine xI rfl (xI rfl ⟨q,rs,mc,rfl,g,qm,λo ho=>?_⟩);have go:∀(hsm:∀v,o=some v->v<=200),(aT (NL C) (aT (NM C) (aT (NN C) (aT (NO C) (aT (NP C) (aT (NQ C) (aT (NR C) (aT (NS C) (aT (NT C) (aT (NU C) (aT (NV C) (NW C)))))))))))) (bP R) [some (.sc (zs.map W.int)),some (.ref d),some (dA (q::rs)),some (hV mc),some (BB o),none,none,none] M3:=λhsm=>by
  refine xI rfl (xI rfl ⟨_,rfl,xI rfl ⟨_,rfl,xI rfl ⟨_,rfl,z3,z2,?_⟩⟩⟩);refine xI rfl ⟨_,rfl,xI rfl ⟨_,rfl,q,rs,mc,rfl,g,qm,mt3,λks B hk hB=>?_⟩⟩;obtain⟨du1,du2⟩:=OH (ho ks B hk hB);refine⟨λhn=>?_,λaQ x htop hx hmin=>?_⟩
  .cases du1 hn;exact xI rfl (xI rfl (xI rfl ⟨z2,same (xI rfl (xI rfl (xI rfl (xI rfl ⟨_,Sub.refl _,r _ mt3⟩))))⟩))
  .obtain⟨eo,e,hee,rfl⟩:=du2 aQ x htop hx hmin;subst eo;have hs:=hsm _ rfl;obtain⟨wl,wk⟩:=A5 hk hB hx;have tr:=zcD g qm hk hB hx;obtain⟨y,hy⟩:∃y,y=yT (cB (q::rs) mc ks) B (q.name,0,e):=⟨_,rfl⟩;rw[<-hy]at wl wk tr⊢;refine⟨hs,λp p2 M4 np np2 npp sb mp mp2=>?_⟩;have len0:((y.map wW).length:Int)=x.1.1:=by rw[Ab];exact wl
   have ylen:y.length<=5000:=by lia
   have wd:∀t∈y.map Dr,mB t:=λt ht=>by
    obtain⟨z,hz,rfl⟩:=Ay.mp ht;obtain⟨i,hi⟩:=List.getElem?_of_mem hz;obtain⟨c,_,_,k3⟩:=BU wk hi;exact nN (.inr (qm.ar _ k3).2.2.1)
   have mpt:M4 p=some (.lst ((y.map Dr).map W.str)):=by rw[mp,Bh];rfl
   refine xI rfl (xI rfl (xI rfl ⟨z2,same (xI rfl ?_)⟩));refine xI rfl (xI rfl ?_);refine xI rfl (mM ⟨"tuple",true,rfl,by decide,xI rfl (xI rfl (cU (λh=>nomatch (show false=true from h)) λ_=>?_))⟩);refine xI rfl (xI rfl (mM (LL mp (xI rfl (xI rfl (.inl ⟨_,mp,xI rfl (xI rfl ?_)⟩))))));show if (!decide (((y.map wW).length:Int)=x.1.1))=true then _ else _;rw[decide_eq_true len0];refine sS ?_;refine xI rfl (xI rfl (xI rfl ⟨q::rs,_,q.name,y.map Dr,rfl,g,tr,by rw[Ab];exact ylen,xI rfl ⟨_,e0,?_⟩⟩));refine xI rfl (xI rfl (xI rfl ⟨z2,zfB (nN (.inl (g.nm q (Aw ..)))) wd mpt (xI rfl ?_)⟩));have lw:(y.map wW).length<Ao:=d8 (by rw[Ab];exact Ft ylen (by decide));have lr:(W.int 0::y.map rW).length<Ao:=d8 (by rw[Br,Ab];exact Ft (Nat.succ_le_succ ylen) (by decide));refine xI rfl (xI rfl (xI rfl (xI rfl (xI rfl ⟨mc,p,p2,y,e,rfl,qm,mp,mp2,ylen,hee,wk,?_⟩))));refine xI rfl (xI rfl ⟨eU mp,_,mp,lw,?_⟩);have mq:put M4 p (.lst (y.map wW++[.str "a"])) p2=some (.lst (.int 0::y.map rW)):=by rw[aU npp.symm];exact mp2
   refine xI rfl (xI rfl ⟨eU mq,_,mq,lr,?_⟩);have tp:C.t≠p:=λe=>by rw[e,np]at mt3;cases mt3
   have tp2:C.t≠p2:=λe=>by rw[e,np2]at mt3;cases mt3
   have mt5:put (put M4 p (.lst (y.map wW++[.str "a"]))) p2 (.lst (.int 0::y.map rW++[.int 0])) C.t=some (.tb nT oY):=by rw[aU tp2,aU tp];exact sb _ _ mt3
   refine xI rfl (xI rfl ⟨q,rs,mc,rfl,g,qm,mt5,λks2 B2 hk2 hB2=>?_⟩);obtain⟨dv1,dv2⟩:=OH (ho ks2 B2 hk2 hB2);refine⟨λhn=>(nomatch dv1 hn),λtop2 x2 htop2 hx2 hmin2=>?_⟩;obtain⟨eo2,e2,_,rfl⟩:=dv2 top2 x2 htop2 hx2 hmin2;have ex:x.1.1=x2.1.1:=Bx eo2;obtain⟨wl2,_⟩:=A5 hk2 hB2 hx2;obtain⟨y2,hy2⟩:∃y2,y2=yT (cB (q::rs) mc ks2) B2 (q.name,0,e2):=⟨_,rfl⟩;rw[<-hy2]at wl2⊢;refine⟨by rw[<-ex];exact hs,λp3 p4 M6 _ _ _ sb6 mp3 mp4=>?_⟩;refine xI rfl (mM ⟨"tuple",true,rfl,by decide,xI rfl ?_⟩);refine xI rfl (xI rfl (.inl ⟨_,mp3,xI rfl (xI rfl ?_)⟩));refine cU (λ_=>?_) λz=>absurd (of_decide_eq_false z) (λh=>h (by rw[Ab];lia));refine xI rfl (xI rfl (.inl ⟨_,mp4,xI rfl ?_⟩));show(bP R).rt (W.bl (decide (((W.int 0::y2.map rW).length:Int)=x.1.1+1))) M6;rw[decide_eq_true (by rw[Br,Ab];lia)];exact⟨_,Sub.refl _,r _ (sb6 _ _ mt5)⟩
 cases o with
 | none=>exact xI rfl (xI rfl (go λ_ h=>nomatch h))
 | some v=>exact xI rfl (xI rfl (xI rfl (xI rfl (cU (λ_=>⟨_,Sub.refl _,r _ mt3⟩) λz=>go λu hu=>by cases hu;exact Int.not_lt.mp (of_decide_eq_false z)))))
structure Tx(mg:Str->Option Ae):Prop where
 abs_:mg "abs" = none
 bool_:mg "bool" = none
 dict_:mg "dict" = none
 enumerate_:mg "enumerate" = none
 int_:mg "int" = none
 isinstance_:mg "isinstance" = none
 len_:mg "len" = none
 list_:mg "list" = none
 min_:mg "min" = none
 range_:mg "range" = none
 tuple_:mg "tuple" = none
 zip_:mg "zip" = none
structure Kc(K:Ac)(mg:Str->Option Ae)(C:Cc):Prop where
 cls_Queue:gZ K C.q
 at__Queue:mg "Queue" = some (.ref C.q)
 cls_Search:gZ K C.s
 at__Search:mg "Search" = some (.ref C.s)
 na_costs:gD K C.q "costs"
 na_waiting:gD K C.q "waiting"
 na_grammar:gD K C.s "grammar"
 na_own:gD K C.s "own"
 na_steps:gD K C.s "steps"
 na_queue:gD K C.s "queue"
 na_reached:gD K C.s "reached"
 na_best:gD K C.s "best"
 na_ends:gD K C.s "ends"
 na_begun:gD K C.s "begun"
structure Al(K:Ac)(mg:Str->Option Ae)(C:Cc)(fa:Nat->Addr)(fb:Nat->Bk):Prop extends Tx mg,Kc K mg C where
 x0:Df K mg "names" BZ ["grammar"] (fa 0) (fb 0)
 x1:Df K mg "first_name" B0 ["grammar"] (fa 1) (fb 1)
 x2:Df K mg "marks" B1 ["things"] (fa 2) (fb 2)
 x3:Df K mg "part_facts" B3 ["own","parts","cut"] (fa 3) (fb 3)
 x4:Di K C.q "__init__" "Queue.__init__" B4 ["self"] (fa 4) (fb 4)
 x5:Dm K C.q "is_done" "Queue.is_done" B5 ["self"] (fa 5) (fb 5)
 x6:Dm K C.q "place_of" "Queue.place_of" B7 ["self","cost"] (fa 6) (fb 6)
 x7:Dm K C.q "put" "Queue.put" B6 ["self","cost","thing"] (fa 7) (fb 7)
 x8:Dm K C.q "take" "Queue.take" B8 ["self"] (fa 8) (fb 8)
 x9:Df K mg "added" B9 ["cost","other"] (fa 9) (fb 9)
 x10:Di K C.s "__init__" "Search.__init__" CA ["self","grammar","steps"] (fa 10) (fb 10)
 x11:Dm K C.s "reach" "Search.reach" CB ["self","number","cut","cost"] (fa 11) (fb 11)
 x12:Dm K C.s "settle" "Search.settle" CF ["self","number","cut","cost"] (fa 12) (fb 12)
 x13:Dm K C.s "step_by_name" "Search.step_by_name" CD ["self","number","cut","cost","key"] (fa 13) (fb 13)
 x14:Dm K C.s "take_next" "Search.take_next" CC ["self"] (fa 14) (fb 14)
 x15:Df K mg "least_trees" CG ["grammar","places","steps","weights"] (fa 15) (fb 15)
 x16:Df K mg "facts_within" CH ["grammar","best","top"] (fa 16) (fb 16)
 x17:Df K mg "one_behind_another" CM ["lists"] (fa 17) (fb 17)
 x18:Df K mg "joined" CN ["number","lists"] (fa 18) (fb 18)
 x19:Df K mg "knot_of" CK ["number","children"] (fa 19) (fb 19)
 x20:Df K mg "listed" CP ["word","begin","end"] (fa 20) (fb 20)
 x21:Df K mg "room_reached" CV ["word","begin","end"] (fa 21) (fb 21)
 x22:Df K mg "same_word" CJ ["word","begin","end"] (fa 22) (fb 22)
 x23:Df K mg "made_of_best" CI ["grammar","best","top","of_word","of_rule"] (fa 23) (fb 23)
 x24:Df K mg "best_tree" CL ["grammar","best","top"] (fa 24) (fb 24)
 x25:Df K mg "no_weights" CO ["grammar"] (fa 25) (fb 25)
 x26:Df K mg "rooms_of" CQ ["machine"] (fa 26) (fb 26)
 x27:Df K mg "arrow_steps" CS ["machine"] (fa 27) (fb 27)
 x28:Df K mg "machine_trees" CT ["grammar","machine"] (fa 28) (fb 28)
 x29:Df K mg "common_facts" CU ["grammar","machine","told"] (fa 29) (fb 29)
 x30:Df K mg "both_let" CW ["grammar","machine"] (fa 30) (fb 30)
 x31:Df K mg "_law_numbers" CY ["script"] (fa 31) (fb 31)
 x32:Df K mg "_law_take" CZ ["deck","many"] (fa 32) (fb 32)
 x33:Df K mg "_law_rules" C0 ["deck"] (fa 33) (fb 33)
 x34:Df K mg "_law_machine" C1 ["deck"] (fa 34) (fb 34)
 x35:Df K mg "_law_through" C2 ["arrows","known","heads","parts","room"] (fa 35) (fb 35)
 x36:Df K mg "_law_fewest" C3 ["rules","machine"] (fa 36) (fb 36)
 x37:Df K mg "_law_walked" C4 ["rules","tree"] (fa 37) (fb 37)
 x38:Df K mg "_law_walks" C5 ["machine","row","walk"] (fa 38) (fb 38)
 x39:Df K mg "law" C6 ["script"] (fa 39) (fb 39)
 f_listed:C.f=fa 20
 f_z_joined:C.g=fa 18
 f_room_reached:C.p=fa 21
 f_same_word:C.h=fa 22
 f_z_knot_of:C.i=fa 19
 hc:(fb 30).code=.ref C.c
 bm:BMod K mg
 hd:Kr K C.c C.t=true
section
variable {P:Bt}{w:Cm}{K:Ac}{mg:Str->Option Ae}{base:Heap}{C:Cc}{fa:Nat->Addr}{fb:Nat->Bk}(Y:Al K mg C fa fb)
seal L2.PE L2.PA L2.PS L2.gC L2.PT L2.PG L2.PI L2.PO
def BW:=cP P w mg base 0 Y.x0.fn Y.x0.bi cJ zaB λhr hu nd=>(aW (bJ (i:=1) nd pQ)
   (aW (eY Bp rfl (iH (v 0)) (cN (i:=2) nd)
    (aZ (jN gQ (w_sub hu (v 1) (aV hu (v 2) aS)))))
   (aZ (b8 (m9 (HD rfl) (by rfl) Y.list_ pW (aC (v 1) aH))))))
def zfD:=cP P w mg base 0 Y.x1.fn Y.x1.bi cJ zaC λhr hu nd=>(aZ (b8 (aV hu (aV hu (v 0) aS) aS)))
def BX:=cP P w mg base 0 Y.x2.fn Y.x2.bi cJ zbo λhr hu nd=>(aZ (b8 (m9 (ZG rfl) (by rfl) Y.dict_ HX (aC (fY (k7 ["thing"] [none] (iH (v 0)) (λB=>(i0 (i:=0))) (λB=>nG) (λB=>(cV (aC (v 0) (aC gQ aH)))))) aH))))
def OI:=cP P w mg base 0 Y.x2.fn Y.x2.bi cJ zeU λhr hu nd=>(aZ (b8 (m9 (zbK rfl (ZU hr)) (by rfl) Y.dict_ HX (aC (fY (k7 ["thing"] [none] (iH (v 0)) (λB=>(i0 (i:=0))) (λB=>nG) (λB=>(cV (aC (v 0) (aC gQ aH)))))) aH))))
def zfE:=cP P w mg base 0 Y.x3.fn Y.x3.bi cJ zcw λhr hu nd=>(aZ (b8 (k7 ["k","part","own","cut"] [none,none,some 0,some 2] (LP (by rfl) Y.enumerate_ (aC (v 1) aH)) (λB=>(kZ rfl (eZ (i0 (i:=0)) (eZ (i0 (i:=1)) kY)))) (λB=>(rM (cI (lY hu) (v 1) (v 2)))) (λB=>(cV (aC (v 1) (aC (aV hu (v 3) (v 0)) (aC (aV hu (v 3) (cF eE (v 0) aS)) aH))))))))
def zfF:=cP P w mg base 0 Y.x4.fn Y.x4.bi cJ zap λhr hu nd=>(aW (lA Y.cls_Queue Y.na_costs (v 0) (iR aH))
   (aZ (lA Y.cls_Queue Y.na_waiting (v 0) nB)))
def zfG:=cP P w mg base 0 Y.x5.fn Y.x5.bi cJ zao λhr hu nd=>(aZ (b8 (sL (lX hr.units) (cX eS (by rfl) Y.len_ eT (aC (d9 Y.cls_Queue Y.na_costs (v 0)) aH)) aS)))
def zfH:=cP P w mg base 0 Y.x6.fn Y.x6.bi cJ zaq λhr hu nd=>(aW (bJ (i:=2) nd aS)
   (aW (bJ (i:=3) nd (cX eS (by rfl) Y.len_ eT (aC (d9 Y.cls_Queue Y.na_costs (v 0)) aH)))
   (aW (uQ Bp (cI uH (v 2) (v 3))
    (aW (bJ (i:=4) nd (cF GW (cF eE (v 2) (v 3)) aS))
   (aZ (dP (cI (ZX hu) (aV hu (d9 Y.cls_Queue Y.na_costs (v 0)) (v 4)) (v 1))
    (aZ (bJ (i:=2) nd (cF eE (v 4) aS)))
    (aZ (bJ (i:=3) nd (v 4)))))))
   (aZ (b8 (v 2))))))
def zfI:=cP P w mg base 1 Y.x7.fn Y.x7.bi cJ zar λhr hu nd=>(aW (dP (cI (rH hu) (v 1) (d9 Y.cls_Queue Y.na_waiting (v 0)))
    (aW (jN (iR aH) (w_sub hu (d9 Y.cls_Queue Y.na_waiting (v 0)) (v 1)))
   (aZ (eQ (eN Bv F.slot_list_insert F.type_list_insert ZY (d9 Y.cls_Queue Y.na_costs (v 0)) (aC (nH Y.cls_Queue Y.x6.me (zfH Y) (hr.mono (by decide)) Y.x6.bi (v 0) (aC (v 1) aH)) (aC (v 1) aH))))))
    eX)
   (aZ (eQ (eN Bv Cp Cu iS (aV hu (d9 Y.cls_Queue Y.na_waiting (v 0)) (v 1)) (aC (v 2) aH)))))
def zfJ:=cP P w mg base 0 Y.x8.fn Y.x8.bi cJ zas λhr hu nd=>(aW (bJ (i:=1) nd (aV hu (d9 Y.cls_Queue Y.na_costs (v 0)) (lS lW aS)))
   (aW (bJ (i:=2) nd (aV hu (d9 Y.cls_Queue Y.na_waiting (v 0)) (v 1)))
   (aW (bJ (i:=3) nd (rA Bv Kg Ly uP (v 2)))
   (aW (dP (cI (lX hr.units) (cX eS (by rfl) Y.len_ eT (aC (v 2) aH)) aS)
    (aW (eQ (rA Bv Kg Ly uP (d9 Y.cls_Queue Y.na_costs (v 0))))
   (aZ (eQ (eN Ee F.slot_dict_pop F.type_dict_pop (ZR hu) (d9 Y.cls_Queue Y.na_waiting (v 0)) (aC (v 1) aH)))))
    eX)
   (aZ (b8 (cV (aC (v 1) (aC (v 3) aH)))))))))
def OJ:=cP P w mg base 0 Y.x9.fn Y.x9.bi cJ zbp λhr hu nd=>(aZ (b8 (cV (aC (cF eE (aV hu (v 0) aS) (aV hu (v 1) aS)) (aC (cF eE (aV hu (v 0) aS) (aV hu (v 1) aS)) aH)))))
def zfK:=cP P w mg base 2 Y.x10.fn Y.x10.bi cJ zbx λhr hu nd=>(aW (lA Y.cls_Search Y.na_grammar (v 0) (v 1))
   (aW (lA Y.cls_Search Y.na_own (v 0) (bY (BX Y) Y.x2 hr (aC (fY (bY (BW Y) Y.x0 hr (aC (v 1) aH))) aH)))
   (aW (lA Y.cls_Search Y.na_steps (v 0) (v 2))
   (aW (lA Y.cls_Search Y.na_queue (v 0) (ZL Y.x4.mak (zfF Y) (hr.mono (by decide)) (by rfl) Y.at__Queue Y.x4.bi))
   (aW (lA Y.cls_Search Y.na_reached (v 0) nB)
   (aW (lA Y.cls_Search Y.na_best (v 0) nB)
   (aW (lA Y.cls_Search Y.na_ends (v 0) nB)
   (aZ (lA Y.cls_Search Y.na_begun (v 0) nB)))))))))
def xA:=cP P w mg base 2 Y.x11.fn Y.x11.bi cJ zbr λhr hu nd=>(aW (bJ (i:=4) nd (cV (aC (v 1) (aC (cX eS (by rfl) Y.len_ eT (aC (v 2) aH)) (aC (aV hu (v 2) aS) (aC (aV hu (v 2) (lS lW aS)) aH))))))
   (aZ (dP (PW.pt (j5 (cI (rH hu) (v 4) (d9 Y.cls_Search Y.na_reached (v 0))) (lT (cI (JI hu) (v 3) (aV hu (d9 Y.cls_Search Y.na_reached (v 0)) (v 4))))))
    (aW (jN (v 3) (w_sub hu (d9 Y.cls_Search Y.na_reached (v 0)) (v 4)))
   (aZ (eQ (nH Y.cls_Queue Y.x7.me (zfI Y) (hr.mono (by decide)) Y.x7.bi (d9 Y.cls_Search Y.na_queue (v 0)) (aC (v 3) (aC (cV (aC (v 1) (aC (v 2) aH))) aH))))))
    eX)))
def zfL:=cP P w mg base 3 Y.x12.fn Y.x12.bi cJ zbu λhr hu nd=>(aW (bJ (i:=4) nd (cV (aC (aV hu (aV hu (d9 Y.cls_Search Y.na_grammar (v 0)) (v 1)) aS) (aC (aV hu (v 2) aS) aH))))
   (aW (bJ (i:=5) nd (cF eE (v 4) (cV (aC (aV hu (v 2) (lS lW aS)) aH))))
   (aW (dP (cI (lY hu) (v 5) (d9 Y.cls_Search Y.na_best (v 0)))
    (aZ HI)
    eX)
   (aW (jN (cV (aC (v 3) (aC (v 1) (aC (v 2) aH)))) (w_sub hu (d9 Y.cls_Search Y.na_best (v 0)) (v 5)))
   (aW (eQ (eN Bv Cp Cu iS (eN Ee Jj Ji (vG hu) (d9 Y.cls_Search Y.na_ends (v 0)) (aC (v 4) (aC (iR aH) aH))) (aC (cV (aC (aV hu (v 2) (lS lW aS)) (aC (v 3) aH))) aH)))
   (aZ (eY Bp rfl (rK (eN Ee Iy Iw (p7 hu) (d9 Y.cls_Search Y.na_begun (v 0)) (aC (v 4) (aC (gT aH) aH)))) (kZ rfl (eZ (cN (i:=6) nd) (eZ (cN (i:=7) nd) (eZ (cN (i:=8) nd) kY))))
    (aZ (eQ (nH Y.cls_Search Y.x11.me (xA Y) (hr.mono (by decide)) Y.x11.bi (v 0) (aC (v 6) (aC (cF eE (v 7) (cV (aC (aV hu (v 2) (lS lW aS)) aH))) (aC (bY (OJ Y) Y.x9 hr (aC (v 8) (aC (v 3) aH))) aH)))))))))))))
def zfM:=cP P w mg base 3 Y.x13.fn Y.x13.bi cJ zbs λhr hu nd=>(aW (eQ (eN Bv Cp Cu iS (eN Ee Jj Ji (vG hu) (d9 Y.cls_Search Y.na_begun (v 0)) (aC (v 4) (aC (iR aH) aH))) (aC (cV (aC (v 1) (aC (v 2) (aC (v 3) aH)))) aH)))
   (aZ (eY Bp rfl (rK (eN Ee Iy Iw (p7 hu) (d9 Y.cls_Search Y.na_ends (v 0)) (aC (v 4) (aC (gT aH) aH)))) (kZ rfl (eZ (cN (i:=5) nd) (eZ (cN (i:=6) nd) kY)))
    (aZ (eQ (nH Y.cls_Search Y.x11.me (xA Y) (hr.mono (by decide)) Y.x11.bi (v 0) (aC (v 1) (aC (cF eE (v 2) (cV (aC (v 5) aH))) (aC (bY (OJ Y) Y.x9 hr (aC (v 3) (aC (v 6) aH))) aH)))))))))
def zfN:=cP P w mg base 4 Y.x14.fn Y.x14.bi cJ zbv λhr hu nd=>(aW (bJ (i:=1) nd (zK Y.cls_Queue Y.x8.me (zfJ Y) (hr.mono (by decide)) Y.x8.bi (d9 Y.cls_Search Y.na_queue (v 0))))
   (aW (bJ (i:=2) nd (aV hu (v 1) aS))
   (aW (bJ (i:=3) nd (aV hu (aV hu (v 1) aS) aS))
   (aW (bJ (i:=4) nd (aV hu (aV hu (v 1) aS) aS))
   (aW (dP (cI (JI hu) (aV hu (d9 Y.cls_Search Y.na_reached (v 0)) (cV (aC (v 3) (aC (cX eS (by rfl) Y.len_ eT (aC (v 4) aH)) (aC (aV hu (v 4) aS) (aC (aV hu (v 4) (lS lW aS)) aH)))))) (v 2))
    (aZ HI)
    eX)
   (aW (bJ (i:=5) nd (aV hu (aV hu (d9 Y.cls_Search Y.na_grammar (v 0)) (v 3)) aS))
   (aZ (dP (cI G0 (cX eS (by rfl) Y.len_ eT (aC (v 4) aH)) (cX eS (by rfl) Y.len_ eT (aC (v 5) aH)))
    (aZ (eQ (nH Y.cls_Search Y.x12.me (zfL Y) (hr.mono (by decide)) Y.x12.bi (v 0) (aC (v 3) (aC (v 4) (aC (v 2) aH))))))
    (aZ (dP (cI (lY hu) (aV hu (v 5) (cF uF (cX eS (by rfl) Y.len_ eT (aC (v 4) aH)) aS)) (d9 Y.cls_Search Y.na_own (v 0)))
    (aZ (eQ (nH Y.cls_Search Y.x13.me (zfM Y) (hr.mono (by decide)) Y.x13.bi (v 0) (aC (v 3) (aC (v 4) (aC (v 2) (aC (cV (aC (aV hu (v 5) (cF uF (cX eS (by rfl) Y.len_ eT (aC (v 4) aH)) aS)) (aC (aV hu (v 4) (lS lW aS)) aH))) aH)))))))
    (aZ (eY Bp rfl (rK (eN Ee Iy Iw (p7 hu) (d9 Y.cls_Search Y.na_steps (v 0)) (aC (cV (aC (aV hu (v 5) (cF uF (cX eS (by rfl) Y.len_ eT (aC (v 4) aH)) aS)) (aC (aV hu (v 4) (lS lW aS)) aH))) (aC (gT aH) aH)))) (kZ rfl (eZ (cN (i:=6) nd) (eZ (cN (i:=7) nd) kY)))
    (aZ (eQ (nH Y.cls_Search Y.x11.me (xA Y) (hr.mono (by decide)) Y.x11.bi (v 0) (aC (v 3) (aC (cF eE (v 4) (cV (aC (v 6) aH))) (aC (cV (aC (cF eE (aV hu (v 2) aS) (v 7)) (aC (aV hu (v 2) aS) aH))) aH))))))))))))))))))
def zfO:=cP P w mg base 5 Y.x15.fn Y.x15.bi cJ zbD λhr hu nd=>(aW (bJ (i:=4) nd (ZK Y.x10.mak (zfK Y) (hr.mono (by decide)) (by rfl) Y.at__Search Y.x10.bi (aC (v 0) (aC (v 2) aH))))
   (aW (eY Bp rfl (nF (by rfl) Y.range_ (aC (cX eS (by rfl) Y.len_ eT (aC (v 0) aH)) aH)) (cN (i:=5) nd)
    (aZ (eY Bp rfl (iH (v 1)) (cN (i:=6) nd)
    (aZ (eQ (nH Y.cls_Search Y.x11.me (xA Y) (hr.mono (by decide)) Y.x11.bi (v 4) (aC (v 5) (aC (cV (aC (v 6) aH)) (aC (cV (aC (aV hu (v 3) (v 5)) (aC aS aH))) aH)))))))))
   (aW (uQ Bp (lU (jI (zK Y.cls_Queue Y.x5.me (zfG Y) (hr.mono (by decide)) Y.x5.bi (d9 Y.cls_Search Y.na_queue (v 4)))))
    (aZ (eQ (zK Y.cls_Search Y.x14.me (zfN Y) (hr.mono (by decide)) Y.x14.bi (v 4)))))
   (aZ (b8 (d9 Y.cls_Search Y.na_best (v 4)))))))
def zfP:=cP P w mg base 1 Y.x16.fn Y.x16.bi cJ zcy λhr hu nd=>(aW (bJ (i:=3) nd (bY (BX Y) Y.x2 hr (aC (fY (bY (BW Y) Y.x0 hr (aC (v 0) aH))) aH)))
   (aW (bJ (i:=4) nd (zcd hu (v 2) gQ))
   (aW (bJ (i:=5) nd (iR (aC (v 2) aH)))
   (aW (uQ Bp (jI (v 5))
    (aW (bJ (i:=6) nd (aV hu (v 1) (rA Bv Kg Ly uP (v 5))))
   (aZ (eY Bp rfl (iH (fY (bY (zfE Y) Y.x3 hr (aC (v 3) (aC (aV hu (aV hu (v 0) (aV hu (v 6) aS)) aS) (aC (aV hu (v 6) aS) aH)))))) (cN (i:=7) nd)
    (aZ (dP (cI (rH hu) (v 7) (v 4))
    (aW (jN gQ (w_sub hu (v 4) (v 7)))
   (aZ (eQ (eN Bv Cp Cu iS (v 5) (aC (v 7) aH)))))
    eX))))))
   (aZ (b8 (k7 ["fact","found"] [none,some 4] (qB (v 1)) (λB=>(i0 (i:=0))) (λB=>(rM (cI (lY hu) (v 0) (v 1)))) (λB=>(v 0)))))))))
def zfQ:=cP P w mg base 0 Y.x17.fn Y.x17.bi cJ zeX λhr hu nd=>(aW (bJ (i:=1) nd (iR aH))
   (aW (eY Bp rfl (iH (v 0)) (cN (i:=2) nd)
    (aZ (eQ (eN Bv F.slot_list_extend F.type_list_extend W7 (v 1) (aC (v 2) aH)))))
   (aZ (b8 (v 1)))))
def zfR:=cP P w mg base 1 Y.x18.fn Y.x18.bi cJ zeY λhr hu nd=>(aZ (b8 (bY (zfQ Y) Y.x17 hr (aC (v 1) aH))))
def zfS:=cP P w mg base 0 Y.x19.fn Y.x19.bi cJ zeZ λhr hu nd=>(aZ (b8 (cV (aC (v 0) (aC (m9 HE (by rfl) Y.tuple_ pX (aC (v 1) aH)) aH)))))
def zfT:=cP P w mg base 0 Y.x20.fn Y.x20.bi cJ zcW λhr hu nd=>(aZ (b8 (gT (aC (v 0) aH))))
def zfU:=cP P w mg base 0 Y.x21.fn Y.x21.bi cJ zeW λhr hu nd=>(aZ (b8 (gT (aC (v 2) aH))))
def zfV:=cP P w mg base 0 Y.x22.fn Y.x22.bi cJ zct λhr hu nd=>(aZ (b8 (v 0)))
def BY:=cP P w mg base 2 Y.x23.fn Y.x23.bi cJ zfe λhr hu nd=>(aW (bJ (i:=5) nd (bY (BX Y) Y.x2 hr (aC (fY (bY (BW Y) Y.x0 hr (aC (v 0) aH))) aH)))
   (aW (bJ (i:=6) nd nB)
   (aW (eY Bp rfl (iH (fY (bY (zfP Y) Y.x16 hr (aC (v 0) (aC (v 1) (aC (v 2) aH)))))) (cN (i:=7) nd)
    (aW (bJ (i:=8) nd (aV hu (aV hu (v 1) (v 7)) aS))
   (aW (bJ (i:=9) nd (aV hu (aV hu (v 1) (v 7)) aS))
   (aW (bJ (i:=10) nd (iR aH))
   (aW (eY Bp rfl (LP (by rfl) Y.enumerate_ (aC (aV hu (aV hu (v 0) (v 8)) aS) aH)) (kZ rfl (eZ (cN (i:=11) nd) (eZ (cN (i:=12) nd) kY)))
    (aZ (dP (cI (lY hu) (v 12) (v 5))
    (aZ (eQ (eN Bv Cp Cu iS (v 10) (aC (aV hu (v 6) (cV (aC (v 12) (aC (aV hu (v 9) (v 11)) (aC (aV hu (v 9) (cF eE (v 11) aS)) aH))))) aH))))
    (aZ (eQ (eN Bv Cp Cu iS (v 10) (aC (BI (sN (i:=3) Y.f_listed (zfT Y) hr Y.x20.fn.kp Y.x20.bi (aC (v 12) (aC (aV hu (v 9) (v 11)) (aC (aV hu (v 9) (cF eE (v 11) aS)) aH)))) (BI (sN (i:=3) Y.f_room_reached (zfU Y) hr Y.x21.fn.kp Y.x21.bi (aC (v 12) (aC (aV hu (v 9) (v 11)) (aC (aV hu (v 9) (cF eE (v 11) aS)) aH)))) (sN (i:=3) Y.f_same_word (zfV Y) hr Y.x22.fn.kp Y.x22.bi (aC (v 12) (aC (aV hu (v 9) (v 11)) (aC (aV hu (v 9) (cF eE (v 11) aS)) aH)))))) aH)))))))
   (aZ (jN (BI (sN (i:=4) Y.f_z_joined (zfR Y) hr Y.x18.fn.kp Y.x18.bi (aC (v 8) (aC (fY (v 10)) aH))) (sN (i:=4) Y.f_z_knot_of (zfS Y) hr Y.x19.fn.kp Y.x19.bi (aC (v 8) (aC (fY (v 10)) aH)))) (w_sub hu (v 6) (v 7)))))))))
   (aZ (b8 (aV hu (v 6) (v 2)))))))
def zfW:=cP P w mg base 3 Y.x24.fn Y.x24.bi cJ ze7 λhr hu nd=>(aZ (b8 (bY (BY Y) Y.x23 hr (aC (v 0) (aC (v 1) (aC (v 2) (aC (qD Y.f_same_word Y.x22) (aC (qD Y.f_z_knot_of Y.x19) aH))))))))
def zfX:=cP P w mg base 0 Y.x25.fn Y.x25.bi cJ zb6 λhr hu nd=>(aZ (b8 (k7 ["rule"] [none] (iH (v 0)) (λB=>(i0 (i:=0))) (λB=>nG) (λB=>aS))))
def zfY:=cP P w mg base 0 Y.x26.fn Y.x26.bi cJ zeV λhr hu nd=>(aZ (b8 (zbN (by rfl) Y.list_ (by rfl) Y.range_ (aV hu (v 0) aS))))
def zfZ:=cP P w mg base 1 Y.x27.fn Y.x27.bi cJ ze4 λhr hu nd=>(aW (bJ (i:=1) nd nB)
   (aW (eY Bp rfl (qB (z9 (bY (OI Y) Y.x2 hr (aC (aV hu (v 0) aS) aH)))) (cN (i:=2) nd)
    (aZ (eQ (eN Bv Cp Cu iS (eN Ee Jj Ji (vG hu) (v 1) (aC (cV (aC (aV hu (v 2) aS) (aC (aV hu (v 2) aS) aH))) (aC (iR aH) aH))) (aC (cV (aC (aV hu (v 2) aS) (aC aS aH))) aH)))))
   (aZ (b8 (v 1)))))
def zf0:=cP P w mg base 6 Y.x28.fn Y.x28.bi cJ ze5 λhr hu nd=>(aZ (b8 (bY (zfO Y) Y.x15 hr (aC (v 0) (aC (fY (bY (zfY Y) Y.x26 hr (aC (v 1) aH))) (aC (zdk (bY (zfZ Y) Y.x27 hr (aC (v 1) aH))) (aC (fY (bY (zfX Y) Y.x25 hr (aC (v 0) aH))) aH)))))))
def zf1:=cP P w mg base 1 Y.x29.fn Y.x29.bi cJ ze6 λhr hu nd=>(aW (bJ (i:=3) nd (bY (OI Y) Y.x2 hr (aC (fY (k7 ["end","grammar"] [none,some 0] (iH (aV hu (v 1) aS)) (λB=>(i0 (i:=0))) (λB=>nG) (λB=>(cV (aC (bY (zfD Y) Y.x1 hr (aC (v 1) aH)) (aC aS (aC (v 0) aH))))))) aH)))
   (aZ (b8 (fY (k7 ["fact","wanted"] [none,some 3] (qB (v 2)) (λB=>(i0 (i:=0))) (λB=>(rM (cI (lY hu) (v 0) (v 1)))) (λB=>(v 0)))))))
def OK:=zdl P w mg base 7 Y.hc Y.x30.fn Y.x30.bi cJ zfa λhr hu nd=>(aW (bJ (i:=2) nd (z9 (bY (zf0 Y) Y.x28 hr (aC (v 0) (aC (v 1) aH)))))
   (aW (bJ (i:=3) nd (bY (zf1 Y) Y.x29 hr (aC (v 0) (aC (v 1) (aC (v 2) aH)))))
   (aW (dP (cI (lX hr.units) (cX eS (by rfl) Y.len_ eT (aC (v 3) aH)) aS)
    (aZ (b8 kR))
    eX)
   (aW (bJ (i:=4) nd (zde (j:=2) (hr.mono (by decide)) (by rfl) Y.min_ Y.bm rfl Y.hd (by kernel_rfl) (v 3) (λ_ _ _ _ _ _ hr=>(aV (qV (hr.deeper _)) (aV (qV (hr.deeper _)) (v 1) (v 0)) aS)) ⟨rfl,rfl,rfl,rfl,rfl,rfl⟩))
   (aW (bJ (i:=5) nd (bY (BY Y) Y.x23 hr (aC (v 0) (aC (v 2) (aC (v 4) (aC (qD Y.f_listed Y.x20) (aC (qD Y.f_z_joined Y.x18) aH)))))))
   (aW (bJ (i:=6) nd (cF yD (gT (aC aS aH)) (bY (BY Y) Y.x23 hr (aC (v 0) (aC (v 2) (aC (v 4) (aC (qD Y.f_room_reached Y.x21) (aC (qD Y.f_z_joined Y.x18) aH))))))))
   (aZ (b8 (cV (aC (v 5) (aC (bY (zfW Y) Y.x24 hr (aC (v 0) (aC (v 2) (aC (v 4) aH)))) (aC (v 6) aH))))))))))))
def zf2:=cP P w mg base 0 Y.x31.fn Y.x31.bi cJ zff λhr hu nd=>(aW (bJ (i:=1) nd (iR aH))
   (aW (eY Bp rfl (YG (by rfl) Y.enumerate_ (aC (uU (v 0) uM (uN aS)) aH)) (kZ rfl (eZ (cN (i:=2) nd) (eZ (cN (i:=3) nd) kY)))
    (aW (bJ (i:=4) nd (cX YE (by rfl) Y.abs_ X6 (aC (v 3) aH)))
   (aW (dP (cI uH (v 4) (cF WH aS aS))
    (aZ (eY Bp rfl (nF (by rfl) Y.range_ (aC aS aH)) (cN (i:=5) nd)
    (aW (bJ (i:=6) nd (cF uG (cF eE (cF eE (cF eE (v 4) (cF rN aS (v 2))) (cF rN aS (v 5))) aS) aS))
   (aW (bJ (i:=6) nd (cF uG (cF rN (v 6) (v 6)) aS))
   (aZ (bJ (i:=4) nd (cF eE (cF rN (v 4) aS) (cF uG (cF rN (v 6) aS) aS))))))))
    eX)
   (aZ (eQ (eN Bv Cp Cu iS (v 1) (aC (v 4) aH)))))))
   (aW (eQ (rA Bv F.slot_list_reverse F.type_list_reverse YF (v 1)))
   (aZ (b8 (iR (aC (v 1) (aC aS aH))))))))
def gN:=cP P w mg base 0 Y.x32.fn Y.x32.bi cJ zcX λhr hu nd=>(aW (dP (PW.pt (yA (cI (lX hr.units) (aV hu (v 0) aS) aS) (xZ (cI (j6 hr.units) (aV hu (v 0) aS) (gT aH)))))
    (aZ (jN (rA Bv Kg Ly uP (aV hu (v 0) aS)) (w_sub hu (v 0) aS)))
    eX)
   (aW (bJ (i:=2) nd (cF uG (aV hu (v 0) aS) (v 1)))
   (aW (jN (cF GW (aV hu (v 0) aS) (v 1)) (w_sub hu (v 0) aS))
   (aZ (b8 (v 2))))))
def zf3:=cP P w mg base 1 Y.x33.fn Y.x33.bi cJ zfg λhr hu nd=>(aW (bJ (i:=1) nd (uU (gT (aC jH (aC jH (aC jH (aC jH aH))))) uM (uN (cF eE aS (bY (gN Y) Y.x32 hr (aC (v 0) (aC aS aH)))))))
   (aW (bJ (i:=2) nd (cF eE (gT (aC (aV hu (v 1) aS) aH)) (fY (k7 ["k","some","deck"] [none,some 1,some 0] (nF (by rfl) Y.range_ (aC (bY (gN Y) Y.x32 hr (aC (v 0) (aC aS aH))) aH)) (λB=>(i0 (i:=0))) (λB=>nG) (λB=>(aV hu (v 1) (bY (gN Y) Y.x32 hr (aC (v 2) (aC (cX eS (by rfl) Y.len_ eT (aC (v 1) aH)) aH)))))))))
   (aW (bJ (i:=3) nd (iR aH))
   (aW (eY Bp rfl (iH (v 2)) (cN (i:=4) nd)
    (aW (bJ (i:=5) nd (iR aH))
   (aW (eY Bp rfl (nF (by rfl) Y.range_ (aC (bY (gN Y) Y.x32 hr (aC (v 0) (aC (aV hu (gT (aC aS (aC aS (aC aS (aC aS aH))))) (cF uF (cX eS (by rfl) Y.len_ eT (aC (v 1) aH)) aS)) aH))) aH)) (cN (i:=6) nd)
    (aW (bJ (i:=7) nd (aV hu (gT (aC jH (aC jH (aC jH aH)))) (bY (gN Y) Y.x32 hr (aC (v 0) (aC aS aH)))))
   (aZ (eQ (eN Bv Cp Cu iS (v 5) (aC (aV hu (gT (aC (v 7) (aC (aV hu (v 2) (bY (gN Y) Y.x32 hr (aC (v 0) (aC (cX eS (by rfl) Y.len_ eT (aC (v 2) aH)) aH)))) aH))) (bY (gN Y) Y.x32 hr (aC (v 0) (aC aS aH)))) aH))))))
   (aZ (eQ (eN Bv Cp Cu iS (v 3) (aC (cV (aC (v 4) (aC (m9 HE (by rfl) Y.tuple_ pX (aC (v 5) aH)) (aC (bY (gN Y) Y.x32 hr (aC (v 0) (aC aS aH))) aH)))) aH)))))))
   (aZ (b8 (v 3)))))))
def zf4:=cP P w mg base 1 Y.x34.fn Y.x34.bi cJ zfh λhr hu nd=>(aW (bJ (i:=1) nd (cF eE aS (bY (gN Y) Y.x32 hr (aC (v 0) (aC (aV hu (gT (aC aS (aC aS aH))) (bY (gN Y) Y.x32 hr (aC (v 0) (aC aS aH)))) aH)))))
   (aW (bJ (i:=2) nd (iR aH))
   (aW (eY Bp rfl (nF (by rfl) Y.range_ (aC (bY (gN Y) Y.x32 hr (aC (v 0) (aC aS aH))) aH)) (cN (i:=3) nd)
    (aW (bJ (i:=4) nd (aV hu (gT (aC jH (aC jH (aC jH (aC jH aH))))) (bY (gN Y) Y.x32 hr (aC (v 0) (aC aS aH)))))
   (aZ (eQ (eN Bv Cp Cu iS (v 2) (aC (cV (aC (bY (gN Y) Y.x32 hr (aC (v 0) (aC (v 1) aH))) (aC (v 4) (aC (bY (gN Y) Y.x32 hr (aC (v 0) (aC (v 1) aH))) aH)))) aH))))))
   (aW (AW (i:=5) nd ["k","deck","many"] [none,some 0,some 1] (nF (by rfl) Y.range_ (aC (bY (gN Y) Y.x32 hr (aC (v 0) (aC aS aH))) aH)) (λB=>(i0 (i:=0))) (λB=>nG) (λB=>(bY (gN Y) Y.x32 hr (aC (v 1) (aC (v 2) aH)))))
   (aZ (b8 (cV (aC (v 1) (aC (cF eE (v 2) (uU (v 2) uM (uN (bY (gN Y) Y.x32 hr (aC (v 0) (aC aS aH)))))) (aC (cF eE (v 5) (uU (v 5) uM (uN (bY (gN Y) Y.x32 hr (aC (v 0) (aC aS aH)))))) aH))))))))))
def zf5:=cP P w mg base 0 Y.x35.fn Y.x35.bi cJ zfm λhr hu nd=>(aW (bJ (i:=5) nd (zcH (v 4) aS))
   (aW (eY Bp rfl (iH (v 3)) (cN (i:=6) nd)
    (aW (bJ (i:=7) nd pQ)
   (aW (A8 (i:=5) (eY Bp rfl (qB (v 5)) (cN (i:=8) nd)
    (aW (bJ (i:=9) nd pQ)
   (aW (dP (cI (lY hu) (v 6) (v 2))
    (aZ (bJ (i:=9) nd (eN Ee Iy Iw (p7 hu) (v 1) (aC (cV (aC (v 6) (aC (v 8) aH))) (aC (z9 pQ) aH)))))
    (aZ (eY Bp rfl (rK (v 0)) (kZ rfl (eZ (cN (i:=10) nd) (eZ (cN (i:=11) nd) (eZ (cN (i:=12) nd) kY))))
    (aZ (dP (PW.pt (yA (cI (lX hr.units) (v 10) (v 8)) (xZ (cI (lX hr.units) (v 11) (v 6)))))
    (aZ (jN aS (w_sub hu (v 9) (v 12))))
    eX)))))
   (aZ (zdi (i:=9) (eY Bp rfl (qB (v 9)) (cN (i:=12) nd)
    (aZ (jN (cX (W6 rfl) (by rfl) Y.min_ X5 (aC (cF eE (aV hu (v 5) (v 8)) (aV hu (v 9) (v 12))) (aC (eN Ee Iy Iw (p7 hu) (v 7) (aC (v 12) (aC (cF eE (aV hu (v 5) (v 8)) (aV hu (v 9) (v 12))) aH))) aH))) (w_sub hu (v 7) (v 12)))))))))))
   (aZ (bJ (i:=5) nd (v 7))))))
   (aZ (b8 (v 5)))))
def zf6:=cP P w mg base 1 Y.x36.fn Y.x36.bi cJ zfs λhr hu nd=>(aW (AW (i:=2) nd ["rule"] [none] (iH (v 0)) (λB=>(i0 (i:=0))) (λB=>nG) (λB=>(aV hu (v 0) aS)))
   (aW (bJ (i:=3) nd nB)
   (aW (bJ (i:=4) nd gQ)
   (aW (uQ Bp (jI (v 4))
    (aW (bJ (i:=4) nd gQ)
   (aZ (eY Bp rfl (rK (v 0)) (kZ rfl (eZ (cN (i:=5) nd) (eZ (cN (i:=6) nd) (eZ (cN (i:=7) nd) kY))))
    (aZ (eY Bp rfl (nF (by rfl) Y.range_ (aC (aV hu (v 1) aS) aH)) (cN (i:=8) nd)
    (aW (bJ (i:=9) nd (zcG (i:=3) (bY (zf5 Y) Y.x35 hr (aC (aV hu (v 1) aS) (aC (v 3) (aC (v 2) (aC (v 6) (aC (v 8) aH))))))))
   (aW (bJ (i:=10) nd (eN Ee Jj Ji (vG hu) (v 3) (aC (cV (aC (v 5) (aC (v 8) aH))) (aC pQ aH))))
   (aZ (A8 (i:=9) (eY Bp rfl (qB (v 9)) (cN (i:=11) nd)
    (aZ (dP (PW.pt (j5 (cI (rH hu) (v 11) (v 10)) (lT (cI uH (aV hu (v 9) (v 11)) (aV hu (v 10) (v 11))))))
    (aW (jN (aV hu (v 9) (v 11)) (w_sub hu (v 10) (v 11)))
   (aZ (bJ (i:=4) nd gQ)))
    eX)))))))))))))
   (aW (bJ (i:=12) nd (eN Ee Iy Iw (p7 hu) (v 3) (aC (cV (aC (aV hu (v 2) aS) (aC aS aH))) (aC (fY pQ) aH))))
   (aZ (b8 (zcQ (by rfl) Y.min_ (fY (k7 ["end","found"] [none,some 12] (iH (aV hu (v 1) aS)) (λB=>(i0 (i:=0))) (λB=>(rM (cI (lY hu) (v 0) (v 1)))) (λB=>(aV hu (v 1) (v 0)))))))))))))
theorem OL(Y:Al K mg C fa fb):∀n,eV P w K mg base eW (1+n) (fa 37) (fb 37) ["rules","tree"] (fZ K (sY n))
 | 0=>yS (k:=0) Y.x37.fn (cJ (N:=NK)) (λ_ _ _ h=>h.elim) λ_ _ _ _ _ _ _ _ _ _ h=>h.elim
 | n+1=>zca P w mg base (1+n) Y.x37.fn Y.x37.bi cJ (zfv (n+1)) zfu λhr hu nd=>(aW (dP (PW.pt (j5 (lU (jI (cX l8 (by rfl) Y.isinstance_ l9 (aC (v 1) (aC (lR (by rfl) Y.tuple_ pX (y:=.ty "tuple") rfl (λ_ _=>.ty _)) aH))))) (j5 (cI (j6 hr.units) (cX eS (by rfl) Y.len_ eT (aC (v 1) aH)) aS) (lT (lU (jI (cX l8 (by rfl) Y.isinstance_ l9 (aC (aV hu (v 1) aS) (aC (lR (by rfl) Y.tuple_ pX (y:=.ty "tuple") rfl (λ_ _=>.ty _)) aH)))))))))
    (aZ (b8 kR))
    eX)
   (aW (dP (PW.pt (j5 (lU (jI (cX l8 (by rfl) Y.isinstance_ l9 (aC (aV hu (v 1) aS) (aC (lR (by rfl) Y.int_ X4 (y:=.ty "int") rfl (λ_ _=>.ty _)) aH))))) (j5 (jI (cX l8 (by rfl) Y.isinstance_ l9 (aC (aV hu (v 1) aS) (aC (lR (by rfl) Y.bool_ HW (y:=.ty "bool") rfl (λ_ _=>.ty _)) aH)))) (lT (lU (YD WK uH aS (aV hu (v 1) aS) (cX eS (by rfl) Y.len_ eT (aC (v 0) aH))))))))
    (aZ (b8 kR))
    eX)
   (aW (AW (i:=2) nd ["rule"] [none] (iH (v 0)) (λB=>(i0 (i:=0))) (λB=>nG) (λB=>(aV hu (v 0) aS)))
   (aW (bJ (i:=3) nd (iR aH))
   (aW (jN (aV hu (v 0) (aV hu (v 1) aS)) (kZ rfl (eZ (cN (i:=4) nd) (eZ (cN (i:=5) nd) (eZ (cN (i:=6) nd) kY)))))
   (aW (dP (cI (j6 hr.units) (cX eS (by rfl) Y.len_ eT (aC (v 5) aH)) (cX eS (by rfl) Y.len_ eT (aC (aV hu (v 1) aS) aH)))
    (aZ (b8 kR))
    eX)
   (aW (eY Bp rfl (YK (by rfl) Y.zip_ (aC (v 5) (aC (aV hu (v 1) aS) aH))) (kZ rfl (eZ (cN (i:=7) nd) (eZ (cN (i:=8) nd) kY)))
    (aZ (dP (cI (lY hu) (v 7) (v 2))
    (aW (bJ (i:=9) nd (GU (OL Y n) (hr.mono (by lia)) (by rfl) Y.x37.at_ Y.x37.fn.kp Y.x37.bi (aC (v 0) (aC (v 8) aH))))
   (aW (dP (PW.pt (j5 (cI yH (v 9) kR) (lT (cI (j6 hr.units) (aV hu (v 9) aS) (v 7)))))
    (aZ (b8 kR))
    eX)
   (aZ (bJ (i:=3) nd (cF yD (v 3) (aV hu (v 9) aS))))))
    (aZ (dP (cI (j6 hr.units) (v 8) (v 7))
    (aZ (b8 kR))
    (aZ (eQ (eN Bv Cp Cu iS (v 3) (aC (v 7) aH)))))))))
   (aZ (b8 (cV (aC (v 4) (aC (fY (v 3)) aH))))))))))))
def zf7:=OL (P:=P) (w:=w) (base:=base) Y 197
def zf8:=cP P w mg base 0 Y.x38.fn Y.x38.bi cJ zfy λhr hu nd=>(aW (dP (PW.pt (j5 (lU (jI (cX l8 (by rfl) Y.isinstance_ l9 (aC (v 2) (aC (lR (by rfl) Y.list_ pW (y:=.ty "list") rfl (λ_ _=>.ty _)) aH))))) (lT (cI (j6 hr.units) (cX eS (by rfl) Y.len_ eT (aC (v 2) aH)) (cF eE (cX eS (by rfl) Y.len_ eT (aC (v 1) aH)) aS)))))
    (aZ (b8 gQ))
    eX)
   (aW (dP (PW.pt (j5 (cI (j6 hr.units) (aV hu (v 2) aS) aS) (lT (cI (rH hu) (aV hu (v 2) (lS lW aS)) (aV hu (v 0) aS)))))
    (aZ (b8 gQ))
    eX)
   (aW (eY Bp rfl (nF (by rfl) Y.range_ (aC (cX eS (by rfl) Y.len_ eT (aC (v 1) aH)) aH)) (cN (i:=3) nd)
    (aZ (dP (cI (ZI hr.units) (cV (aC (aV hu (v 2) (v 3)) (aC (aV hu (v 1) (v 3)) (aC (aV hu (v 2) (cF eE (v 3) aS)) aH)))) (aV hu (v 0) aS))
    (aZ (b8 gQ))
    eX)))
   (aZ (b8 (sL (lX hr.units) (fY (k7 ["room"] [none] (iH (v 2)) (λB=>(i0 (i:=0))) (λB=>(rM (jI (cX l8 (by rfl) Y.isinstance_ l9 (aC (v 0) (aC (lR (by rfl) Y.bool_ HW (y:=.ty "bool") rfl (λ_ _=>.ty _)) aH)))))) (λB=>(v 0)))) (gT aH)))))))
def zf9:=cP P w mg base 198 Y.x39.fn Y.x39.bi cJ zfC λhr hu nd=>(aW (bJ (i:=1) nd (bY (zf2 Y) Y.x31 hr (aC (v 0) aH)))
   (aW (bJ (i:=2) nd (fY (bY (zf3 Y) Y.x33 hr (aC (v 1) aH))))
   (aW (bJ (i:=3) nd (bY (zf4 Y) Y.x34 hr (aC (v 1) aH)))
   (aW (bJ (i:=4) nd (bY (zf6 Y) Y.x36 hr (aC (v 2) (aC (v 3) aH))))
   (aW (dP (PW.pt (yA (cI WL (v 4) kR) (xZ (cI G0 (v 4) aS))))
    (aZ (b8 gQ))
    eX)
   (aW (bJ (i:=5) nd (gT (aC (m9 (yV rfl) (by rfl) Y.list_ pW (aC (v 2) aH)) (aC (cV (aC (aV hu (v 3) aS) (aC (m9 (yV rfl) (by rfl) Y.list_ pW (aC (aV hu (v 3) aS) aH)) (aC (m9 (yV rfl) (by rfl) Y.list_ pW (aC (aV hu (v 3) aS) aH)) aH)))) aH))))
   (aW (bJ (i:=6) nd (bY (OK Y) Y.x30 hr (aC (aV hu (v 5) aS) (aC (aV hu (v 5) aS) aH))))
   (aW (dP (cI (j6 hr.units) (v 5) (gT (aC (v 2) (aC (v 3) aH))))
    (aZ (b8 gQ))
    eX)
   (aW (dP (cI yH (v 4) kR)
    (aZ (b8 (sL yH (v 6) kR)))
    eX)
   (aW (dP (PW.pt (j5 (lU (jI (cX l8 (by rfl) Y.isinstance_ l9 (aC (v 6) (aC (lR (by rfl) Y.tuple_ pX (y:=.ty "tuple") rfl (λ_ _=>.ty _)) aH))))) (lT (cI (j6 hr.units) (cX eS (by rfl) Y.len_ eT (aC (v 6) aH)) aS))))
    (aZ (b8 gQ))
    eX)
   (aW (dP (PW.pt (j5 (lU (jI (cX l8 (by rfl) Y.isinstance_ l9 (aC (aV hu (v 6) aS) (aC (lR (by rfl) Y.list_ pW (y:=.ty "list") rfl (λ_ _=>.ty _)) aH))))) (lT (cI (j6 hr.units) (cX eS (by rfl) Y.len_ eT (aC (aV hu (v 6) aS) aH)) (v 4)))))
    (aZ (b8 gQ))
    eX)
   (aW (dP (cI (j6 hr.units) (bY (zf7 Y) Y.x37 hr (aC (v 2) (aC (aV hu (v 6) aS) aH))) (cV (aC (aV hu (aV hu (v 2) aS) aS) (aC (aV hu (v 6) aS) aH))))
    (aZ (b8 gQ))
    eX)
   (aW (dP (lU (jI (bY (zf8 Y) Y.x38 hr (aC (v 3) (aC (aV hu (v 6) aS) (aC (aV hu (v 6) aS) aH))))))
    (aZ (b8 gQ))
    eX)
   (aW (eQ (eN Bv Cp Cu iS (aV hu (v 6) aS) (aC jH aH)))
   (aW (eQ (eN Bv Cp Cu iS (aV hu (v 6) aS) (aC aS aH)))
   (aW (bJ (i:=7) nd (bY (OK Y) Y.x30 hr (aC (v 2) (aC (v 3) aH))))
   (aZ (b8 (v_and (cX l8 (by rfl) Y.isinstance_ l9 (aC (v 7) (aC (lR (by rfl) Y.tuple_ pX (y:=.ty "tuple") rfl (λ_ _=>.ty _)) aH))) (v_and (sL (lX hr.units) (cX eS (by rfl) Y.len_ eT (aC (aV hu (v 7) aS) aH)) (v 4)) (WB (sL (lX hr.units) (cX eS (by rfl) Y.len_ eT (aC (aV hu (v 7) aS) aH)) (cF eE (v 4) aS)))))))))))))))))))))))
end
section
variable {w:Cm}{h:Heap}{mg:Str->Option Ae}
theorem mn{x:Str}(X:(hpK w.params).In h)(G:h.Ns Dh mg)(e:PySem.W.nsIn (hpK w.params) Dh x=some none:=by kernel_rfl):mg x=none:=PySem.W.mg_none_of X G e
theorem zga(X:(hpK w.params).In h)(G:h.Ns Dh mg):Tx mg:=⟨mn X G,mn X G,mn X G,mn X G,mn X G,mn X G,mn X G,mn X G,mn X G,mn X G,mn X G,mn X G⟩
theorem zgb(X:(hpK w.params).In h)(G:h.Ns Dh mg):Kc (hpK w.params) mg ⟨83,139,209,197,242,169,176,248,244⟩:=⟨⟨by kernel_rfl,by kernel_rfl,by kernel_rfl,by kernel_rfl⟩,Kk (v:=.ref 83) X G (by kernel_rfl),⟨by kernel_rfl,by kernel_rfl,by kernel_rfl,by kernel_rfl⟩,Kk (v:=.ref 139) X G (by kernel_rfl),(show Cg (hpK w.params) (.ref 83) "costs" = some none by kernel_rfl),(show Cg (hpK w.params) (.ref 83) "waiting" = some none by kernel_rfl),(show Cg (hpK w.params) (.ref 139) "grammar" = some none by kernel_rfl),(show Cg (hpK w.params) (.ref 139) "own" = some none by kernel_rfl),(show Cg (hpK w.params) (.ref 139) "steps" = some none by kernel_rfl),(show Cg (hpK w.params) (.ref 139) "queue" = some none by kernel_rfl),(show Cg (hpK w.params) (.ref 139) "reached" = some none by kernel_rfl),(show Cg (hpK w.params) (.ref 139) "best" = some none by kernel_rfl),(show Cg (hpK w.params) (.ref 139) "ends" = some none by kernel_rfl),(show Cg (hpK w.params) (.ref 139) "begun" = some none by kernel_rfl)⟩
def zgc(i:Nat):Addr:=([21,28,33,38,52,59,73,66,80,94,108,115,136,129,122,150,155,190,197,176,209,242,169,162,183,202,216,223,230,235,249,256,263,268,273,280,285,290,295,302]:List Addr).getD i 0
def zgd(i:Nat):Bk:=[C7,C8,C9,DA,DB,DC,DE,DD,DF,DG,DH,DJ,DM,DL,DK,DN,DO,DT,DU,DR,DW,D5,DQ,DP,DS,DV,DX,DY,DZ,D4,D6,D7,D8,D9,EA,EB,EC,ED,EE,sZ].getD i sZ
theorem zge(X:(hpK w.params).In h)(G:h.Ns Dh mg):Al (hpK w.params) mg ⟨83,139,209,197,242,169,176,248,244⟩ zgc zgd:=⟨zga X G,zgb X G,dF X G,dF X G,dF X G,dF X G,dI,dM,dM,dM,dM,dF X G,dI,dM,dM,dM,dM,dF X G,dF X G,dF X G,dF X G,dF X G,dF X G,dF X G,dF X G,dF X G,dF X G,dF X G,dF X G,dF X G,dF X G,dF X G,dF X G,dF X G,dF X G,dF X G,dF X G,dF X G,dF X G,dF X G,dF X G,dF X G,rfl,rfl,rfl,rfl,rfl,rfl,⟨4,⟨.type "module",some Mf,.plain,#[]⟩,Kk (v:=.ref 4) X G (by kernel_rfl),by decide,by decide,by kernel_rfl,rfl,rfl,rfl⟩,by kernel_rfl⟩
end
theorem all_mk{l:PySem.W.OpenLaw}{w:Cm}{h:Heap}{mg:Str->Option Ae}{fa:Addr}(X:(hpK w.params).In h)(G:h.Ns Dh mg)(hfa:mg "law" = some (.ref fa)):
  ∃fd:Bk,(∀(s:Ag) (v:Ae),BindsTo s fd ⟨[v],[]⟩ [("script",v)])/\∀base:Heap,(hpK w.params).In base->base.Ns Dh mg->eV l.prog w (hpK w.params) mg base eW 199 fa fd ["script"] (fZ (hpK w.params) (sX 244 nT oY)):=by
 have e:=hfa.symm.trans (Kk (v:=.ref 302) X G (by kernel_rfl));cases e;exact⟨sZ,λs v=>.of_eq rfl,λbase _ _=>zf9 (zge X G)⟩
theorem walk{l:PySem.W.OpenLaw}{q:Bt}{loose:List Str}{XP:(Str->Option Ae)->Heap->Prop}{YP:Cm->Heap->Prop}{d:DefRec}(hn:l.most=some 63)(hdf:d.params.defaults=[])(hY:∀(w:Cm) (h:Heap),YP w h->(hpK w.params).In h/\h.get? 244=some (Fq #[]))(F:∀(w:Cm) (mg:Str->Option Ae) (fa:Addr) (h:Heap),(hpK w.params).In h->h.Ns Dh mg->mg d.name=some (.ref fa)->
   ∃fd:Bk,(∀(s:Ag) (u:Ae),BindsTo s fd ⟨[u],[]⟩ [("script",u)])/\∀base:Heap,(hpK w.params).In base->base.Ns Dh mg->eV l.prog w (hpK w.params) mg base eW 199 fa fd ["script"] (fZ (hpK w.params) (sX 244 nT oY))):
  PySem.W.WalkO q loose XP YP l.row.toRowW d [] (λf vs=>PySem.call f vs):=
 L2.zdg (n:=63) (k:=199) (x:="script") (c:=248) (P:=244) (lp:=nT) (sp:=λw=>fZ (hpK w.params) (sX 244 nT oY)) hn (by decide) hdf ⟨rfl,by decide,by decide⟩ hY (λ_=>by kernel_rfl) (λ_=>by kernel_rfl) F (λ_ _ a ns hl ho hS=>zdh hl ho hS)
end M69
open PySem PySem.W PyProof.Rows
set_option maxRecDepth 100000 in
set_option maxHeartbeats 0 in
theorem PySem.Challenge.cw_readgrove_k69_both_let_by_holds : PySem.Challenge.rw_readgrove_k69_both_let_by.Holds := by
 w_on; refine PySem.W.holds_law M69.hws λsaid => ?_
 refine PySem.W.holds_open (r := PySem.Challenge.rw_readgrove_k69_both_let_by.row) (q := M69.qv) (loose := []) (N := 3556)
  (Xt := λs => xlAt M69.qv [] s&&recOk (RowW.records (OpenRow.toRowW PySem.Challenge.rw_readgrove_k69_both_let_by.row)) s)
  (XP := XL M69.qv []) (Yf := M69.hk.obs) (Ya := M69.hk.val) (YP := M69.hk.says) ?hl M69.hk.of M69.hk.keeps
  (λs e => xl_of s (Bool.and_eq_true_iff.mp e).1) XL.keeps (by rfl) (by rfl) (by rfl) (λs e => recFacts_of (Bool.and_eq_true_iff.mp e).2)
  (by rfl) (by assumption) (by decide +kernel) ⟨rfl, rfl, rfl, rfl, rfl, by decide +kernel⟩ ?hw ?hc
 case hw => w_witness2
 case hc => exact M69.walk (l := PySem.Challenge.rw_readgrove_k69_both_let_by) rfl rfl (λw h Y => ⟨PySem.W.km_in_of Y, PySem.W.km_tabs_of Y 244 (Aw ..)⟩) (λw mg fa h KX G hmg => M69.all_mk KX G hmg)
 case hl => exact M69.hlx
